import Derived.Test.YtbbbegjedmicpaaGreatDoorPmC
import Derived.Deep.CutBlock

/-
  THE REFERENCE, CONTRACT: field.
-/
namespace Go.Proofs.YtbbbegjedmicpaaGreatDoor
open Go.RowKit

theorem Tryz.info145 : (Tryz.prog.info? 145).map (fun i => (i.zero, i.size, i.bytes)) = some (some (.agg #[.string ⟨#[]⟩, .string ⟨#[]⟩, .string ⟨#[]⟩, .string ⟨#[]⟩, .int .i64 0]), 5, 72) := by kernel_rfl

theorem RdAt.other {w : World} {rb : Nat} {M : Mem} {ws : List W} {p : PS} (h : RdAt w rb M ws p) {b : Nat} {cs : Array Value} {T : TypeId} (K : Blk w b cs T) (hT : T ≠ 81) (hn : ¬ M.D rb b) (off : Nat) (v : Value) : RdAt (w.setCell ⟨b, off, none⟩ v) rb M ws p :=
  h.keep fun c _ hd => Below.heap_setCell _ _ _ _ (fun e => by
    have e2 : c = b := e
    subst e2
    rcases hd with hd | hd
    · exact hn hd
    · obtain ⟨c2, K2⟩ := ownsRow_blk h.hw hd
      exact hT (K.ty K2))
theorem LocAt.other {w : World} {rb : Nat} {M : Mem} {mb : Nat} {mn : ByteArray} {fv nl : Value} {nums : List Fld} {names : List ByteArray} (l : LocAt w rb M mb mn fv nl nums names) {b : Nat} (hn : ¬ LocE mb fv nl b) (off : Nat) (v : Value) : LocAt (w.setCell ⟨b, off, none⟩ v) rb M mb mn fv nl nums names :=
  l.keep (fun c _ he => Below.heap_setCell _ _ _ _ (fun e => hn (by have e2 : c = b := e; subst e2; exact he))) l.sep
theorem Step.fresh {w w' : World} {S T : Nat → Prop} (h : Step w S w' T) {b : Nat} (hb : w.heap.size ≤ b) (off : Nat) (v : Value) : Step w S (w'.setCell ⟨b, off, none⟩ v) T :=
  ⟨h.os, h.tape, h.output, by simpa [World.setCell] using h.size, fun c hc hn => (Below.heap_setCell _ _ _ _ (fun e => by have e2 : c = b := e; omega)).trans (h.block c hc hn), h.grow⟩
theorem cell_one_new (w : World) (a : Value) (t : TypeId) : ∀ j u, [a][j]? = some u → (w.alloc (.cells #[a] t)).cell? ((⟨w.heap.size, 0, none⟩ : Addr).add j) = some u := by
  intro j u hj
  match j, hj with
  | 0, hj => simp at hj; subst hj; simp [Addr.add]
  | j + 1, hj => simp at hj
theorem nxW_size {ws : List W} (H : WsR ws) {p : PS} (h : p.i < ws.length) (so : Int) (s : ByteArray) : (nxW ws so s p).1.size ≤ 2000 := by
  unfold nxW nextW
  split
  · exact H.size _ _ (hand_get h)
  · exact Nat.zero_le _

set_option maxHeartbeats 8000000 in
set_option maxRecDepth 100000 in
theorem r37 {w : World} {rb : Nat} {M : Mem} {ws : List W} {p : PS} {mb : Nat} {mn : ByteArray} {fv nl : Value} {nums : List Fld} {names : List ByteArray} (h : RdAt w rb M ws p) (l : LocAt w rb M mb mn fv nl nums names) (H : WsR ws) (hi : p.i < ws.length) (hu : nums.length ≤ 2001) (hnn : names.length ≤ 2001)
    (s0 s1 s2 s3 : ByteArray) (n0 : Int) :
    Calls Tryz.prog 50 #[.pointer (some ⟨rb, 0, none⟩), .pointer (some ⟨mb, 0, none⟩), .agg #[.string s0, .string s1, .string s2, .string s3, .int .i64 n0], nl] w fun e w' =>
      ∃ fv' nl', e = .returned nl' ∧ RdAt w' rb M ws (fdP ws (s1, s2, s3) ⟨p, nums, names⟩).p ∧ LocAt w' rb M mb mn fv' nl' (fdP ws (s1, s2, s3) ⟨p, nums, names⟩).nums (fdP ws (s1, s2, s3) ⟨p, nums, names⟩).names ∧
        Step w (fun b => M.D rb b ∨ LocE mb fv nl b) w' (fun b => M.D rb b ∨ LocE mb fv' nl' b) := by
  obtain ⟨i0, hi0, hz0, hz1, hz2⟩ := info_parts Tryz.info145
  obtain ⟨i9, hi9, hz90, hz91, hz92⟩ := info_parts Tryz.info9
  obtain ⟨fcs, hfr, hfc⟩ := l.fr2
  obtain ⟨fa, fc, rfl⟩ := row_v hfr
  obtain ⟨na, nn, nc, rfl⟩ := ownsRow_form l.nr
  obtain ⟨x, hx⟩ : ∃ x, nxW ws 1 ⟨#[]⟩ p = x := ⟨_, rfl⟩
  have HX : Hid (nxW ws 1 ⟨#[]⟩ p = x) := hx
  clear hx
  have KF := Blk.new w #[.string s0, .string s1, .string s2, .string s3, .int .i64 n0] 145
  have st := (Step.refl w (M.D rb)).alloc (Obj.cells #[.string s0, .string s1, .string s2, .string s3, .int .i64 n0] 145)
  have nE : ¬ LocE mb (.slice fa nums.length fc) (.slice na nn nc) w.heap.size := fun hb => by have := l.lt hb; omega
  have nf : ¬ M.D rb w.heap.size := fun hb => by have := h.lt hb; omega
  replace h := h.alloc (Obj.cells #[.string s0, .string s1, .string s2, .string s3, .int .i64 n0] 145)
  replace l := l.alloc (Obj.cells #[.string s0, .string s1, .string s2, .string s3, .int .i64 n0] 145)
  go_enter Tryz.func50, Tryz.ntmps50
  go_wp2_with fail
  refine (r32 h H hi 1 (by omega) ⟨#[]⟩).mono ?_
  rintro e w1 ⟨rfl, h1, st1⟩
  rw [HX.out]
  unfold wv2
  replace l := l.step st1
  have nwE : ¬ LocE mb (.slice fa nums.length fc) (.slice na nn nc) w1.heap.size := fun hb => by have := l.lt hb; omega
  replace KF := KF.step st1 nf
  replace st := (st.trans st1).alloc (Obj.cells #[.string x.1, .int .i64 x.2] 81)
  have z1 : w.heap.size < w1.heap.size := KF.lt
  have KW := Blk.new w1 #[.string x.1, .int .i64 x.2] 81
  have nw : ¬ M.D rb w1.heap.size := fun hb => by have := h1.lt hb; omega
  replace h1 := h1.alloc (Obj.cells #[.string x.1, .int .i64 x.2] 81)
  replace l := l.alloc (Obj.cells #[.string x.1, .int .i64 x.2] 81)
  replace KF := KF.alloc (Obj.cells #[.string x.1, .int .i64 x.2] 81)
  have hi1 := nxP_lt H hi 1 ⟨#[]⟩
  clear st1 h
  go_wp2_with fail
  refine (r33 h1 x).mono ?_
  rintro e w2 ⟨rfl, h2, st2⟩
  replace l := l.step st2
  replace KF := KF.step st2 nf
  replace KW := KW.step st2 nw
  replace st := st.trans st2
  clear st2 h1
  obtain ⟨B, hB⟩ : ∃ B, (memS names x.1 || decide (12 ≤ nums.length)) = B := ⟨_, rfl⟩
  have HB : Hid ((memS names x.1 || decide (12 ≤ nums.length)) = B) := hB
  clear hB
  go_upto_region 3 with fail
  go_cut [30] from 18 to 30 (fun v wr => v = .bool B ∧ wr = w2)
  case first =>
    obtain ⟨m1, m2⟩ := KW.rules
    obtain ⟨q1, q2⟩ := l.mblk.rules
    go_wp2_with fail
    refine (c20 _ _ _ names x.1 (by omega) l.nr).mono ?_
    rintro e _ ⟨⟨r, rfl, hr⟩, rfl⟩
    have hge := hr.ge
    cases hm : memS names x.1
    · rw [hm] at hge
      cases h12 : decide (12 ≤ nums.length)
      · have h13 : decide ((12 : Int) ≤ (nums.length : Int)) = false := by have := of_decide_eq_false h12; simp; omega
        obtain rfl : B = false := by rw [← HB.out, hm, h12]; rfl
        go_wp2
        go_meet
        case rel => exact ⟨rfl, rfl⟩
      · have h13 : (12 : Int) ≤ (nums.length : Int) := by have := of_decide_eq_true h12; omega
        obtain rfl : B = true := by rw [← HB.out, hm, h12]; rfl
        go_wp2
        go_meet
        case rel => exact ⟨rfl, rfl⟩
    · rw [hm] at hge
      obtain rfl : B = true := by rw [← HB.out, hm]; rfl
      go_wp2
      go_meet
      case rel => exact ⟨rfl, rfl⟩
  case rest =>
    obtain ⟨rfl, rfl⟩ := hcut
    have HF2 : Hid (f2 ws ⟨p, nums, names⟩ = if B then wrP x (lgP x (nxP ws 1 ⟨#[]⟩ p)) else lgP x (nxP ws 1 ⟨#[]⟩ p)) := by
      show f2 ws ⟨p, nums, names⟩ = _
      unfold f2 f1
      simp only [HX.out, HB.out]
    go_upto_if 30 with fail
    go_cut [] from 31 to 33 (fun wr => RdAt wr rb M ws (f2 ws ⟨p, nums, names⟩) ∧ LocAt wr rb M mb mn (.slice fa nums.length fc) (.slice na nn nc) nums names ∧ Step w (M.D rb) wr (M.D rb) ∧ Blk wr w.heap.size #[.string s0, .string s1, .string s2, .string s3, .int .i64 n0] 145 ∧ Blk wr w1.heap.size #[.string x.1, .int .i64 x.2] 81)
    case first =>
      cases B
      · go_wp2
        go_meet
        case rel => exact ⟨by rw [HF2.out]; exact h2, l, st, KF, KW⟩
      · obtain ⟨m1, m2⟩ := KW.rules
        go_wp2_with fail
        refine (r21 h2 x).mono ?_
        rintro e w3 ⟨rfl, h3, st3⟩
        go_wp2
        go_meet
        case rel => exact ⟨by rw [HF2.out]; exact h3, l.step st3, st.trans st3, KF.step st3 nf, KW.step st3 nw⟩
    case rest =>
      have hiF : (f2 ws ⟨p, nums, names⟩).i < ws.length := by rw [HF2.out]; cases B <;> exact hi1
      clear h2 l st KF KW HF2 HB
      obtain ⟨h2, l, st, KF, KW⟩ := hcut
      go_wp2_with fail
      refine (r32 h2 H hiF 0 (by omega) ⟨#[61]⟩).mono ?_
      rintro e w3 ⟨rfl, h3, st3⟩
      replace l := l.step st3
      replace KF := KF.step st3 nf
      replace KW := KW.step st3 nw
      replace st := st.trans st3
      have hi3 := nxP_lt H hiF 0 ⟨#[61]⟩
      clear h2 st3
      unfold wv2
      go_wp2_with fail
      obtain ⟨y, hy⟩ : ∃ y, nxW ws 2 ⟨#[]⟩ (f3 ws ⟨p, nums, names⟩) = y := ⟨_, rfl⟩
      have HY : Hid (nxW ws 2 ⟨#[]⟩ (f3 ws ⟨p, nums, names⟩) = y) := hy
      clear hy
      refine (r32 h3 H hi3 2 (by omega) ⟨#[]⟩).mono ?_
      rintro e w4 ⟨rfl, h4, st4⟩
      have hyE : nxW ws 2 ⟨#[]⟩ (nxP ws 0 ⟨#[61]⟩ (f2 ws ⟨p, nums, names⟩)) = y := HY.out
      rw [hyE]
      clear hyE
      unfold wv2
      have hi4 := nxP_lt H hi3 2 ⟨#[]⟩
      have nn4 : ¬ M.D rb w4.heap.size := fun hb => by have := h4.lt hb; omega
      have KN := Blk.new w4 #[.string y.1, .int .i64 y.2] 81
      replace l := (l.step st4).alloc (Obj.cells #[.string y.1, .int .i64 y.2] 81)
      replace KF := (KF.step st4 nf).alloc (Obj.cells #[.string y.1, .int .i64 y.2] 81)
      have z4 : w1.heap.size < w4.heap.size := (KW.step st4 nw).lt
      have y1 : ¬ w.heap.size = w1.heap.size := by omega
      have y2 : ¬ w1.heap.size = w.heap.size := by omega
      have y3 : ¬ w.heap.size = w4.heap.size := by omega
      have y4 : ¬ w4.heap.size = w.heap.size := by omega
      have y5 : ¬ w1.heap.size = w4.heap.size := by omega
      have y6 : ¬ w4.heap.size = w1.heap.size := by omega
      replace KW := (KW.step st4 nw).alloc (Obj.cells #[.string y.1, .int .i64 y.2] 81)
      replace st := (st.trans st4).alloc (Obj.cells #[.string y.1, .int .i64 y.2] 81)
      replace h4 := h4.alloc (Obj.cells #[.string y.1, .int .i64 y.2] 81)
      clear st4 h3
      go_wp2_with fail
      refine (r32 h4 H hi4 0 (by omega) ⟨#[59]⟩).mono ?_
      rintro e w5 ⟨rfl, h5, st5⟩
      replace l := l.step st5
      replace KF := KF.step st5 nf
      replace KW := KW.step st5 nw
      replace KN := KN.step st5 nn4
      replace st := st.trans st5
      clear st5 h4
      unfold wv2
      obtain ⟨m1, m2⟩ := KW.rules
      obtain ⟨n1, n2⟩ := KF.rules
      obtain ⟨o1, o2⟩ := KN.rules
      have hys : y.1.size ≤ 2000 := by rw [← HY.out]; exact nxW_size H hi3 _ _
      go_wp2_with fail
      obtain ⟨N, hN⟩ : ∃ N, valI y.1 = N := ⟨_, rfl⟩
      have HN : Hid (valI y.1 = N) := hN
      clear hN
      refine (c39 _ y.1 hys).mono ?_
      rintro e _ ⟨rfl, rfl⟩
      rw [HN.out]
      replace h5 := (h5.other KF (by decide) nf 0 (.string x.1)).other (KF.set 0 (.string x.1)) (by decide) nf 4 (.int .i64 N)
      replace l := (l.other nE 0 (.string x.1)).other nE 4 (.int .i64 N)
      replace st := (st.fresh (Nat.le_refl _) 0 (.string x.1)).fresh (Nat.le_refl _) 4 (.int .i64 N)
      replace KW := (KW.other (c := w.heap.size) 0 (.string x.1) y1).other (c := w.heap.size) 4 (.int .i64 N) y1
      replace KN := (KN.other (c := w.heap.size) 0 (.string x.1) y3).other (c := w.heap.size) 4 (.int .i64 N) y3
      have KG : Blk ((w5.setCell ⟨w.heap.size, 0, none⟩ (.string x.1)).setCell ⟨w.heap.size, 4, none⟩ (.int .i64 N)) w.heap.size #[.string x.1, .string s1, .string s2, .string s3, .int .i64 N] 145 := (KF.set 0 (.string x.1)).set 4 (.int .i64 N)
      clear m1 m2 KF
      go_upto_region 10 with fail
      clear n1 n2 o1 o2
      generalize (w5.setCell ⟨w.heap.size, 0, none⟩ (.string x.1)).setCell ⟨w.heap.size, 4, none⟩ (.int .i64 N) = w6 at *
      obtain ⟨B0, hB0⟩ : ∃ B0, (decide (N < 1) || decide (536870911 < N)) = B0 := ⟨_, rfl⟩
      have HB0 : Hid ((decide (N < 1) || decide (536870911 < N)) = B0) := hB0
      clear hB0
      obtain ⟨n1, n2⟩ := KG.rules
      go_cut [11] from 47 to 54 (fun v wr => v = .bool B0 ∧ wr = w6)
      case first =>
        cases h1 : decide (N < 1)
        · cases h2 : decide (536870911 < N)
          · obtain rfl : B0 = false := by rw [← HB0.out, h1, h2]; rfl
            go_wp2
            go_meet
            case rel => exact ⟨rfl, rfl⟩
          · obtain rfl : B0 = true := by rw [← HB0.out, h1, h2]; rfl
            go_wp2
            go_meet
            case rel => exact ⟨rfl, rfl⟩
        · obtain rfl : B0 = true := by rw [← HB0.out, h1]; rfl
          go_wp2
          go_meet
          case rel => exact ⟨rfl, rfl⟩
      case rest =>
        obtain ⟨rfl, hwc⟩ := hcut
        subst wc
        obtain ⟨q1, q2⟩ := l.mblk.rules
        obtain ⟨fcs, hfr, hfc⟩ := l.fr2
        obtain ⟨B1, hB1⟩ : ∃ B1, (B0 || memI (nums.map Fld.num) N) = B1 := ⟨_, rfl⟩
        have HB1 : Hid ((B0 || memI (nums.map Fld.num) N) = B1) := hB1
        clear hB1
        go_upto_block 0 with fail
        go_cut [11, 12] from 55 to 77 (fun v _ wr => v = .bool B1 ∧ ∃ nq, wr = w6.drewN nq)
        case first =>
          go_wp2_with fail
          go_loopw [11, 12] (fun v i wr => ∃ (k nq : Nat), k ≤ nums.length ∧ i = .int .i64 k ∧ v = .bool (B0 || memI ((nums.take k).map Fld.num) N) ∧ wr = w6.drewN nq) (fun _ i _ => nums.length - (intOf i).toNat)
          case atStart => exact ⟨0, 0, Nat.zero_le _, rfl, by simp [memI], rfl⟩
          case round =>
            obtain ⟨k, nq, hk, rfl, rfl, rfl⟩ := hrel
            by_cases hlt : k < nums.length
            · obtain ⟨m, hm⟩ := gx hlt
              have HT : Hid (memI ((nums.take (k + 1)).map Fld.num) N = (memI ((nums.take k).map Fld.num) N || m.num == N)) := by
                show memI ((nums.take (k + 1)).map Fld.num) N = _
                unfold memI
                rw [List.take_add_one, hm]
                simp
              obtain ⟨g, rfl, _, hgl, hcell⟩ := ownsRow_at hfr (by omega)
              have qc := hcell w6 rfl (k * 5 + 4) _ (by rw [hfc.out]; exact fld_num hm)
              clear hcell
              obtain ⟨bk, hbk⟩ : ∃ b, (B0 || memI ((nums.take k).map Fld.num) N) = b := ⟨_, rfl⟩
              have HBK : Hid ((B0 || memI ((nums.take k).map Fld.num) N) = bk) := hbk
              rw [hbk]
              clear hbk
              have hli : (k : Int) < (nums.length : Int) := by omega
              cases bk
              · go_wp2_with fail
                go_quiet (fail)
                go_wp2
                go_roundw
                case rel =>
                  refine ⟨k + 1, _, by omega, by go_num, ?_, rfl⟩
                  rw [HT.out, ← Bool.or_assoc, HBK.out, Bool.false_or]
                case measure => simp [intOf]; omega
              · go_wp2_with fail
                go_quiet (fail)
                go_wp2
                go_roundw
                case rel =>
                  refine ⟨k + 1, _, by omega, by go_num, ?_, rfl⟩
                  rw [HT.out, ← Bool.or_assoc, HBK.out, Bool.true_or]
                case measure => simp [intOf]; omega
            · have HE : Hid ((B0 || memI ((nums.take k).map Fld.num) N) = B1) := by
                rw [List.take_of_length_le (by omega)]
                exact HB1
              rw [HE.out]
              have hli : ¬ (k : Int) < (nums.length : Int) := by omega
              go_wp2
              go_meet
              case rel => exact ⟨rfl, _, rfl⟩
        case rest =>
          obtain ⟨rfl, nq, hq⟩ := hcut
          subst wc
          have HFp : Hid ((fdP ws (s1, s2, s3) ⟨p, nums, names⟩).p = if B1 then wrP y (f5 ws ⟨p, nums, names⟩) else f5 ws ⟨p, nums, names⟩) := by
            show (fdP ws (s1, s2, s3) ⟨p, nums, names⟩).p = _
            unfold fdP numW
            simp only [HY.out, HN.out, HB0.out, HB1.out]
          replace h5 : RdAt (w6.drewN nq) rb M ws (f5 ws ⟨p, nums, names⟩) := h5.drewN nq
          replace l := l.drewN nq
          replace st := st.drewN nq
          replace KW : Blk (w6.drewN nq) _ _ _ := KW
          replace KN : Blk (w6.drewN nq) _ _ _ := KN
          replace KG : Blk (w6.drewN nq) _ _ _ := KG
          clear q1 q2 n1 n2 hfr hfc
          generalize w6.drewN nq = w7 at *
          go_upto_if 78 with fail
          go_cut [] from 79 to 81 (fun wr => RdAt wr rb M ws (fdP ws (s1, s2, s3) ⟨p, nums, names⟩).p ∧ LocAt wr rb M mb mn (.slice fa nums.length fc) (.slice na nn nc) nums names ∧ Step w (M.D rb) wr (M.D rb) ∧ Blk wr w.heap.size #[.string x.1, .string s1, .string s2, .string s3, .int .i64 N] 145 ∧ Blk wr w1.heap.size #[.string x.1, .int .i64 x.2] 81)
          case first =>
            cases B1
            · go_wp2
              go_meet
              case rel => exact ⟨by rw [HFp.out]; exact h5, l, st, KG, KW⟩
            · obtain ⟨m1, m2⟩ := KN.rules
              go_wp2_with fail
              refine (r21 h5 y).mono ?_
              rintro e w8 ⟨rfl, h8, st8⟩
              go_wp2
              go_meet
              case rel => exact ⟨by rw [HFp.out]; exact h8, l.step st8, st.trans st8, KG.step st8 nf, KW.step st8 nw⟩
          case rest =>
            clear h5 l st KG KW KN HFp
            obtain ⟨h5, l, st, KG, KW⟩ := hcut
            obtain ⟨fcs, hfr, hfc⟩ := l.fr2
            have hnE : (nxW ws 1 ⟨#[]⟩ p) = x := HX.out
            have HNm : Hid ((fdP ws (s1, s2, s3) ⟨p, nums, names⟩).nums = nums ++ [⟨x.1, s1, s2, s3, N⟩] ∧ (fdP ws (s1, s2, s3) ⟨p, nums, names⟩).names = names ++ [x.1]) := by
              constructor
              · show nums ++ [⟨(nxW ws 1 ⟨#[]⟩ p).1, s1, s2, s3, valI (nxW ws 2 ⟨#[]⟩ (f3 ws ⟨p, nums, names⟩)).1⟩] = _
                rw [HY.out, HN.out, HX.out]
              · show names ++ [(nxW ws 1 ⟨#[]⟩ p).1] = _
                rw [HX.out]
            clear hnE
            have HO : Hid (some mb ≠ (Value.slice fa nums.length fc).ownBlock) := fun e => by
              obtain ⟨c2, K2⟩ := ownsRow_blk hfr e.symm
              exact absurd (l.mblk.ty K2) (by decide)
            have hcl : fcs.length = nums.length * 5 := hfr.1
            obtain ⟨n1, n2⟩ := KG.rules
            obtain ⟨q1, q2⟩ := l.mblk.rules
            obtain ⟨o1, o2⟩ := (l.mblk.alloc (Obj.cells #[.string x.1, .string s1, .string s2, .string s3, .int .i64 N] 145)).rules
            go_upto_region 17 with fail
            go_cut [] from 82 to 91 (fun wr => ∃ fv', RdAt wr rb M ws (fdP ws (s1, s2, s3) ⟨p, nums, names⟩).p ∧ LocAt wr rb M mb mn fv' (.slice na nn nc) (nums ++ [⟨x.1, s1, s2, s3, N⟩]) names ∧ Step w (fun b => M.D rb b ∨ LocE mb (.slice fa nums.length fc) (.slice na nn nc) b) wr (fun b => M.D rb b ∨ LocE mb fv' (.slice na nn nc) b) ∧ Blk wr w1.heap.size #[.string x.1, .int .i64 x.2] 81)
            case first =>
              go_region_law (first | (refine step_append_lies _ (by rfl) _ _ _ (by rfl) 0 145 i0 _ 5 72 Tryz.underlying88 hi0 hz0 hz1 hz2 rfl (by omega) (.slice fa nums.length fc) nums.length fcs (by rfl) (hfr.alloc _) ⟨wc.heap.size, 0, none⟩ 1 1 [_, _, _, _, _] (by rfl) (by rfl) (World.news_of_block (t := 145) (fr := (0, 0)) (heap_alloc_new wc _)) (by simp [Value.oneCell']) (by omega) (by unfold maxLen; omega) (by omega) (by omega) (wc.heap.size + 1) (by simp) ?_; intro gg cap w9 hown1 hgrow hat hlt; obtain ⟨x1, x2⟩ := ((l.mblk.alloc _).drew.grown hgrow HO.out).rules))
              all_goals
                go_wp2
                go_meet
                case rel =>
                  have h6 := (h5.alloc (Obj.cells #[.string x.1, .string s1, .string s2, .string s3, .int .i64 N] 145)).drew
                  have l6 := (l.alloc (Obj.cells #[.string x.1, .string s1, .string s2, .string s3, .int .i64 N] 145)).drew
                  obtain ⟨hR, hL, hS⟩ := l6.field h6 ⟨x.1, s1, s2, s3, N⟩ hgrow hfc hown1 (fun b hb => by
                    have hbg : gg = b := by simpa [Value.ownBlock] using hb
                    subst hbg
                    rcases hat with h1 | h1
                    · exact .inl h1
                    · right; simp; omega)
                  exact ⟨_, hR, hL, ((st.alloc _).drew.both mb _ _).trans hS, (KW.alloc _).drew.step hS (fun hx => hx.elim nw nwE)⟩
            case rest =>
              clear h5 l st KG KW hfr hfc n1 n2 q1 q2 o1 o2 HO hcl
              obtain ⟨fv', h5, l, st, KW⟩ := hcut
              obtain ⟨m1, m2⟩ := KW.rules
              go_wp2_with (first | (at_builtin; refine wpList_append_lies _ rfl _ _ 30 rfl 0 9 i9 _ 1 16 Tryz.underlying30 hi9 hz90 hz91 hz92 rfl (by decide) _ _ _ rfl (l.nr.alloc _) _ 1 1 [_] rfl rfl (cell_one_new _ _ _) ?h1 (by omega) ?h63 ?hby (by omega) _ rfl ?_; rotate_right; intro gg cap w9 hown1 hgrow hat hlt))
              case h1 => intro u hu; simp at hu; subst hu; rfl
              case h63 => unfold maxLen; omega
              case hby => omega
              go_ret
              obtain ⟨hR, hL, hS⟩ := (l.alloc (Obj.cells #[.string x.1] 9)).name (h5.alloc (Obj.cells #[.string x.1] 9)) hgrow hown1 (fun b hb => by
                have hbg : gg = b := by simpa [Value.ownBlock] using hb
                subst hbg
                rcases hat with h1 | h1
                · exact .inl h1
                · right; omega)
              refine ⟨fv', _, rfl, hR, ?_, (st.alloc _).trans hS⟩
              rw [HNm.out.1, HNm.out.2]
              exact hL

end Go.Proofs.YtbbbegjedmicpaaGreatDoor

/-
  THE REFERENCE: how far its reader has come; a oneof, a map, a message's part in plain terms.
-/
namespace Go.Proofs.YtbbbegjedmicpaaGreatDoor
open Go.RowKit

structure OKP (ws : List W) (p : PS) : Prop where
  lt : p.i < ws.length
  used : p.used.length ≤ p.i
theorem nxP_le (ws : List W) (so : Int) (s : ByteArray) (p : PS) : p.i ≤ (nxP ws so s p).i := by
  show p.i ≤ nextI so s (hand ws p) p.i
  unfold nextI
  split <;> omega
theorem nxP_ok {ws : List W} (H : WsR ws) {p : PS} (h : OKP ws p) (so : Int) (s : ByteArray) : OKP ws (nxP ws so s p) :=
  ⟨nxP_lt H h.lt so s, Nat.le_trans h.used (nxP_le ws so s p)⟩
theorem nxP_adv {ws : List W} {p : PS} {so : Int} {s : ByteArray} (h : (nxP ws so s p).bad < 0) : p.bad < 0 ∧ (nxP ws so s p).i = p.i + 1 ∧ (nxP ws so s p).bad = p.bad ∧ sortOK so s (hand ws p).1 = true := by
  have h1 : nextB so s (hand ws p) p.bad < 0 := h
  show p.bad < 0 ∧ nextI so s (hand ws p) p.i = p.i + 1 ∧ nextB so s (hand ws p) p.bad = p.bad ∧ _
  unfold nextB at h1
  unfold nextI nextB
  cases hs : sortOK so s (hand ws p).1
  · rw [hs] at h1
    simp only [Bool.false_eq_true, if_false] at h1
    split at h1 <;> omega
  · rw [hs] at h1
    simp only [if_true] at h1
    simp only [if_true, and_self, and_true]
    exact h1
theorem nxP_bad {ws : List W} {p : PS} {so : Int} {s : ByteArray} (h : 0 ≤ p.bad) : (nxP ws so s p).bad = p.bad := by
  show nextB so s (hand ws p) p.bad = p.bad
  unfold nextB
  split
  · rfl
  · rw [if_neg (by omega)]
theorem kdP_i (ws : List W) (p : PS) : (kdP ws p).i = (nxP ws 3 ⟨#[]⟩ p).i ∧ (kdP ws p).bad = (nxP ws 3 ⟨#[]⟩ p).bad := by
  unfold kdP
  split <;> exact ⟨rfl, rfl⟩
theorem kdP_ok {ws : List W} (H : WsR ws) {p : PS} (h : OKP ws p) : OKP ws (kdP ws p) := by
  have h1 := nxP_ok H h 3 ⟨#[]⟩
  refine ⟨by rw [(kdP_i ws p).1]; exact h1.lt, ?_⟩
  rw [(kdP_i ws p).1]
  unfold kdP
  split
  · next hk =>
    show (p.used ++ [kdW ws p]).length ≤ nextI 3 ⟨#[]⟩ (hand ws p) p.i
    have hs : sortOK 3 ⟨#[]⟩ (hand ws p).1 = true := by
      cases hs : sortOK 3 ⟨#[]⟩ (hand ws p).1
      · exfalso
        unfold kdW nxW nextW at hk
        rw [hs] at hk
        exact absurd (show (kindW ⟨#[]⟩ == 1) = true from hk) (by decide)
      · rfl
    unfold nextI
    rw [hs]
    have := h.used
    simp
    omega
  · exact h1.used
theorem kdP_bad {ws : List W} {p : PS} (h : 0 ≤ p.bad) : (kdP ws p).bad = p.bad := by rw [(kdP_i ws p).2, nxP_bad h]
theorem kdP_le (ws : List W) (p : PS) : p.i ≤ (kdP ws p).i := by rw [(kdP_i ws p).1]; exact nxP_le _ _ _ _

theorem f2_same (ws : List W) (s : FD) : (f2 ws s).i = (nxP ws 1 ⟨#[]⟩ s.p).i ∧ (f2 ws s).bad = (nxP ws 1 ⟨#[]⟩ s.p).bad ∧ (f2 ws s).used = s.p.used := by
  unfold f2 f1
  split <;> exact ⟨rfl, rfl, rfl⟩
theorem fdP_same (ws : List W) (t : T3) (s : FD) : (fdP ws t s).p.i = (f5 ws s).i ∧ (fdP ws t s).p.bad = (f5 ws s).bad ∧ (fdP ws t s).p.used = s.p.used := by
  have h : (f5 ws s).used = s.p.used := (f2_same ws s).2.2
  unfold fdP
  simp only
  split
  · exact ⟨rfl, rfl, h⟩
  · exact ⟨rfl, rfl, h⟩
theorem f2_ok {ws : List W} (H : WsR ws) {s : FD} (h : OKP ws s.p) : OKP ws (f2 ws s) := by
  have h1 := nxP_ok H h 1 ⟨#[]⟩
  obtain ⟨e1, _, e3⟩ := f2_same ws s
  exact ⟨by rw [e1]; exact h1.lt, by rw [e1, e3]; exact h1.used⟩
theorem fdP_ok {ws : List W} (H : WsR ws) {t : T3} {s : FD} (h : OKP ws s.p) : OKP ws (fdP ws t s).p := by
  have h5 : OKP ws (f5 ws s) := nxP_ok H (nxP_ok H (nxP_ok H (f2_ok H h) 0 ⟨#[61]⟩) 2 ⟨#[]⟩) 0 ⟨#[59]⟩
  obtain ⟨e1, _, e3⟩ := fdP_same ws t s
  have e4 : (f5 ws s).used = s.p.used := (f2_same ws s).2.2
  exact ⟨by rw [e1]; exact h5.lt, by rw [e1, e3, ← e4]; exact h5.used⟩
theorem fdP_le (ws : List W) (t : T3) (s : FD) : s.p.i ≤ (fdP ws t s).p.i := by
  rw [(fdP_same ws t s).1]
  refine Nat.le_trans ?_ (Nat.le_trans (nxP_le ws 2 ⟨#[]⟩ (f3 ws s)) (nxP_le ws 0 ⟨#[59]⟩ _))
  refine Nat.le_trans ?_ (nxP_le ws 0 ⟨#[61]⟩ (f2 ws s))
  rw [(f2_same ws s).1]
  exact nxP_le _ _ _ _
theorem fdP_bad {ws : List W} {t : T3} {s : FD} (h : 0 ≤ s.p.bad) : (fdP ws t s).p.bad = s.p.bad := by
  rw [(fdP_same ws t s).2.1]
  have h1 : (f2 ws s).bad = s.p.bad := by rw [(f2_same ws s).2.1, nxP_bad h]
  have h2 : (f3 ws s).bad = s.p.bad := (nxP_bad (by rw [h1]; exact h)).trans h1
  have h3 : (nxP ws 2 ⟨#[]⟩ (f3 ws s)).bad = s.p.bad := (nxP_bad (by rw [h2]; exact h)).trans h2
  exact (nxP_bad (by rw [h3]; exact h)).trans h3
theorem fdP_adv {ws : List W} {t : T3} {s : FD} (h : (fdP ws t s).p.bad < 0) : s.p.bad < 0 ∧ s.p.i < (fdP ws t s).p.i := by
  by_cases hb : s.p.bad < 0
  · refine ⟨hb, ?_⟩
    rw [(fdP_same ws t s).2.1] at h
    rw [(fdP_same ws t s).1]
    obtain ⟨h1, e1, _⟩ := nxP_adv (p := nxP ws 2 ⟨#[]⟩ (f3 ws s)) h
    obtain ⟨h2, e2, _⟩ := nxP_adv h1
    obtain ⟨h3, e3, _⟩ := nxP_adv (p := f2 ws s) h2
    rw [(f2_same ws s).2.1] at h3
    obtain ⟨h4, e4, _⟩ := nxP_adv h3
    have e5 : (f5 ws s).i = (nxP ws 2 ⟨#[]⟩ (f3 ws s)).i + 1 := e1
    have e6 : (f3 ws s).i = (f2 ws s).i + 1 := e3
    have e7 := (f2_same ws s).1
    omega
  · rw [fdP_bad (by omega)] at h
    exact ⟨h, absurd h hb⟩

/-- A field with its type. -/
def stF (ws : List W) (how : ByteArray) (s : FD) : FD := fdP ws ((kdW ws s.p).1, eS, how) { s with p := kdP ws s.p }
/-- The bounds that a message's reading keeps to. -/
structure Bnd (ws : List W) (s : FD) : Prop where
  ok : OKP ws s.p
  nums : s.p.bad < 0 → s.nums.length ≤ s.p.i
  names : s.p.bad < 0 → s.names.length ≤ s.p.i
theorem fdP_len (ws : List W) (t : T3) (s : FD) : (fdP ws t s).nums.length = s.nums.length + 1 ∧ (fdP ws t s).names.length = s.names.length + 1 := by
  unfold fdP
  simp
theorem stF_bnd {ws : List W} (H : WsR ws) {how : ByteArray} {s : FD} (h : Bnd ws s) : Bnd ws (stF ws how s) := by
  have h1 : OKP ws (kdP ws s.p) := kdP_ok H h.ok
  refine ⟨fdP_ok H (s := { s with p := kdP ws s.p }) h1, fun hb => ?_, fun hb => ?_⟩
  · obtain ⟨h2, h3⟩ := fdP_adv (s := { s with p := kdP ws s.p }) hb
    have h2' : (kdP ws s.p).bad < 0 := h2
    rw [(kdP_i ws s.p).2] at h2'
    have h4 := h.nums (nxP_adv h2').1
    have h5 : (stF ws how s).nums.length = s.nums.length + 1 := (fdP_len ws _ { s with p := kdP ws s.p }).1
    have h6 : (kdP ws s.p).i < (stF ws how s).p.i := h3
    have := kdP_le ws s.p
    omega
  · obtain ⟨h2, h3⟩ := fdP_adv (s := { s with p := kdP ws s.p }) hb
    have h2' : (kdP ws s.p).bad < 0 := h2
    rw [(kdP_i ws s.p).2] at h2'
    have h4 := h.names (nxP_adv h2').1
    have h5 : (stF ws how s).names.length = s.names.length + 1 := (fdP_len ws _ { s with p := kdP ws s.p }).2
    have h6 : (kdP ws s.p).i < (stF ws how s).p.i := h3
    have := kdP_le ws s.p
    omega
/-- What is left to read. -/
def measP (ws : List W) (p : PS) : Nat := if p.bad < 0 then ws.length - p.i else 0
theorem stF_meas {ws : List W} (H : WsR ws) {how : ByteArray} {s : FD} (h : OKP ws s.p) (hb : s.p.bad < 0) : measP ws (stF ws how s).p < measP ws s.p := by
  have hl := h.lt
  unfold measP
  rw [if_pos hb]
  split
  · next h1 =>
    obtain ⟨h2, h3⟩ := fdP_adv (s := { s with p := kdP ws s.p }) h1
    have h6 : (kdP ws s.p).i < (stF ws how s).p.i := h3
    have := kdP_le ws s.p
    have := (fdP_ok H (t := ((kdW ws s.p).1, eS, how)) (s := { s with p := kdP ws s.p }) (kdP_ok H h)).lt
    have h7 : (stF ws how s).p.i < ws.length := this
    omega
  · omega
def measW (rb n : Nat) (w : World) : Nat :=
  match w.cell? ⟨rb, 2, none⟩, w.cell? ⟨rb, 1, none⟩ with
  | some (.int _ b), some (.int _ i) => if b < 0 then n - i.toNat else 0
  | _, _ => 0
theorem RdAt.meas {w : World} {rb : Nat} {M : Mem} {ws : List W} {p : PS} (h : RdAt w rb M ws p) : measW rb ws.length w = measP ws p := by
  unfold measW measP
  rw [h.rd.cell 2, h.rd.cell 1]
  simp

/-- The fields of a oneof. -/
def onL (ws : List W) (how : ByteArray) : Nat → Bool → FD → FD
  | 0, _, s => s
  | n + 1, first, s => if s.p.bad < 0 && !(atP ws ⟨#[125]⟩ s.p && !first) then onL ws how n false (stF ws how s) else s
theorem onL_stop {ws : List W} {how : ByteArray} {n : Nat} {first : Bool} {s : FD} (h : (decide (s.p.bad < 0) && !(atP ws ⟨#[125]⟩ s.p && !first)) = false) : onL ws how n first s = s := by
  cases n with
  | zero => rfl
  | succ n => rw [onL, if_neg (by rw [h]; decide)]
theorem onL_go {ws : List W} {how : ByteArray} {n : Nat} {first : Bool} {s : FD} (h : (decide (s.p.bad < 0) && !(atP ws ⟨#[125]⟩ s.p && !first)) = true) (hn : 0 < n) : onL ws how n first s = onL ws how (n - 1) false (stF ws how s) := by
  cases n with
  | zero => omega
  | succ n => rw [onL, if_pos h]; rfl
theorem onL_bnd {ws : List W} {how : ByteArray} (H : WsR ws) : ∀ (n : Nat) (first : Bool) (s : FD), Bnd ws s → Bnd ws (onL ws how n first s)
  | 0, _, _, h => h
  | n + 1, first, s, h => by
    rw [onL]
    split
    · exact onL_bnd H n false _ (stF_bnd H h)
    · exact h
def on2 (ws : List W) (s : FD) : PS := if memS s.names (nxW ws 1 ⟨#[]⟩ s.p).1 then wrP (nxW ws 1 ⟨#[]⟩ s.p) (f1 ws s) else f1 ws s
def onS (ws : List W) (s : FD) : FD := { p := nxP ws 0 ⟨#[123]⟩ (on2 ws s), nums := s.nums, names := s.names ++ [(nxW ws 1 ⟨#[]⟩ s.p).1] }
def onH (ws : List W) (s : FD) : ByteArray := ⟨#[46]⟩ ++ (nxW ws 1 ⟨#[]⟩ s.p).1
def onP (ws : List W) (s : FD) : FD := { onL ws (onH ws s) ws.length true (onS ws s) with p := nxP ws 0 ⟨#[125]⟩ (onL ws (onH ws s) ws.length true (onS ws s)).p }

/-- A map. -/
def mp3 (ws : List W) (p : PS) : PS := if keyGood (kindW (nxW ws 3 ⟨#[]⟩ p).1) (nxW ws 3 ⟨#[]⟩ p).1 then nxP ws 3 ⟨#[]⟩ p else wrP (hand ws p) (nxP ws 3 ⟨#[]⟩ p)
def mp6 (ws : List W) (p : PS) : PS := nxP ws 0 ⟨#[62]⟩ (kdP ws (nxP ws 0 ⟨#[44]⟩ (mp3 ws (nxP ws 0 ⟨#[60]⟩ p))))
def mpT (ws : List W) (p : PS) : T3 := ((kdW ws (nxP ws 0 ⟨#[44]⟩ (mp3 ws (nxP ws 0 ⟨#[60]⟩ p)))).1, (nxW ws 3 ⟨#[]⟩ (nxP ws 0 ⟨#[60]⟩ p)).1, sMap)
def mpP (ws : List W) (s : FD) : FD := fdP ws (mpT ws s.p) { s with p := mp6 ws s.p }

theorem on2_same (ws : List W) (s : FD) : (on2 ws s).i = (nxP ws 1 ⟨#[]⟩ s.p).i ∧ (on2 ws s).bad = (nxP ws 1 ⟨#[]⟩ s.p).bad ∧ (on2 ws s).used = s.p.used := by
  unfold on2 f1
  split <;> exact ⟨rfl, rfl, rfl⟩
theorem on2_ok {ws : List W} (H : WsR ws) {s : FD} (h : OKP ws s.p) : OKP ws (on2 ws s) := by
  have h1 := nxP_ok H h 1 ⟨#[]⟩
  obtain ⟨e1, _, e3⟩ := on2_same ws s
  exact ⟨by rw [e1]; exact h1.lt, by rw [e1, e3]; exact h1.used⟩
theorem onS_bnd {ws : List W} (H : WsR ws) {s : FD} (h : Bnd ws s) : Bnd ws (onS ws s) := by
  have h1 := on2_ok H h.ok
  have hx : (onS ws s).p.bad < 0 → s.p.bad < 0 ∧ s.p.i + 1 ≤ (onS ws s).p.i := fun hb => by
    obtain ⟨h2, e2, _⟩ := nxP_adv (p := on2 ws s) hb
    rw [(on2_same ws s).2.1] at h2
    obtain ⟨h3, e3, _⟩ := nxP_adv h2
    have e4 := (on2_same ws s).1
    have e5 : (onS ws s).p.i = (on2 ws s).i + 1 := e2
    exact ⟨h3, by omega⟩
  refine ⟨nxP_ok H h1 0 ⟨#[123]⟩, fun hb => ?_, fun hb => ?_⟩
  · obtain ⟨h2, h3⟩ := hx hb
    have := h.nums h2
    show s.nums.length ≤ _
    omega
  · obtain ⟨h2, h3⟩ := hx hb
    have := h.names h2
    show (s.names ++ [_]).length ≤ _
    rw [List.length_append, List.length_singleton]
    omega
theorem nx_bnd {ws : List W} (H : WsR ws) {s : FD} (h : Bnd ws s) (so : Int) (t : ByteArray) : Bnd ws { s with p := nxP ws so t s.p } := by
  refine ⟨nxP_ok H h.ok so t, fun hb => ?_, fun hb => ?_⟩
  · obtain ⟨h2, e2, _⟩ := nxP_adv (p := s.p) hb
    have := h.nums h2
    have e3 : (nxP ws so t s.p).i = s.p.i + 1 := e2
    show s.nums.length ≤ (nxP ws so t s.p).i
    omega
  · obtain ⟨h2, e2, _⟩ := nxP_adv (p := s.p) hb
    have := h.names h2
    have e3 : (nxP ws so t s.p).i = s.p.i + 1 := e2
    show s.names.length ≤ (nxP ws so t s.p).i
    omega
theorem onP_bnd {ws : List W} (H : WsR ws) {s : FD} (h : Bnd ws s) : Bnd ws (onP ws s) := nx_bnd H (onL_bnd H ws.length true _ (onS_bnd H h)) 0 ⟨#[125]⟩
theorem mp3_same (ws : List W) (p : PS) : (mp3 ws p).i = (nxP ws 3 ⟨#[]⟩ p).i ∧ (mp3 ws p).bad = (nxP ws 3 ⟨#[]⟩ p).bad ∧ (mp3 ws p).used = p.used := by
  unfold mp3
  split <;> exact ⟨rfl, rfl, rfl⟩
theorem mp3_ok {ws : List W} (H : WsR ws) {p : PS} (h : OKP ws p) : OKP ws (mp3 ws p) := by
  have h1 := nxP_ok H h 3 ⟨#[]⟩
  obtain ⟨e1, _, e3⟩ := mp3_same ws p
  exact ⟨by rw [e1]; exact h1.lt, by rw [e1, e3]; exact h1.used⟩
theorem mp6_ok {ws : List W} (H : WsR ws) {p : PS} (h : OKP ws p) : OKP ws (mp6 ws p) :=
  nxP_ok H (kdP_ok H (nxP_ok H (mp3_ok H (nxP_ok H h _ _)) _ _)) _ _
theorem mp6_le (ws : List W) (p : PS) : p.i ≤ (mp6 ws p).i := by
  refine Nat.le_trans ?_ (nxP_le ws 0 ⟨#[62]⟩ _)
  refine Nat.le_trans ?_ (kdP_le ws _)
  refine Nat.le_trans ?_ (nxP_le ws 0 ⟨#[44]⟩ _)
  rw [(mp3_same ws _).1]
  exact Nat.le_trans (nxP_le ws 0 ⟨#[60]⟩ p) (nxP_le ws 3 ⟨#[]⟩ _)
theorem mp6_bad {ws : List W} {p : PS} (h : 0 ≤ p.bad) : (mp6 ws p).bad = p.bad := by
  have h1 : (nxP ws 0 ⟨#[60]⟩ p).bad = p.bad := nxP_bad h
  have h2 : (mp3 ws (nxP ws 0 ⟨#[60]⟩ p)).bad = p.bad := by rw [(mp3_same ws _).2.1, nxP_bad (by rw [h1]; exact h), h1]
  have h3 : (nxP ws 0 ⟨#[44]⟩ (mp3 ws (nxP ws 0 ⟨#[60]⟩ p))).bad = p.bad := (nxP_bad (by rw [h2]; exact h)).trans h2
  have h4 : (kdP ws (nxP ws 0 ⟨#[44]⟩ (mp3 ws (nxP ws 0 ⟨#[60]⟩ p)))).bad = p.bad := (kdP_bad (by rw [h3]; exact h)).trans h3
  exact (nxP_bad (by rw [h4]; exact h)).trans h4
theorem mpP_bnd {ws : List W} (H : WsR ws) {s : FD} (h : Bnd ws s) : Bnd ws (mpP ws s) := by
  have h1 : OKP ws (mp6 ws s.p) := mp6_ok H h.ok
  have hx : (mpP ws s).p.bad < 0 → s.p.bad < 0 ∧ s.p.i + 1 ≤ (mpP ws s).p.i := fun hb => by
    obtain ⟨h2, h3⟩ := fdP_adv (s := { s with p := mp6 ws s.p }) hb
    have h3' : (mp6 ws s.p).i < (mpP ws s).p.i := h3
    have h2' : (mp6 ws s.p).bad < 0 := h2
    have := mp6_le ws s.p
    refine ⟨?_, by omega⟩
    by_cases hc : s.p.bad < 0
    · exact hc
    · rw [mp6_bad (by omega)] at h2'; exact h2'
  obtain ⟨l1, l2⟩ := fdP_len ws (mpT ws s.p) { s with p := mp6 ws s.p }
  refine ⟨fdP_ok H (s := { s with p := mp6 ws s.p }) h1, fun hb => ?_, fun hb => ?_⟩
  · obtain ⟨h2, h3⟩ := hx hb
    have := h.nums h2
    have l3 : (mpP ws s).nums.length = s.nums.length + 1 := l1
    omega
  · obtain ⟨h2, h3⟩ := hx hb
    have := h.names h2
    have l3 : (mpP ws s).names.length = s.names.length + 1 := l2
    omega

end Go.Proofs.YtbbbegjedmicpaaGreatDoor
