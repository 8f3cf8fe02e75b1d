import Derived.Test.YtbbbegjedmicpaaGreatDoorRefN

/-
  THE REFERENCE, CONTRACT: message, its head.
-/
namespace Go.Proofs.YtbbbegjedmicpaaGreatDoor
open Go.RowKit

def inF : List ByteArray → ByteArray → Int → Int
  | [], _, _ => -1
  | x :: l, s, k => if x.toList == s.toList then k else inF l s (k + 1)
theorem inF_R : ∀ (l : List ByteArray) (s : ByteArray) (k : Int), 0 ≤ k → InR l s (inF l s k)
  | [], s, k, h => by unfold InR; simp [memS, inF]
  | x :: l, s, k, h => by
    have ih := inF_R l s (k + 1) (by omega)
    unfold InR at *
    rw [memS_cons, inF]
    cases hx : (x.toList == s.toList)
    · simpa using ih
    · simpa using h
set_option maxHeartbeats 400000 in
theorem c20d (w : World) (lo : Nat) (v : Value) (l : List ByteArray) (s : ByteArray) (hlen : l.length ≤ 4000) (hrow : w.ownsRow lo 9 1 v l.length (strCells l)) :
    Calls Tryz.prog 25 #[v, .string s] w fun e w' => e = .returned (.int .i64 (inF l s 0)) ∧ w' = w := by
  obtain ⟨va, vn, vc, rfl⟩ := ownsRow_form hrow
  have hvn := ownsRow_len hrow
  subst hvn
  go_enter Tryz.func25, Tryz.ntmps25
  go_wp2
  go_loop [5] (fun i => ∃ k : Nat, k ≤ l.length ∧ Hid (inF l s 0 = inF (l.drop k) s k) ∧ i = .int .i64 k) (fun i => l.length - (intOf i).toNat)
  case atStart => exact ⟨0, Nat.zero_le _, rfl, rfl⟩
  case round =>
    obtain ⟨k, hk, HM, rfl⟩ := hrel
    by_cases hlt : k < l.length
    · obtain ⟨x, hx⟩ := gx hlt
      have hdrop : l.drop k = x :: l.drop (k + 1) := by
        rw [List.drop_eq_getElem_cons hlt]
        rw [List.getElem?_eq_getElem hlt] at hx
        rw [Option.some.inj hx]
      obtain ⟨g, rfl, _, hgl, hcell⟩ := ownsRow_at hrow (by omega)
      have q := hcell w rfl k (.string x) (by simp [strCells, hx])
      have HM2 : Hid (inF l s 0 = if x.toList == s.toList then (k : Int) else inF (l.drop (k + 1)) s (k + 1)) := by
        have := HM.out
        rw [hdrop, inF] at this
        exact this
      clear hcell hdrop HM hx hrow
      cases he : (x.toList == s.toList)
      · have HM3 : Hid (inF l s 0 = inF (l.drop (k + 1)) s ((k + 1 : Nat) : Int)) := by have := HM2.out; rw [he] at this; exact this
        clear HM2
        go_wp2
        go_round
        case rel => exact ⟨k + 1, by omega, HM3, by go_num⟩
        case measure => simp [intOf]; omega
      · have HM3 : Hid (inF l s 0 = k) := by have := HM2.out; rw [he] at this; exact this
        clear HM2
        go_wp2
        go_ret
        exact ⟨reti HM3.out.symm, rfl⟩
    · have HM3 : Hid (inF l s 0 = -1) := by
        have := HM.out
        rw [List.drop_eq_nil_iff.2 (by omega)] at this
        exact this
      clear HM
      go_wp2
      go_ret
      exact ⟨reti HM3.out.symm, rfl⟩

theorem Step.weak {w w' : World} {S T U : Nat → Prop} (h : Step w S w' T) (hu : ∀ b, U b → T b) : Step w S w' U := ⟨h.os, h.tape, h.output, h.size, h.block, fun b hb => h.grow b (hu b hb)⟩
theorem Both.inc {w : World} {rb : Nat} {M : Mem} {ws : List W} {mb : Nat} {mn : ByteArray} {fv nl : Value} {s : FD} (h : Both w rb M ws mb mn fv nl s) {v : Int} (hv : v = (s.p.i : Int) + 1) :
    Both (w.setCell ⟨rb, 1, none⟩ (.int .i64 v)) rb M ws mb mn fv nl (incF s) ∧ Step w (BothD M rb mb fv nl) (w.setCell ⟨rb, 1, none⟩ (.int .i64 v)) (BothD M rb mb fv nl) := by
  subst hv
  have hk : Kept [rb] w (w.setCell ⟨rb, 1, none⟩ (.int .i64 ((s.p.i : Int) + 1))) := (Kept.refl _ _).set (by simp) _ _
  have h1 : RdAt (w.setCell ⟨rb, 1, none⟩ (.int .i64 ((s.p.i : Int) + 1))) rb M ws (incP s.p) := h.r.turn hk (by have := h.r.rd.set 1 (.int .i64 ((s.p.i : Int) + 1)); simpa using this)
  exact ⟨h.turn h1 (Step.rb hk), (Step.rb hk).bd mb fv nl⟩

theorem Tryz.info90 : (Tryz.prog.info? 90).map (fun i => (i.zero, i.size, i.bytes)) = some (some (.agg #[.string ⟨#[]⟩, .slice none 0 0]), 2, 40) := by kernel_rfl

set_option maxHeartbeats 8000000 in
set_option maxRecDepth 100000 in
theorem r18 {w : World} {rb : Nat} {M : Mem} {ws : List W} {p : PS} (h : RdAt w rb M ws p) (H : WsR ws) (hb : OKP ws p) (hnn : p.names.length ≤ 2001) (hmm : p.msgs.length ≤ 2001) :
    Calls Tryz.prog 23 #[.pointer (some ⟨rb, 0, none⟩)] w fun e w' => e = .returned (.tuple #[]) ∧ ∃ M', RdAt w' rb M' ws (msP ws p) ∧ Step w (M.D rb) w' (M'.D rb) := by
  obtain ⟨i9, hi9, hz90, hz91, hz92⟩ := info_parts Tryz.info9
  obtain ⟨i68, hi68, hz680, hz681, hz682⟩ := info_parts Tryz.info90
  obtain ⟨x, hx⟩ : ∃ x, nxW ws 1 ⟨#[]⟩ p = x := ⟨_, rfl⟩
  have HX : Hid (nxW ws 1 ⟨#[]⟩ p = x) := hx
  clear hx
  go_enter Tryz.func23, Tryz.ntmps23
  go_wp2_with fail
  refine (r32 h H hb.lt 1 (by omega) ⟨#[]⟩).mono ?_
  rintro e w1 ⟨rfl, h1, st⟩
  rw [HX.out]
  unfold wv2
  have KW := Blk.new w1 #[.string x.1, .int .i64 x.2] 81
  have nw : ¬ M.D rb w1.heap.size := fun hb => by have := h1.lt hb; omega
  replace h1 := h1.alloc (Obj.cells #[.string x.1, .int .i64 x.2] 81)
  replace st := st.alloc (Obj.cells #[.string x.1, .int .i64 x.2] 81)
  clear h
  go_wp2_with fail
  refine (r33 h1 x).mono ?_
  rintro e w2 ⟨rfl, h2, st2⟩
  replace KW := KW.step st2 nw
  replace st := st.trans st2
  clear st2 h1
  obtain ⟨na, nn, nc, hnv⟩ := ownsRow_form h2.hn
  have hrn := h2.hn
  rw [hnv] at hrn
  have hrd := h2.rd
  rw [hnv] at hrd
  obtain ⟨mcs, hrm, hmc⟩ := h2.hm
  obtain ⟨ma, mn, mc, hmv⟩ := ownsRow_form hrm
  rw [hmv] at hrm
  obtain rfl := ownsRow_len hrm
  have hsc := h2.sc
  rw [hmv] at hsc
  obtain ⟨B, hB⟩ : ∃ B, (memS p.names x.1 || decide (6 ≤ p.msgs.length)) = B := ⟨_, rfl⟩
  have HB : Hid ((memS p.names x.1 || decide (6 ≤ p.msgs.length)) = B) := hB
  clear hB
  have HF2 : Hid (ms2 ws p = if B then wrP x (lgP x (nxP ws 1 ⟨#[]⟩ p)) else lgP x (nxP ws 1 ⟨#[]⟩ p)) := by
    show ms2 ws p = _
    unfold ms2
    rw [HX.out, HB.out]
  obtain ⟨m1, m2⟩ := KW.rules
  obtain ⟨k1, k2⟩ := hrd.rules
  obtain ⟨q1, q2⟩ := hsc.rules
  have hge := (inF_R p.names x.1 0 (by omega)).ge
  go_wp2_with fail
  go_cut [30] from 12 to 30 (fun v wr => v = .bool B ∧ ∃ nq, wr = w2.drewN nq)
  case first =>
    cases hm : memS p.names x.1
    · rw [hm] at hge
      cases h6 : decide (6 ≤ p.msgs.length)
      · have h7 : decide ((6 : Int) ≤ ((lgP x (nxP ws 1 ⟨#[]⟩ p)).msgs.length : Int)) = false := by have := of_decide_eq_false h6; show decide ((6 : Int) ≤ (p.msgs.length : Int)) = false; simp; omega
        obtain rfl : B = false := by rw [← HB.out, hm, h6]; rfl
        go_quiet (first | (go_at_call 25; refine Calls.quiet_of_same (c20d _ _ _ p.names x.1 (by omega) hrn)))
        go_wp2
        go_meet
        case rel => exact ⟨rfl, _, rfl⟩
      · have h7 : (6 : Int) ≤ ((lgP x (nxP ws 1 ⟨#[]⟩ p)).msgs.length : Int) := by have := of_decide_eq_true h6; show (6 : Int) ≤ (p.msgs.length : Int); omega
        obtain rfl : B = true := by rw [← HB.out, hm, h6]; rfl
        go_quiet (first | (go_at_call 25; refine Calls.quiet_of_same (c20d _ _ _ p.names x.1 (by omega) hrn)))
        go_wp2
        go_meet
        case rel => exact ⟨rfl, _, rfl⟩
    · rw [hm] at hge
      obtain rfl : B = true := by rw [← HB.out, hm]; rfl
      go_quiet (first | (go_at_call 25; refine Calls.quiet_of_same (c20d _ _ _ p.names x.1 (by omega) hrn)))
      go_wp2
      go_meet
      case rel => exact ⟨rfl, _, rfl⟩
  case rest =>
    obtain ⟨rfl, nq, hq⟩ := hcut
    subst wc
    replace h2 := h2.drewN nq
    replace st := st.drewN nq
    replace KW : Blk (w2.drewN nq) _ _ _ := KW
    clear m1 m2 k1 k2 q1 q2 hrn hrd hrm hmc hsc hge
    generalize w2.drewN nq = w3 at *
    go_upto_if 30 with fail
    go_cut [] from 31 to 33 (fun wr => RdAt wr rb M ws (ms2 ws p) ∧ Step w (M.D rb) wr (M.D rb) ∧ Blk wr w1.heap.size #[.string x.1, .int .i64 x.2] 81)
    case first =>
      cases B
      · go_wp2
        go_meet
        case rel => exact ⟨by rw [HF2.out]; exact h2, st, KW⟩
      · obtain ⟨m1, m2⟩ := KW.rules
        go_wp2_with fail
        refine (r21 h2 x).mono ?_
        rintro e w4 ⟨rfl, h4, st4⟩
        go_wp2
        go_meet
        case rel => exact ⟨by rw [HF2.out]; exact h4, st.trans st4, KW.step st4 nw⟩
    case rest =>
      have HE2 : Hid ((ms2 ws p).i = (nxP ws 1 ⟨#[]⟩ p).i ∧ (ms2 ws p).bad = (nxP ws 1 ⟨#[]⟩ p).bad ∧ (ms2 ws p).used = p.used ∧ (ms2 ws p).names = p.names ∧ (ms2 ws p).msgs = p.msgs) := by
        rw [HF2.out]
        cases B <;> exact ⟨rfl, rfl, rfl, rfl, rfl⟩
      clear h2 st KW HF2 HB
      obtain ⟨h2, st, KW⟩ := hcut
      have hrd := h2.rd
      have hrn := h2.hn
      rw [hnv] at hrd hrn
      obtain ⟨m1, m2⟩ := KW.rules
      obtain ⟨k1, k2⟩ := hrd.rules
      obtain ⟨o1, o2⟩ := (hrd.alloc (Obj.cells #[.string x.1] 9)).rules
      obtain ⟨o3, o4⟩ := (KW.alloc (Obj.cells #[.string x.1] 9)).rules
      have HO : Hid (some rb ≠ (Value.slice na nn nc).ownBlock) := fun e => row_blk_ne hrn h2.rd (by decide) rb e.symm rfl
      have hnl : (ms2 ws p).names.length ≤ 2001 := by rw [HE2.out.2.2.2.1]; exact hnn
      go_upto_region 4 with fail
      go_cut [] from 34 to 44 (fun wr => ∃ M', RdAt wr rb M' ws (ms3 ws p) ∧ Step w (M.D rb) wr (M'.D rb) ∧ Blk wr w1.heap.size #[.string x.1, .int .i64 x.2] 81)
      case first =>
        go_region_law (first | (refine step_append_lies _ (by rfl) _ _ _ (by rfl) 0 9 i9 _ 1 16 Tryz.underlying30 hi9 hz90 hz91 hz92 rfl (by omega) (.slice na nn nc) (ms2 ws p).names.length (strCells (ms2 ws p).names) (by rfl) (hrn.alloc _) ⟨wc.heap.size, 0, none⟩ 1 1 [_] (by rfl) (by rfl) (World.news_of_block (t := 9) (fr := (0, 0)) (heap_alloc_new wc _)) (by simp [Value.oneCell']) (by omega) (by unfold maxLen; omega) (by omega) (by omega) (wc.heap.size + 1) (by simp) ?_; intro gg cap w5 hown1 hgrow hat hlt; obtain ⟨x1, x2⟩ := ((hrd.alloc _).drew.grown hgrow HO.out).rules))
        all_goals
          go_wp2
          go_meet
          case rel =>
            have h5 := (h2.alloc (Obj.cells #[.string x.1] 9)).drew
            obtain ⟨hR, hS⟩ := h5.addN (x := x.1) (w' := w5) (by rw [hnv]; exact hgrow) hown1 (fun b hb => by
              have hbg : gg = b := by simpa [Value.ownBlock] using hb
              subst hbg
              rcases hat with h1 | h1
              · left; rw [hnv]; exact h1
              · right; simp; omega)
            refine ⟨_, ?_, (st.alloc _).drew.trans hS, (KW.alloc _).drew.step hS nw⟩
            unfold ms3
            rw [HX.out, ← HE2.out.2.2.2.1]
            exact hR
      case rest =>
        clear h2 KW hrd hrn m1 m2 k1 k2 o1 o2 o3 o4 HO st
        obtain ⟨M1, h2, st, KW⟩ := hcut
        obtain ⟨m1, m2⟩ := KW.rules
        obtain ⟨mb, hmb⟩ : ∃ mb, wc.heap.size = mb := ⟨_, rfl⟩
        have l2 : LocAt (wc.alloc (Obj.cells #[.string x.1, .slice none 0 0] 90)) rb M1 wc.heap.size x.1 (.slice none 0 0) (.slice none 0 0) [] [] := by
          refine ⟨Blk.new wc _ _, World.ownsRow_nil _ _ _ _, World.ownsRow_nil _ _ _ _, fun b hb => ?_⟩
          rcases hb with rfl | hb | hb
          · intro hd; have := h2.lt hd; omega
          · cases hb
          · cases hb
        have hB2 : Both (wc.alloc (Obj.cells #[.string x.1, .slice none 0 0] 90)) rb M1 ws wc.heap.size x.1 (.slice none 0 0) (.slice none 0 0) ⟨ms3 ws p, [], []⟩ := ⟨h2.alloc _, l2⟩
        have st2 : Step w (M.D rb) (wc.alloc (Obj.cells #[.string x.1, .slice none 0 0] 90)) (BothD M1 rb wc.heap.size (.slice none 0 0) (.slice none 0 0)) := by
          have hs := st.alloc (Obj.cells #[.string x.1, .slice none 0 0] 90)
          refine ⟨hs.os, hs.tape, hs.output, hs.size, hs.block, fun b hb => ?_⟩
          rcases hb with hb | hb | hb | hb
          · exact hs.grow b hb
          · right; rw [hb]; exact st.size
          · cases hb
          · cases hb
        have hb3 : OKP ws (ms3 ws p) := by
          have h1 := nxP_ok H hb 1 ⟨#[]⟩
          refine ⟨?_, ?_⟩
          · show (ms2 ws p).i < _; rw [HE2.out.1]; exact h1.lt
          · show (ms2 ws p).used.length ≤ (ms2 ws p).i; rw [HE2.out.1, HE2.out.2.2.1]; exact h1.used
        clear h2 l2 st
        go_wp2_with fail
        clear m1 m2 KW
        rw [hmb] at hB2 st2
        generalize wc.alloc (Obj.cells #[.string x.1, .slice none 0 0] 90) = w6 at *
        refine (r32 hB2.r H hb3.lt 0 (by omega) ⟨#[123]⟩).mono ?_
        rintro e w7 ⟨rfl, h7, st7⟩
        have hB : Both w7 rb M1 ws mb x.1 (.slice none 0 0) (.slice none 0 0) (msS ws p) := hB2.turn h7 st7
        have st := st2.trans (st7.bd mb _ _)
        have hbS : Bnd ws (msS ws p) := ⟨nxP_ok H hb3 0 ⟨#[123]⟩, fun _ => Nat.zero_le _, fun _ => Nat.zero_le _⟩
        clear hB2 st2 h7 st7 hmb
        unfold wv2
        obtain ⟨R, hRR⟩ : ∃ R, msE ws p = R := ⟨_, rfl⟩
        have HR : Hid (msL ws ws.length (msS ws p) = R) := hRR
        have HP : Hid (msP ws p = { nxP ws 0 ⟨#[125]⟩ R.p with msgs := R.p.msgs ++ [⟨x.1, R.nums⟩] }) := by
          show msP ws p = _
          unfold msP
          rw [hRR, HX.out]
        clear hRR
        go_wp2_with fail
        go_loopw [4] (fun nlv wr => ∃ (n : Nat) (M' : Mem) (fv' : Value) (s' : FD), Bnd ws s' ∧ measP ws s'.p ≤ n ∧ Hid (msL ws n s' = R) ∧ Both wr rb M' ws mb x.1 fv' nlv s' ∧ Step w (M.D rb) wr (BothD M' rb mb fv' nlv)) (fun _ wr => measW rb ws.length wr)
        case atStart => exact ⟨ws.length, M1, .slice none 0 0, msS ws p, hbS, by unfold measP; split <;> omega, HR, hB, st⟩
        case round =>
          clear hB st hbS
          obtain ⟨n, M', fv', s', hbs, hms, HL, hB, st⟩ := hrel
          have hmw0 := hB.r.meas
          obtain ⟨k1, k2⟩ := hB.r.rd.rules
          have hcase : (decide (s'.p.bad < 0) && !atP ws ⟨#[125]⟩ s'.p) = true ∨ (decide (s'.p.bad < 0) && !atP ws ⟨#[125]⟩ s'.p) = false := by cases (decide (s'.p.bad < 0) && !atP ws ⟨#[125]⟩ s'.p) <;> simp
          rcases hcase with hgo | hstop
          · have hbad : decide (s'.p.bad < 0) = true := (Bool.and_eq_true _ _ ▸ hgo).1
            have hat : atP ws ⟨#[125]⟩ s'.p = false := by have := (Bool.and_eq_true _ _ ▸ hgo).2; simpa using this
            have hbad2 : s'.p.bad < 0 := of_decide_eq_true hbad
            have hdec := ptF_meas H hbs hbad2
            have hln : s'.p.i < 2001 := Nat.lt_of_lt_of_le hbs.ok.lt H.len
            have HL2 : Hid (msL ws (n - 1) (ptF ws s') = R) := by
              have := HL.out
              rw [msL_go hgo (by omega)] at this
              exact this
            clear hgo
            go_wp2_with fail
            refine (r34 hB.r hbs.ok.lt ⟨#[125]⟩).mono ?_
            rintro e w8 ⟨rfl, hb8⟩
            rw [hat]
            replace hB := hB.below hb8
            replace st := st.below hb8
            clear hb8 k1 k2
            obtain ⟨y, hy⟩ : ∃ y, hand ws s'.p = y := ⟨_, rfl⟩
            have HY : Hid (hand ws s'.p = y) := hy
            have hget := hand_get hbs.ok.lt
            rw [hy] at hget
            clear hy
            have hrow := hB.r.hw
            have hrd := hB.r.rd
            obtain ⟨va, vn, vc, hwv⟩ := ownsRow_form hrow
            rw [hwv] at hrow hrd
            obtain ⟨rfl, hlt, g, rfl, hgl, hcell⟩ := row_word hrow hget
            obtain ⟨q1, q2⟩ := hcell _ rfl
            obtain ⟨k1, k2⟩ := hrd.rules
            have hi1 : (s'.p.i : Int) < (ws.length : Int) := by omega
            clear hcell hrow hwv hget
            go_wp2_with fail
            go_quiet (fail)
            have hBq := hB.below (belowN (Below.refl _ w8) nq)
            have stq := st.below (belowN (Below.refl _ w8) nq)
            cases h1 : (y.1.toList == [111, 110, 101, 111, 102])
            rotate_left
            · obtain ⟨hBi, sti⟩ := hBq.inc (v := (s'.p.i : Int) + 1) rfl
              have hbi := incF_bnd H hbs (by rw [HY.out]; exact txt_pos h1)
              have HPT : Hid (ptF ws s' = onP ws (incF s')) := by
                show ptF ws s' = _
                unfold ptF
                rw [HY.out]
                simp only [h1, if_true]
                try rfl
              go_wp2_with fail
              refine (r35 hBi H hbi (by show s'.names.length ≤ 2001; have := hbs.names hbad2; omega)).mono ?_
              rintro e w9 ⟨M2, fv2, nl2, rfl, hB9, st9⟩
              go_wp2
              go_roundw
              case rel => exact ⟨n - 1, M2, fv2, ptF ws s', ptF_bnd H hbs, by omega, HL2, by rw [HPT.out]; exact hB9, (stq.trans sti).trans st9⟩
              case measure =>
                have hm9 : measW rb ws.length w9 = measP ws (ptF ws s').p := by rw [HPT.out]; exact hB9.r.meas
                rw [hm9, hmw0]
                exact hdec
            cases h2 : (y.1.toList == [109, 97, 112])
            rotate_left
            · obtain ⟨hBi, sti⟩ := hBq.inc (v := (s'.p.i : Int) + 1) rfl
              have hbi := incF_bnd H hbs (by rw [HY.out]; exact txt_pos h2)
              have HPT : Hid (ptF ws s' = mpP ws (incF s')) := by
                show ptF ws s' = _
                unfold ptF
                rw [HY.out]
                simp only [h1, h2, if_true, Bool.false_eq_true, if_false]
                try rfl
              go_wp2_with fail
              refine (r36 hBi H hbi.ok (by show s'.nums.length ≤ 2001; have := hbs.nums hbad2; omega) (by show s'.names.length ≤ 2001; have := hbs.names hbad2; omega)).mono ?_
              rintro e w9 ⟨M2, fv2, nl2, rfl, hB9, st9⟩
              go_wp2
              go_roundw
              case rel => exact ⟨n - 1, M2, fv2, ptF ws s', ptF_bnd H hbs, by omega, HL2, by rw [HPT.out]; exact hB9, (stq.trans sti).trans st9⟩
              case measure =>
                have hm9 : measW rb ws.length w9 = measP ws (ptF ws s').p := by rw [HPT.out]; exact hB9.r.meas
                rw [hm9, hmw0]
                exact hdec
            cases h3 : (y.1.toList == [114, 101, 112, 101, 97, 116, 101, 100])
            rotate_left
            · obtain ⟨hBi, sti⟩ := hBq.inc (v := (s'.p.i : Int) + 1) rfl
              have hbi := incF_bnd H hbs (by rw [HY.out]; exact txt_pos h3)
              have HPT : Hid (ptF ws s' = stF ws y.1 (incF s')) := by
                show ptF ws s' = _
                unfold ptF
                rw [HY.out]
                simp only [h1, h2, h3, Bool.true_or, if_true, Bool.false_eq_true, if_false]
                try rfl
              go_wp2_with fail
              refine (r38 hBi.r H hbi.ok.lt (by have := hbi.ok.used; have := hbi.ok.lt; have := H.len; omega)).mono ?_
              rintro e w10 ⟨rfl, M2, h10, st10⟩
              have hB10 := hBi.turn h10 st10
              have st11 := st10.bd mb fv' u4
              clear h10 st10
              go_wp2_with fail
              refine (r37b hB10 H (kdP_ok H hbi.ok).lt (by show s'.nums.length ≤ 2001; have := hbs.nums hbad2; omega) (by show s'.names.length ≤ 2001; have := hbs.names hbad2; omega) _ _ _ _ _).mono ?_
              rintro e w9 ⟨fv2, nl2, rfl, hB9, st9⟩
              go_wp2
              go_roundw
              case rel => exact ⟨n - 1, M2, fv2, ptF ws s', ptF_bnd H hbs, by omega, HL2, by rw [HPT.out]; exact hB9, ((stq.trans sti).trans st11).trans st9⟩
              case measure =>
                have hm9 : measW rb ws.length w9 = measP ws (ptF ws s').p := by rw [HPT.out]; exact hB9.r.meas
                rw [hm9, hmw0]
                exact hdec
            cases h4 : (y.1.toList == [111, 112, 116, 105, 111, 110, 97, 108])
            rotate_left
            · obtain ⟨hBi, sti⟩ := hBq.inc (v := (s'.p.i : Int) + 1) rfl
              have hbi := incF_bnd H hbs (by rw [HY.out]; exact txt_pos h4)
              have HPT : Hid (ptF ws s' = stF ws y.1 (incF s')) := by
                show ptF ws s' = _
                unfold ptF
                rw [HY.out]
                simp only [h1, h2, h3, h4, Bool.false_or, if_true, Bool.false_eq_true, if_false]
                try rfl
              go_wp2_with fail
              refine (r38 hBi.r H hbi.ok.lt (by have := hbi.ok.used; have := hbi.ok.lt; have := H.len; omega)).mono ?_
              rintro e w10 ⟨rfl, M2, h10, st10⟩
              have hB10 := hBi.turn h10 st10
              have st11 := st10.bd mb fv' u4
              clear h10 st10
              go_wp2_with fail
              refine (r37b hB10 H (kdP_ok H hbi.ok).lt (by show s'.nums.length ≤ 2001; have := hbs.nums hbad2; omega) (by show s'.names.length ≤ 2001; have := hbs.names hbad2; omega) _ _ _ _ _).mono ?_
              rintro e w9 ⟨fv2, nl2, rfl, hB9, st9⟩
              go_wp2
              go_roundw
              case rel => exact ⟨n - 1, M2, fv2, ptF ws s', ptF_bnd H hbs, by omega, HL2, by rw [HPT.out]; exact hB9, ((stq.trans sti).trans st11).trans st9⟩
              case measure =>
                have hm9 : measW rb ws.length w9 = measP ws (ptF ws s').p := by rw [HPT.out]; exact hB9.r.meas
                rw [hm9, hmw0]
                exact hdec
            have HPT : Hid (ptF ws s' = stF ws eS s') := by
              show ptF ws s' = _
              unfold ptF
              rw [HY.out]
              simp only [h1, h2, h3, h4, Bool.false_or, Bool.false_eq_true, if_false]
            go_wp2_with fail
            refine (r38 hBq.r H hbs.ok.lt (by have := hbs.ok.used; have := hbs.ok.lt; have := H.len; omega)).mono ?_
            rintro e w10 ⟨rfl, M2, h10, st10⟩
            have hB10 := hBq.turn h10 st10
            have st11 := st10.bd mb fv' u4
            clear h10 st10
            go_wp2_with fail
            refine (r37b hB10 H (kdP_ok H hbs.ok).lt (by show s'.nums.length ≤ 2001; have := hbs.nums hbad2; omega) (by show s'.names.length ≤ 2001; have := hbs.names hbad2; omega) _ _ _ _ _).mono ?_
            rintro e w9 ⟨fv2, nl2, rfl, hB9, st9⟩
            go_wp2
            go_roundw
            case rel => exact ⟨n - 1, M2, fv2, ptF ws s', ptF_bnd H hbs, by omega, HL2, by rw [HPT.out]; exact hB9, (stq.trans st11).trans st9⟩
            case measure =>
              have hm9 : measW rb ws.length w9 = measP ws (ptF ws s').p := by rw [HPT.out]; exact hB9.r.meas
              rw [hm9, hmw0]
              exact hdec
          · cases hbad : decide (s'.p.bad < 0)
            · obtain rfl : R = s' := by rw [← HL.out, msL_stop hstop]
              clear hstop
              go_wp2_with fail
              refine (r32 hB.r H hbs.ok.lt 0 (by omega) ⟨#[125]⟩).mono ?_
              rintro e w9 ⟨rfl, h9, st9⟩
              unfold wv2
              have hB9 := hB.turn h9 st9
              replace st := st.trans (st9.bd mb fv' u4)
              clear h9 st9 hB k1 k2
              have hfr : w9.ownsRow 0 145 5 fv' R.nums.length (R.nums.flatMap fldCells) := hB9.l.fr
              obtain ⟨fa, fn, fc, rfl⟩ := ownsRow_form hfr
              have hmblk := hB9.l.mblk
              have hnm := hB9.l.sep mb (.inl rfl)
              obtain ⟨mcs, hrm, hmc⟩ := hB9.r.hm
              obtain ⟨ma, mn, mc, hmv⟩ := ownsRow_form hrm
              rw [hmv] at hrm
              obtain rfl := ownsRow_len hrm
              have hsc := hB9.r.sc
              rw [hmv] at hsc
              have hrd := hB9.r.rd
              have hml : (nxP ws 0 ⟨#[125]⟩ R.p).msgs.length ≤ 2001 := by
                have e1 := msE_top ws p
                have e2 : msE ws p = R := HR.out
                rw [e2] at e1
                have e3 : R.p.msgs = p.msgs := congrArg (fun t => t.2.1) e1
                show R.p.msgs.length ≤ 2001
                rw [e3]
                exact hmm
              have HO : Hid (some M'.sb ≠ (Value.slice ma (nxP ws 0 ⟨#[125]⟩ R.p).msgs.length mc).ownBlock) := fun e => row_blk_ne hrm hB9.r.sc (by decide) _ e.symm rfl
              have HO2 : Hid (some rb ≠ (Value.slice ma (nxP ws 0 ⟨#[125]⟩ R.p).msgs.length mc).ownBlock) := fun e => row_blk_ne hrm hB9.r.rd (by decide) _ e.symm rfl
              obtain ⟨k1, k2⟩ := hrd.rules
              obtain ⟨q1, q2⟩ := hsc.rules
              obtain ⟨m1, m2⟩ := hmblk.rules
              obtain ⟨k3, k4⟩ := (hrd.alloc (Obj.cells #[.string x.1, .slice fa fn fc] 90)).rules
              obtain ⟨q3, q4⟩ := (hsc.alloc (Obj.cells #[.string x.1, .slice fa fn fc] 90)).rules
              go_wp2_with fail
              go_region_law (first | (refine step_append_lies _ (by rfl) _ _ _ (by rfl) 0 90 i68 _ 2 40 Tryz.underlying75 hi68 hz680 hz681 hz682 rfl (by omega) (.slice ma (nxP ws 0 ⟨#[125]⟩ R.p).msgs.length mc) (nxP ws 0 ⟨#[125]⟩ R.p).msgs.length mcs (by rfl) (hrm.alloc _) ⟨w9.heap.size, 0, none⟩ 1 1 [_, _] (by rfl) (by rfl) (World.news_of_block (t := 90) (fr := (0, 0)) (heap_alloc_new w9 _)) (by simp [Value.oneCell']) (by omega) (by unfold maxLen; omega) (by omega) (by omega) (w9.heap.size + 1) (by simp) ?_; intro gg cap w10 hown1 hgrow hat10 hlt10; obtain ⟨x1, x2⟩ := ((hsc.alloc _).drew.grown hgrow HO.out).rules; obtain ⟨x3, x4⟩ := ((hrd.alloc _).drew.grown hgrow HO2.out).rules))
              all_goals
                go_wp2
                go_end0
                have h10 := (hB9.r.alloc (Obj.cells #[.string x.1, .slice fa fn fc] 90)).drew
                obtain ⟨hR, hS⟩ := h10.addM (x := x.1) (w' := w10) (S := BothD M' rb mb (.slice fa fn fc) u4) (by rw [hmv]; exact hgrow) (hfr.alloc _) (hmc.keep (w' := (w9.alloc (Obj.cells #[.string x.1, .slice fa fn fc] 90)).drew) fun b _ hl => (((Below.refl w9.heap.size w9).alloc (Nat.le_refl _) (Obj.cells #[.string x.1, .slice fa fn fc] 90)).drew).block b hl) hown1 (fun b hb => by
                  have hbg : gg = b := by simpa [Value.ownBlock] using hb
                  subst hbg
                  rcases hat10 with h1 | h1
                  · left; rw [hmv]; exact h1
                  · right; simp; omega) (fun b hb => .inl hb) (fun b hb => .inr (.inr (.inl hb)))
                refine ⟨rfl, _, ?_, (st.alloc _).drew.trans hS⟩
                rw [HP.out]
                exact hR
            · have hat : atP ws ⟨#[125]⟩ s'.p = true := by rw [hbad] at hstop; simpa using hstop
              obtain rfl : R = s' := by rw [← HL.out, msL_stop hstop]
              clear hstop
              go_wp2_with fail
              refine (r34 hB.r hbs.ok.lt ⟨#[125]⟩).mono ?_
              rintro e w8 ⟨rfl, hb8⟩
              rw [hat]
              replace hB := hB.below hb8
              replace st := st.below hb8
              clear hb8
              go_wp2_with fail
              refine (r32 hB.r H hbs.ok.lt 0 (by omega) ⟨#[125]⟩).mono ?_
              rintro e w9 ⟨rfl, h9, st9⟩
              unfold wv2
              have hB9 := hB.turn h9 st9
              replace st := st.trans (st9.bd mb fv' u4)
              clear h9 st9 hB k1 k2
              have hfr : w9.ownsRow 0 145 5 fv' R.nums.length (R.nums.flatMap fldCells) := hB9.l.fr
              obtain ⟨fa, fn, fc, rfl⟩ := ownsRow_form hfr
              have hmblk := hB9.l.mblk
              have hnm := hB9.l.sep mb (.inl rfl)
              obtain ⟨mcs, hrm, hmc⟩ := hB9.r.hm
              obtain ⟨ma, mn, mc, hmv⟩ := ownsRow_form hrm
              rw [hmv] at hrm
              obtain rfl := ownsRow_len hrm
              have hsc := hB9.r.sc
              rw [hmv] at hsc
              have hrd := hB9.r.rd
              have hml : (nxP ws 0 ⟨#[125]⟩ R.p).msgs.length ≤ 2001 := by
                have e1 := msE_top ws p
                have e2 : msE ws p = R := HR.out
                rw [e2] at e1
                have e3 : R.p.msgs = p.msgs := congrArg (fun t => t.2.1) e1
                show R.p.msgs.length ≤ 2001
                rw [e3]
                exact hmm
              have HO : Hid (some M'.sb ≠ (Value.slice ma (nxP ws 0 ⟨#[125]⟩ R.p).msgs.length mc).ownBlock) := fun e => row_blk_ne hrm hB9.r.sc (by decide) _ e.symm rfl
              have HO2 : Hid (some rb ≠ (Value.slice ma (nxP ws 0 ⟨#[125]⟩ R.p).msgs.length mc).ownBlock) := fun e => row_blk_ne hrm hB9.r.rd (by decide) _ e.symm rfl
              obtain ⟨k1, k2⟩ := hrd.rules
              obtain ⟨q1, q2⟩ := hsc.rules
              obtain ⟨m1, m2⟩ := hmblk.rules
              obtain ⟨k3, k4⟩ := (hrd.alloc (Obj.cells #[.string x.1, .slice fa fn fc] 90)).rules
              obtain ⟨q3, q4⟩ := (hsc.alloc (Obj.cells #[.string x.1, .slice fa fn fc] 90)).rules
              go_wp2_with fail
              go_region_law (first | (refine step_append_lies _ (by rfl) _ _ _ (by rfl) 0 90 i68 _ 2 40 Tryz.underlying75 hi68 hz680 hz681 hz682 rfl (by omega) (.slice ma (nxP ws 0 ⟨#[125]⟩ R.p).msgs.length mc) (nxP ws 0 ⟨#[125]⟩ R.p).msgs.length mcs (by rfl) (hrm.alloc _) ⟨w9.heap.size, 0, none⟩ 1 1 [_, _] (by rfl) (by rfl) (World.news_of_block (t := 90) (fr := (0, 0)) (heap_alloc_new w9 _)) (by simp [Value.oneCell']) (by omega) (by unfold maxLen; omega) (by omega) (by omega) (w9.heap.size + 1) (by simp) ?_; intro gg cap w10 hown1 hgrow hat10 hlt10; obtain ⟨x1, x2⟩ := ((hsc.alloc _).drew.grown hgrow HO.out).rules; obtain ⟨x3, x4⟩ := ((hrd.alloc _).drew.grown hgrow HO2.out).rules))
              all_goals
                go_wp2
                go_end0
                have h10 := (hB9.r.alloc (Obj.cells #[.string x.1, .slice fa fn fc] 90)).drew
                obtain ⟨hR, hS⟩ := h10.addM (x := x.1) (w' := w10) (S := BothD M' rb mb (.slice fa fn fc) u4) (by rw [hmv]; exact hgrow) (hfr.alloc _) (hmc.keep (w' := (w9.alloc (Obj.cells #[.string x.1, .slice fa fn fc] 90)).drew) fun b _ hl => (((Below.refl w9.heap.size w9).alloc (Nat.le_refl _) (Obj.cells #[.string x.1, .slice fa fn fc] 90)).drew).block b hl) hown1 (fun b hb => by
                  have hbg : gg = b := by simpa [Value.ownBlock] using hb
                  subst hbg
                  rcases hat10 with h1 | h1
                  · left; rw [hmv]; exact h1
                  · right; simp; omega) (fun b hb => .inl hb) (fun b hb => .inr (.inr (.inl hb)))
                refine ⟨rfl, _, ?_, (st.alloc _).drew.trans hS⟩
                rw [HP.out]
                exact hR

end Go.Proofs.YtbbbegjedmicpaaGreatDoor
