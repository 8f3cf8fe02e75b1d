import Derived.Test.YtbbbegjedmicpaaGreatDoorRefP
import Derived.Test.YtbbbegjedmicpaaGreatDoorRefQ

/-
  THE REFERENCE, CONTRACT: Parse.
-/
namespace Go.Proofs.YtbbbegjedmicpaaGreatDoor
open Go.RowKit

theorem RdAt.inc {w : World} {rb : Nat} {M : Mem} {ws : List W} {p : PS} (h : RdAt w rb M ws p) :
    RdAt (w.setCell ⟨rb, 1, none⟩ (.int .i64 ((p.i : Int) + 1))) rb M ws (incP p) ∧ Step w (M.D rb) (w.setCell ⟨rb, 1, none⟩ (.int .i64 ((p.i : Int) + 1))) (M.D rb) := by
  have hk : Kept [rb] w (w.setCell ⟨rb, 1, none⟩ (.int .i64 ((p.i : Int) + 1))) := (Kept.refl _ _).set (by simp) _ _
  exact ⟨h.turn hk (by have := h.rd.set 1 (.int .i64 ((p.i : Int) + 1)); simpa using this), Step.rb hk⟩
theorem RdAt.setBad {w : World} {rb : Nat} {M : Mem} {ws : List W} {p : PS} (h : RdAt w rb M ws p) (v : Int) :
    RdAt (w.setCell ⟨rb, 2, none⟩ (.int .i64 v)) rb M ws { p with bad := v } ∧ Step w (M.D rb) (w.setCell ⟨rb, 2, none⟩ (.int .i64 v)) (M.D rb) := by
  have hk : Kept [rb] w (w.setCell ⟨rb, 2, none⟩ (.int .i64 v)) := (Kept.refl _ _).set (by simp) _ _
  exact ⟨h.turn hk (by have := h.rd.set 2 (.int .i64 v); simpa using this), Step.rb hk⟩
theorem usL_app (names : List ByteArray) : ∀ (a b : List W) (wr : Int), usL names (a ++ b) wr = usL names b (usL names a wr)
  | [], _, _ => rfl
  | u :: a, b, wr => by
    rw [List.cons_append, usL, usL, usL_app names a b]

set_option maxHeartbeats 8000000 in
set_option maxRecDepth 100000 in
theorem c6 (w : World) (t : ByteArray) (hmax : t.size ≤ 140737488355328) :
    Calls Tryz.prog 7 #[.string t] w (RefRet w (refI t)) := by
  generalize hr : refI t = r
  have HR : Hid (refI t = r) := hr
  clear hr
  by_cases hl : 2000 < t.size
  · have hd : (2000 : Int) < (t.size : Int) := by omega
    obtain rfl : r = .error (2, 0) := by rw [← HR.out, refI, if_pos hl]
    go_enter Tryz.func7, Tryz.ntmps7
    go_wp2
    go_ret3
    exact ⟨rfl, Below.refl _ _⟩
  · have ht : t.size ≤ 2000 := by omega
    have hd : decide ((2000 : Int) < (t.size : Int)) = false := by simp; omega
    have H := allWords_R t ht
    obtain ⟨ws, hws⟩ : ∃ ws, allWords t = ws := ⟨_, rfl⟩
    have HWS : Hid (allWords t = ws) := hws
    have hne : 0 < ws.length := by rw [← hws, allWords_len]; omega
    rw [hws] at H
    have HF : Hid (r = if 0 ≤ (prL ws ws.length p00).bad then .error (2, (prL ws ws.length p00).bad)
        else if 0 ≤ usL (prL ws ws.length p00).names (prL ws ws.length p00).used (prL ws ws.length p00).wrong then .error (3, usL (prL ws ws.length p00).names (prL ws ws.length p00).used (prL ws ws.length p00).wrong)
        else .ok ⟨(prL ws ws.length p00).msgs, (prL ws ws.length p00).enums⟩) := by
      show r = _
      rw [← HR.out, refI, if_neg hl]
      unfold refR
      rw [hws]
    clear hl hws
    obtain ⟨R, hRR⟩ : ∃ R, prL ws ws.length p00 = R := ⟨_, rfl⟩
    rw [hRR] at HF
    have HRL : Hid (prL ws ws.length p00 = R) := hRR
    have pb0 : PB ws p00 := ⟨⟨hne, Nat.le_refl _⟩, Nat.le_refl _, Nat.le_refl _, Nat.le_refl _⟩
    have pbR : PB ws R := by rw [← hRR]; exact prL_pb H _ _ pb0
    clear hRR
    go_enter Tryz.func7, Tryz.ntmps7
    go_wp2_with fail
    refine (c17 t _ ht).mono ?_
    rintro e w1 ⟨wv, rfl, hrow, hb1⟩
    rw [HWS.out] at hrow
    obtain ⟨va, vn, vc, rfl⟩ := ownsRow_form hrow
    have hA : RdAt ((w1.alloc (Obj.cells #[.slice none 0 0, .slice none 0 0] 77)).alloc (Obj.cells #[.slice va vn vc, .int .i64 0, .int .i64 (-1), .int .i64 (-1), .pointer (some ⟨w1.heap.size, 0, none⟩), .slice none 0 0, .slice none 0 0, .slice none 0 0] 79)) (w1.heap.size + 1) ⟨w1.heap.size, .slice va vn vc, .slice none 0 0, .slice none 0 0, .slice none 0 0, .slice none 0 0, fun _ => False⟩ ws p00 := by
      refine ⟨Blk.new1 _ _ _ _, (Blk.new _ _ _).alloc _, ownsRow_base ((hrow.alloc _).alloc _) (Nat.zero_le _), World.ownsRow_nil _ _ _ _, World.ownsRow_nil _ _ _ _, World.ownsRow_nil _ _ _ _, ⟨[], World.ownsRow_nil _ _ _ _, rfl⟩, fun b _ hx => (by cases hx), fun b hx => (by cases hx), fun b hx => hx.elim⟩
    have stA : Step w (fun _ => False) ((w1.alloc (Obj.cells #[.slice none 0 0, .slice none 0 0] 77)).alloc (Obj.cells #[.slice va vn vc, .int .i64 0, .int .i64 (-1), .int .i64 (-1), .pointer (some ⟨w1.heap.size, 0, none⟩), .slice none 0 0, .slice none 0 0, .slice none 0 0] 79)) ((⟨w1.heap.size, .slice va vn vc, .slice none 0 0, .slice none 0 0, .slice none 0 0, .slice none 0 0, fun _ => False⟩ : Mem).D (w1.heap.size + 1)) := by
      have hB := (hb1.alloc hb1.size (Obj.cells #[.slice none 0 0, .slice none 0 0] 77)).alloc (by have := hb1.size; simp; omega) (Obj.cells #[.slice va vn vc, .int .i64 0, .int .i64 (-1), .int .i64 (-1), .pointer (some ⟨w1.heap.size, 0, none⟩), .slice none 0 0, .slice none 0 0, .slice none 0 0] 79)
      refine ⟨hB.os, hB.tape, hB.output, hB.size, fun b hb _ => hB.block b hb, fun b hb => ?_⟩
      have := hb1.size
      rcases hb with hb | hb | hb | hb | hb | hb | hb
      · right; omega
      · right; simp only at hb; omega
      · cases hb
      · cases hb
      · cases hb
      · cases hb
      · exact hb.elim
    go_wp2_with fail
    generalize (w1.alloc (Obj.cells #[.slice none 0 0, .slice none 0 0] 77)).alloc (Obj.cells #[.slice va vn vc, .int .i64 0, .int .i64 (-1), .int .i64 (-1), .pointer (some ⟨w1.heap.size, 0, none⟩), .slice none 0 0, .slice none 0 0, .slice none 0 0] 79) = w2 at *
    generalize w1.heap.size + 1 = rb at *
    go_loopw [] (fun wr => ∃ (n : Nat) (M : Mem) (p : PS), PB ws p ∧ measP ws p ≤ n ∧ Hid (prL ws n p = R) ∧ RdAt wr rb M ws p ∧ Step w (fun _ => False) wr (M.D rb)) (fun wr => measW rb ws.length wr)
    case atStart => exact ⟨ws.length, _, p00, pb0, by unfold measP; split <;> omega, HRL, hA, stA⟩
    case round =>
      clear hA stA hrow hb1
      obtain ⟨n, M, p, pb, hms, HL, hA, stA⟩ := hrel
      have hmw0 := hA.meas
      have hln : p.i < 2001 := Nat.lt_of_lt_of_le pb.ok.lt H.len
      have hrow := hA.hw
      have hrd := hA.rd
      obtain ⟨va, vn, vc, hwv⟩ := ownsRow_form hrow
      rw [hwv] at hrow hrd
      obtain rfl := ownsRow_len hrow
      obtain ⟨k1, k2⟩ := hrd.rules
      cases hbad : decide (p.bad < 0)
      · have hstop : (decide (p.bad < 0) && decide (p.i + 1 < ws.length)) = false := by rw [hbad]; rfl
        obtain rfl : R = p := by rw [← HL.out, prL_stop hstop]
        clear hstop
        have hb2 : 0 ≤ R.bad := by have := of_decide_eq_false hbad; omega
        obtain rfl : r = .error (2, R.bad) := by rw [HF.out, if_pos hb2]
        go_wp2_with fail
        go_quiet (fail)
        go_wp2_with fail
        go_quiet (fail)
        go_wp2
        go_ret3
        exact ⟨rfl, belowN (belowN (stA.to_below (Nat.le_refl _) (fun _ h => h.elim)) _) _⟩
      have hbad2 : p.bad < 0 := of_decide_eq_true hbad
      cases hlen : decide (p.i + 1 < ws.length)
      · have hstop : (decide (p.bad < 0) && decide (p.i + 1 < ws.length)) = false := by rw [hlen]; simp
        obtain rfl : R = p := by rw [← HL.out, prL_stop hstop]
        clear hstop
        have hlen2 : decide ((R.i : Int) + 1 < (ws.length : Int)) = false := by have := of_decide_eq_false hlen; simp; omega
        have hnb : decide (0 ≤ R.bad) = false := by simp; omega
        have HF2 : Hid (r = if 0 ≤ usL R.names R.used R.wrong then .error (3, usL R.names R.used R.wrong) else .ok ⟨R.msgs, R.enums⟩) := by
          have := HF.out
          rw [if_neg (by omega)] at this
          exact this
        have hun : R.used.length ≤ 2001 := by have := pb.ok.used; omega
        have hnn : R.names.length ≤ 2001 := by have := pb.names; omega
        obtain ⟨na, nn, nc, hnv⟩ := ownsRow_form hA.hn
        obtain ⟨ua, un, uc, huv⟩ := ownsRow_form hA.hu
        have hrnN := hA.hn
        have hruU := hA.hu
        rw [hnv] at hrnN
        rw [huv] at hruU
        obtain rfl := ownsRow_len hruU
        clear hlen
        go_wp2_with fail
        go_quiet (fail)
        replace hA := hA.drewN nq
        replace stA := stA.drewN nq
        clear k1 k2 hrow
        generalize wr.drewN nq = w3 at *
        obtain ⟨k1, k2⟩ := hA.rd.rules
        go_wp2_with fail
        go_loopw [6] (fun i wr => ∃ (k : Nat) (g : Int), k ≤ R.used.length ∧ i = .int .i64 k ∧ Hid (usL R.names (R.used.drop k) g = usL R.names R.used R.wrong) ∧ RdAt wr rb M ws { R with wrong := g } ∧ Step w (fun _ => False) wr (M.D rb)) (fun i _ => R.used.length - (intOf i).toNat)
        case atStart => exact ⟨0, R.wrong, Nat.zero_le _, rfl, rfl, hA, stA⟩
        case round =>
          clear hA stA k1 k2 hrd hrnN hruU
          obtain ⟨k, g, hk, rfl, HU, hA, stA⟩ := hrel
          have hrd := hA.rd
          have hrnN := hA.hn
          have hruU := hA.hu
          rw [hnv] at hrnN
          rw [huv] at hruU
          rw [hnv, huv] at hrd
          obtain ⟨k1, k2⟩ := hrd.rules
          by_cases hlt : k < R.used.length
          · obtain ⟨x, hx⟩ := gx hlt
            have hdrop : R.used.drop k = x :: R.used.drop (k + 1) := by
              rw [List.drop_eq_getElem_cons hlt]
              rw [List.getElem?_eq_getElem hlt] at hx
              rw [Option.some.inj hx]
            have HU2 : Hid (usL R.names (R.used.drop (k + 1)) (if memS R.names x.1 then g else wrongI g x.2) = usL R.names R.used R.wrong) := by
              have := HU.out
              rw [hdrop, usL] at this
              exact this
            obtain ⟨_, _, gb, rfl, hgl, hcell⟩ := row_word hruU hx
            obtain ⟨q1, q2⟩ := hcell _ rfl
            have hli : (k : Int) < (R.used.length : Int) := by omega
            have hlt0 := (inF_R R.names x.1 0 (by omega)).lt
            clear hcell hdrop HU
            cases hm : memS R.names x.1
            · rw [hm] at hlt0
              go_wp2_with fail
              go_quiet (first | (go_at_call 25; refine Calls.quiet_of_same (c20d _ _ _ R.names x.1 (by omega) hrnN)))
              go_wp2_with fail
              refine (r21 (hA.drewN nq) x).mono ?_
              rintro e w5 ⟨rfl, h5, st5⟩
              go_wp2
              go_roundw
              case rel => exact ⟨k + 1, wrongI g x.2, by omega, by go_num, by have := HU2.out; rw [hm] at this; exact this, h5, (stA.drewN nq).trans st5⟩
              case measure => simp [intOf]; omega
            · rw [hm] at hlt0
              go_wp2_with fail
              go_quiet (first | (go_at_call 25; refine Calls.quiet_of_same (c20d _ _ _ R.names x.1 (by omega) hrnN)))
              go_wp2
              go_roundw
              case rel => exact ⟨k + 1, g, by omega, by go_num, by have := HU2.out; rw [hm] at this; exact this, hA.drewN _, stA.drewN _⟩
              case measure => simp [intOf]; omega
          · have hli : ¬ (k : Int) < (R.used.length : Int) := by omega
            have HG : Hid (usL R.names R.used R.wrong = g) := by
              have := HU.out
              rw [List.drop_eq_nil_iff.2 (by omega)] at this
              exact this.symm
            cases hw : decide (0 ≤ g)
            · have hw2 : ¬ 0 ≤ g := of_decide_eq_false hw
              obtain rfl : r = .ok ⟨R.msgs, R.enums⟩ := by rw [HF2.out, HG.out, if_neg hw2]
              go_wp2
              go_ret3
              refine ⟨⟨M.sb, rfl, ?_, by have := pb.msgs; show R.msgs.length ≤ 2001; omega⟩, stA.to_below (Nat.le_refl _) (fun _ h => h.elim)⟩
              obtain ⟨cs, hm1, hm2⟩ := hA.hm
              have hge : ∀ b, M.D rb b → w.heap.size ≤ b := fun b hb => (stA.grow b hb).elim (fun h => h.elim) (fun h => h)
              exact ⟨M.mv, M.ev, cs, hA.sc, hge _ (.inr (.inl rfl)), ⟨hm1, fun b hb => hge b (.inr (.inr (.inr (.inr (.inl hb)))))⟩, hm2.imp fun b hb => hge b (.inr (.inr (.inr (.inr (.inr (.inr hb)))))), hA.he, fun b hb => hge b (.inr (.inr (.inr (.inr (.inr (.inl hb))))))⟩
            · have hw2 : 0 ≤ g := of_decide_eq_true hw
              obtain rfl : r = .error (3, g) := by rw [HF2.out, HG.out, if_pos hw2]
              go_wp2_with fail
              go_quiet (fail)
              go_wp2
              go_ret3
              exact ⟨rfl, belowN (stA.to_below (Nat.le_refl _) (fun _ h => h.elim)) _⟩
      · have hlen1 : p.i + 1 < ws.length := of_decide_eq_true hlen
        have hlen2 : (p.i : Int) + 1 < (ws.length : Int) := by omega
        have hgo : (decide (p.bad < 0) && decide (p.i + 1 < ws.length)) = true := by rw [hbad, hlen]; rfl
        have hdec := prS_meas (ws := ws) hbad2 hlen1
        have HL2 : Hid (prL ws (n - 1) (prS ws p) = R) := by
          have := HL.out
          rw [prL_go hgo (by omega)] at this
          exact this
        have pb2 := prS_pb H pb hlen1
        have hi := incP_ok pb.ok hlen1
        obtain ⟨y, hy⟩ : ∃ y, hand ws p = y := ⟨_, rfl⟩
        have HY : Hid (hand ws p = y) := hy
        have hget := hand_get pb.ok.lt
        rw [hy] at hget
        clear hy hgo hlen
        obtain ⟨_, hlt, g, rfl, hgl, hcell⟩ := row_word hrow hget
        obtain ⟨q1, q2⟩ := hcell _ rfl
        have hi1 : (p.i : Int) < (ws.length : Int) := by omega
        clear hcell hrow hget
        go_wp2_with fail
        go_quiet (fail)
        replace hA := hA.drewN nq
        replace stA := stA.drewN nq
        replace hrd : Blk (wr.drewN nq) _ _ _ := hrd
        replace q1 : (wr.drewN nq).cell? _ = _ := q1
        replace q2 : (wr.drewN nq).cell? _ = _ := q2
        clear k1 k2
        generalize wr.drewN nq = w3 at *
        obtain ⟨k1, k2⟩ := hrd.rules
        go_wp2_with fail
        go_quiet (fail)
        replace hA := hA.drewN nq
        replace stA := stA.drewN nq
        replace hrd : Blk (w3.drewN nq) _ _ _ := hrd
        replace q1 : (w3.drewN nq).cell? _ = _ := q1
        replace q2 : (w3.drewN nq).cell? _ = _ := q2
        clear k1 k2
        generalize w3.drewN nq = w4 at *
        obtain ⟨k1, k2⟩ := hrd.rules
        cases h1 : (y.1.toList == [109, 101, 115, 115, 97, 103, 101])
        rotate_left
        · obtain ⟨hAi, sti⟩ := hA.inc
          have HPS : Hid (prS ws p = msP ws (incP p)) := by
            show prS ws p = _
            unfold prS
            rw [HY.out, h1, if_pos rfl]
          go_wp2_with fail
          refine (r18 hAi H hi (by show p.names.length ≤ 2001; have := pb.names; omega) (by show p.msgs.length ≤ 2001; have := pb.msgs; omega)).mono ?_
          rintro e w5 ⟨rfl, M2, h5, st5⟩
          go_wp2
          go_roundw
          case rel => exact ⟨n - 1, M2, prS ws p, pb2, by omega, HL2, by rw [HPS.out]; exact h5, (stA.trans sti).trans st5⟩
          case measure =>
            have hm9 : measW rb ws.length w5 = measP ws (prS ws p) := by rw [HPS.out]; exact h5.meas
            rw [hm9, hmw0]
            exact hdec
        cases h2 : (y.1.toList == [101, 110, 117, 109])
        rotate_left
        · obtain ⟨hAi, sti⟩ := hA.inc
          have HPS : Hid (prS ws p = enP ws (incP p)) := by
            show prS ws p = _
            unfold prS
            rw [HY.out, h1, h2, if_neg (by decide), if_pos rfl]
          go_wp2_with fail
          refine (r19 hAi H hi (by show p.names.length ≤ 2001; have := pb.names; omega) (by show p.enums.length ≤ 2001; have := pb.enums; omega)).mono ?_
          rintro e w5 ⟨rfl, M2, h5, st5⟩
          go_wp2
          go_roundw
          case rel => exact ⟨n - 1, M2, prS ws p, pb2, by omega, HL2, by rw [HPS.out]; exact h5, (stA.trans sti).trans st5⟩
          case measure =>
            have hm9 : measW rb ws.length w5 = measP ws (prS ws p) := by rw [HPS.out]; exact h5.meas
            rw [hm9, hmw0]
            exact hdec
        · have HPS : Hid (prS ws p = { p with bad := y.2 }) := by
            show prS ws p = _
            unfold prS
            rw [HY.out, h1, h2, if_neg (by decide), if_neg (by decide)]
          obtain ⟨h5, st5⟩ := hA.drew.setBad (y.2 : Int)
          go_wp2_with fail
          go_region
          go_wp2
          go_roundw
          case rel => exact ⟨n - 1, M, prS ws p, pb2, by omega, HL2, by rw [HPS.out]; exact h5, stA.drew.trans st5⟩
          case measure =>
            have hm9 : measW rb ws.length (w4.setCell ⟨rb, 2, none⟩ (.int .i64 y.2)).drew = measP ws (prS ws p) := by rw [HPS.out]; exact h5.meas
            rw [hm9, hmw0]
            exact hdec

end Go.Proofs.YtbbbegjedmicpaaGreatDoor
