import Derived.Test.YtbbbegjedmicpaaGreatDoorRdJ
import Derived.Deep.RegionHeld3
import Derived.Deep.AppendLies
import Derived.Deep.DrawnRows
import Derived.Deep.RegionLaw
import Derived.Deep.CutRange
import Derived.Deep.Light

/-
  CONTRACT: enum.
-/
namespace Go.Proofs.YtbbbegjedmicpaaGreatDoor
open Go.RowKit
attribute [local go_sem] f91_0 f91_1 f91_2
attribute [local go_sem ↓] Go.wp_at_zero Go.wp_at_succ

set_option maxRecDepth 100000 in
set_option maxHeartbeats 268435456 in
theorem c60 (w : World) (rb wb : Nat) (ws : List W) (i : Nat) (R : Rd w rb wb ws i) :
    Calls Tryz.prog 123 #[.pointer (some ⟨rb, 0, none⟩)] w (Post w rb wb ws (enumP ws i) (BlockRet w)) := by
  obtain ⟨i0, hi0, hz0, hz1, hz2⟩ := info_parts Tryz.info243
  have A0 : Adv w.heap.size rb w (w.alloc (Obj.cells #[.bool false, .int .i64 0, .string ⟨#[]⟩, .int .i64 0, .slice none 0 0, .slice none 0 0] 118)) i := Adv.of_below R.next ((Below.refl w.heap.size w).alloc (Nat.le_refl _) _)
  have R0 := R.alloc (Obj.cells #[.bool false, .int .i64 0, .string ⟨#[]⟩, .int .i64 0, .slice none 0 0, .slice none 0 0] 118)
  have K0 := Blk.new w #[.bool false, .int .i64 0, .string ⟨#[]⟩, .int .i64 0, .slice none 0 0, .slice none 0 0] 118
  have n1 : ¬ w.heap.size = rb := by have := R.blocks; omega
  have n3 : ¬ rb = w.heap.size := by omega
  have z0 : w.heap.size < (w.alloc (Obj.cells #[.bool false, .int .i64 0, .string ⟨#[]⟩, .int .i64 0, .slice none 0 0, .slice none 0 0] 118)).heap.size := by simp
  generalize hr : enumP ws i = r
  have HR : Hid (enumP ws i = r) := hr
  clear hr
  go_enter Tryz.func123, Tryz.ntmps123
  go_wp2_with fail
  refine (c67 _ rb wb ws i _ [101, 110, 117, 109] R0 (by decide +kernel) (by decide)).mono ?_
  cases h1 : skipP ws [101, 110, 117, 109] i with
  | error p =>
    rintro e w1 ⟨rfl, j, A⟩
    obtain rfl : r = .error p := by rw [← HR.out, enumP, andP_err h1]
    unfold fault
    go_wp2
    exact ⟨rfl, rfl, j, A0.trans A (by omega)⟩
  | ok q =>
    obtain ⟨_, i1⟩ := q
    rintro e w1 ⟨rfl, R1, A⟩
    have z1 : w.heap.size < w1.heap.size := Nat.lt_of_lt_of_le z0 A.size
    have K1 := K0.adv_ A z0 n1
    have A1 := A0.trans A (by omega)
    clear A R0 K0 A0 z0
    go_wp2_with fail
    refine (c68 _ rb wb ws i1 1 R1 (by decide)).mono ?_
    cases h2 : kindP ws 1 i1 with
    | error p =>
      rintro e w2 ⟨rfl, j, A⟩
      obtain rfl : r = .error p := by rw [← HR.out, enumP, andP_go h1, andP_err h2]
      unfold fault
      go_wp2
      exact ⟨rfl, rfl, j, A1.trans A (by omega)⟩
    | ok q =>
      obtain ⟨x, i2⟩ := q
      rintro e w2 ⟨rfl, R2, A⟩
      have z2 : w.heap.size < w2.heap.size := Nat.lt_of_lt_of_le z1 A.size
      have K2 := (K1.adv_ A z1 n1).alloc (Obj.cells #[.bool true, .int .i64 (kindW x.1), .string x.1, .int .i64 x.2, .slice none 0 0, .slice none 0 0] 118)
      have J2 := Blk.new w2 #[.bool true, .int .i64 (kindW x.1), .string x.1, .int .i64 x.2, .slice none 0 0, .slice none 0 0] 118
      have A2 := (A1.trans A (by omega)).alloc (Nat.le_refl _) (Obj.cells #[.bool true, .int .i64 (kindW x.1), .string x.1, .int .i64 x.2, .slice none 0 0, .slice none 0 0] 118)
      have R3 := R2.alloc (Obj.cells #[.bool true, .int .i64 (kindW x.1), .string x.1, .int .i64 x.2, .slice none 0 0, .slice none 0 0] 118)
      have z3 : w2.heap.size < (w2.alloc (Obj.cells #[.bool true, .int .i64 (kindW x.1), .string x.1, .int .i64 x.2, .slice none 0 0, .slice none 0 0] 118)).heap.size := by simp
      have n5 : ¬ w2.heap.size = rb := by have := R.blocks; omega
      have n6 : ¬ w2.heap.size = w.heap.size := by omega
      have n7 : rb < w2.heap.size := by have := R.blocks; omega
      clear A R1 K1 A1 z1
      go_wp2_with fail
      refine (c67 _ rb wb ws i2 _ [123] R3 (by decide +kernel) (by decide)).mono ?_
      cases h3 : skipP ws [123] i2 with
      | error p =>
        rintro e w3 ⟨rfl, j, A⟩
        obtain rfl : r = .error p := by rw [← HR.out, enumP, andP_go h1, andP_go h2, andP_err h3]
        unfold fault
        go_wp2
        exact ⟨rfl, rfl, j, A2.trans A (by omega)⟩
      | ok q =>
        obtain ⟨_, i3⟩ := q
        rintro e w3 ⟨rfl, R4, A⟩
        have z4 : w2.heap.size < w3.heap.size := Nat.lt_of_lt_of_le z3 A.size
        have K4 := K2.adv_ A (by omega) n1
        have J4 := J2.adv_ A z3 n5
        have A4 := A2.trans A (by omega)
        clear A R2 R3 K2 J2 A2 z3
        obtain ⟨M, HM⟩ : ∃ M, Hid (manyP (isTxt ws [125]) (numP ws) ws.length i3 = M) := ⟨_, rfl⟩
        have HR2 : Hid ((andP M fun l i => andP (skipP ws [125] i) fun _ i => .ok (⟨true, x, [], l⟩, i)) = r) := by
          have := HR.out
          rw [enumP, andP_go h1, andP_go h2, andP_go h3, HM.out] at this
          exact this
        clear HR h1 h2 h3
        go_wp2_with fail
        go_loopw [15] (fun _ wr => ∃ (n k : Nat) (vs : List (W × W)) (va : Option Addr) (vn vc : Nat), vs.length ≤ k ∧ ws.length - k ≤ n ∧ Hid (preP vs (manyP (isTxt ws [125]) (numP ws) n k) = M) ∧ Rd wr rb wb ws k ∧ Adv w.heap.size rb w wr k ∧ Blk wr w.heap.size #[.bool false, .int .i64 0, .string ⟨#[]⟩, .int .i64 0, .slice none 0 0, .slice none 0 0] 118 ∧ Blk wr w2.heap.size #[.bool true, .int .i64 (kindW x.1), .string x.1, .int .i64 x.2, .slice none 0 0, .slice va vn vc] 118 ∧ wr.ownsRow (w2.heap.size + 1) 243 6 (.slice va vn vc) vs.length (vs.flatMap vcI) ∧ w2.heap.size < wr.heap.size) (fun _ wr => ws.length - nextOf rb wr)
        case atStart =>
          refine ⟨ws.length, i3, [], none, 0, 0, by simp, by omega, ?_, R4, A4, K4, J4, World.ownsRow_nil _ _ _ _, z4⟩
          rw [← HM.out]
          unfold Hid preP andP
          cases manyP (isTxt ws [125]) (numP ws) ws.length i3 <;> rfl
        case round =>
          clear J4 R4 K4 A4 z4 HM
          obtain ⟨n, k, vs, va, vn, vc, hfl, hn, HP, RR, AA, KK, J, hown, hz⟩ := hrel
          have hk := RR.lt
          have hfew := RR.few
          have HN : Hid (nextOf rb wr = k) := RR.nextOf
          obtain ⟨y, hy⟩ := RR.word
          cases hs : (y.1.toList == [125])
          · have hst : isTxt ws [125] k = false := by unfold isTxt; grind
            have HY : Hid (ws[k]? = some y) := hy
            clear hy
            go_wp2_with fail
            refine (c59 _ rb wb ws k y _ RR HY.out).mono ?_
            rintro e w3 ⟨rfl, hw3⟩
            rw [show (ByteArray.mk #[125]).toList = [125] from by decide +kernel]
            have R3 := RR.below hw3 RR.blocks.1 RR.blocks.2
            have A3 := AA.below hw3 AA.size
            have K3 := KK.below hw3 KK.lt
            have J3 := J.below hw3 J.lt
            have hown3 : w3.ownsRow (w2.heap.size + 1) 243 6 (.slice va vn vc) vs.length (vs.flatMap vcI) := ownsRow_below hw3 hown
            have hz3 : w2.heap.size < w3.heap.size := Nat.lt_of_lt_of_le hz hw3.size
            have HO : Hid (some w2.heap.size ≠ (Value.slice va vn vc).ownBlock) := by
              intro e
              have := (hown3.lt _ e.symm).1
              omega
            clear RR AA KK J hown hz hw3
            go_wp2_with fail
            refine (c69 _ rb wb ws k R3).mono ?_
            cases h4 : numP ws k with
            | error p =>
              rintro e w4 ⟨rfl, j, A⟩
              obtain rfl : r = .error p := by
                rw [← HR2.out, ← HP.out, manyP_err hst (by omega) h4]; rfl
              unfold fault
              go_wp2
              exact ⟨rfl, rfl, j, A3.trans A A3.size⟩
            | ok q =>
              obtain ⟨q, k1⟩ := q
              rintro e w4 ⟨rfl, R5, A⟩
              have hk1 : k < k1 := numP_on _ _ _ _ h4
              have HP2 : Hid (preP (vs ++ [q]) (manyP (isTxt ws [125]) (numP ws) (n - 1) k1) = M) := by
                rw [← HP.out, manyP_go vs hst (by omega) h4]; rfl
              have hz4 : w3.heap.size ≤ w4.heap.size := A.size
              have A4 := (((A3.trans A A3.size).alloc (Nat.le_refl _) (Obj.cells #[.int .i64 (kindW q.1.1), .string q.1.1, .int .i64 q.1.2] 114)).alloc (Nat.le_refl _) (Obj.cells #[.int .i64 (kindW q.2.1), .string q.2.1, .int .i64 q.2.2] 114))
              have K4 := ((K3.adv_ A (by omega) n1).alloc (Obj.cells #[.int .i64 (kindW q.1.1), .string q.1.1, .int .i64 q.1.2] 114)).alloc (Obj.cells #[.int .i64 (kindW q.2.1), .string q.2.1, .int .i64 q.2.2] 114)
              have J4 := ((J3.adv_ A (by omega) n5).alloc (Obj.cells #[.int .i64 (kindW q.1.1), .string q.1.1, .int .i64 q.1.2] 114)).alloc (Obj.cells #[.int .i64 (kindW q.2.1), .string q.2.1, .int .i64 q.2.2] 114)
              have hown4 : ((w4.alloc (Obj.cells #[.int .i64 (kindW q.1.1), .string q.1.1, .int .i64 q.1.2] 114)).alloc (Obj.cells #[.int .i64 (kindW q.2.1), .string q.2.1, .int .i64 q.2.2] 114)).ownsRow (w2.heap.size + 1) 243 6 (.slice va vn vc) vs.length (vs.flatMap vcI) := ((ownsRow_adv A (Nat.le_refl _) (by omega) hown3).alloc _).alloc _
              have HW : Hid (∀ j u, [.int .i64 (kindW q.1.1), .string q.1.1, .int .i64 q.1.2, .int .i64 (kindW q.2.1), .string q.2.1, .int .i64 q.2.2][j]? = some u → (((w4.alloc (Obj.cells #[.int .i64 (kindW q.1.1), .string q.1.1, .int .i64 q.1.2] 114)).alloc (Obj.cells #[.int .i64 (kindW q.2.1), .string q.2.1, .int .i64 q.2.2] 114)).alloc (Obj.cells #[.int .i64 (kindW q.1.1), .string q.1.1, .int .i64 q.1.2, .int .i64 (kindW q.2.1), .string q.2.1, .int .i64 q.2.2] 243)).cell? ((⟨w4.heap.size + 1 + 1, 0, none⟩ : Addr).add j) = some u) := by
                have := World.news_of_block (cs := #[.int .i64 (kindW q.1.1), .string q.1.1, .int .i64 q.1.2, .int .i64 (kindW q.2.1), .string q.2.1, .int .i64 q.2.2]) (t := 243) (fr := (0, 0)) (heap_alloc_new ((w4.alloc (Obj.cells #[.int .i64 (kindW q.1.1), .string q.1.1, .int .i64 q.1.2] 114)).alloc (Obj.cells #[.int .i64 (kindW q.2.1), .string q.2.1, .int .i64 q.2.2] 114)) (Obj.cells #[.int .i64 (kindW q.1.1), .string q.1.1, .int .i64 q.1.2, .int .i64 (kindW q.2.1), .string q.2.1, .int .i64 q.2.2] 243))
                simp only [World.size_alloc] at this
                exact this
              obtain ⟨j1, j2⟩ := J4.rules
              obtain ⟨m1, m2⟩ := (J4.alloc (Obj.cells #[.int .i64 (kindW q.1.1), .string q.1.1, .int .i64 q.1.2, .int .i64 (kindW q.2.1), .string q.2.1, .int .i64 q.2.2] 243)).rules
              go_wp2_with (first | (at_builtin; refine wpList_append_lies _ rfl _ _ _ rfl (w2.heap.size + 1) 243 i0 _ 6 64 Tryz.underlying116 hi0 hz0 hz1 hz2 rfl (by omega) (.slice va vn vc) vs.length (vs.flatMap vcI) rfl (hown4.alloc _) ⟨w4.heap.size + 1 + 1, 0, none⟩ 1 1 [.int .i64 (kindW q.1.1), .string q.1.1, .int .i64 q.1.2, .int .i64 (kindW q.2.1), .string q.2.1, .int .i64 q.2.2] rfl rfl HW.out ?h1 ?hm ?h63 ?hby ?hba (w4.heap.size + 1 + 1 + 1) ?hH ?_; rotate_right; intro gg cap w5 hown1 hgrow hat hlt; obtain ⟨x1, x2⟩ := ((J4.alloc _).grown hgrow HO.out).rules))
              case h1 => intro u hu; simp at hu; rcases hu with rfl | rfl | rfl | rfl | rfl | rfl <;> rfl
              case hm => omega
              case h63 => unfold maxLen; omega
              case hby => omega
              case hba => simp; omega
              case hH => simp
              have hz5 := hgrow.size
              have A6 := ((A4.alloc (Nat.le_refl _) _).grown hgrow (Nat.le_refl _) (fun j hj => by have := (hown3.lt j hj).1; omega)).setCell (a := ⟨w2.heap.size, 5, none⟩) (by grind) (.slice (some ⟨gg, 0, none⟩) (vs.length + 1) cap)
              have R6 := A6.rd R R.blocks.1 R.blocks.2 R5.lt
              refine ⟨⟨n - 1, k1, vs ++ [q], some ⟨gg, 0, none⟩, vs.length + 1, cap, by grind, by omega, HP2, R6, A6, ?_, ?_, ?_, ?_⟩, ?_⟩
              · exact ((K4.alloc _).grown hgrow (fun e => by have := (hown3.lt _ e.symm).1; omega)).other 5 _ n6
              · exact ((J4.alloc _).grown hgrow HO.out).set 5 _
              · have := ownsRow_setCell_below hown1 (a := ⟨w2.heap.size, 5, none⟩) (by simp) (.slice (some ⟨gg, 0, none⟩) (vs.length + 1) cap)
                simpa [vcI, wcI] using this
              · simp [World.setCell] at hz5 ⊢; omega
              · have h6 := R6.lt
                rw [R6.nextOf, HN.out]
                omega
          · have hst : isTxt ws [125] k = true := by unfold isTxt; grind
            have h5 : skipP ws [125] k = .ok ((), k + 1) := by unfold skipP; grind
            have HY : Hid (ws[k]? = some y) := hy
            clear hy
            obtain rfl : r = .ok (⟨true, x, [], vs⟩, k + 1) := by
              rw [← HR2.out, ← HP.out, manyP_stop hst]
              simp only [preP, andP, h5, List.append_nil]
            go_wp2_with fail
            refine (c59 _ rb wb ws k y _ RR HY.out).mono ?_
            rintro e w3 ⟨rfl, hw3⟩
            rw [show (ByteArray.mk #[125]).toList = [125] from by decide +kernel]
            have R3 := RR.below hw3 RR.blocks.1 RR.blocks.2
            have A3 := AA.below hw3 AA.size
            have K3 := KK.below hw3 KK.lt
            have J3 := J.below hw3 J.lt
            have hown3 : w3.ownsRow (w2.heap.size + 1) 243 6 (.slice va vn vc) vs.length (vs.flatMap vcI) := ownsRow_below hw3 hown
            have hz3 : w2.heap.size < w3.heap.size := Nat.lt_of_lt_of_le hz hw3.size
            clear RR AA KK J hown hz hw3
            go_wp2_with fail
            refine (c67 _ rb wb ws k _ [125] R3 (by decide +kernel) (by decide)).mono ?_
            rw [h5]
            rintro e w4 ⟨rfl, R4, A⟩
            have K4 := K3.adv_ A (by omega) n1
            have J4 := J3.adv_ A (by omega) n5
            have A4 := A3.trans A A3.size
            have hown4 : w4.ownsRow (w2.heap.size + 1) 243 6 (.slice va vn vc) vs.length (vs.flatMap vcI) := ownsRow_adv A (Nat.le_refl _) (by omega) hown3
            obtain ⟨k1, k2⟩ := K4.rules
            obtain ⟨j1, j2⟩ := J4.rules
            go_wp2
            have A9 := A4.sets (b := w.heap.size) (Nat.le_refl _) [.bool true, .int .i64 (kindW x.1), .string x.1, .int .i64 x.2, .slice none 0 0, .slice va vn vc] 0
            have K9 := K4.sets_all [.bool true, .int .i64 (kindW x.1), .string x.1, .int .i64 x.2, .slice none 0 0, .slice va vn vc] rfl
            refine bodyPost_ret (ret_cell Tryz.results123 _ _ rfl K9 Tryz.underlying118 (by rfl)) rfl ⟨⟨none, 0, 0, va, vn, vc, rfl, [], ?_, ?_, ?_⟩, ?_, A9⟩
            · exact ⟨World.ownsRow_nil _ _ _ _, fun b hb => by cases hb⟩
            · rfl
            · exact (RowIn.of (ownsRow_sets (lo := w.heap.size) hown4 (b := w.heap.size) (Nat.lt_succ_of_lt z2) (Nat.le_succ_of_le (Nat.le_of_lt z2)) [.bool true, .int .i64 (kindW x.1), .string x.1, .int .i64 x.2, .slice none 0 0, .slice va vn vc] 0))
            · exact A9.rd R R.blocks.1 R.blocks.2 R4.lt

end Go.Proofs.YtbbbegjedmicpaaGreatDoor
