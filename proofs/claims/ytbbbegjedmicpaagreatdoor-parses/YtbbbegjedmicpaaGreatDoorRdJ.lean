import Derived.Test.YtbbbegjedmicpaaGreatDoorRdI
import Derived.Deep.RegionHeld3
import Derived.Deep.AppendLies
import Derived.Deep.DrawnRows
import Derived.Deep.RegionLaw
import Derived.Deep.CutRange
import Derived.Deep.Light

/-
  CONTRACT: message.
-/
namespace Go.Proofs.YtbbbegjedmicpaaGreatDoor
open Go.RowKit
attribute [local go_sem] f91_0 f91_1 f91_2
attribute [local go_sem ↓] Go.wp_at_zero Go.wp_at_succ

theorem setCells_block (w : World) {c : Nat} (b : Nat) (hne : c ≠ b) : ∀ (vs : List Value) (o : Nat), (w.setCells c o vs).heap[b]? = w.heap[b]?
  | [], o => rfl
  | v :: vs, o => by
    have := setCells_block (w.setCell ⟨c, o, none⟩ v) b hne vs (o + 1)
    rw [heap_setCell, if_neg hne] at this
    simpa [World.setCells] using this

/-- What lies in other blocks, while a row is appended to and its value is stored. -/
theorem PartsIn.appended {w w5 : World} {v : Value} {gg H b1 off : Nat} {u : Value} {cs : List Value} {ps : List PartR} (hg : w.grownBy w5 v.ownBlock) (hat : v.ownBlock = some gg ∨ gg = H) (hH : w.heap.size = H)
    (h : PartsIn w (fun b => b1 < b ∧ some b ≠ v.ownBlock) cs ps) {cap n : Nat} : PartsIn (w5.setCell ⟨b1, off, none⟩ u) (fun b => b1 < b ∧ some b ≠ (Value.slice (some ⟨gg, 0, none⟩) n cap).ownBlock) cs ps := by
  have h2 : PartsIn w (fun b => b1 < b ∧ some b ≠ v.ownBlock ∧ some b ≠ some gg) cs ps := h.mono fun b hb hlt => ⟨hb.1, hb.2, fun e => by
    grind⟩
  have h3 : PartsIn (w5.setCell ⟨b1, off, none⟩ u) (fun b => b1 < b ∧ some b ≠ v.ownBlock ∧ some b ≠ some gg) cs ps := PartsIn.keep (w := w) (fun b hb hlt => by
    rw [heap_setCell, if_neg (by omega)]
    exact hg.block b hlt hb.2.1) h2
  exact h3.mono fun b hb _ => ⟨hb.1, hb.2.2⟩

set_option maxRecDepth 100000 in
set_option maxHeartbeats 268435456 in
theorem c61 (w : World) (rb wb : Nat) (ws : List W) (i : Nat) (R : Rd w rb wb ws i) :
    Calls Tryz.prog 124 #[.pointer (some ⟨rb, 0, none⟩)] w (Post w rb wb ws (messageP ws i) (BlockRet w)) := by
  obtain ⟨i0, hi0, hz0, hz1, hz2⟩ := info_parts Tryz.info164
  have A0 : Adv w.heap.size rb w (w.alloc (Obj.cells #[.bool false, .int .i64 0, .string ⟨#[]⟩, .int .i64 0, .slice none 0 0, .slice none 0 0] 118)) i := Adv.of_below R.next ((Below.refl w.heap.size w).alloc (Nat.le_refl _) _)
  have R0 := R.alloc (Obj.cells #[.bool false, .int .i64 0, .string ⟨#[]⟩, .int .i64 0, .slice none 0 0, .slice none 0 0] 118)
  have K0 := Blk.new w #[.bool false, .int .i64 0, .string ⟨#[]⟩, .int .i64 0, .slice none 0 0, .slice none 0 0] 118
  have n1 : ¬ w.heap.size = rb := by have := R.blocks; omega
  have n3 : ¬ rb = w.heap.size := by omega
  have z0 : w.heap.size < (w.alloc (Obj.cells #[.bool false, .int .i64 0, .string ⟨#[]⟩, .int .i64 0, .slice none 0 0, .slice none 0 0] 118)).heap.size := by simp
  generalize hr : messageP ws i = r
  have HR : Hid (messageP ws i = r) := hr
  clear hr
  go_enter Tryz.func124, Tryz.ntmps124
  go_wp2_with fail
  refine (c67 _ rb wb ws i _ [109, 101, 115, 115, 97, 103, 101] R0 (by decide +kernel) (by decide)).mono ?_
  cases h1 : skipP ws [109, 101, 115, 115, 97, 103, 101] i with
  | error p =>
    rintro e w1 ⟨rfl, j, A⟩
    obtain rfl : r = .error p := by rw [← HR.out, messageP, andP_err h1]
    unfold fault
    go_wp2
    exact ⟨rfl, rfl, j, A0.trans A (by omega)⟩
  | ok q =>
    obtain ⟨_, i1⟩ := q
    rintro e w1 ⟨rfl, R1, A⟩
    have z1 : w.heap.size < w1.heap.size := Nat.lt_of_lt_of_le z0 A.size
    have K1 := K0.adv_ A z0 n1
    have A1 := A0.trans A (by omega)
    clear A R0 K0 A0 z0
    go_wp2_with fail
    refine (c68 _ rb wb ws i1 1 R1 (by decide)).mono ?_
    cases h2 : kindP ws 1 i1 with
    | error p =>
      rintro e w2 ⟨rfl, j, A⟩
      obtain rfl : r = .error p := by rw [← HR.out, messageP, andP_go h1, andP_err h2]
      unfold fault
      go_wp2
      exact ⟨rfl, rfl, j, A1.trans A (by omega)⟩
    | ok q =>
      obtain ⟨x, i2⟩ := q
      rintro e w2 ⟨rfl, R2, A⟩
      have z2 : w.heap.size < w2.heap.size := Nat.lt_of_lt_of_le z1 A.size
      have K2 := (K1.adv_ A z1 n1).alloc (Obj.cells #[.bool false, .int .i64 (kindW x.1), .string x.1, .int .i64 x.2, .slice none 0 0, .slice none 0 0] 118)
      have J2 := Blk.new w2 #[.bool false, .int .i64 (kindW x.1), .string x.1, .int .i64 x.2, .slice none 0 0, .slice none 0 0] 118
      have A2 := (A1.trans A (by omega)).alloc (Nat.le_refl _) (Obj.cells #[.bool false, .int .i64 (kindW x.1), .string x.1, .int .i64 x.2, .slice none 0 0, .slice none 0 0] 118)
      have R3 := R2.alloc (Obj.cells #[.bool false, .int .i64 (kindW x.1), .string x.1, .int .i64 x.2, .slice none 0 0, .slice none 0 0] 118)
      have z3 : w2.heap.size < (w2.alloc (Obj.cells #[.bool false, .int .i64 (kindW x.1), .string x.1, .int .i64 x.2, .slice none 0 0, .slice none 0 0] 118)).heap.size := by simp
      have n5 : ¬ w2.heap.size = rb := by have := R.blocks; omega
      have n6 : ¬ w2.heap.size = w.heap.size := by omega
      have n7 : rb < w2.heap.size := by have := R.blocks; omega
      clear A R1 K1 A1 z1
      go_wp2_with fail
      refine (c67 _ rb wb ws i2 _ [123] R3 (by decide +kernel) (by decide)).mono ?_
      cases h3 : skipP ws [123] i2 with
      | error p =>
        rintro e w3 ⟨rfl, j, A⟩
        obtain rfl : r = .error p := by rw [← HR.out, messageP, andP_go h1, andP_go h2, andP_err h3]
        unfold fault
        go_wp2
        exact ⟨rfl, rfl, j, A2.trans A (by omega)⟩
      | ok q =>
        obtain ⟨_, i3⟩ := q
        rintro e w3 ⟨rfl, R4, A⟩
        have z4 : w2.heap.size < w3.heap.size := Nat.lt_of_lt_of_le z3 A.size
        have K4 := K2.adv_ A (by omega) n1
        have J4 := J2.adv_ A z3 n5
        have A4 := A2.trans A (by omega)
        clear A R2 R3 K2 J2 A2 z3
        obtain ⟨M, HM⟩ : ∃ M, Hid (manyP (isTxt ws [125]) (partP ws) ws.length i3 = M) := ⟨_, rfl⟩
        have HR2 : Hid ((andP M fun l i => andP (skipP ws [125] i) fun _ i => .ok (⟨false, x, l, []⟩, i)) = r) := by
          have := HR.out
          rw [messageP, andP_go h1, andP_go h2, andP_go h3, HM.out] at this
          exact this
        clear HR h1 h2 h3
        go_wp2_with fail
        go_loopw [13] (fun _ wr => ∃ (n k : Nat) (ps : List PartR) (pa : Option Addr) (pn pc : Nat) (pcs : List Value), ps.length ≤ k ∧ ws.length - k ≤ n ∧ Hid (preP ps (manyP (isTxt ws [125]) (partP ws) n k) = M) ∧ Rd wr rb wb ws k ∧ Adv w.heap.size rb w wr k ∧ Blk wr w.heap.size #[.bool false, .int .i64 0, .string ⟨#[]⟩, .int .i64 0, .slice none 0 0, .slice none 0 0] 118 ∧ Blk wr w2.heap.size #[.bool false, .int .i64 (kindW x.1), .string x.1, .int .i64 x.2, .slice pa pn pc, .slice none 0 0] 118 ∧ wr.ownsRow (w2.heap.size + 1) 164 4 (.slice pa pn pc) ps.length pcs ∧ PartsIn wr (fun b => w2.heap.size < b ∧ some b ≠ (Value.slice pa pn pc).ownBlock) pcs ps ∧ w2.heap.size < wr.heap.size) (fun _ wr => ws.length - nextOf rb wr)
        case atStart =>
          refine ⟨ws.length, i3, [], none, 0, 0, [], by simp, by omega, ?_, R4, A4, K4, J4, World.ownsRow_nil _ _ _ _, rfl, z4⟩
          rw [← HM.out]
          unfold Hid preP andP
          cases manyP (isTxt ws [125]) (partP ws) ws.length i3 <;> rfl
        case round =>
          clear J4 R4 K4 A4 z4 HM
          obtain ⟨n, k, ps, pa, pn, pc, pcs, hfl, hn, HP, RR, AA, KK, J, hown, hps, hz⟩ := hrel
          have hk := RR.lt
          have hfew := RR.few
          have HN : Hid (nextOf rb wr = k) := RR.nextOf
          obtain ⟨y, hy⟩ := RR.word
          cases hs : (y.1.toList == [125])
          · have hst : isTxt ws [125] k = false := by unfold isTxt; grind
            have HY : Hid (ws[k]? = some y) := hy
            clear hy
            go_wp2_with fail
            refine (c59 _ rb wb ws k y _ RR HY.out).mono ?_
            rintro e w3 ⟨rfl, hw3⟩
            rw [show (ByteArray.mk #[125]).toList = [125] from by decide +kernel]
            have R3 := RR.below hw3 RR.blocks.1 RR.blocks.2
            have A3 := AA.below hw3 AA.size
            have K3 := KK.below hw3 KK.lt
            have J3 := J.below hw3 J.lt
            have hown3 : w3.ownsRow (w2.heap.size + 1) 164 4 (.slice pa pn pc) ps.length pcs := ownsRow_below hw3 hown
            have hps3 := hps.keep (fun b _ hb => hw3.block b hb)
            have hz3 : w2.heap.size < w3.heap.size := Nat.lt_of_lt_of_le hz hw3.size
            have HO : Hid (some w2.heap.size ≠ (Value.slice pa pn pc).ownBlock) := by
              intro e
              have := (hown3.lt _ e.symm).1
              omega
            clear RR AA KK J hown hps hz hw3
            go_wp2_with fail
            have j3 := J3.cell 4
            cases h4 : partP ws k with
            | error p =>
              obtain rfl : r = .error p := by
                rw [← HR2.out, ← HP.out, manyP_err hst (by omega) h4]; rfl
              refine wp_region_held_drew (S := fun w' => w'.cell? ⟨w2.heap.size, 4, none⟩ = some (.slice pa pn pc)) (by rfl) (by simpa using j3) (fun hHeld => ?_)
              refine tkO 0 (.pointer (some ⟨w2.heap.size, 4, none⟩)) rfl (by kernel_rfl) (fun _ _ _ h => h) (Or.inl ⟨by rfl, fun w hSw => by rfl⟩) hHeld ?_
              refine tkO 1 (.slice pa pn pc) rfl (by kernel_rfl) (fun _ _ _ h => h) (Or.inl ⟨by rfl, fun w hSw => by dsimp only at hSw; go_simp⟩) hHeld ?_
              refine tkO 2 (.pointer (some ⟨rb, 0, none⟩)) rfl (by kernel_rfl) (fun _ _ _ h => h) (Or.inl ⟨by rfl, fun w hSw => by rfl⟩) hHeld ?_
              simp only [Act.put, List.setIfInBounds_toArray, List.set_cons_zero, List.set_cons_succ, List.getElem_toArray, List.getElem_cons_zero, List.getElem_cons_succ]
              refine wpAnyH_ready (rs := [3]) (by kernel_rfl) (by simp) (AllReadyH.cons rfl (fun K hK => ?_) AllReadyH.nil)
              clear hK
              go_simp
              refine (c70 _ rb wb ws k R3.drew).mono ?_
              rw [h4]
              rintro e w4 ⟨rfl, j, A⟩
              exact ⟨rfl, rfl, j, A3.drew.trans A (by have := A3.size; simp; omega)⟩
            | ok q =>
              obtain ⟨p, k1⟩ := q
              have hk1 : k < k1 := partP_on _ _ _ _ h4
              have HP2 : Hid (preP (ps ++ [p]) (manyP (isTxt ws [125]) (partP ws) (n - 1) k1) = M) := by
                rw [← HP.out, manyP_go ps hst (by omega) h4]; rfl
              have J := J3
              have RR := R3
              go_region_law (first | (refine step_append_lies _ (by rfl) _ _ _ (by rfl) (w2.heap.size + 1) 164 i0 _ 4 56 Tryz.underlying115 hi0 hz0 hz1 hz2 rfl (by omega) (.slice pa pn pc) ps.length pcs (by rfl) ((ownsRow_adv A (Nat.le_refl _) (by omega) (ownsRow_drew hown3)).alloc _) ⟨w4.heap.size, 0, none⟩ 1 1 [_, _, _, _] (by rfl) (by rfl) (World.news_of_block (t := 164) (fr := (0, 0)) (heap_alloc_new w4 _)) (by simp [Value.oneCell']) (by omega) (by unfold maxLen; omega) (by omega) (by have := A.size; simp at this ⊢; omega) (w4.heap.size + 1) (by simp) ?_; intro gg cap w5 hown1 hgrow hat hlt; obtain ⟨x1, x2⟩ := (((J.drew.adv_ A (by simp; omega) n5).alloc _).grown hgrow HO.out).rules) | (go_simp; go_at_call 187; refine (c70 _ rb wb ws k RR.drew).mono ?_; rw [h4]; rintro e w4 ⟨⟨fa, fn, fc, rfl, hownf⟩, R5, A⟩; obtain ⟨y1, y2⟩ := (J.drew.adv_ A (by simp; omega) n5).rules; obtain ⟨y3, y4, y5, y6⟩ := old_alloc (w := w4) (b := w2.heap.size) (by have := A.size; simp at this; omega)))
              all_goals
                go_wp2
                go_roundw
                case rel =>
                  go_light
                  have hz4 : w3.heap.size ≤ w4.heap.size := by have := A.size; simpa using this
                  have hz5 := hgrow.size
                  have A6 := ((((A3.drew.trans A (by have := A3.size; simp; omega)).alloc (Nat.le_refl _) _).grown hgrow (Nat.le_refl _) (fun j hj => by have := (hown3.lt j hj).1; omega))).setCell (a := ⟨w2.heap.size, 4, none⟩) (by grind) (.slice (some ⟨gg, 0, none⟩) (ps.length + 1) cap)
                  refine ⟨n - 1, k1, ps ++ [p], some ⟨gg, 0, none⟩, ps.length + 1, cap, pcs ++ [.int .i64 (pkK p.oneof), .string (pkS p.oneof), .int .i64 (pkA p.oneof), .slice fa fn fc], by grind, by omega, HP2, A6.rd R R.blocks.1 R.blocks.2 R5.lt, A6, ?_, ?_, ?_, ?_, ?_⟩
                  rotate_left 2
                  · have := ownsRow_setCell_below hown1 (a := ⟨w2.heap.size, 4, none⟩) (by simp) (.slice (some ⟨gg, 0, none⟩) (ps.length + 1) cap)
                    grind
                  rotate_left 2
                  · exact (((K3.drew.adv_ A (by simp; omega) n1).alloc _).grown hgrow (fun e => by have := (hown3.lt _ e.symm).1; omega)).other 4 _ n6
                  · exact (((J3.drew.adv_ A (by simp; omega) n5).alloc _).grown hgrow HO.out).set 4 _
                  · refine PartsIn.appended hgrow hat (by simp) ?_
                    refine PartsIn.snoc ?_ ?_
                    · refine ((RowIn.of (hownf.alloc _)).mono fun b hb hb2 => ⟨Nat.lt_of_lt_of_le hz3 (by simpa using hb), fun e => ?_⟩)
                      have := (hown3.lt b e.symm).2
                      have : w3.heap.size ≤ b := by simpa using hb
                      omega
                    · refine PartsIn.keep (w := w3) (fun b hb hb2 => ?_) hps3
                      rw [Below.heap_alloc _ _ _ (by omega), Below.block A b (by simpa using hb2), adv, heap_setCell, if_neg (by omega)]
                      rfl
                  · simp [World.setCell] at hz5 ⊢; omega
                case measure =>
                  go_light
                  have A6 := ((((A3.drew.trans A (by have := A3.size; simp; omega)).alloc (Nat.le_refl _) _).grown hgrow (Nat.le_refl _) (fun j hj => by have := (hown3.lt j hj).1; omega))).setCell (a := ⟨w2.heap.size, 4, none⟩) (by grind) (.slice (some ⟨gg, 0, none⟩) (ps.length + 1) cap)
                  have R6 := A6.rd R R.blocks.1 R.blocks.2 R5.lt
                  have h6 := R6.lt
                  rw [R6.nextOf, HN.out]
                  omega
          · have hst : isTxt ws [125] k = true := by unfold isTxt; grind
            have h5 : skipP ws [125] k = .ok ((), k + 1) := by unfold skipP; grind
            have HY : Hid (ws[k]? = some y) := hy
            clear hy
            obtain rfl : r = .ok (⟨false, x, ps, []⟩, k + 1) := by
              rw [← HR2.out, ← HP.out, manyP_stop hst]
              simp only [preP, andP, h5, List.append_nil]
            go_wp2_with fail
            refine (c59 _ rb wb ws k y _ RR HY.out).mono ?_
            rintro e w3 ⟨rfl, hw3⟩
            rw [show (ByteArray.mk #[125]).toList = [125] from by decide +kernel]
            have R3 := RR.below hw3 RR.blocks.1 RR.blocks.2
            have A3 := AA.below hw3 AA.size
            have K3 := KK.below hw3 KK.lt
            have J3 := J.below hw3 J.lt
            have hown3 : w3.ownsRow (w2.heap.size + 1) 164 4 (.slice pa pn pc) ps.length pcs := ownsRow_below hw3 hown
            have hps3 := hps.keep (fun b _ hb => hw3.block b hb)
            have hz3 : w2.heap.size < w3.heap.size := Nat.lt_of_lt_of_le hz hw3.size
            clear RR AA KK J hown hps hz hw3
            go_wp2_with fail
            refine (c67 _ rb wb ws k _ [125] R3 (by decide +kernel) (by decide)).mono ?_
            rw [h5]
            rintro e w4 ⟨rfl, R4, A⟩
            have K4 := K3.adv_ A (by omega) n1
            have J4 := J3.adv_ A (by omega) n5
            have A4 := A3.trans A A3.size
            have hown4 : w4.ownsRow (w2.heap.size + 1) 164 4 (.slice pa pn pc) ps.length pcs := ownsRow_adv A (Nat.le_refl _) (by omega) hown3
            have hps4 : PartsIn w4 (fun b => w2.heap.size < b ∧ some b ≠ (Value.slice pa pn pc).ownBlock) pcs ps := PartsIn.keep (w := w3) (fun b hb hb2 => by
              rw [Below.block A b hb2, adv, heap_setCell, if_neg (by omega)]) hps3
            obtain ⟨k1, k2⟩ := K4.rules
            obtain ⟨j1, j2⟩ := J4.rules
            go_wp2
            have A9 := A4.sets (b := w.heap.size) (Nat.le_refl _) [.bool false, .int .i64 (kindW x.1), .string x.1, .int .i64 x.2, .slice pa pn pc, .slice none 0 0] 0
            have K9 := K4.sets_all [.bool false, .int .i64 (kindW x.1), .string x.1, .int .i64 x.2, .slice pa pn pc, .slice none 0 0] rfl
            refine bodyPost_ret (ret_cell Tryz.results124 _ _ rfl K9 Tryz.underlying118 (by rfl)) rfl ⟨⟨pa, pn, pc, none, 0, 0, rfl, pcs, ?_, ?_, ?_⟩, ?_, A9⟩
            · exact (RowIn.of (ownsRow_sets (lo := w.heap.size) hown4 (b := w.heap.size) (Nat.lt_succ_of_lt z2) (Nat.le_succ_of_le (Nat.le_of_lt z2)) [.bool false, .int .i64 (kindW x.1), .string x.1, .int .i64 x.2, .slice pa pn pc, .slice none 0 0] 0))
            · have h9 := (PartsIn.keep (w := w4) (w' := w4.setCells w.heap.size 0 [.bool false, .int .i64 (kindW x.1), .string x.1, .int .i64 x.2, .slice pa pn pc, .slice none 0 0]) (fun b hb _ => setCells_block _ _ (by omega) _ _) hps4)
              exact h9.mono (fun b hb _ => Nat.le_of_lt (Nat.lt_trans z2 hb.1))
            · exact ⟨World.ownsRow_nil _ _ _ _, fun b hb => by cases hb⟩
            · exact A9.rd R R.blocks.1 R.blocks.2 R4.lt

end Go.Proofs.YtbbbegjedmicpaaGreatDoor
