import Derived.Test.YtbbbegjedmicpaaGreatDoorRdK
import Derived.Deep.RegionHeld3
import Derived.Deep.AppendLies
import Derived.Deep.DrawnRows
import Derived.Deep.RegionLaw
import Derived.Deep.CutRange
import Derived.Deep.Light

/-
  CONTRACT: block, tree.
-/
namespace Go.Proofs.YtbbbegjedmicpaaGreatDoor
open Go.RowKit
attribute [local go_sem] f91_0 f91_1 f91_2
attribute [local go_sem ↓] Go.wp_at_zero Go.wp_at_succ

set_option maxRecDepth 100000 in
set_option maxHeartbeats 2000000 in
theorem c44_g (g : Bool) (w : World) (rb wb : Nat) (ws : List W) (i : Nat) (R : Rd w rb wb ws i) (t0 : isTxt ws [101, 110, 117, 109] i = g) :
    Calls Tryz.prog 77 #[.pointer (some ⟨rb, 0, none⟩)] w (Post w rb wb ws (cond g (enumP ws i) (messageP ws i)) (BlockRet w)) := by
  obtain ⟨x, hx⟩ := R.word
  have HX : Hid (ws[i]? = some x) := hx
  rw [isTxt_eq _ hx] at t0
  have A0 : Adv w.heap.size rb w (w.alloc (Obj.cells #[.bool false, .int .i64 0, .string ⟨#[]⟩, .int .i64 0, .slice none 0 0, .slice none 0 0] 118)) i := Adv.of_below R.next ((Below.refl w.heap.size w).alloc (Nat.le_refl _) _)
  have R0 := R.alloc (Obj.cells #[.bool false, .int .i64 0, .string ⟨#[]⟩, .int .i64 0, .slice none 0 0, .slice none 0 0] 118)
  have K0 := Blk.new w #[.bool false, .int .i64 0, .string ⟨#[]⟩, .int .i64 0, .slice none 0 0, .slice none 0 0] 118
  have n1 : ¬ w.heap.size = rb := by have := R.blocks; omega
  have z0 : w.heap.size < (w.alloc (Obj.cells #[.bool false, .int .i64 0, .string ⟨#[]⟩, .int .i64 0, .slice none 0 0, .slice none 0 0] 118)).heap.size := by simp
  generalize hr : cond g (enumP ws i) (messageP ws i) = r
  obtain ⟨z, HZ⟩ : ∃ z, Hid (r = z) := ⟨_, rfl⟩
  have HR : Hid (cond g (enumP ws i) (messageP ws i) = z) := hr.trans HZ.out
  clear hr hx
  cases g
  all_goals
    go_enter Tryz.func77, Tryz.ntmps77
    go_wp2_with fail
    refine (c59 _ rb wb ws i x _ R0 HX.out).mono ?_
    rintro e w1 ⟨rfl, hw1⟩
    rw [show (ByteArray.mk #[101, 110, 117, 109]).toList = [101, 110, 117, 109] from by decide +kernel]
    have R1 := R0.below hw1 R0.blocks.1 R0.blocks.2
    have A1 := A0.below hw1 (Nat.le_of_lt z0)
    have K1 := K0.below hw1 z0
    have z1 : w.heap.size < w1.heap.size := Nat.lt_of_lt_of_le z0 hw1.size
    clear R0 A0 K0 z0 hw1
    go_wp2_with fail
    first
      | (refine (c61 _ rb wb ws i R1).mono ?_; rw [show messageP ws i = z from HR.out])
      | (refine (c60 _ rb wb ws i R1).mono ?_; rw [show enumP ws i = z from HR.out])
    cases z with
    | error p =>
      rintro e w2 ⟨rfl, j, A⟩
      obtain rfl : r = .error p := HZ.out
      unfold fault
      go_wp2
      exact ⟨rfl, rfl, j, A1.trans A (by omega)⟩
    | ok q =>
      obtain ⟨b, i1⟩ := q
      rintro e w2 ⟨⟨pa, pn, pc, va, vn, vc, rfl, hb⟩, R2, A⟩
      obtain rfl : r = .ok (b, i1) := HZ.out
      have K9 := K1.adv_ A z1 n1
      have A9 := A1.trans A (by omega)
      obtain ⟨k1, k2⟩ := K9.rules
      go_wp2
      have A10 := A9.sets (b := w.heap.size) (Nat.le_refl _) [.bool b.enum, .int .i64 (kindW b.name.1), .string b.name.1, .int .i64 b.name.2, .slice pa pn pc, .slice va vn vc] 0
      have K10 := K9.sets_all [.bool b.enum, .int .i64 (kindW b.name.1), .string b.name.1, .int .i64 b.name.2, .slice pa pn pc, .slice va vn vc] rfl
      refine bodyPost_ret (ret_cell Tryz.results77 _ _ rfl K10 Tryz.underlying118 (by kernel_rfl)) rfl ⟨⟨pa, pn, pc, va, vn, vc, rfl, ?_⟩, ?_, A10⟩
      · have h9 := (BlockIn.keep (w := w2) (w' := w2.setCells w.heap.size 0 [.bool b.enum, .int .i64 (kindW b.name.1), .string b.name.1, .int .i64 b.name.2, .slice pa pn pc, .slice va vn vc]) (fun c hc _ => setCells_block _ _ (by have : w1.heap.size ≤ c := hc; omega) _ _) hb)
        exact h9.mono (fun c hc _ => by have : w1.heap.size ≤ c := hc; omega)
      · exact A10.rd R R.blocks.1 R.blocks.2 R2.lt

theorem c44 (w : World) (rb wb : Nat) (ws : List W) (i : Nat) (R : Rd w rb wb ws i) :
    Calls Tryz.prog 77 #[.pointer (some ⟨rb, 0, none⟩)] w (Post w rb wb ws (blockP ws i) (BlockRet w)) := by
  unfold blockP
  cases t0 : isTxt ws [101, 110, 117, 109] i
  all_goals exact c44_g _ w rb wb ws i R t0

end Go.Proofs.YtbbbegjedmicpaaGreatDoor

/-
  CONTRACT: tree.
-/
namespace Go.Proofs.YtbbbegjedmicpaaGreatDoor
open Go.RowKit
attribute [local go_sem] f91_0 f91_1 f91_2
attribute [local go_sem ↓] Go.wp_at_zero Go.wp_at_succ

theorem blockP_on (ws : List W) (i : Nat) : On i (blockP ws i) := by
  intro a j h
  unfold blockP at h
  split at h
  · unfold enumP at h
    obtain ⟨_, i1, h1, h⟩ := andP_ok h
    obtain ⟨_, i2, h2, h⟩ := andP_ok h
    obtain ⟨_, i3, h3, h⟩ := andP_ok h
    obtain ⟨_, i4, h4, h⟩ := andP_ok h
    obtain ⟨_, i5, h5, h⟩ := andP_ok h
    have := (skipP_on _ _ _ _ _ h1).1
    have := (kindP_on _ _ _ _ _ h2).1
    have := (skipP_on _ _ _ _ _ h3).1
    have := manyP_on _ _ (numP_on ws) _ _ _ _ h4
    have := (skipP_on _ _ _ _ _ h5).1
    simp at h
    omega
  · unfold messageP at h
    obtain ⟨_, i1, h1, h⟩ := andP_ok h
    obtain ⟨_, i2, h2, h⟩ := andP_ok h
    obtain ⟨_, i3, h3, h⟩ := andP_ok h
    obtain ⟨_, i4, h4, h⟩ := andP_ok h
    obtain ⟨_, i5, h5, h⟩ := andP_ok h
    have := (skipP_on _ _ _ _ _ h1).1
    have := (kindP_on _ _ _ _ _ h2).1
    have := (skipP_on _ _ _ _ _ h3).1
    have := manyP_on _ _ (partP_on ws) _ _ _ _ h4
    have := (skipP_on _ _ _ _ _ h5).1
    simp at h
    omega

/-- What lies in other blocks, while a row is appended to and its value is stored. -/
theorem BlocksIn.appended {w w5 : World} {v : Value} {gg H b1 off : Nat} {u : Value} {cs : List Value} {ps : List BlockR} (hg : w.grownBy w5 v.ownBlock) (hat : v.ownBlock = some gg ∨ gg = H) (hH : w.heap.size = H)
    (h : BlocksIn w (fun b => b1 < b ∧ some b ≠ v.ownBlock) cs ps) {cap n : Nat} : BlocksIn (w5.setCell ⟨b1, off, none⟩ u) (fun b => b1 < b ∧ some b ≠ (Value.slice (some ⟨gg, 0, none⟩) n cap).ownBlock) cs ps := by
  have h2 : BlocksIn w (fun b => b1 < b ∧ some b ≠ v.ownBlock ∧ some b ≠ some gg) cs ps := h.mono fun b hb hlt => ⟨hb.1, hb.2, fun e => by
    rcases hat with hat | hat
    · exact hb.2 (e.trans hat.symm)
    · have := Option.some.inj e; omega⟩
  have h3 : BlocksIn (w5.setCell ⟨b1, off, none⟩ u) (fun b => b1 < b ∧ some b ≠ v.ownBlock ∧ some b ≠ some gg) cs ps := BlocksIn.keep (w := w) (fun b hb hlt => by
    rw [heap_setCell, if_neg (by have := hb.1; omega)]
    exact hg.block b hlt hb.2.1) h2
  exact h3.mono fun b hb _ => ⟨hb.1, hb.2.2⟩

set_option maxRecDepth 100000 in
set_option maxHeartbeats 268435456 in
theorem c27 (w : World) (rb wb : Nat) (ws : List W) (R : Rd w rb wb ws 0) :
    Calls Tryz.prog 41 #[.pointer (some ⟨rb, 0, none⟩)] w (Post w rb wb ws (treeP ws) (TreeRet w)) := by
  obtain ⟨i0, hi0, hz0, hz1, hz2⟩ := info_parts Tryz.info118
  have A0 : Adv w.heap.size rb w ((w.alloc (Obj.cells #[.slice none 0 0] 66)).alloc (Obj.cells #[.slice none 0 0] 66)) 0 := Adv.of_below R.next (((Below.refl w.heap.size w).alloc (Nat.le_refl _) _).alloc (by simp) _)
  have R0 := (R.alloc (Obj.cells #[.slice none 0 0] 66)).alloc (Obj.cells #[.slice none 0 0] 66)
  have K0 := (Blk.new w #[.slice none 0 0] 66).alloc (Obj.cells #[.slice none 0 0] 66)
  have J0 : Blk ((w.alloc (Obj.cells #[.slice none 0 0] 66)).alloc (Obj.cells #[.slice none 0 0] 66)) (w.heap.size + 1) #[.slice none 0 0] 66 := by
    have := Blk.new (w.alloc (Obj.cells #[.slice none 0 0] 66)) #[.slice none 0 0] 66
    simpa using this
  have n1 : ¬ w.heap.size = rb := by have := R.blocks; omega
  have n5 : ¬ w.heap.size + 1 = rb := by have := R.blocks; omega
  have n6 : ¬ w.heap.size + 1 = w.heap.size := by omega
  have n7 : rb < w.heap.size := by have := R.blocks; omega
  generalize hr : treeP ws = r
  have HR : Hid (treeP ws = r) := hr
  clear hr
  go_enter Tryz.func41, Tryz.ntmps41
  go_wp2_with fail
  go_loopw [7] (fun _ wr => ∃ (n k : Nat) (bs : List BlockR) (ta : Option Addr) (tn tc : Nat) (tcs : List Value), bs.length ≤ k ∧ ws.length - k ≤ n ∧ Hid (preP bs (manyP (isEnd ws) (blockP ws) n k) = r) ∧ Rd wr rb wb ws k ∧ Adv w.heap.size rb w wr k ∧ Blk wr w.heap.size #[.slice none 0 0] 66 ∧ Blk wr (w.heap.size + 1) #[.slice ta tn tc] 66 ∧ wr.ownsRow (w.heap.size + 2) 118 6 (.slice ta tn tc) bs.length tcs ∧ BlocksIn wr (fun b => w.heap.size + 1 < b ∧ some b ≠ (Value.slice ta tn tc).ownBlock) tcs bs ∧ w.heap.size + 1 < wr.heap.size) (fun _ wr => ws.length - nextOf rb wr)
  case atStart =>
    refine ⟨ws.length, 0, [], none, 0, 0, [], by simp, by omega, ?_, R0, A0, K0, J0, World.ownsRow_nil _ _ _ _, rfl, by simp⟩
    rw [← HR.out]
    unfold Hid preP andP treeP
    cases manyP (isEnd ws) (blockP ws) ws.length 0 <;> rfl
  case round =>
    clear R0 A0 K0 J0 HR
    obtain ⟨n, k, bs, ta, tn, tc, tcs, hfl, hn, HP, RR, AA, KK, J, hown, hbs, hz⟩ := hrel
    have hk := RR.lt
    have hfew := RR.few
    have HN : Hid (nextOf rb wr = k) := RR.nextOf
    obtain ⟨y, hy⟩ := RR.word
    cases hs : (kindW y.1 == 4)
    · have hst : isEnd ws k = false := by unfold isEnd; simp only [hy, hs]
      have hs2 : (kindW y.1 != 4) = true := by simpa [bne] using hs
      have HY : Hid (ws[k]? = some y) := hy
      clear hy hs
      go_wp2_with fail
      refine (c43 _ rb wb ws k y RR HY.out).mono ?_
      rintro e w3 ⟨rfl, hw3⟩
      have R3 := RR.below hw3 RR.blocks.1 RR.blocks.2
      have A3 := AA.below hw3 AA.size
      have K3 := KK.below hw3 KK.lt
      have J3 := J.below hw3 J.lt
      have hown3 : w3.ownsRow (w.heap.size + 2) 118 6 (.slice ta tn tc) bs.length tcs := ownsRow_below hw3 hown
      have hbs3 := hbs.keep (fun b _ hb => hw3.block b hb)
      have hz3 : w.heap.size + 1 < w3.heap.size := Nat.lt_of_lt_of_le hz hw3.size
      have HO : Hid (some (w.heap.size + 1) ≠ (Value.slice ta tn tc).ownBlock) := by
        intro e
        have := (hown3.lt _ e.symm).1
        omega
      clear RR AA KK J hown hbs hz hw3
      go_wp2_with fail
      have j3 := J3.cell 0
      cases h4 : blockP ws k with
      | error p =>
        obtain rfl : r = .error p := by
          rw [← HP.out, manyP_err hst (by omega) h4]; rfl
        refine wp_region_held_drew (S := fun w' => w'.cell? ⟨w.heap.size + 1, 0, none⟩ = some (.slice ta tn tc)) (by kernel_rfl) (by simpa using j3) (fun hHeld => ?_)
        refine tkO 0 (.pointer (some ⟨w.heap.size + 1, 0, none⟩)) rfl (by kernel_rfl) (fun _ _ _ h => h) (Or.inl ⟨by rfl, fun w hSw => by dsimp only at hSw; go_simp⟩) hHeld ?_
        refine tkO 1 (.slice ta tn tc) rfl (by kernel_rfl) (fun _ _ _ h => h) (Or.inl ⟨by rfl, fun w hSw => by dsimp only at hSw; go_simp⟩) hHeld ?_
        refine tkO 2 (.pointer (some ⟨rb, 0, none⟩)) rfl (by kernel_rfl) (fun _ _ _ h => h) (Or.inl ⟨by rfl, fun w hSw => by dsimp only at hSw; go_simp⟩) hHeld ?_
        simp only [Act.put, List.setIfInBounds_toArray, List.set_cons_zero, List.set_cons_succ, List.getElem_toArray, List.getElem_cons_zero, List.getElem_cons_succ]
        refine wpAnyH_ready (rs := [3]) (by kernel_rfl) (by simp) (AllReadyH.cons rfl (fun K hK => ?_) AllReadyH.nil)
        clear hK
        go_simp
        refine (c44 _ rb wb ws k R3.drew).mono ?_
        rw [h4]
        rintro e w4 ⟨rfl, j, A⟩
        exact ⟨rfl, rfl, j, A3.drew.trans A (by have := A3.size; simp; omega)⟩
      | ok q =>
        obtain ⟨b, k1⟩ := q
        have hk1 : k < k1 := blockP_on _ _ _ _ h4
        have HP2 : Hid (preP (bs ++ [b]) (manyP (isEnd ws) (blockP ws) (n - 1) k1) = r) := by
          rw [← HP.out, manyP_go bs hst (by omega) h4]; exact rfl
        have J := J3
        have RR := R3
        go_region_law (first | (refine step_append_lies _ (by rfl) _ _ _ (by rfl) (w.heap.size + 2) 118 i0 _ 6 88 Tryz.underlying64 hi0 hz0 hz1 hz2 rfl (by omega) (.slice ta tn tc) bs.length tcs (by rfl) ((ownsRow_adv A (Nat.le_refl _) (by omega) (ownsRow_drew hown3)).alloc _) ⟨w4.heap.size, 0, none⟩ 1 1 [_, _, _, _, _, _] (by rfl) (by rfl) (World.news_of_block (t := 118) (fr := (0, 0)) (heap_alloc_new w4 _)) (by simp [Value.oneCell']) (by omega) (by unfold maxLen; omega) (by omega) (by have := A.size; simp at this ⊢; omega) (w4.heap.size + 1) (by simp) ?_; intro gg cap w5 hown1 hgrow hat hlt; obtain ⟨x1, x2⟩ := (((J.drew.adv_ A (by simp; omega) n5).alloc _).grown hgrow HO.out).rules) | (go_simp; go_at_call 77; refine (c44 _ rb wb ws k RR.drew).mono ?_; rw [h4]; rintro e w4 ⟨⟨pa, pn, pc, va, vn, vc, rfl, hbi⟩, R5, A⟩; obtain ⟨y1, y2⟩ := (J.drew.adv_ A (by simp; omega) n5).rules; obtain ⟨y3, y4, y5, y6⟩ := old_alloc (w := w4) (b := w.heap.size + 1) (by have := A.size; simp at this; omega)))
        all_goals
          go_wp2
          go_roundw
          case rel =>
            go_light
            have hz4 : w3.heap.size ≤ w4.heap.size := by have := A.size; simpa using this
            have hz5 := hgrow.size
            have A6 := ((((A3.drew.trans A (by have := A3.size; simp; omega)).alloc (Nat.le_refl _) _).grown hgrow (Nat.le_refl _) (fun j hj => by have := (hown3.lt j hj).1; omega))).setCell (a := ⟨w.heap.size + 1, 0, none⟩) (by simp) (.slice (some ⟨gg, 0, none⟩) (bs.length + 1) cap)
            refine ⟨n - 1, k1, bs ++ [b], some ⟨gg, 0, none⟩, bs.length + 1, cap, tcs ++ [.bool b.enum, .int .i64 (kindW b.name.1), .string b.name.1, .int .i64 b.name.2, .slice pa pn pc, .slice va vn vc], by simp; omega, by omega, HP2, A6.rd R R.blocks.1 R.blocks.2 R5.lt, A6, ?_, ?_, ?_, ?_, ?_⟩
            · exact (((K3.drew.adv_ A (by simp; omega) n1).alloc _).grown hgrow (fun e => by have := (hown3.lt _ e.symm).1; omega)).other 0 _ n6
            · exact (((J3.drew.adv_ A (by simp; omega) n5).alloc _).grown hgrow HO.out).set 0 _
            · have := ownsRow_setCell_below hown1 (a := ⟨w.heap.size + 1, 0, none⟩) (by simp) (.slice (some ⟨gg, 0, none⟩) (bs.length + 1) cap)
              simpa using this
            · refine BlocksIn.appended hgrow hat (by simp) ?_
              refine BlocksIn.snoc ?_ ?_
              · have hbi2 : BlockIn (w4.alloc (Obj.cells #[.bool b.enum, .int .i64 (kindW b.name.1), .string b.name.1, .int .i64 b.name.2, .slice pa pn pc, .slice va vn vc] 118)) (fun x => w3.drew.heap.size ≤ x) b (.slice pa pn pc) (.slice va vn vc) := hbi.keep (fun c _ hc => Below.heap_alloc _ _ _ hc)
                refine hbi2.mono fun c hc hc2 => ?_
                have hc3 : w3.heap.size ≤ c := by simpa using hc
                refine ⟨by omega, fun e => ?_⟩
                have := (hown3.lt c e.symm).2
                omega
              · refine BlocksIn.keep (w := w3) (fun c hc hc2 => ?_) hbs3
                rw [Below.heap_alloc _ _ _ (by omega), Below.block A c (by simpa using hc2), adv, heap_setCell, if_neg (by have := hc.1; omega)]
                rfl
            · simp [World.setCell] at hz5 ⊢; omega
          case measure =>
            go_light
            have A6 := ((((A3.drew.trans A (by have := A3.size; simp; omega)).alloc (Nat.le_refl _) _).grown hgrow (Nat.le_refl _) (fun j hj => by have := (hown3.lt j hj).1; omega))).setCell (a := ⟨w.heap.size + 1, 0, none⟩) (by simp) (.slice (some ⟨gg, 0, none⟩) (bs.length + 1) cap)
            have R6 := A6.rd R R.blocks.1 R.blocks.2 R5.lt
            have h6 := R6.lt
            rw [R6.nextOf, HN.out]
            omega
    · have hst : isEnd ws k = true := by unfold isEnd; simp only [hy, hs]
      have hs2 : (kindW y.1 != 4) = false := by simpa [bne] using hs
      have HY : Hid (ws[k]? = some y) := hy
      clear hy hs
      obtain rfl : r = .ok (bs, k) := by
        rw [← HP.out, manyP_stop hst]
        simp only [preP, andP, List.append_nil]
      go_wp2_with fail
      refine (c43 _ rb wb ws k y RR HY.out).mono ?_
      rintro e w3 ⟨rfl, hw3⟩
      have R3 := RR.below hw3 RR.blocks.1 RR.blocks.2
      have A3 := AA.below hw3 AA.size
      have K3 := KK.below hw3 KK.lt
      have J3 := J.below hw3 J.lt
      have hown3 : w3.ownsRow (w.heap.size + 2) 118 6 (.slice ta tn tc) bs.length tcs := ownsRow_below hw3 hown
      have hbs3 := hbs.keep (fun b _ hb => hw3.block b hb)
      clear RR AA KK J hown hbs hz hw3
      obtain ⟨k1, k2⟩ := K3.rules
      obtain ⟨j1, j2⟩ := J3.rules
      go_wp2
      have A9 := A3.sets (b := w.heap.size) (Nat.le_refl _) [.slice ta tn tc] 0
      have K9 := K3.sets_all [.slice ta tn tc] rfl
      refine bodyPost_ret (ret_cell Tryz.results41 _ _ rfl K9 Tryz.underlying66 (by kernel_rfl)) rfl ⟨⟨ta, tn, tc, tcs, rfl, ?_, ?_⟩, ?_, A9⟩
      · exact (RowIn.of (ownsRow_sets (lo := w.heap.size) hown3 (b := w.heap.size) (by omega) (by omega) [.slice ta tn tc] 0))
      · have h9 := (BlocksIn.keep (w := w3) (w' := w3.setCells w.heap.size 0 [.slice ta tn tc]) (fun b hb _ => setCells_block _ _ (by have := hb.1; omega) _ _) hbs3)
        exact h9.mono (fun b hb _ => by have := hb.1; omega)
      · exact A9.rd R R.blocks.1 R.blocks.2 R3.lt

end Go.Proofs.YtbbbegjedmicpaaGreatDoor
