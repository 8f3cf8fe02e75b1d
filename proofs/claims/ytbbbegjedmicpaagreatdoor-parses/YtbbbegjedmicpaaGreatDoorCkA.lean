import Derived.Test.YtbbbegjedmicpaaGreatDoorSets
import Derived.Deep.RegionHeld3
import Derived.Deep.DrawnRows
import Derived.Deep.RegionLaw
import Derived.Deep.Light

/-
  CONTRACT: checkName.
-/
namespace Go.Proofs.YtbbbegjedmicpaaGreatDoor
open Go.RowKit Go.Maps
attribute [local go_sem] f91_0 f91_1 f91_2
attribute [local go_sem ↓] Go.wp_at_zero Go.wp_at_succ

def nameBad (l : List ByteArray) (s : ByteArray) : Bool := decide (20 < s.size) || memS l s

/-- Two boxes. -/
theorem two_new (w : World) (c1 c2 : Array Value) (T1 T2 : TypeId) : Below w.heap.size w ((w.alloc (Obj.cells c1 T1)).alloc (Obj.cells c2 T2)) ∧ Blk ((w.alloc (Obj.cells c1 T1)).alloc (Obj.cells c2 T2)) w.heap.size c1 T1 ∧ Blk ((w.alloc (Obj.cells c1 T1)).alloc (Obj.cells c2 T2)) (w.heap.size + 1) c2 T2 :=
  ⟨((Below.refl w.heap.size w).alloc (Nat.le_refl _) _).alloc (by simp) _, (Blk.new w c1 T1).alloc _, by simpa using Blk.new (w.alloc (Obj.cells c1 T1)) c2 T2⟩
set_option maxRecDepth 100000 in
set_option maxHeartbeats 1000000 in
theorem c46_long (w : World) (b : Nat) (k : Int) (s : ByteArray) (p : Nat) (hl : 20 < s.size) :
    Calls Tryz.prog 79 #[.agg #[.int .i64 k, .string s, .int .i64 p], .map (some b)] w fun e w' => e = fault 3 p ∧ Below w.heap.size w w' := by
  obtain ⟨B0, K0⟩ := one_new w #[.int .i64 k, .string s, .int .i64 p] 114
  have hd : (20 : Int) < (s.size : Int) := by omega
  go_enter Tryz.func79, Tryz.ntmps79
  go_wp2_with fail
  refine wp_region_held_drew (S := fun w' => w'.cell? ⟨w.heap.size, 0, none⟩ = some (.int .i64 k) ∧ w'.cell? ⟨w.heap.size, 1, none⟩ = some (.string s) ∧ w'.cell? ⟨w.heap.size, 2, none⟩ = some (.int .i64 p)) (by kernel_rfl) ⟨by simp, by simp, by simp⟩ (fun hHeld => ?_)
  refine tkO 0 (.pointer (some ⟨w.heap.size, 1, none⟩)) rfl (by kernel_rfl) (fun _ _ _ h => h) (.inl ⟨rfl, fun w ⟨s0, s1, s2⟩ => by go_simp⟩) hHeld ?_
  simp only [Act.put, List.setIfInBounds_toArray, List.set_cons_zero, List.set_cons_succ, List.getElem_toArray, List.getElem_cons_zero]
  refine tkO 1 (.string s) rfl (by kernel_rfl) (fun _ _ _ h => h) (.inl ⟨rfl, fun w ⟨s0, s1, s2⟩ => by go_simp⟩) hHeld ?_
  simp only [Act.put, List.setIfInBounds_toArray, List.set_cons_zero, List.set_cons_succ, List.getElem_toArray, List.getElem_cons_zero, List.getElem_cons_succ]
  refine tkO 2 (.int .i64 s.size) rfl (by kernel_rfl) (fun _ _ _ h => h) (.inl ⟨rfl, fun w ⟨s0, s1, s2⟩ => by go_simp⟩) hHeld ?_
  simp only [Act.put, List.setIfInBounds_toArray, List.set_cons_zero, List.set_cons_succ, List.getElem_toArray, List.getElem_cons_zero, List.getElem_cons_succ]
  refine tkO 3 (.bool true) rfl (by kernel_rfl) (fun _ _ _ h => h) (.inl ⟨rfl, fun w ⟨s0, s1, s2⟩ => by go_simp⟩) hHeld ?_
  simp only [Act.put, List.setIfInBounds_toArray, List.set_cons_zero, List.set_cons_succ, List.getElem_toArray, List.getElem_cons_zero, List.getElem_cons_succ]
  refine tkO 4 (.bool true) rfl (by kernel_rfl) (fun _ _ _ h => h) (.inl ⟨rfl, fun w ⟨s0, s1, s2⟩ => by go_simp⟩) hHeld ?_
  simp only [Act.put, List.setIfInBounds_toArray, List.set_cons_zero, List.set_cons_succ, List.getElem_toArray, List.getElem_cons_zero, List.getElem_cons_succ]
  refine tkO 5 undef rfl (by kernel_rfl) (fun _ _ _ h => h) (.inr ⟨rfl, rfl⟩) hHeld ?_
  simp only [Act.put, List.setIfInBounds_toArray, List.set_cons_zero, List.set_cons_succ, List.getElem_toArray, List.getElem_cons_zero, List.getElem_cons_succ]
  refine tkO 6 undef rfl (by kernel_rfl) (fun _ _ _ h => h) (.inr ⟨rfl, rfl⟩) hHeld ?_
  simp only [Act.put, List.setIfInBounds_toArray, List.set_cons_zero, List.set_cons_succ, List.getElem_toArray, List.getElem_cons_zero, List.getElem_cons_succ]
  refine tkO 7 undef rfl (by kernel_rfl) (fun _ _ _ h => h) (.inr ⟨rfl, rfl⟩) hHeld ?_
  simp only [Act.put, List.setIfInBounds_toArray, List.set_cons_zero, List.set_cons_succ, List.getElem_toArray, List.getElem_cons_zero, List.getElem_cons_succ]
  refine tkO 8 undef rfl (by kernel_rfl) (fun _ _ _ h => h) (.inr ⟨rfl, rfl⟩) hHeld ?_
  simp only [Act.put, List.setIfInBounds_toArray, List.set_cons_zero, List.set_cons_succ, List.getElem_toArray, List.getElem_cons_zero, List.getElem_cons_succ]
  refine tkO 9 (.bool true) rfl (by kernel_rfl) (fun _ _ _ h => h) (.inl ⟨rfl, fun w ⟨s0, s1, s2⟩ => by go_simp⟩) hHeld ?_
  simp only [Act.put, List.setIfInBounds_toArray, List.set_cons_zero, List.set_cons_succ, List.getElem_toArray, List.getElem_cons_zero, List.getElem_cons_succ]
  refine tkO 10 (.agg #[.int .i64 k, .string s, .int .i64 p]) rfl (by kernel_rfl) (fun _ _ _ h => h) (.inl ⟨rfl, fun w ⟨s0, s1, s2⟩ => by go_simp⟩) hHeld ?_
  simp only [Act.put, List.setIfInBounds_toArray, List.set_cons_zero, List.set_cons_succ, List.getElem_toArray, List.getElem_cons_zero, List.getElem_cons_succ]
  refine wpAnyH_ready (rs := [11]) (by kernel_rfl) (by simp) (AllReadyH.cons rfl (fun K hK => ?_) AllReadyH.nil)
  clear hK
  go_simp
  refine (c48_yes _ k s p).mono ?_
  rintro e w4 ⟨rfl, hb⟩
  exact ⟨rfl, rfl, B0.drew.trans (hb.mono (by simp))⟩

set_option maxRecDepth 100000 in
set_option maxHeartbeats 1000000 in
theorem c46_dup (w : World) (b : Nat) (l : List ByteArray) (k : Int) (s : ByteArray) (p : Nat) (H : StrSet w b l) (hl : s.size ≤ 20) (hm : memS l s = true) :
    Calls Tryz.prog 79 #[.agg #[.int .i64 k, .string s, .int .i64 p], .map (some b)] w fun e w' => e = fault 3 p ∧ Below w.heap.size w w' := by
  have B0 := (Below.refl w.heap.size w).alloc (Nat.le_refl _) (Obj.cells #[.int .i64 k, .string s, .int .i64 p] 114)
  have H1 : StrSet (w.alloc (Obj.cells #[.int .i64 k, .string s, .int .i64 p] 114)).drew b l := H.keep (Below.heap_alloc _ _ _ H.lt)
  have hd : ¬ (20 : Int) < (s.size : Int) := by omega
  have hd2 : decide ((20 : Int) < (s.size : Int)) = false := by simpa using hd
  have hx : s.size ≤ maxLen := by unfold maxLen; omega
  clear hd
  go_enter Tryz.func79, Tryz.ntmps79
  go_wp2_with fail
  refine wp_region_held_drew (S := fun w' => w'.cell? ⟨w.heap.size, 0, none⟩ = some (.int .i64 k) ∧ w'.cell? ⟨w.heap.size, 1, none⟩ = some (.string s) ∧ w'.cell? ⟨w.heap.size, 2, none⟩ = some (.int .i64 p)) (by kernel_rfl) ⟨by simp, by simp, by simp⟩ (fun hHeld => ?_)
  refine tkO 0 (.pointer (some ⟨w.heap.size, 1, none⟩)) rfl (by kernel_rfl) (fun _ _ _ h => h) (.inl ⟨rfl, fun w ⟨s0, s1, s2⟩ => by go_simp⟩) hHeld ?_
  simp only [Act.put, List.setIfInBounds_toArray, List.set_cons_zero, List.set_cons_succ, List.getElem_toArray, List.getElem_cons_zero]
  refine tkO 1 (.string s) rfl (by kernel_rfl) (fun _ _ _ h => h) (.inl ⟨rfl, fun w ⟨s0, s1, s2⟩ => by go_simp⟩) hHeld ?_
  simp only [Act.put, List.setIfInBounds_toArray, List.set_cons_zero, List.set_cons_succ, List.getElem_toArray, List.getElem_cons_zero, List.getElem_cons_succ]
  refine tkO 2 (.int .i64 s.size) rfl (by kernel_rfl) (fun _ _ _ h => h) (.inl ⟨rfl, fun w ⟨s0, s1, s2⟩ => by go_simp⟩) hHeld ?_
  simp only [Act.put, List.setIfInBounds_toArray, List.set_cons_zero, List.set_cons_succ, List.getElem_toArray, List.getElem_cons_zero, List.getElem_cons_succ]
  refine tkO 3 (.bool false) rfl (by kernel_rfl) (fun _ _ _ h => h) (.inl ⟨rfl, fun w ⟨s0, s1, s2⟩ => by go_simp⟩) hHeld ?_
  simp only [Act.put, List.setIfInBounds_toArray, List.set_cons_zero, List.set_cons_succ, List.getElem_toArray, List.getElem_cons_zero, List.getElem_cons_succ]
  refine tkO 4 (.bool false) rfl (by kernel_rfl) (fun _ _ _ h => h) (.inl ⟨rfl, fun w ⟨s0, s1, s2⟩ => by go_simp⟩) hHeld ?_
  simp only [Act.put, List.setIfInBounds_toArray, List.set_cons_zero, List.set_cons_succ, List.getElem_toArray, List.getElem_cons_zero, List.getElem_cons_succ]
  refine tkO 5 (.map (some b)) rfl (by kernel_rfl) (fun _ _ _ h => h) (.inl ⟨rfl, fun w ⟨s0, s1, s2⟩ => by go_simp⟩) hHeld ?_
  simp only [Act.put, List.setIfInBounds_toArray, List.set_cons_zero, List.set_cons_succ, List.getElem_toArray, List.getElem_cons_zero, List.getElem_cons_succ]
  refine tkO 6 (.pointer (some ⟨w.heap.size, 1, none⟩)) rfl (by kernel_rfl) (fun _ _ _ h => h) (.inl ⟨rfl, fun w ⟨s0, s1, s2⟩ => by go_simp⟩) hHeld ?_
  simp only [Act.put, List.setIfInBounds_toArray, List.set_cons_zero, List.set_cons_succ, List.getElem_toArray, List.getElem_cons_zero, List.getElem_cons_succ]
  refine tkO 7 (.string s) rfl (by kernel_rfl) (fun _ _ _ h => h) (.inl ⟨rfl, fun w ⟨s0, s1, s2⟩ => by go_simp⟩) hHeld ?_
  simp only [Act.put, List.setIfInBounds_toArray, List.set_cons_zero, List.set_cons_succ, List.getElem_toArray, List.getElem_cons_zero, List.getElem_cons_succ]
  refine tkO 10 (.agg #[.int .i64 k, .string s, .int .i64 p]) rfl (by kernel_rfl) (fun _ _ _ h => h) (.inl ⟨rfl, fun w ⟨s0, s1, s2⟩ => by go_simp⟩) hHeld ?_
  simp only [Act.put, List.setIfInBounds_toArray, List.set_cons_zero, List.set_cons_succ, List.getElem_toArray, List.getElem_cons_zero, List.getElem_cons_succ]
  refine wpAnyH_ready (rs := [8]) (by kernel_rfl) (by simp) (AllReadyH.cons rfl (fun K hK => ?_) AllReadyH.nil)
  go_simp
  refine (c63 _ b l s H1 hx).mono ?_
  rw [hm]
  rintro e w3 ⟨rfl, hb3⟩
  have hS3 : w3.cell? ⟨w.heap.size, 0, none⟩ = some (.int .i64 k) ∧ w3.cell? ⟨w.heap.size, 1, none⟩ = some (.string s) ∧ w3.cell? ⟨w.heap.size, 2, none⟩ = some (.int .i64 p) := by
    obtain ⟨c0, c1, c2⟩ := hHeld
    exact ⟨(hb3.cell (p := ⟨w.heap.size, 0, none⟩) (by simp)).trans c0, (hb3.cell (p := ⟨w.heap.size, 1, none⟩) (by simp)).trans c1, (hb3.cell (p := ⟨w.heap.size, 2, none⟩) (by simp)).trans c2⟩
  clear hHeld
  refine hK.out _ _ hS3 (fun hHeld => ?_)
  clear hK K
  refine tkO 9 (.bool true) rfl (by kernel_rfl) (fun _ _ _ h => h) (.inl ⟨rfl, fun w ⟨s0, s1, s2⟩ => by go_simp⟩) hHeld ?_
  simp only [Act.put, List.setIfInBounds_toArray, List.set_cons_zero, List.set_cons_succ, List.getElem_toArray, List.getElem_cons_zero, List.getElem_cons_succ]
  refine wpAnyH_ready (rs := [11]) (by kernel_rfl) (by simp) (AllReadyH.cons rfl (fun K hK => ?_) AllReadyH.nil)
  clear hK
  go_simp
  refine (c48_yes _ k s p).mono ?_
  rintro e w4 ⟨rfl, hb⟩
  exact ⟨rfl, rfl, (B0.drew.trans (hb3.mono (by simp))).trans (hb.mono (by have := hb3.size; simp at this; omega))⟩

set_option maxRecDepth 100000 in
set_option maxHeartbeats 1000000 in
theorem c46_ok (w : World) (b : Nat) (l : List ByteArray) (k : Int) (s : ByteArray) (p : Nat) (H : StrSet w b l) (hn : l.length < 5000) (hl : s.size ≤ 20) (hm : memS l s = false) :
    Calls Tryz.prog 79 #[.agg #[.int .i64 k, .string s, .int .i64 p], .map (some b)] w fun e w' => e = .returned (.tuple #[]) ∧ StrSet w' b (l ++ [s]) ∧ Kept [b] w w' := by
  obtain ⟨B0, K0⟩ := one_new w #[.int .i64 k, .string s, .int .i64 p] 114
  have H1 : StrSet (w.alloc (Obj.cells #[.int .i64 k, .string s, .int .i64 p] 114)).drew b l := H.keep (Below.heap_alloc _ _ _ H.lt)
  have hlt := H.lt
  have hd2 : decide ((20 : Int) < (s.size : Int)) = false := by simp; omega
  have hx : s.size ≤ maxLen := by unfold maxLen; omega
  go_enter Tryz.func79, Tryz.ntmps79
  go_wp2_with fail
  go_region_held3 (fun w' => w'.cell? ⟨w.heap.size, 0, none⟩ = some (.int .i64 k) ∧ w'.cell? ⟨w.heap.size, 1, none⟩ = some (.string s) ∧ w'.cell? ⟨w.heap.size, 2, none⟩ = some (.int .i64 p))
    (first | exact ⟨K4.cell 0, K4.cell 1, K4.cell 2⟩ | exact ⟨K3.cell 0, K3.cell 1, K3.cell 2⟩ | go_keep)
    (first | (go_at_call 126; refine (c63 _ b l s H1 hx).mono ?_; rw [hm]; rintro e w3 ⟨rfl, hb3⟩; have K3 := K0.drew.below hb3 (by simp)) | (go_at_call 81; refine (c48_no _ k s p).mono ?_; rintro e w4 ⟨rfl, hb4⟩; have K4 := K3.below hb4 K3.lt))
  have Hk : Below w.heap.size w w4 := (B0.drew.trans (hb3.mono (by simp))).trans (hb4.mono (by have := hb3.size; simp at this; omega))
  have H4 : StrSet w4 b l := H.keep (Hk.block b hlt)
  obtain ⟨k1, k2⟩ := K4.rules
  go_wp2_with fail
  refine (c62 _ b l s H4 (by unfold maxLen; omega) hx).mono ?_
  rintro e w5 ⟨rfl, H5, hk5⟩
  go_wp2
  go_end0
  exact ⟨rfl, H5, (Kept.of_below Hk).trans hk5⟩

/-- A name is looked at: it may not be, or it is put to those ahead. -/
theorem c46 (w : World) (b : Nat) (l : List ByteArray) (k : Int) (s : ByteArray) (p : Nat) (H : StrSet w b l) (hn : l.length < 5000) :
    Calls Tryz.prog 79 #[.agg #[.int .i64 k, .string s, .int .i64 p], .map (some b)] w fun e w' =>
      if nameBad l s then e = fault 3 p ∧ Below w.heap.size w w' else e = .returned (.tuple #[]) ∧ StrSet w' b (l ++ [s]) ∧ Kept [b] w w' := by
  unfold nameBad
  by_cases hl : 20 < s.size
  · simp only [hl, decide_true, Bool.true_or, if_true]
    exact c46_long w b k s p hl
  · cases hm : memS l s
    · simp only [hl, decide_false, Bool.false_or, Bool.false_eq_true, if_false]
      exact c46_ok w b l k s p H hn (by omega) hm
    · simp only [hl, decide_false, Bool.false_or, if_true]
      exact c46_dup w b l k s p H (by omega) hm

end Go.Proofs.YtbbbegjedmicpaaGreatDoor
