import Derived.Test.YtbbbegjedmicpaaGreatDoorCkA
import Derived.Test.YtbbbegjedmicpaaGreatDoorShelfPu

/-
  CONTRACTS: strconv.ParseUint at base 10 and 64 bits, strings.Clone, a word's value.
-/
namespace Go.Proofs.YtbbbegjedmicpaaGreatDoor
open Go.RowKit Go.Maps
attribute [local go_sem] f91_0 f91_1 f91_2

/-- strconv.ErrRange is an error, or none. -/
def GOK (w : World) : Prop := ∃ ev, w.cell? ⟨4, 0, none⟩ = some ev ∧ (ev = .nilIface ∨ ∃ te pe, ev = .iface te pe)
theorem GOK.keep {w w' : World} (h : GOK w) (hb : w'.heap[4]? = w.heap[4]?) : GOK w' := by
  obtain ⟨ev, h1, h2⟩ := h
  exact ⟨ev, (World.cell?_of_block (a := ⟨4, 0, none⟩) hb).trans h1, h2⟩
theorem GOK.lt {w : World} (h : GOK w) : 4 < w.heap.size := by
  obtain ⟨ev, h1, h2⟩ := h
  exact World.block_lt_of_cell? _ _ h1

/-- The number that digits tell; what is too great is the greatest there is. -/
def numV (s : ByteArray) : Nat :=
  match Lib.parseUintB 64 s.data.toList with
  | .ok u => u
  | _ => 18446744073709551615
def numOK (s : ByteArray) : Prop := s.size ≤ 2000 ∧ ((∃ u, Lib.parseUintB 64 s.data.toList = .ok u) ∨ Lib.parseUintB 64 s.data.toList = .range)
theorem numV_lt (s : ByteArray) : numV s < 18446744073709551616 := by
  unfold numV
  split
  · rename_i u h
    have := Lib.parseUintB_le h
    omega
  · omega

theorem c71 (s : ByteArray) (w : World) (h : numOK s) (hg : GOK w) :
    Calls Tryz.prog 172 #[.string s, .int .i64 10, .int .i64 64] w fun e w' => ∃ v, e = .returned (.tuple #[.int .u64 (numV s), v]) ∧ Below w.heap.size w w' := by
  obtain ⟨ev, h1, h2⟩ := hg
  unfold numV
  rcases h.2 with ⟨u, hp⟩ | hp
  · rw [hp]
    refine (Any.strconv_ParseUint_10_at64_ok Tryz.laysPu14 s (by have := h.1; omega) u hp w).mono ?_
    rintro e w' ⟨rfl, hw⟩
    refine ⟨_, rfl, ?_⟩
    rcases hw with rfl | rfl
    · exact Below.refl _ _
    · exact Lib.bytesWorld_below _ _ _
  · rw [hp]
    refine (Any.strconv_ParseUint_10_at64_range Tryz.laysPu14 s (by have := h.1; omega) hp ev w h1 h2).mono ?_
    rintro e w' ⟨N, rfl, -, -, hb⟩
    exact ⟨_, rfl, hb⟩

set_option maxHeartbeats 400000 in
theorem c29 (s : ByteArray) (w : World) (h : s.size ≤ 2000) :
    Calls Tryz.prog 66 #[.string s] w fun e w' => e = .returned (.string s) ∧ Below w.heap.size w w' := by
  go_enter Tryz.func66, Tryz.ntmps66
  go_wp2_with fail
  refine (AnyPu.stringslite_Clone Tryz.laysPu25 s _ (by omega)).mono ?_
  rintro e w1 ⟨rfl, hb⟩
  go_wp2
  go_ret
  exact ⟨rfl, hb⟩

set_option maxHeartbeats 400000 in
theorem c64 (w : World) (k : Int) (s : ByteArray) (p : Nat) (h : numOK s) (hg : GOK w) :
    Calls Tryz.prog 112 #[.agg #[.int .i64 k, .string s, .int .i64 p]] w fun e w' => e = .returned (.int .u64 (numV s)) ∧ Below w.heap.size w w' := by
  have B0 := (Below.refl w.heap.size w).alloc (Nat.le_refl _) (Obj.cells #[.int .i64 k, .string s, .int .i64 p] 114)
  go_enter Tryz.func112, Tryz.ntmps112
  go_wp2_with fail
  refine (c71 s _ h (hg.keep (Below.heap_alloc _ _ _ hg.lt))).mono ?_
  rintro e w1 ⟨v, rfl, hb⟩
  go_wp2
  go_ret
  exact ⟨rfl, B0.trans (hb.mono (by simp))⟩

end Go.Proofs.YtbbbegjedmicpaaGreatDoor

/-
  CONTRACTS: isKey, typeWord, number (of a message's looks).
-/
namespace Go.Proofs.YtbbbegjedmicpaaGreatDoor
open Go.RowKit Go.Maps
attribute [local go_sem] f91_0 f91_1 f91_2
attribute [local go_sem ↓] Go.wp_at_zero Go.wp_at_succ

set_option maxHeartbeats 400000 in
theorem c72 (w : World) (k : Int) (s : ByteArray) (p : Nat) :
    Calls Tryz.prog 188 #[.agg #[.int .i64 k, .string s, .int .i64 p]] w fun e w' => e = .returned (.bool (keyGood k s)) ∧ Below w.heap.size w w' := by
  have B0 := (Below.refl w.heap.size w).alloc (Nat.le_refl _) (Obj.cells #[.int .i64 k, .string s, .int .i64 p] 114)
  cases h0 : (k == 3)
  · go_enter Tryz.func188, Tryz.ntmps188
    go_wp2
    go_ret
    exact ⟨retb (by simp only [keyGood, h0]; simp), B0⟩
  · cases h1 : (s.toList == [102, 108, 111, 97, 116])
    · cases h2 : (s.toList == [100, 111, 117, 98, 108, 101])
      · cases h3 : (s.toList == [98, 121, 116, 101, 115])
        · go_enter Tryz.func188, Tryz.ntmps188
          go_wp2
          go_ret
          exact ⟨retb (by simp only [keyGood, h0, h1, h2, h3]; simp), B0⟩
        · go_enter Tryz.func188, Tryz.ntmps188
          go_wp2
          go_ret
          exact ⟨retb (by simp only [keyGood, h0, h1, h2, h3]; simp), B0⟩
      · go_enter Tryz.func188, Tryz.ntmps188
        go_wp2
        go_ret
        exact ⟨retb (by simp only [keyGood, h0, h1, h2]; simp), B0⟩
    · go_enter Tryz.func188, Tryz.ntmps188
      go_wp2
      go_ret
      exact ⟨retb (by simp only [keyGood, h0, h1]; simp), B0⟩

def typeBad (types : List ByteArray) (k : Int) (s : ByteArray) : Bool := k == 1 && (decide (20 < s.size) || !memS types s)

set_option maxRecDepth 100000 in
set_option maxHeartbeats 1000000 in
theorem c73_no (w : World) (tb nb mb : Nat) (k : Int) (s : ByteArray) (p : Nat) (hk : (k == 1) = false) :
    Calls Tryz.prog 189 #[.agg #[.map (some tb), .map (some nb), .map (some mb)], .agg #[.int .i64 k, .string s, .int .i64 p]] w fun e w' => e = .returned (.tuple #[]) ∧ Below w.heap.size w w' := by
  obtain ⟨B0, KC, KW⟩ := two_new w #[.map (some tb), .map (some nb), .map (some mb)] #[.int .i64 k, .string s, .int .i64 p] 247 114
  obtain ⟨r1, r2⟩ := KC.rules
  obtain ⟨r3, r4⟩ := KW.rules
  clear r1 r2 r3 r4 KC KW
  go_enter Tryz.func189, Tryz.ntmps189
  go_wp2
  go_end0
  exact ⟨rfl, B0⟩

set_option maxRecDepth 100000 in
set_option maxHeartbeats 1000000 in
theorem c73_long (w : World) (tb nb mb : Nat) (k : Int) (s : ByteArray) (p : Nat) (hk : (k == 1) = true) (hl : 20 < s.size) :
    Calls Tryz.prog 189 #[.agg #[.map (some tb), .map (some nb), .map (some mb)], .agg #[.int .i64 k, .string s, .int .i64 p]] w fun e w' => e = fault 3 p ∧ Below w.heap.size w w' := by
  obtain ⟨B0, KC, KW⟩ := two_new w #[.map (some tb), .map (some nb), .map (some mb)] #[.int .i64 k, .string s, .int .i64 p] 247 114
  obtain ⟨r1, r2⟩ := KC.rules
  obtain ⟨r3, r4⟩ := KW.rules
  have hd : (20 : Int) < (s.size : Int) := by omega
  go_enter Tryz.func189, Tryz.ntmps189
  go_wp2_with fail
  clear r1 r2 r3 r4
  refine wp_region_held_drew (S := fun w' => w'.cell? ⟨w.heap.size, 0, none⟩ = some (.map (some tb)) ∧ w'.cell? ⟨w.heap.size + 1, 0, none⟩ = some (.int .i64 k) ∧ w'.cell? ⟨w.heap.size + 1, 1, none⟩ = some (.string s) ∧ w'.cell? ⟨w.heap.size + 1, 2, none⟩ = some (.int .i64 p)) (by kernel_rfl) ⟨KC.cell 0, KW.cell 0, KW.cell 1, KW.cell 2⟩ (fun hHeld => ?_)
  refine tkO 0 (.pointer (some ⟨w.heap.size + 1, 1, none⟩)) rfl (by kernel_rfl) (fun _ _ _ h => h) (.inl ⟨rfl, fun w ⟨sc, s0, s1, s2⟩ => by go_simp⟩) hHeld ?_
  simp only [Act.put, List.setIfInBounds_toArray, List.set_cons_zero, List.set_cons_succ, List.getElem_toArray, List.getElem_cons_zero]
  refine tkO 1 (.string s) rfl (by kernel_rfl) (fun _ _ _ h => h) (.inl ⟨rfl, fun w ⟨sc, s0, s1, s2⟩ => by go_simp⟩) hHeld ?_
  simp only [Act.put, List.setIfInBounds_toArray, List.set_cons_zero, List.set_cons_succ, List.getElem_toArray, List.getElem_cons_zero, List.getElem_cons_succ]
  refine tkO 2 (.int .i64 s.size) rfl (by kernel_rfl) (fun _ _ _ h => h) (.inl ⟨rfl, fun w ⟨sc, s0, s1, s2⟩ => by go_simp⟩) hHeld ?_
  simp only [Act.put, List.setIfInBounds_toArray, List.set_cons_zero, List.set_cons_succ, List.getElem_toArray, List.getElem_cons_zero, List.getElem_cons_succ]
  refine tkO 3 (.bool true) rfl (by kernel_rfl) (fun _ _ _ h => h) (.inl ⟨rfl, fun w ⟨sc, s0, s1, s2⟩ => by go_simp⟩) hHeld ?_
  simp only [Act.put, List.setIfInBounds_toArray, List.set_cons_zero, List.set_cons_succ, List.getElem_toArray, List.getElem_cons_zero, List.getElem_cons_succ]
  refine tkO 4 (.bool true) rfl (by kernel_rfl) (fun _ _ _ h => h) (.inl ⟨rfl, fun w ⟨sc, s0, s1, s2⟩ => by go_simp⟩) hHeld ?_
  simp only [Act.put, List.setIfInBounds_toArray, List.set_cons_zero, List.set_cons_succ, List.getElem_toArray, List.getElem_cons_zero, List.getElem_cons_succ]
  refine tkO 5 undef rfl (by kernel_rfl) (fun _ _ _ h => h) (.inr ⟨rfl, rfl⟩) hHeld ?_
  simp only [Act.put, List.setIfInBounds_toArray, List.set_cons_zero, List.set_cons_succ, List.getElem_toArray, List.getElem_cons_zero, List.getElem_cons_succ]
  refine tkO 6 undef rfl (by kernel_rfl) (fun _ _ _ h => h) (.inr ⟨rfl, rfl⟩) hHeld ?_
  simp only [Act.put, List.setIfInBounds_toArray, List.set_cons_zero, List.set_cons_succ, List.getElem_toArray, List.getElem_cons_zero, List.getElem_cons_succ]
  refine tkO 7 undef rfl (by kernel_rfl) (fun _ _ _ h => h) (.inr ⟨rfl, rfl⟩) hHeld ?_
  simp only [Act.put, List.setIfInBounds_toArray, List.set_cons_zero, List.set_cons_succ, List.getElem_toArray, List.getElem_cons_zero, List.getElem_cons_succ]
  refine tkO 8 undef rfl (by kernel_rfl) (fun _ _ _ h => h) (.inr ⟨rfl, rfl⟩) hHeld ?_
  simp only [Act.put, List.setIfInBounds_toArray, List.set_cons_zero, List.set_cons_succ, List.getElem_toArray, List.getElem_cons_zero, List.getElem_cons_succ]
  refine tkO 9 undef rfl (by kernel_rfl) (fun _ _ _ h => h) (.inr ⟨rfl, rfl⟩) hHeld ?_
  simp only [Act.put, List.setIfInBounds_toArray, List.set_cons_zero, List.set_cons_succ, List.getElem_toArray, List.getElem_cons_zero, List.getElem_cons_succ]
  refine tkO 10 undef rfl (by kernel_rfl) (fun _ _ _ h => h) (.inr ⟨rfl, rfl⟩) hHeld ?_
  simp only [Act.put, List.setIfInBounds_toArray, List.set_cons_zero, List.set_cons_succ, List.getElem_toArray, List.getElem_cons_zero, List.getElem_cons_succ]
  refine tkO 11 (.bool true) rfl (by kernel_rfl) (fun _ _ _ h => h) (.inl ⟨rfl, fun w ⟨sc, s0, s1, s2⟩ => by go_simp⟩) hHeld ?_
  simp only [Act.put, List.setIfInBounds_toArray, List.set_cons_zero, List.set_cons_succ, List.getElem_toArray, List.getElem_cons_zero, List.getElem_cons_succ]
  refine tkO 12 (.agg #[.int .i64 k, .string s, .int .i64 p]) rfl (by kernel_rfl) (fun _ _ _ h => h) (.inl ⟨rfl, fun w ⟨sc, s0, s1, s2⟩ => by go_simp⟩) hHeld ?_
  simp only [Act.put, List.setIfInBounds_toArray, List.set_cons_zero, List.set_cons_succ, List.getElem_toArray, List.getElem_cons_zero, List.getElem_cons_succ]
  refine wpAnyH_ready (rs := [13]) (by kernel_rfl) (by simp) (AllReadyH.cons rfl (fun K hK => ?_) AllReadyH.nil)
  clear hK
  go_simp
  refine (c48_yes _ k s p).mono ?_
  rintro e w4 ⟨rfl, hb⟩
  exact ⟨rfl, rfl, B0.drew.trans (hb.mono (by simp; omega))⟩

set_option maxRecDepth 100000 in
set_option maxHeartbeats 1000000 in
theorem c73_none (w : World) (tb nb mb : Nat) (types : List ByteArray) (k : Int) (s : ByteArray) (p : Nat) (H : StrSet w tb types) (hk : (k == 1) = true) (hl : s.size ≤ 20) (hm : memS types s = false) :
    Calls Tryz.prog 189 #[.agg #[.map (some tb), .map (some nb), .map (some mb)], .agg #[.int .i64 k, .string s, .int .i64 p]] w fun e w' => e = fault 3 p ∧ Below w.heap.size w w' := by
  obtain ⟨B0, KC, KW⟩ := two_new w #[.map (some tb), .map (some nb), .map (some mb)] #[.int .i64 k, .string s, .int .i64 p] 247 114
  obtain ⟨r1, r2⟩ := KC.rules
  obtain ⟨r3, r4⟩ := KW.rules
  have hd2 : decide ((20 : Int) < (s.size : Int)) = false := by simp; omega
  have hx : s.size ≤ maxLen := by unfold maxLen; omega
  have H1 : StrSet ((w.alloc (Obj.cells #[.map (some tb), .map (some nb), .map (some mb)] 247)).alloc (Obj.cells #[.int .i64 k, .string s, .int .i64 p] 114)).drew tb types := H.keep (B0.block _ H.lt)
  go_enter Tryz.func189, Tryz.ntmps189
  go_wp2_with fail
  clear r1 r2 r3 r4
  refine wp_region_held_drew (S := fun w' => w'.cell? ⟨w.heap.size, 0, none⟩ = some (.map (some tb)) ∧ w'.cell? ⟨w.heap.size + 1, 0, none⟩ = some (.int .i64 k) ∧ w'.cell? ⟨w.heap.size + 1, 1, none⟩ = some (.string s) ∧ w'.cell? ⟨w.heap.size + 1, 2, none⟩ = some (.int .i64 p)) (by kernel_rfl) ⟨KC.cell 0, KW.cell 0, KW.cell 1, KW.cell 2⟩ (fun hHeld => ?_)
  refine tkO 0 (.pointer (some ⟨w.heap.size + 1, 1, none⟩)) rfl (by kernel_rfl) (fun _ _ _ h => h) (.inl ⟨rfl, fun w ⟨sc, s0, s1, s2⟩ => by go_simp⟩) hHeld ?_
  simp only [Act.put, List.setIfInBounds_toArray, List.set_cons_zero, List.set_cons_succ, List.getElem_toArray, List.getElem_cons_zero]
  refine tkO 1 (.string s) rfl (by kernel_rfl) (fun _ _ _ h => h) (.inl ⟨rfl, fun w ⟨sc, s0, s1, s2⟩ => by go_simp⟩) hHeld ?_
  simp only [Act.put, List.setIfInBounds_toArray, List.set_cons_zero, List.set_cons_succ, List.getElem_toArray, List.getElem_cons_zero, List.getElem_cons_succ]
  refine tkO 2 (.int .i64 s.size) rfl (by kernel_rfl) (fun _ _ _ h => h) (.inl ⟨rfl, fun w ⟨sc, s0, s1, s2⟩ => by go_simp⟩) hHeld ?_
  simp only [Act.put, List.setIfInBounds_toArray, List.set_cons_zero, List.set_cons_succ, List.getElem_toArray, List.getElem_cons_zero, List.getElem_cons_succ]
  refine tkO 3 (.bool false) rfl (by kernel_rfl) (fun _ _ _ h => h) (.inl ⟨rfl, fun w ⟨sc, s0, s1, s2⟩ => by go_simp⟩) hHeld ?_
  simp only [Act.put, List.setIfInBounds_toArray, List.set_cons_zero, List.set_cons_succ, List.getElem_toArray, List.getElem_cons_zero, List.getElem_cons_succ]
  refine tkO 4 (.bool false) rfl (by kernel_rfl) (fun _ _ _ h => h) (.inl ⟨rfl, fun w ⟨sc, s0, s1, s2⟩ => by go_simp⟩) hHeld ?_
  simp only [Act.put, List.setIfInBounds_toArray, List.set_cons_zero, List.set_cons_succ, List.getElem_toArray, List.getElem_cons_zero, List.getElem_cons_succ]
  refine tkO 5 (.pointer (some ⟨w.heap.size, 0, none⟩)) rfl (by kernel_rfl) (fun _ _ _ h => h) (.inl ⟨rfl, fun w ⟨sc, s0, s1, s2⟩ => by go_simp⟩) hHeld ?_
  simp only [Act.put, List.setIfInBounds_toArray, List.set_cons_zero, List.set_cons_succ, List.getElem_toArray, List.getElem_cons_zero, List.getElem_cons_succ]
  refine tkO 6 (.map (some tb)) rfl (by kernel_rfl) (fun _ _ _ h => h) (.inl ⟨rfl, fun w ⟨sc, s0, s1, s2⟩ => by go_simp⟩) hHeld ?_
  simp only [Act.put, List.setIfInBounds_toArray, List.set_cons_zero, List.set_cons_succ, List.getElem_toArray, List.getElem_cons_zero, List.getElem_cons_succ]
  refine tkO 7 (.pointer (some ⟨w.heap.size + 1, 1, none⟩)) rfl (by kernel_rfl) (fun _ _ _ h => h) (.inl ⟨rfl, fun w ⟨sc, s0, s1, s2⟩ => by go_simp⟩) hHeld ?_
  simp only [Act.put, List.setIfInBounds_toArray, List.set_cons_zero, List.set_cons_succ, List.getElem_toArray, List.getElem_cons_zero, List.getElem_cons_succ]
  refine tkO 8 (.string s) rfl (by kernel_rfl) (fun _ _ _ h => h) (.inl ⟨rfl, fun w ⟨sc, s0, s1, s2⟩ => by go_simp⟩) hHeld ?_
  simp only [Act.put, List.setIfInBounds_toArray, List.set_cons_zero, List.set_cons_succ, List.getElem_toArray, List.getElem_cons_zero, List.getElem_cons_succ]
  refine tkO 12 (.agg #[.int .i64 k, .string s, .int .i64 p]) rfl (by kernel_rfl) (fun _ _ _ h => h) (.inl ⟨rfl, fun w ⟨sc, s0, s1, s2⟩ => by go_simp⟩) hHeld ?_
  simp only [Act.put, List.setIfInBounds_toArray, List.set_cons_zero, List.set_cons_succ, List.getElem_toArray, List.getElem_cons_zero, List.getElem_cons_succ]
  refine wpAnyH_ready (rs := [9]) (by kernel_rfl) (by simp) (AllReadyH.cons rfl (fun K hK => ?_) AllReadyH.nil)
  go_simp
  refine (c63 _ tb types s H1 hx).mono ?_
  rw [hm]
  rintro e w3 ⟨rfl, hb3⟩
  have K3 := KC.drew.below hb3 (by simp; omega)
  have K4 := KW.drew.below hb3 (by simp)
  clear hHeld
  refine hK.out _ _ ⟨K3.cell 0, K4.cell 0, K4.cell 1, K4.cell 2⟩ (fun hHeld => ?_)
  clear hK K
  refine tkO 10 (.bool true) rfl (by kernel_rfl) (fun _ _ _ h => h) (.inl ⟨rfl, fun w ⟨sc, s0, s1, s2⟩ => by go_simp⟩) hHeld ?_
  simp only [Act.put, List.setIfInBounds_toArray, List.set_cons_zero, List.set_cons_succ, List.getElem_toArray, List.getElem_cons_zero, List.getElem_cons_succ]
  refine tkO 11 (.bool true) rfl (by kernel_rfl) (fun _ _ _ h => h) (.inl ⟨rfl, fun w ⟨sc, s0, s1, s2⟩ => by go_simp⟩) hHeld ?_
  simp only [Act.put, List.setIfInBounds_toArray, List.set_cons_zero, List.set_cons_succ, List.getElem_toArray, List.getElem_cons_zero, List.getElem_cons_succ]
  refine wpAnyH_ready (rs := [13]) (by kernel_rfl) (by simp) (AllReadyH.cons rfl (fun K hK => ?_) AllReadyH.nil)
  clear hK
  go_simp
  refine (c48_yes _ k s p).mono ?_
  rintro e w4 ⟨rfl, hb⟩
  exact ⟨rfl, rfl, (B0.drew.trans (hb3.mono (by simp; omega))).trans (hb.mono (by have := hb3.size; simp at this; omega))⟩

set_option maxRecDepth 100000 in
set_option maxHeartbeats 1000000 in
theorem c73_ok (w : World) (tb nb mb : Nat) (types : List ByteArray) (k : Int) (s : ByteArray) (p : Nat) (H : StrSet w tb types) (hk : (k == 1) = true) (hl : s.size ≤ 20) (hm : memS types s = true) :
    Calls Tryz.prog 189 #[.agg #[.map (some tb), .map (some nb), .map (some mb)], .agg #[.int .i64 k, .string s, .int .i64 p]] w fun e w' => e = .returned (.tuple #[]) ∧ Below w.heap.size w w' := by
  obtain ⟨B0, KC, KW⟩ := two_new w #[.map (some tb), .map (some nb), .map (some mb)] #[.int .i64 k, .string s, .int .i64 p] 247 114
  obtain ⟨r1, r2⟩ := KC.rules
  obtain ⟨r3, r4⟩ := KW.rules
  have hd2 : decide ((20 : Int) < (s.size : Int)) = false := by simp; omega
  have hx : s.size ≤ maxLen := by unfold maxLen; omega
  have H1 : StrSet ((w.alloc (Obj.cells #[.map (some tb), .map (some nb), .map (some mb)] 247)).alloc (Obj.cells #[.int .i64 k, .string s, .int .i64 p] 114)).drew tb types := H.keep (B0.block _ H.lt)
  go_enter Tryz.func189, Tryz.ntmps189
  go_wp2_with fail
  go_region_held3 (fun w' => w'.cell? ⟨w.heap.size, 0, none⟩ = some (.map (some tb)) ∧ w'.cell? ⟨w.heap.size + 1, 0, none⟩ = some (.int .i64 k) ∧ w'.cell? ⟨w.heap.size + 1, 1, none⟩ = some (.string s) ∧ w'.cell? ⟨w.heap.size + 1, 2, none⟩ = some (.int .i64 p))
    (first | exact ⟨K5.cell 0, K6.cell 0, K6.cell 1, K6.cell 2⟩ | exact ⟨K3.cell 0, K4.cell 0, K4.cell 1, K4.cell 2⟩ | go_keep)
    (first | (go_at_call 126; refine (c63 _ tb types s H1 hx).mono ?_; rw [hm]; rintro e w3 ⟨rfl, hb3⟩; have K3 := KC.drew.below hb3 (by simp; omega); have K4 := KW.drew.below hb3 (by simp)) | (go_at_call 81; refine (c48_no _ k s p).mono ?_; rintro e w4 ⟨rfl, hb4⟩; have K5 := K3.below hb4 K3.lt; have K6 := K4.below hb4 K4.lt))
  go_wp2
  go_end0
  exact ⟨rfl, (B0.drew.trans (hb3.mono (by simp; omega))).trans (hb4.mono (by have := hb3.size; simp at this; omega))⟩

theorem c73 (w : World) (tb nb mb : Nat) (types : List ByteArray) (k : Int) (s : ByteArray) (p : Nat) (H : StrSet w tb types) :
    Calls Tryz.prog 189 #[.agg #[.map (some tb), .map (some nb), .map (some mb)], .agg #[.int .i64 k, .string s, .int .i64 p]] w fun e w' => (if typeBad types k s then e = fault 3 p else e = .returned (.tuple #[])) ∧ Below w.heap.size w w' := by
  unfold typeBad
  cases hk : (k == 1)
  · simp only [Bool.false_and, Bool.false_eq_true, if_false]
    exact c73_no w tb nb mb k s p hk
  · by_cases hl : 20 < s.size
    · simp only [hl, decide_true, Bool.true_or, Bool.and_true, if_true]
      exact c73_long w tb nb mb k s p hk hl
    · cases hm : memS types s
      · simp only [hl, decide_false, Bool.not_false, Bool.or_true, Bool.and_true, if_true]
        exact c73_none w tb nb mb types k s p H hk (by omega) hm
      · simp only [hl, decide_false, Bool.not_true, Bool.or_false, Bool.and_false, Bool.false_eq_true, if_false]
        exact c73_ok w tb nb mb types k s p H hk (by omega) hm

end Go.Proofs.YtbbbegjedmicpaaGreatDoor
