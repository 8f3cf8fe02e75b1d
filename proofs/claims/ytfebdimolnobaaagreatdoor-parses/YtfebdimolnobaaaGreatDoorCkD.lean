import Derived.Test.YtfebdimolnobaaaGreatDoorCkB

/-
  CONTRACTS: number.
-/
namespace Go.Proofs.YtfebdimolnobaaaGreatDoor
open Go.RowKit Go.Maps
attribute [local go_sem] f91_0 f91_1 f91_2
attribute [local go_sem ↓] Go.wp_at_zero Go.wp_at_succ

def numBad (nums : List Nat) (n : Nat) : Bool := decide (n < 1) || (decide (536870911 < n) || memN nums n)

set_option maxRecDepth 100000 in
set_option maxHeartbeats 1000000 in
theorem c74_low (w : World) (tb nb mb : Nat) (k : Int) (s : ByteArray) (p : Nat) (hok : numOK s) (hg : GOK w) (hn : numV s < 1) :
    Calls Tryz.prog 262 #[.agg #[.map (some tb), .map (some nb), .map (some mb)], .agg #[.int .i64 k, .string s, .int .i64 p]] w fun e w' => e = fault 3 p ∧ Below w.heap.size w w' := by
  have B0 : Below w.heap.size w ((w.alloc (Obj.cells #[.map (some tb), .map (some nb), .map (some mb)] 306)).alloc (Obj.cells #[.int .i64 k, .string s, .int .i64 p] 148)) := ((Below.refl w.heap.size w).alloc (Nat.le_refl _) _).alloc (by simp) _
  have KC0 := (Blk.new w #[.map (some tb), .map (some nb), .map (some mb)] 306).alloc (Obj.cells #[.int .i64 k, .string s, .int .i64 p] 148)
  have KW0 : Blk ((w.alloc (Obj.cells #[.map (some tb), .map (some nb), .map (some mb)] 306)).alloc (Obj.cells #[.int .i64 k, .string s, .int .i64 p] 148)) (w.heap.size + 1) #[.int .i64 k, .string s, .int .i64 p] 148 := by
    have := Blk.new (w.alloc (Obj.cells #[.map (some tb), .map (some nb), .map (some mb)] 306)) #[.int .i64 k, .string s, .int .i64 p] 148
    simpa using this
  obtain ⟨r1, r2⟩ := KC0.rules
  obtain ⟨r3, r4⟩ := KW0.rules
  obtain ⟨n, HN⟩ : ∃ n, Hid (numV s = n) := ⟨_, rfl⟩
  rw [HN.out] at hn
  have hd : (n : Int) < 1 := by omega
  go_enter Tryz.func262, Tryz.ntmps262
  go_wp2_with fail
  refine (c64 _ k s p hok (hg.keep (B0.block _ hg.lt))).mono ?_
  rw [HN.out]
  rintro e w2 ⟨rfl, hb2⟩
  have KC := KC0.below hb2 (by simp; omega)
  have KW := KW0.below hb2 (by simp)
  have B2 : Below w.heap.size w w2 := B0.trans (hb2.mono (by simp; omega))
  have z2 : w.heap.size + 1 < w2.heap.size := KW.lt
  clear r1 r2 r3 r4 KC0 KW0 B0 hb2
  go_wp2_with fail
  refine wp_region_held_drew (S := fun w' => w'.cell? ⟨w.heap.size, 2, none⟩ = some (.map (some mb)) ∧ w'.cell? ⟨w.heap.size + 1, 0, none⟩ = some (.int .i64 k) ∧ w'.cell? ⟨w.heap.size + 1, 1, none⟩ = some (.string s) ∧ w'.cell? ⟨w.heap.size + 1, 2, none⟩ = some (.int .i64 p)) (by kernel_rfl) ⟨KC.cell 2, KW.cell 0, KW.cell 1, KW.cell 2⟩ (fun hHeld => ?_)
  refine wpAnyH_take (i := 0) (v := .int .u64 (n : Int)) rfl (by kernel_rfl) (by kernel_rfl) (by kernel_rfl) (fun _ _ _ h => h) (Or.inl ⟨by rfl, fun w hSw => by obtain ⟨sc, s0, s1, s2⟩ := hSw; go_simp⟩) hHeld ?_
  simp only [Act.put, List.setIfInBounds_toArray, List.set_cons_zero, List.set_cons_succ, List.getElem_toArray, List.getElem_cons_zero]
  refine wpAnyH_take (i := 1) (v := .bool true) rfl (by kernel_rfl) (by kernel_rfl) (by kernel_rfl) (fun _ _ _ h => h) (Or.inl ⟨by rfl, fun w hSw => by obtain ⟨sc, s0, s1, s2⟩ := hSw; go_simp⟩) hHeld ?_
  simp only [Act.put, List.setIfInBounds_toArray, List.set_cons_zero, List.set_cons_succ, List.getElem_toArray, List.getElem_cons_zero, List.getElem_cons_succ]
  refine wpAnyH_take (i := 2) (v := .bool true) rfl (by kernel_rfl) (by kernel_rfl) (by kernel_rfl) (fun _ _ _ h => h) (Or.inl ⟨by rfl, fun w hSw => by obtain ⟨sc, s0, s1, s2⟩ := hSw; go_simp⟩) hHeld ?_
  simp only [Act.put, List.setIfInBounds_toArray, List.set_cons_zero, List.set_cons_succ, List.getElem_toArray, List.getElem_cons_zero, List.getElem_cons_succ]
  refine wpAnyH_take (i := 3) (v := undef) rfl (by kernel_rfl) (by kernel_rfl) (by kernel_rfl) (fun _ _ _ h => h) (Or.inr ⟨by rfl, rfl⟩) hHeld ?_
  simp only [Act.put, List.setIfInBounds_toArray, List.set_cons_zero, List.set_cons_succ, List.getElem_toArray, List.getElem_cons_zero, List.getElem_cons_succ]
  refine wpAnyH_take (i := 4) (v := undef) rfl (by kernel_rfl) (by kernel_rfl) (by kernel_rfl) (fun _ _ _ h => h) (Or.inr ⟨by rfl, rfl⟩) hHeld ?_
  simp only [Act.put, List.setIfInBounds_toArray, List.set_cons_zero, List.set_cons_succ, List.getElem_toArray, List.getElem_cons_zero, List.getElem_cons_succ]
  refine wpAnyH_take (i := 5) (v := .bool true) rfl (by kernel_rfl) (by kernel_rfl) (by kernel_rfl) (fun _ _ _ h => h) (Or.inl ⟨by rfl, fun w hSw => by obtain ⟨sc, s0, s1, s2⟩ := hSw; go_simp⟩) hHeld ?_
  simp only [Act.put, List.setIfInBounds_toArray, List.set_cons_zero, List.set_cons_succ, List.getElem_toArray, List.getElem_cons_zero, List.getElem_cons_succ]
  refine wpAnyH_take (i := 6) (v := .bool true) rfl (by kernel_rfl) (by kernel_rfl) (by kernel_rfl) (fun _ _ _ h => h) (Or.inl ⟨by rfl, fun w hSw => by obtain ⟨sc, s0, s1, s2⟩ := hSw; go_simp⟩) hHeld ?_
  simp only [Act.put, List.setIfInBounds_toArray, List.set_cons_zero, List.set_cons_succ, List.getElem_toArray, List.getElem_cons_zero, List.getElem_cons_succ]
  refine wpAnyH_take (i := 7) (v := undef) rfl (by kernel_rfl) (by kernel_rfl) (by kernel_rfl) (fun _ _ _ h => h) (Or.inr ⟨by rfl, rfl⟩) hHeld ?_
  simp only [Act.put, List.setIfInBounds_toArray, List.set_cons_zero, List.set_cons_succ, List.getElem_toArray, List.getElem_cons_zero, List.getElem_cons_succ]
  refine wpAnyH_take (i := 8) (v := undef) rfl (by kernel_rfl) (by kernel_rfl) (by kernel_rfl) (fun _ _ _ h => h) (Or.inr ⟨by rfl, rfl⟩) hHeld ?_
  simp only [Act.put, List.setIfInBounds_toArray, List.set_cons_zero, List.set_cons_succ, List.getElem_toArray, List.getElem_cons_zero, List.getElem_cons_succ]
  refine wpAnyH_take (i := 9) (v := undef) rfl (by kernel_rfl) (by kernel_rfl) (by kernel_rfl) (fun _ _ _ h => h) (Or.inr ⟨by rfl, rfl⟩) hHeld ?_
  simp only [Act.put, List.setIfInBounds_toArray, List.set_cons_zero, List.set_cons_succ, List.getElem_toArray, List.getElem_cons_zero, List.getElem_cons_succ]
  refine wpAnyH_take (i := 10) (v := undef) rfl (by kernel_rfl) (by kernel_rfl) (by kernel_rfl) (fun _ _ _ h => h) (Or.inr ⟨by rfl, rfl⟩) hHeld ?_
  simp only [Act.put, List.setIfInBounds_toArray, List.set_cons_zero, List.set_cons_succ, List.getElem_toArray, List.getElem_cons_zero, List.getElem_cons_succ]
  refine wpAnyH_take (i := 11) (v := .bool true) rfl (by kernel_rfl) (by kernel_rfl) (by kernel_rfl) (fun _ _ _ h => h) (Or.inl ⟨by rfl, fun w hSw => by obtain ⟨sc, s0, s1, s2⟩ := hSw; go_simp⟩) hHeld ?_
  simp only [Act.put, List.setIfInBounds_toArray, List.set_cons_zero, List.set_cons_succ, List.getElem_toArray, List.getElem_cons_zero, List.getElem_cons_succ]
  refine wpAnyH_take (i := 12) (v := .agg #[.int .i64 k, .string s, .int .i64 p]) rfl (by kernel_rfl) (by kernel_rfl) (by kernel_rfl) (fun _ _ _ h => h) (Or.inl ⟨by rfl, fun w hSw => by obtain ⟨sc, s0, s1, s2⟩ := hSw; go_simp⟩) hHeld ?_
  simp only [Act.put, List.setIfInBounds_toArray, List.set_cons_zero, List.set_cons_succ, List.getElem_toArray, List.getElem_cons_zero, List.getElem_cons_succ]
  refine wpAnyH_ready (rs := [13]) (by kernel_rfl) (by simp) (AllReadyH.cons rfl (fun K hK => ?_) AllReadyH.nil)
  clear hK
  go_simp
  refine (c48_yes _ k s p).mono ?_
  rintro e w4 ⟨rfl, hb⟩
  exact ⟨rfl, rfl, B2.drew.trans (hb.mono (by simp; omega))⟩

set_option maxRecDepth 100000 in
set_option maxHeartbeats 1000000 in
theorem c74_high (w : World) (tb nb mb : Nat) (k : Int) (s : ByteArray) (p : Nat) (hok : numOK s) (hg : GOK w) (hn : 536870911 < numV s) :
    Calls Tryz.prog 262 #[.agg #[.map (some tb), .map (some nb), .map (some mb)], .agg #[.int .i64 k, .string s, .int .i64 p]] w fun e w' => e = fault 3 p ∧ Below w.heap.size w w' := by
  have B0 : Below w.heap.size w ((w.alloc (Obj.cells #[.map (some tb), .map (some nb), .map (some mb)] 306)).alloc (Obj.cells #[.int .i64 k, .string s, .int .i64 p] 148)) := ((Below.refl w.heap.size w).alloc (Nat.le_refl _) _).alloc (by simp) _
  have KC0 := (Blk.new w #[.map (some tb), .map (some nb), .map (some mb)] 306).alloc (Obj.cells #[.int .i64 k, .string s, .int .i64 p] 148)
  have KW0 : Blk ((w.alloc (Obj.cells #[.map (some tb), .map (some nb), .map (some mb)] 306)).alloc (Obj.cells #[.int .i64 k, .string s, .int .i64 p] 148)) (w.heap.size + 1) #[.int .i64 k, .string s, .int .i64 p] 148 := by
    have := Blk.new (w.alloc (Obj.cells #[.map (some tb), .map (some nb), .map (some mb)] 306)) #[.int .i64 k, .string s, .int .i64 p] 148
    simpa using this
  obtain ⟨r1, r2⟩ := KC0.rules
  obtain ⟨r3, r4⟩ := KW0.rules
  obtain ⟨n, HN⟩ : ∃ n, Hid (numV s = n) := ⟨_, rfl⟩
  rw [HN.out] at hn
  have hd : ¬ (n : Int) < 1 := by omega
  have hd2 : decide ((n : Int) < 1) = false := by simpa using hd
  have hd3 : (536870911 : Int) < (n : Int) := by omega
  clear hd
  go_enter Tryz.func262, Tryz.ntmps262
  go_wp2_with fail
  refine (c64 _ k s p hok (hg.keep (B0.block _ hg.lt))).mono ?_
  rw [HN.out]
  rintro e w2 ⟨rfl, hb2⟩
  have KC := KC0.below hb2 (by simp; omega)
  have KW := KW0.below hb2 (by simp)
  have B2 : Below w.heap.size w w2 := B0.trans (hb2.mono (by simp; omega))
  have z2 : w.heap.size + 1 < w2.heap.size := KW.lt
  clear r1 r2 r3 r4 KC0 KW0 B0 hb2
  go_wp2_with fail
  refine wp_region_held_drew (S := fun w' => w'.cell? ⟨w.heap.size, 2, none⟩ = some (.map (some mb)) ∧ w'.cell? ⟨w.heap.size + 1, 0, none⟩ = some (.int .i64 k) ∧ w'.cell? ⟨w.heap.size + 1, 1, none⟩ = some (.string s) ∧ w'.cell? ⟨w.heap.size + 1, 2, none⟩ = some (.int .i64 p)) (by kernel_rfl) ⟨KC.cell 2, KW.cell 0, KW.cell 1, KW.cell 2⟩ (fun hHeld => ?_)
  refine wpAnyH_take (i := 0) (v := .int .u64 (n : Int)) rfl (by kernel_rfl) (by kernel_rfl) (by kernel_rfl) (fun _ _ _ h => h) (Or.inl ⟨by rfl, fun w hSw => by obtain ⟨sc, s0, s1, s2⟩ := hSw; go_simp⟩) hHeld ?_
  simp only [Act.put, List.setIfInBounds_toArray, List.set_cons_zero, List.set_cons_succ, List.getElem_toArray, List.getElem_cons_zero]
  refine wpAnyH_take (i := 1) (v := .bool false) rfl (by kernel_rfl) (by kernel_rfl) (by kernel_rfl) (fun _ _ _ h => h) (Or.inl ⟨by rfl, fun w hSw => by obtain ⟨sc, s0, s1, s2⟩ := hSw; go_simp⟩) hHeld ?_
  simp only [Act.put, List.setIfInBounds_toArray, List.set_cons_zero, List.set_cons_succ, List.getElem_toArray, List.getElem_cons_zero, List.getElem_cons_succ]
  refine wpAnyH_take (i := 2) (v := .bool false) rfl (by kernel_rfl) (by kernel_rfl) (by kernel_rfl) (fun _ _ _ h => h) (Or.inl ⟨by rfl, fun w hSw => by obtain ⟨sc, s0, s1, s2⟩ := hSw; go_simp⟩) hHeld ?_
  simp only [Act.put, List.setIfInBounds_toArray, List.set_cons_zero, List.set_cons_succ, List.getElem_toArray, List.getElem_cons_zero, List.getElem_cons_succ]
  refine wpAnyH_take (i := 3) (v := .int .u64 (n : Int)) rfl (by kernel_rfl) (by kernel_rfl) (by kernel_rfl) (fun _ _ _ h => h) (Or.inl ⟨by rfl, fun w hSw => by obtain ⟨sc, s0, s1, s2⟩ := hSw; go_simp⟩) hHeld ?_
  simp only [Act.put, List.setIfInBounds_toArray, List.set_cons_zero, List.set_cons_succ, List.getElem_toArray, List.getElem_cons_zero, List.getElem_cons_succ]
  refine wpAnyH_take (i := 4) (v := .bool true) rfl (by kernel_rfl) (by kernel_rfl) (by kernel_rfl) (fun _ _ _ h => h) (Or.inl ⟨by rfl, fun w hSw => by obtain ⟨sc, s0, s1, s2⟩ := hSw; go_simp⟩) hHeld ?_
  simp only [Act.put, List.setIfInBounds_toArray, List.set_cons_zero, List.set_cons_succ, List.getElem_toArray, List.getElem_cons_zero, List.getElem_cons_succ]
  refine wpAnyH_take (i := 5) (v := .bool true) rfl (by kernel_rfl) (by kernel_rfl) (by kernel_rfl) (fun _ _ _ h => h) (Or.inl ⟨by rfl, fun w hSw => by obtain ⟨sc, s0, s1, s2⟩ := hSw; go_simp⟩) hHeld ?_
  simp only [Act.put, List.setIfInBounds_toArray, List.set_cons_zero, List.set_cons_succ, List.getElem_toArray, List.getElem_cons_zero, List.getElem_cons_succ]
  refine wpAnyH_take (i := 6) (v := .bool true) rfl (by kernel_rfl) (by kernel_rfl) (by kernel_rfl) (fun _ _ _ h => h) (Or.inl ⟨by rfl, fun w hSw => by obtain ⟨sc, s0, s1, s2⟩ := hSw; go_simp⟩) hHeld ?_
  simp only [Act.put, List.setIfInBounds_toArray, List.set_cons_zero, List.set_cons_succ, List.getElem_toArray, List.getElem_cons_zero, List.getElem_cons_succ]
  refine wpAnyH_take (i := 7) (v := undef) rfl (by kernel_rfl) (by kernel_rfl) (by kernel_rfl) (fun _ _ _ h => h) (Or.inr ⟨by rfl, rfl⟩) hHeld ?_
  simp only [Act.put, List.setIfInBounds_toArray, List.set_cons_zero, List.set_cons_succ, List.getElem_toArray, List.getElem_cons_zero, List.getElem_cons_succ]
  refine wpAnyH_take (i := 8) (v := undef) rfl (by kernel_rfl) (by kernel_rfl) (by kernel_rfl) (fun _ _ _ h => h) (Or.inr ⟨by rfl, rfl⟩) hHeld ?_
  simp only [Act.put, List.setIfInBounds_toArray, List.set_cons_zero, List.set_cons_succ, List.getElem_toArray, List.getElem_cons_zero, List.getElem_cons_succ]
  refine wpAnyH_take (i := 9) (v := undef) rfl (by kernel_rfl) (by kernel_rfl) (by kernel_rfl) (fun _ _ _ h => h) (Or.inr ⟨by rfl, rfl⟩) hHeld ?_
  simp only [Act.put, List.setIfInBounds_toArray, List.set_cons_zero, List.set_cons_succ, List.getElem_toArray, List.getElem_cons_zero, List.getElem_cons_succ]
  refine wpAnyH_take (i := 10) (v := undef) rfl (by kernel_rfl) (by kernel_rfl) (by kernel_rfl) (fun _ _ _ h => h) (Or.inr ⟨by rfl, rfl⟩) hHeld ?_
  simp only [Act.put, List.setIfInBounds_toArray, List.set_cons_zero, List.set_cons_succ, List.getElem_toArray, List.getElem_cons_zero, List.getElem_cons_succ]
  refine wpAnyH_take (i := 11) (v := .bool true) rfl (by kernel_rfl) (by kernel_rfl) (by kernel_rfl) (fun _ _ _ h => h) (Or.inl ⟨by rfl, fun w hSw => by obtain ⟨sc, s0, s1, s2⟩ := hSw; go_simp⟩) hHeld ?_
  simp only [Act.put, List.setIfInBounds_toArray, List.set_cons_zero, List.set_cons_succ, List.getElem_toArray, List.getElem_cons_zero, List.getElem_cons_succ]
  refine wpAnyH_take (i := 12) (v := .agg #[.int .i64 k, .string s, .int .i64 p]) rfl (by kernel_rfl) (by kernel_rfl) (by kernel_rfl) (fun _ _ _ h => h) (Or.inl ⟨by rfl, fun w hSw => by obtain ⟨sc, s0, s1, s2⟩ := hSw; go_simp⟩) hHeld ?_
  simp only [Act.put, List.setIfInBounds_toArray, List.set_cons_zero, List.set_cons_succ, List.getElem_toArray, List.getElem_cons_zero, List.getElem_cons_succ]
  refine wpAnyH_ready (rs := [13]) (by kernel_rfl) (by simp) (AllReadyH.cons rfl (fun K hK => ?_) AllReadyH.nil)
  clear hK
  go_simp
  refine (c48_yes _ k s p).mono ?_
  rintro e w4 ⟨rfl, hb⟩
  exact ⟨rfl, rfl, B2.drew.trans (hb.mono (by simp; omega))⟩

set_option maxRecDepth 100000 in
set_option maxHeartbeats 1000000 in
theorem c74_dup (w : World) (tb nb mb : Nat) (k : Int) (s : ByteArray) (p : Nat) (hok : numOK s) (hg : GOK w) (nums : List Nat) (H : NumSet w mb nums) (hn : 1 ≤ numV s) (hn2 : numV s ≤ 536870911) (hm : memN nums (numV s) = true) :
    Calls Tryz.prog 262 #[.agg #[.map (some tb), .map (some nb), .map (some mb)], .agg #[.int .i64 k, .string s, .int .i64 p]] w fun e w' => e = fault 3 p ∧ Below w.heap.size w w' := by
  have B0 : Below w.heap.size w ((w.alloc (Obj.cells #[.map (some tb), .map (some nb), .map (some mb)] 306)).alloc (Obj.cells #[.int .i64 k, .string s, .int .i64 p] 148)) := ((Below.refl w.heap.size w).alloc (Nat.le_refl _) _).alloc (by simp) _
  have KC0 := (Blk.new w #[.map (some tb), .map (some nb), .map (some mb)] 306).alloc (Obj.cells #[.int .i64 k, .string s, .int .i64 p] 148)
  have KW0 : Blk ((w.alloc (Obj.cells #[.map (some tb), .map (some nb), .map (some mb)] 306)).alloc (Obj.cells #[.int .i64 k, .string s, .int .i64 p] 148)) (w.heap.size + 1) #[.int .i64 k, .string s, .int .i64 p] 148 := by
    have := Blk.new (w.alloc (Obj.cells #[.map (some tb), .map (some nb), .map (some mb)] 306)) #[.int .i64 k, .string s, .int .i64 p] 148
    simpa using this
  obtain ⟨r1, r2⟩ := KC0.rules
  obtain ⟨r3, r4⟩ := KW0.rules
  obtain ⟨n, HN⟩ : ∃ n, Hid (numV s = n) := ⟨_, rfl⟩
  rw [HN.out] at hn hn2 hm
  have hd2 : decide ((n : Int) < 1) = false := by simp; omega
  have hd3 : decide ((536870911 : Int) < (n : Int)) = false := by simp; omega
  have hlt : Hid (n < 18446744073709551616) := by have := numV_lt s; rw [HN.out] at this; exact this
  clear hn hn2
  go_enter Tryz.func262, Tryz.ntmps262
  go_wp2_with fail
  refine (c64 _ k s p hok (hg.keep (B0.block _ hg.lt))).mono ?_
  rw [HN.out]
  rintro e w2 ⟨rfl, hb2⟩
  have KC := KC0.below hb2 (by simp; omega)
  have KW := KW0.below hb2 (by simp)
  have B2 : Below w.heap.size w w2 := B0.trans (hb2.mono (by simp; omega))
  have z2 : w.heap.size + 1 < w2.heap.size := KW.lt
  clear r1 r2 r3 r4 KC0 KW0 B0 hb2
  go_wp2_with fail
  have H2 : NumSet w2.drew mb nums := H.keep (B2.block _ H.lt)
  refine wp_region_held_drew (S := fun w' => w'.cell? ⟨w.heap.size, 2, none⟩ = some (.map (some mb)) ∧ w'.cell? ⟨w.heap.size + 1, 0, none⟩ = some (.int .i64 k) ∧ w'.cell? ⟨w.heap.size + 1, 1, none⟩ = some (.string s) ∧ w'.cell? ⟨w.heap.size + 1, 2, none⟩ = some (.int .i64 p)) (by kernel_rfl) ⟨KC.cell 2, KW.cell 0, KW.cell 1, KW.cell 2⟩ (fun hHeld => ?_)
  refine wpAnyH_take (i := 0) (v := .int .u64 (n : Int)) rfl (by kernel_rfl) (by kernel_rfl) (by kernel_rfl) (fun _ _ _ h => h) (Or.inl ⟨by rfl, fun w hSw => by obtain ⟨sc, s0, s1, s2⟩ := hSw; go_simp⟩) hHeld ?_
  simp only [Act.put, List.setIfInBounds_toArray, List.set_cons_zero, List.set_cons_succ, List.getElem_toArray, List.getElem_cons_zero]
  refine wpAnyH_take (i := 1) (v := .bool false) rfl (by kernel_rfl) (by kernel_rfl) (by kernel_rfl) (fun _ _ _ h => h) (Or.inl ⟨by rfl, fun w hSw => by obtain ⟨sc, s0, s1, s2⟩ := hSw; go_simp⟩) hHeld ?_
  simp only [Act.put, List.setIfInBounds_toArray, List.set_cons_zero, List.set_cons_succ, List.getElem_toArray, List.getElem_cons_zero, List.getElem_cons_succ]
  refine wpAnyH_take (i := 2) (v := .bool false) rfl (by kernel_rfl) (by kernel_rfl) (by kernel_rfl) (fun _ _ _ h => h) (Or.inl ⟨by rfl, fun w hSw => by obtain ⟨sc, s0, s1, s2⟩ := hSw; go_simp⟩) hHeld ?_
  simp only [Act.put, List.setIfInBounds_toArray, List.set_cons_zero, List.set_cons_succ, List.getElem_toArray, List.getElem_cons_zero, List.getElem_cons_succ]
  refine wpAnyH_take (i := 3) (v := .int .u64 (n : Int)) rfl (by kernel_rfl) (by kernel_rfl) (by kernel_rfl) (fun _ _ _ h => h) (Or.inl ⟨by rfl, fun w hSw => by obtain ⟨sc, s0, s1, s2⟩ := hSw; go_simp⟩) hHeld ?_
  simp only [Act.put, List.setIfInBounds_toArray, List.set_cons_zero, List.set_cons_succ, List.getElem_toArray, List.getElem_cons_zero, List.getElem_cons_succ]
  refine wpAnyH_take (i := 4) (v := .bool false) rfl (by kernel_rfl) (by kernel_rfl) (by kernel_rfl) (fun _ _ _ h => h) (Or.inl ⟨by rfl, fun w hSw => by obtain ⟨sc, s0, s1, s2⟩ := hSw; go_simp⟩) hHeld ?_
  simp only [Act.put, List.setIfInBounds_toArray, List.set_cons_zero, List.set_cons_succ, List.getElem_toArray, List.getElem_cons_zero, List.getElem_cons_succ]
  refine wpAnyH_take (i := 5) (v := .bool false) rfl (by kernel_rfl) (by kernel_rfl) (by kernel_rfl) (fun _ _ _ h => h) (Or.inl ⟨by rfl, fun w hSw => by obtain ⟨sc, s0, s1, s2⟩ := hSw; go_simp⟩) hHeld ?_
  simp only [Act.put, List.setIfInBounds_toArray, List.set_cons_zero, List.set_cons_succ, List.getElem_toArray, List.getElem_cons_zero, List.getElem_cons_succ]
  refine wpAnyH_take (i := 6) (v := .bool false) rfl (by kernel_rfl) (by kernel_rfl) (by kernel_rfl) (fun _ _ _ h => h) (Or.inl ⟨by rfl, fun w hSw => by obtain ⟨sc, s0, s1, s2⟩ := hSw; go_simp⟩) hHeld ?_
  simp only [Act.put, List.setIfInBounds_toArray, List.set_cons_zero, List.set_cons_succ, List.getElem_toArray, List.getElem_cons_zero, List.getElem_cons_succ]
  refine wpAnyH_take (i := 7) (v := .pointer (some ⟨w.heap.size, 2, none⟩)) rfl (by kernel_rfl) (by kernel_rfl) (by kernel_rfl) (fun _ _ _ h => h) (Or.inl ⟨by rfl, fun w hSw => by obtain ⟨sc, s0, s1, s2⟩ := hSw; go_simp⟩) hHeld ?_
  simp only [Act.put, List.setIfInBounds_toArray, List.set_cons_zero, List.set_cons_succ, List.getElem_toArray, List.getElem_cons_zero, List.getElem_cons_succ]
  refine wpAnyH_take (i := 8) (v := .map (some mb)) rfl (by kernel_rfl) (by kernel_rfl) (by kernel_rfl) (fun _ _ _ h => h) (Or.inl ⟨by rfl, fun w hSw => by obtain ⟨sc, s0, s1, s2⟩ := hSw; go_simp⟩) hHeld ?_
  simp only [Act.put, List.setIfInBounds_toArray, List.set_cons_zero, List.set_cons_succ, List.getElem_toArray, List.getElem_cons_zero, List.getElem_cons_succ]
  refine wpAnyH_take (i := 9) (v := .int .u64 (n : Int)) rfl (by kernel_rfl) (by kernel_rfl) (by kernel_rfl) (fun _ _ _ h => h) (Or.inl ⟨by rfl, fun w hSw => by obtain ⟨sc, s0, s1, s2⟩ := hSw; go_simp⟩) hHeld ?_
  simp only [Act.put, List.setIfInBounds_toArray, List.set_cons_zero, List.set_cons_succ, List.getElem_toArray, List.getElem_cons_zero, List.getElem_cons_succ]
  refine wpAnyH_take (i := 12) (v := .agg #[.int .i64 k, .string s, .int .i64 p]) rfl (by kernel_rfl) (by kernel_rfl) (by kernel_rfl) (fun _ _ _ h => h) (Or.inl ⟨by rfl, fun w hSw => by obtain ⟨sc, s0, s1, s2⟩ := hSw; go_simp⟩) hHeld ?_
  simp only [Act.put, List.setIfInBounds_toArray, List.set_cons_zero, List.set_cons_succ, List.getElem_toArray, List.getElem_cons_zero, List.getElem_cons_succ]
  refine wpAnyH_ready (rs := [10]) (by kernel_rfl) (by simp) (AllReadyH.cons rfl (fun K hK => ?_) AllReadyH.nil)
  go_simp
  refine (c83 _ mb nums n H2 hlt.out).mono ?_
  rw [hm]
  rintro e w3 ⟨rfl, hb3⟩
  have K3 := KC.drew.below hb3 KC.lt
  have K4 := KW.drew.below hb3 KW.lt
  clear hHeld
  refine hK.out _ _ ⟨K3.cell 2, K4.cell 0, K4.cell 1, K4.cell 2⟩ (fun hHeld => ?_)
  clear hK K
  refine wpAnyH_take (i := 11) (v := .bool true) rfl (by kernel_rfl) (by kernel_rfl) (by kernel_rfl) (fun _ _ _ h => h) (Or.inl ⟨by rfl, fun w hSw => by obtain ⟨sc, s0, s1, s2⟩ := hSw; go_simp⟩) hHeld ?_
  simp only [Act.put, List.setIfInBounds_toArray, List.set_cons_zero, List.set_cons_succ, List.getElem_toArray, List.getElem_cons_zero, List.getElem_cons_succ]
  refine wpAnyH_ready (rs := [13]) (by kernel_rfl) (by simp) (AllReadyH.cons rfl (fun K hK => ?_) AllReadyH.nil)
  clear hK
  go_simp
  refine (c48_yes _ k s p).mono ?_
  rintro e w4 ⟨rfl, hb⟩
  exact ⟨rfl, rfl, (B2.drew.trans (hb3.mono (by simp; omega))).trans (hb.mono (by have := hb3.size; simp at this; omega))⟩

set_option maxRecDepth 100000 in
set_option maxHeartbeats 1000000 in
theorem c74_ok (w : World) (tb nb mb : Nat) (k : Int) (s : ByteArray) (p : Nat) (hok : numOK s) (hg : GOK w) (nums : List Nat) (H : NumSet w mb nums) (hl : nums.length < 5000) (hn : 1 ≤ numV s) (hn2 : numV s ≤ 536870911) (hm : memN nums (numV s) = false) :
    Calls Tryz.prog 262 #[.agg #[.map (some tb), .map (some nb), .map (some mb)], .agg #[.int .i64 k, .string s, .int .i64 p]] w fun e w' => e = .returned (.tuple #[]) ∧ NumSet w' mb (nums ++ [numV s]) ∧ Kept [mb] w w' := by
  have B0 : Below w.heap.size w ((w.alloc (Obj.cells #[.map (some tb), .map (some nb), .map (some mb)] 306)).alloc (Obj.cells #[.int .i64 k, .string s, .int .i64 p] 148)) := ((Below.refl w.heap.size w).alloc (Nat.le_refl _) _).alloc (by simp) _
  have KC0 := (Blk.new w #[.map (some tb), .map (some nb), .map (some mb)] 306).alloc (Obj.cells #[.int .i64 k, .string s, .int .i64 p] 148)
  have KW0 : Blk ((w.alloc (Obj.cells #[.map (some tb), .map (some nb), .map (some mb)] 306)).alloc (Obj.cells #[.int .i64 k, .string s, .int .i64 p] 148)) (w.heap.size + 1) #[.int .i64 k, .string s, .int .i64 p] 148 := by
    have := Blk.new (w.alloc (Obj.cells #[.map (some tb), .map (some nb), .map (some mb)] 306)) #[.int .i64 k, .string s, .int .i64 p] 148
    simpa using this
  obtain ⟨r1, r2⟩ := KC0.rules
  obtain ⟨r3, r4⟩ := KW0.rules
  obtain ⟨n, HN⟩ : ∃ n, Hid (numV s = n) := ⟨_, rfl⟩
  rw [HN.out] at hn hn2 hm
  have hd2 : decide ((n : Int) < 1) = false := by simp; omega
  have hd3 : decide ((536870911 : Int) < (n : Int)) = false := by simp; omega
  have hlt : Hid (n < 18446744073709551616) := by have := numV_lt s; rw [HN.out] at this; exact this
  clear hn hn2
  go_enter Tryz.func262, Tryz.ntmps262
  go_wp2_with fail
  refine (c64 _ k s p hok (hg.keep (B0.block _ hg.lt))).mono ?_
  rw [HN.out]
  rintro e w2 ⟨rfl, hb2⟩
  have KC := KC0.below hb2 (by simp; omega)
  have KW := KW0.below hb2 (by simp)
  have B2 : Below w.heap.size w w2 := B0.trans (hb2.mono (by simp; omega))
  have z2 : w.heap.size + 1 < w2.heap.size := KW.lt
  clear r1 r2 r3 r4 KC0 KW0 B0 hb2
  go_wp2_with fail
  have H2 : NumSet w2.drew mb nums := H.keep (B2.block _ H.lt)
  go_region_held3 (fun w' => w'.cell? ⟨w.heap.size, 2, none⟩ = some (.map (some mb)) ∧ w'.cell? ⟨w.heap.size + 1, 0, none⟩ = some (.int .i64 k) ∧ w'.cell? ⟨w.heap.size + 1, 1, none⟩ = some (.string s) ∧ w'.cell? ⟨w.heap.size + 1, 2, none⟩ = some (.int .i64 p))
    (first | exact ⟨K5.cell 2, K6.cell 0, K6.cell 1, K6.cell 2⟩ | exact ⟨K3.cell 2, K4.cell 0, K4.cell 1, K4.cell 2⟩ | exact ⟨KC.cell 2, KW.cell 0, KW.cell 1, KW.cell 2⟩)
    (first | (go_at_call 342; refine (c83 _ mb nums n H2 hlt.out).mono ?_; rw [hm]; rintro e w3 ⟨rfl, hb3⟩; have K3 := KC.drew.below hb3 KC.lt; have K4 := KW.drew.below hb3 KW.lt) | (go_at_call 123; refine (c48_no _ k s p).mono ?_; rintro e w4 ⟨rfl, hb4⟩; have K5 := K3.below hb4 K3.lt; have K6 := K4.below hb4 K4.lt))
  have Hk : Below w.heap.size w w4 := (B2.drew.trans (hb3.mono (by simp; omega))).trans (hb4.mono (by have := hb3.size; simp at this; omega))
  have H4 : NumSet w4 mb nums := H.keep (Hk.block _ H.lt)
  obtain ⟨k1, k2⟩ := K5.rules
  go_wp2_with fail
  refine (c84 _ mb nums n H4 (by unfold maxLen; omega) hlt.out).mono ?_
  rintro e w5 ⟨rfl, H5, hk5⟩
  go_wp2
  go_end0
  rw [HN.out]
  exact ⟨rfl, H5, (Kept.of_below Hk).trans hk5⟩

theorem c74 (w : World) (tb nb mb : Nat) (k : Int) (s : ByteArray) (p : Nat) (hok : numOK s) (hg : GOK w) (nums : List Nat) (H : NumSet w mb nums) (hl : nums.length < 5000) :
    Calls Tryz.prog 262 #[.agg #[.map (some tb), .map (some nb), .map (some mb)], .agg #[.int .i64 k, .string s, .int .i64 p]] w fun e w' => if numBad nums (numV s) then e = fault 3 p ∧ Below w.heap.size w w' else e = .returned (.tuple #[]) ∧ NumSet w' mb (nums ++ [numV s]) ∧ Kept [mb] w w' := by
  unfold numBad
  by_cases h1 : numV s < 1
  · simp only [h1, decide_true, Bool.true_or, if_true]
    exact c74_low w tb nb mb k s p hok hg h1
  · by_cases h2 : 536870911 < numV s
    · simp only [h2, decide_true, Bool.true_or, Bool.or_true, if_true]
      exact c74_high w tb nb mb k s p hok hg h2
    · cases hm : memN nums (numV s)
      · simp only [h1, h2, decide_false, Bool.or_false, Bool.false_eq_true, if_false]
        exact c74_ok w tb nb mb k s p hok hg nums H hl (by omega) (by omega) hm
      · simp only [Bool.or_true, if_true]
        exact c74_dup w tb nb mb k s p hok hg nums H (by omega) (by omega) hm

end Go.Proofs.YtfebdimolnobaaaGreatDoor
