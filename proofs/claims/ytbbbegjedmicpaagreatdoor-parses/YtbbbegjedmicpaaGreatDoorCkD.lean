import Derived.Test.YtbbbegjedmicpaaGreatDoorCkB

/-
  CONTRACTS: number.
-/
namespace Go.Proofs.YtbbbegjedmicpaaGreatDoor
open Go.RowKit Go.Maps
attribute [local go_sem] f91_0 f91_1 f91_2
attribute [local go_sem ↓] Go.wp_at_zero Go.wp_at_succ

def numBad (nums : List Nat) (n : Nat) : Bool := decide (n < 1) || (decide (536870911 < n) || memN nums n)

set_option maxRecDepth 100000 in
set_option maxHeartbeats 4000000 in
theorem c74 (w : World) (tb nb mb : Nat) (k : Int) (s : ByteArray) (p : Nat) (hok : numOK s) (hg : GOK w) (nums : List Nat) (H : NumSet w mb nums) (hl : nums.length < 5000) :
    Calls Tryz.prog 190 #[.agg #[.map (some tb), .map (some nb), .map (some mb)], .agg #[.int .i64 k, .string s, .int .i64 p]] w fun e w' => if numBad nums (numV s) then e = fault 3 p ∧ Below w.heap.size w w' else e = .returned (.tuple #[]) ∧ NumSet w' mb (nums ++ [numV s]) ∧ Kept [mb] w w' := by
  obtain ⟨B0, KC0, KW0⟩ := two_new w #[.map (some tb), .map (some nb), .map (some mb)] #[.int .i64 k, .string s, .int .i64 p] 247 114
  obtain ⟨r1, r2⟩ := KC0.rules
  obtain ⟨r3, r4⟩ := KW0.rules
  obtain ⟨n, HN⟩ : ∃ n, Hid (numV s = n) := ⟨_, rfl⟩
  have hlt : Hid (n < 18446744073709551616) := by have := numV_lt s; rw [HN.out] at this; exact this
  rw [HN.out]
  obtain ⟨q, hq⟩ : ∃ q, numBad nums n = q := ⟨_, rfl⟩
  rw [hq]
  have hc : ((n : Int) < 1 ∧ q = true) ∨ (decide ((n : Int) < 1) = false ∧ (536870911 : Int) < (n : Int) ∧ q = true) ∨ (decide ((n : Int) < 1) = false ∧ decide ((536870911 : Int) < (n : Int)) = false ∧ memN nums n = q) := by
    rw [← hq]
    unfold numBad
    by_cases h1 : n < 1
    · exact .inl ⟨by omega, by simp [h1]⟩
    · by_cases h2 : 536870911 < n
      · exact .inr (.inl ⟨by simp; omega, by omega, by simp [h2]⟩)
      · exact .inr (.inr ⟨by simp; omega, by simp; omega, by simp [h1, h2]⟩)
  clear hq
  go_enter Tryz.func190, Tryz.ntmps190
  go_wp2_with fail
  refine (c64 _ k s p hok (hg.keep (B0.block _ hg.lt))).mono ?_
  rw [HN.out]
  rintro e w2 ⟨rfl, hb2⟩
  have KC := KC0.below hb2 (by simp; omega)
  have KW := KW0.below hb2 (by simp)
  have B2 : Below w.heap.size w w2 := B0.trans (hb2.mono (by simp; omega))
  have z2 : w.heap.size + 1 < w2.heap.size := KW.lt
  have HS : Hid (∀ W, Below w2.heap.size w2 W → W.cell? ⟨w.heap.size, 2, none⟩ = some (.map (some mb)) ∧ W.cell? ⟨w.heap.size + 1, 0, none⟩ = some (.int .i64 k) ∧ W.cell? ⟨w.heap.size + 1, 1, none⟩ = some (.string s) ∧ W.cell? ⟨w.heap.size + 1, 2, none⟩ = some (.int .i64 p)) := fun W hW => ⟨(KC.below hW KC.lt).cell 2, (KW.below hW KW.lt).cell 0, (KW.below hW KW.lt).cell 1, (KW.below hW KW.lt).cell 2⟩
  have D2 := (Below.refl w2.heap.size w2).drew
  clear r1 r2 r3 r4 KC0 KW0 B0 hb2
  go_wp2_with fail
  have H2 : NumSet w2.drew mb nums := H.keep (B2.block _ H.lt)
  have c83' := c83 _ mb nums n H2 hlt.out
  rcases hc with ⟨hd, rfl⟩ | ⟨hd2, hd3, rfl⟩ | ⟨hd2, hd3, hm⟩
  rotate_right
  rw [hm] at c83'
  cases q
  · go_region_held3 (fun w' => w'.cell? ⟨w.heap.size, 2, none⟩ = some (.map (some mb)) ∧ w'.cell? ⟨w.heap.size + 1, 0, none⟩ = some (.int .i64 k) ∧ w'.cell? ⟨w.heap.size + 1, 1, none⟩ = some (.string s) ∧ w'.cell? ⟨w.heap.size + 1, 2, none⟩ = some (.int .i64 p))
      (first | exact HS.out _ (below_on b3 hb4) | exact HS.out _ b3 | exact HS.out _ D2)
      (first | (go_at_call 244; refine c83'.mono ?_; rintro e w3 ⟨rfl, hb3⟩; have b3 := below_on D2 hb3) | (go_at_call 81; refine (c48_no _ k s p).mono ?_; rintro e w4 ⟨rfl, hb4⟩))
    have b4 := below_on b3 hb4
    have Hk : Below w.heap.size w w4 := below_on B2 b4
    have H4 : NumSet w4 mb nums := H.keep (Hk.block _ H.lt)
    obtain ⟨k1, k2⟩ := (KC.below b4 KC.lt).rules
    go_wp2_with fail
    refine (c84 _ mb nums n H4 (by unfold maxLen; omega) hlt.out).mono ?_
    rintro e w5 ⟨rfl, H5, hk5⟩
    go_wp2
    go_end0
    exact ⟨rfl, H5, (Kept.of_below Hk).trans hk5⟩
  all_goals refine wp_region_held_drew (S := fun w' => w'.cell? ⟨w.heap.size, 2, none⟩ = some (.map (some mb)) ∧ w'.cell? ⟨w.heap.size + 1, 0, none⟩ = some (.int .i64 k) ∧ w'.cell? ⟨w.heap.size + 1, 1, none⟩ = some (.string s) ∧ w'.cell? ⟨w.heap.size + 1, 2, none⟩ = some (.int .i64 p)) (by kernel_rfl) ⟨KC.cell 2, KW.cell 0, KW.cell 1, KW.cell 2⟩ (fun hHeld => ?_)
  · refine tkO 0 (.int .u64 (n : Int)) rfl (by kernel_rfl) (fun _ _ _ h => h) (.inl ⟨rfl, fun w ⟨sc, s0, s1, s2⟩ => by go_simp⟩) hHeld ?_
    simp only [Act.put, List.setIfInBounds_toArray, List.set_cons_zero, List.set_cons_succ, List.getElem_toArray, List.getElem_cons_zero]
    refine tkO 1 (.bool false) rfl (by kernel_rfl) (fun _ _ _ h => h) (.inl ⟨rfl, fun w ⟨sc, s0, s1, s2⟩ => by go_simp⟩) hHeld ?_
    simp only [Act.put, List.setIfInBounds_toArray, List.set_cons_zero, List.set_cons_succ, List.getElem_toArray, List.getElem_cons_zero, List.getElem_cons_succ]
    refine tkO 2 (.bool false) rfl (by kernel_rfl) (fun _ _ _ h => h) (.inl ⟨rfl, fun w ⟨sc, s0, s1, s2⟩ => by go_simp⟩) hHeld ?_
    simp only [Act.put, List.setIfInBounds_toArray, List.set_cons_zero, List.set_cons_succ, List.getElem_toArray, List.getElem_cons_zero, List.getElem_cons_succ]
    refine tkO 3 (.int .u64 (n : Int)) rfl (by kernel_rfl) (fun _ _ _ h => h) (.inl ⟨rfl, fun w ⟨sc, s0, s1, s2⟩ => by go_simp⟩) hHeld ?_
    simp only [Act.put, List.setIfInBounds_toArray, List.set_cons_zero, List.set_cons_succ, List.getElem_toArray, List.getElem_cons_zero, List.getElem_cons_succ]
    refine tkO 4 (.bool false) rfl (by kernel_rfl) (fun _ _ _ h => h) (.inl ⟨rfl, fun w ⟨sc, s0, s1, s2⟩ => by go_simp⟩) hHeld ?_
    simp only [Act.put, List.setIfInBounds_toArray, List.set_cons_zero, List.set_cons_succ, List.getElem_toArray, List.getElem_cons_zero, List.getElem_cons_succ]
    refine tkO 5 (.bool false) rfl (by kernel_rfl) (fun _ _ _ h => h) (.inl ⟨rfl, fun w ⟨sc, s0, s1, s2⟩ => by go_simp⟩) hHeld ?_
    simp only [Act.put, List.setIfInBounds_toArray, List.set_cons_zero, List.set_cons_succ, List.getElem_toArray, List.getElem_cons_zero, List.getElem_cons_succ]
    refine tkO 6 (.bool false) rfl (by kernel_rfl) (fun _ _ _ h => h) (.inl ⟨rfl, fun w ⟨sc, s0, s1, s2⟩ => by go_simp⟩) hHeld ?_
    simp only [Act.put, List.setIfInBounds_toArray, List.set_cons_zero, List.set_cons_succ, List.getElem_toArray, List.getElem_cons_zero, List.getElem_cons_succ]
    refine tkO 7 (.pointer (some ⟨w.heap.size, 2, none⟩)) rfl (by kernel_rfl) (fun _ _ _ h => h) (.inl ⟨rfl, fun w ⟨sc, s0, s1, s2⟩ => by go_simp⟩) hHeld ?_
    simp only [Act.put, List.setIfInBounds_toArray, List.set_cons_zero, List.set_cons_succ, List.getElem_toArray, List.getElem_cons_zero, List.getElem_cons_succ]
    refine tkO 8 (.map (some mb)) rfl (by kernel_rfl) (fun _ _ _ h => h) (.inl ⟨rfl, fun w ⟨sc, s0, s1, s2⟩ => by go_simp⟩) hHeld ?_
    simp only [Act.put, List.setIfInBounds_toArray, List.set_cons_zero, List.set_cons_succ, List.getElem_toArray, List.getElem_cons_zero, List.getElem_cons_succ]
    refine tkO 9 (.int .u64 (n : Int)) rfl (by kernel_rfl) (fun _ _ _ h => h) (.inl ⟨rfl, fun w ⟨sc, s0, s1, s2⟩ => by go_simp⟩) hHeld ?_
    simp only [Act.put, List.setIfInBounds_toArray, List.set_cons_zero, List.set_cons_succ, List.getElem_toArray, List.getElem_cons_zero, List.getElem_cons_succ]
    refine tkO 12 (.agg #[.int .i64 k, .string s, .int .i64 p]) rfl (by kernel_rfl) (fun _ _ _ h => h) (.inl ⟨rfl, fun w ⟨sc, s0, s1, s2⟩ => by go_simp⟩) hHeld ?_
    simp only [Act.put, List.setIfInBounds_toArray, List.set_cons_zero, List.set_cons_succ, List.getElem_toArray, List.getElem_cons_zero, List.getElem_cons_succ]
    refine wpAnyH_ready (rs := [10]) (by kernel_rfl) (by simp) (AllReadyH.cons rfl (fun K hK => ?_) AllReadyH.nil)
    go_simp
    refine c83'.mono ?_
    rintro e w3 ⟨rfl, hb3⟩
    have K3 := KC.drew.below hb3 KC.lt
    have K4 := KW.drew.below hb3 KW.lt
    clear hHeld
    refine hK.out _ _ ⟨K3.cell 2, K4.cell 0, K4.cell 1, K4.cell 2⟩ (fun hHeld => ?_)
    clear hK K
    refine tkO 11 (.bool true) rfl (by kernel_rfl) (fun _ _ _ h => h) (.inl ⟨rfl, fun w ⟨sc, s0, s1, s2⟩ => by go_simp⟩) hHeld ?_
    simp only [Act.put, List.setIfInBounds_toArray, List.set_cons_zero, List.set_cons_succ, List.getElem_toArray, List.getElem_cons_zero, List.getElem_cons_succ]
    refine wpAnyH_ready (rs := [13]) (by kernel_rfl) (by simp) (AllReadyH.cons rfl (fun K hK => ?_) AllReadyH.nil)
    clear hK
    go_simp
    refine (c48_yes _ k s p).mono ?_
    rintro e w4 ⟨rfl, hb⟩
    exact ⟨rfl, rfl, (B2.drew.trans (hb3.mono (by simp; omega))).trans (hb.mono (by have := hb3.size; simp at this; omega))⟩
  · refine tkO 0 (.int .u64 (n : Int)) rfl (by kernel_rfl) (fun _ _ _ h => h) (.inl ⟨rfl, fun w ⟨sc, s0, s1, s2⟩ => by go_simp⟩) hHeld ?_
    simp only [Act.put, List.setIfInBounds_toArray, List.set_cons_zero, List.set_cons_succ, List.getElem_toArray, List.getElem_cons_zero]
    refine tkO 1 (.bool true) rfl (by kernel_rfl) (fun _ _ _ h => h) (.inl ⟨rfl, fun w ⟨sc, s0, s1, s2⟩ => by go_simp⟩) hHeld ?_
    simp only [Act.put, List.setIfInBounds_toArray, List.set_cons_zero, List.set_cons_succ, List.getElem_toArray, List.getElem_cons_zero, List.getElem_cons_succ]
    refine tkO 2 (.bool true) rfl (by kernel_rfl) (fun _ _ _ h => h) (.inl ⟨rfl, fun w ⟨sc, s0, s1, s2⟩ => by go_simp⟩) hHeld ?_
    simp only [Act.put, List.setIfInBounds_toArray, List.set_cons_zero, List.set_cons_succ, List.getElem_toArray, List.getElem_cons_zero, List.getElem_cons_succ]
    refine tkO 3 undef rfl (by kernel_rfl) (fun _ _ _ h => h) (.inr ⟨rfl, rfl⟩) hHeld ?_
    simp only [Act.put, List.setIfInBounds_toArray, List.set_cons_zero, List.set_cons_succ, List.getElem_toArray, List.getElem_cons_zero, List.getElem_cons_succ]
    refine tkO 4 undef rfl (by kernel_rfl) (fun _ _ _ h => h) (.inr ⟨rfl, rfl⟩) hHeld ?_
    simp only [Act.put, List.setIfInBounds_toArray, List.set_cons_zero, List.set_cons_succ, List.getElem_toArray, List.getElem_cons_zero, List.getElem_cons_succ]
    refine tkO 5 (.bool true) rfl (by kernel_rfl) (fun _ _ _ h => h) (.inl ⟨rfl, fun w ⟨sc, s0, s1, s2⟩ => by go_simp⟩) hHeld ?_
    simp only [Act.put, List.setIfInBounds_toArray, List.set_cons_zero, List.set_cons_succ, List.getElem_toArray, List.getElem_cons_zero, List.getElem_cons_succ]
    refine tkO 6 (.bool true) rfl (by kernel_rfl) (fun _ _ _ h => h) (.inl ⟨rfl, fun w ⟨sc, s0, s1, s2⟩ => by go_simp⟩) hHeld ?_
    simp only [Act.put, List.setIfInBounds_toArray, List.set_cons_zero, List.set_cons_succ, List.getElem_toArray, List.getElem_cons_zero, List.getElem_cons_succ]
    refine tkO 7 undef rfl (by kernel_rfl) (fun _ _ _ h => h) (.inr ⟨rfl, rfl⟩) hHeld ?_
    simp only [Act.put, List.setIfInBounds_toArray, List.set_cons_zero, List.set_cons_succ, List.getElem_toArray, List.getElem_cons_zero, List.getElem_cons_succ]
    refine tkO 8 undef rfl (by kernel_rfl) (fun _ _ _ h => h) (.inr ⟨rfl, rfl⟩) hHeld ?_
    simp only [Act.put, List.setIfInBounds_toArray, List.set_cons_zero, List.set_cons_succ, List.getElem_toArray, List.getElem_cons_zero, List.getElem_cons_succ]
    refine tkO 9 undef rfl (by kernel_rfl) (fun _ _ _ h => h) (.inr ⟨rfl, rfl⟩) hHeld ?_
    simp only [Act.put, List.setIfInBounds_toArray, List.set_cons_zero, List.set_cons_succ, List.getElem_toArray, List.getElem_cons_zero, List.getElem_cons_succ]
    refine tkO 10 undef rfl (by kernel_rfl) (fun _ _ _ h => h) (.inr ⟨rfl, rfl⟩) hHeld ?_
    simp only [Act.put, List.setIfInBounds_toArray, List.set_cons_zero, List.set_cons_succ, List.getElem_toArray, List.getElem_cons_zero, List.getElem_cons_succ]
    refine tkO 11 (.bool true) rfl (by kernel_rfl) (fun _ _ _ h => h) (.inl ⟨rfl, fun w ⟨sc, s0, s1, s2⟩ => by go_simp⟩) hHeld ?_
    simp only [Act.put, List.setIfInBounds_toArray, List.set_cons_zero, List.set_cons_succ, List.getElem_toArray, List.getElem_cons_zero, List.getElem_cons_succ]
    refine tkO 12 (.agg #[.int .i64 k, .string s, .int .i64 p]) rfl (by kernel_rfl) (fun _ _ _ h => h) (.inl ⟨rfl, fun w ⟨sc, s0, s1, s2⟩ => by go_simp⟩) hHeld ?_
    simp only [Act.put, List.setIfInBounds_toArray, List.set_cons_zero, List.set_cons_succ, List.getElem_toArray, List.getElem_cons_zero, List.getElem_cons_succ]
    refine wpAnyH_ready (rs := [13]) (by kernel_rfl) (by simp) (AllReadyH.cons rfl (fun K hK => ?_) AllReadyH.nil)
    clear hK
    go_simp
    refine (c48_yes _ k s p).mono ?_
    rintro e w4 ⟨rfl, hb⟩
    exact ⟨rfl, rfl, B2.drew.trans (hb.mono (by simp; omega))⟩
  · refine tkO 0 (.int .u64 (n : Int)) rfl (by kernel_rfl) (fun _ _ _ h => h) (.inl ⟨rfl, fun w ⟨sc, s0, s1, s2⟩ => by go_simp⟩) hHeld ?_
    simp only [Act.put, List.setIfInBounds_toArray, List.set_cons_zero, List.set_cons_succ, List.getElem_toArray, List.getElem_cons_zero]
    refine tkO 1 (.bool false) rfl (by kernel_rfl) (fun _ _ _ h => h) (.inl ⟨rfl, fun w ⟨sc, s0, s1, s2⟩ => by go_simp⟩) hHeld ?_
    simp only [Act.put, List.setIfInBounds_toArray, List.set_cons_zero, List.set_cons_succ, List.getElem_toArray, List.getElem_cons_zero, List.getElem_cons_succ]
    refine tkO 2 (.bool false) rfl (by kernel_rfl) (fun _ _ _ h => h) (.inl ⟨rfl, fun w ⟨sc, s0, s1, s2⟩ => by go_simp⟩) hHeld ?_
    simp only [Act.put, List.setIfInBounds_toArray, List.set_cons_zero, List.set_cons_succ, List.getElem_toArray, List.getElem_cons_zero, List.getElem_cons_succ]
    refine tkO 3 (.int .u64 (n : Int)) rfl (by kernel_rfl) (fun _ _ _ h => h) (.inl ⟨rfl, fun w ⟨sc, s0, s1, s2⟩ => by go_simp⟩) hHeld ?_
    simp only [Act.put, List.setIfInBounds_toArray, List.set_cons_zero, List.set_cons_succ, List.getElem_toArray, List.getElem_cons_zero, List.getElem_cons_succ]
    refine tkO 4 (.bool true) rfl (by kernel_rfl) (fun _ _ _ h => h) (.inl ⟨rfl, fun w ⟨sc, s0, s1, s2⟩ => by go_simp⟩) hHeld ?_
    simp only [Act.put, List.setIfInBounds_toArray, List.set_cons_zero, List.set_cons_succ, List.getElem_toArray, List.getElem_cons_zero, List.getElem_cons_succ]
    refine tkO 5 (.bool true) rfl (by kernel_rfl) (fun _ _ _ h => h) (.inl ⟨rfl, fun w ⟨sc, s0, s1, s2⟩ => by go_simp⟩) hHeld ?_
    simp only [Act.put, List.setIfInBounds_toArray, List.set_cons_zero, List.set_cons_succ, List.getElem_toArray, List.getElem_cons_zero, List.getElem_cons_succ]
    refine tkO 6 (.bool true) rfl (by kernel_rfl) (fun _ _ _ h => h) (.inl ⟨rfl, fun w ⟨sc, s0, s1, s2⟩ => by go_simp⟩) hHeld ?_
    simp only [Act.put, List.setIfInBounds_toArray, List.set_cons_zero, List.set_cons_succ, List.getElem_toArray, List.getElem_cons_zero, List.getElem_cons_succ]
    refine tkO 7 undef rfl (by kernel_rfl) (fun _ _ _ h => h) (.inr ⟨rfl, rfl⟩) hHeld ?_
    simp only [Act.put, List.setIfInBounds_toArray, List.set_cons_zero, List.set_cons_succ, List.getElem_toArray, List.getElem_cons_zero, List.getElem_cons_succ]
    refine tkO 8 undef rfl (by kernel_rfl) (fun _ _ _ h => h) (.inr ⟨rfl, rfl⟩) hHeld ?_
    simp only [Act.put, List.setIfInBounds_toArray, List.set_cons_zero, List.set_cons_succ, List.getElem_toArray, List.getElem_cons_zero, List.getElem_cons_succ]
    refine tkO 9 undef rfl (by kernel_rfl) (fun _ _ _ h => h) (.inr ⟨rfl, rfl⟩) hHeld ?_
    simp only [Act.put, List.setIfInBounds_toArray, List.set_cons_zero, List.set_cons_succ, List.getElem_toArray, List.getElem_cons_zero, List.getElem_cons_succ]
    refine tkO 10 undef rfl (by kernel_rfl) (fun _ _ _ h => h) (.inr ⟨rfl, rfl⟩) hHeld ?_
    simp only [Act.put, List.setIfInBounds_toArray, List.set_cons_zero, List.set_cons_succ, List.getElem_toArray, List.getElem_cons_zero, List.getElem_cons_succ]
    refine tkO 11 (.bool true) rfl (by kernel_rfl) (fun _ _ _ h => h) (.inl ⟨rfl, fun w ⟨sc, s0, s1, s2⟩ => by go_simp⟩) hHeld ?_
    simp only [Act.put, List.setIfInBounds_toArray, List.set_cons_zero, List.set_cons_succ, List.getElem_toArray, List.getElem_cons_zero, List.getElem_cons_succ]
    refine tkO 12 (.agg #[.int .i64 k, .string s, .int .i64 p]) rfl (by kernel_rfl) (fun _ _ _ h => h) (.inl ⟨rfl, fun w ⟨sc, s0, s1, s2⟩ => by go_simp⟩) hHeld ?_
    simp only [Act.put, List.setIfInBounds_toArray, List.set_cons_zero, List.set_cons_succ, List.getElem_toArray, List.getElem_cons_zero, List.getElem_cons_succ]
    refine wpAnyH_ready (rs := [13]) (by kernel_rfl) (by simp) (AllReadyH.cons rfl (fun K hK => ?_) AllReadyH.nil)
    clear hK
    go_simp
    refine (c48_yes _ k s p).mono ?_
    rintro e w4 ⟨rfl, hb⟩
    exact ⟨rfl, rfl, B2.drew.trans (hb.mono (by simp; omega))⟩
end Go.Proofs.YtbbbegjedmicpaaGreatDoor
