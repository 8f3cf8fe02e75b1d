import Derived.Test.YtbbbegjedmicpaaGreatDoorLawA
import Derived.Test.YtbbbegjedmicpaaGreatDoorPlI

/-
  THE LAW, CONTRACTS: known.
-/
namespace Go.Proofs.YtbbbegjedmicpaaGreatDoor
open Go.RowKit

/-- The document's schema. -/
def exT : ByteArray := ⟨([109, 101, 115, 115, 97, 103, 101, 32, 65, 32, 123, 32, 105, 110, 116, 51, 50, 32, 120, 32, 61, 32, 49, 59, 32, 114, 101, 112, 101, 97, 116, 101, 100, 32, 115, 105, 110, 116, 54, 52, 32, 121, 32, 61, 32, 50, 59].append [32, 111, 112, 116, 105, 111, 110, 97, 108, 32, 115, 116, 114, 105, 110, 103, 32, 122, 32, 61, 32, 51, 59, 32, 109, 97, 112, 60, 115, 116, 114, 105, 110, 103, 44, 32, 65, 62, 32, 109, 32, 61, 32, 52, 59, 32, 125]).toArray⟩
theorem ex_read : (match readI exT with | .ok bs => (msgNames bs).map (fun x => x.data.toList) == [[65]] | .error _ => false) = true := by kernel_rfl
theorem ex_names : ∃ bs, readI exT = .ok bs ∧ msgNames bs = [⟨#[65]⟩] := by
  have h := ex_read
  cases hr : readI exT with
  | error e => rw [hr] at h; cases h
  | ok bs =>
    rw [hr] at h
    refine ⟨bs, rfl, ?_⟩
    have h2 : (msgNames bs).map (fun x => x.data.toList) = [[65]] := by simpa using h
    cases hm : msgNames bs with
    | nil => rw [hm] at h2; cases h2
    | cons x xs =>
      rw [hm] at h2
      simp only [List.map_cons, List.cons.injEq, List.map_eq_nil_iff] at h2
      obtain ⟨h3, rfl⟩ := h2
      congr 1
      cases x with
      | mk d =>
        cases d with
        | mk l =>
          have h4 : l = [65] := h3
          rw [h4]

theorem msgNames_len {t : ByteArray} {bs : List BlockR} (h : readI t = .ok bs) : (msgNames bs).length ≤ 2001 := by
  have h1 := (readI_good h).few
  have h2 := List.length_filter_le (fun b : BlockR => !b.enum) bs
  unfold msgNames
  rw [List.length_map]
  omega

set_option maxRecDepth 100000 in
set_option maxHeartbeats 1000000 in
theorem c4 (w : World) (hg : GOK w) (hbo : BOK w) : Calls Tryz.prog 5 #[] w fun e w' => (∃ sb, e = .returned (.pointer (some ⟨sb, 0, none⟩))) ∧ Below w.heap.size w w' := by
  obtain ⟨bs, hr, hn⟩ := ex_names
  have H5 := c5 w exT (by decide) hg hbo
  rw [hr] at H5
  go_enter Tryz.func5, Tryz.ntmps5
  go_wp2_with fail
  refine H5.mono ?_
  rintro e w1 ⟨⟨sb, _, _, rfl, hsB⟩, hb1⟩
  have hs := hsB.toAt
  rw [hn] at hs
  go_wp2_with fail
  refine (c7 _ sb _ _ (by decide) hs).mono ?_
  rintro e w2 ⟨v', rfl, hown, hb2⟩
  obtain ⟨va, vn, vc, rfl⟩ := ownsRow_form hown
  have hlit := World.ownsRow_lit (base := 0) (e := 9) (size := 1) w2 #[.string ⟨#[65]⟩] 1 (Nat.zero_le _) (by unfold maxLen; omega) rfl
  go_wp2_with fail
  refine (c9 _ _ _ _ _ [⟨#[65]⟩] (by decide) (hown.alloc _) hlit).mono ?_
  rintro e w3 ⟨rfl, hb3⟩
  go_wp2
  go_ret
  refine ⟨⟨sb, rfl⟩, ?_⟩
  exact hb1.trans ((hb2.mono hb1.size).trans ((Below.refl _ _).alloc (Nat.le_trans hb1.size hb2.size) _ |>.trans (hb3.mono (by have := hb1.size; have := hb2.size; simp; omega))))

end Go.Proofs.YtbbbegjedmicpaaGreatDoor
