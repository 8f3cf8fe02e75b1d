import Derived.Test.YtbbbegjedmicpaaGreatDoorSets
import Derived.BigQuiet

/-
  THE REFERENCE, CONTRACTS: in, builtin, own, isName, isNumber, isType.
-/
namespace Go.Proofs.YtbbbegjedmicpaaGreatDoor
open Go.RowKit

/-- What 'in' answers: whether a text is among some, by the sign. -/
def InR (l : List ByteArray) (s : ByteArray) (r : Int) : Prop := if memS l s then 0 ≤ r else r = -1

theorem memS_cons (x : ByteArray) (l : List ByteArray) (s : ByteArray) : memS (x :: l) s = (x.toList == s.toList || memS l s) := rfl

set_option maxHeartbeats 400000 in
theorem c20 (w : World) (lo : Nat) (v : Value) (l : List ByteArray) (s : ByteArray) (hlen : l.length ≤ 4000) (hrow : w.ownsRow lo 9 1 v l.length (strCells l)) :
    Calls Tryz.prog 25 #[v, .string s] w fun e w' => (∃ r, e = .returned (.int .i64 r) ∧ InR l s r) ∧ w' = w := by
  obtain ⟨va, vn, vc, rfl⟩ := ownsRow_form hrow
  have hvn := ownsRow_len hrow
  subst hvn
  go_enter Tryz.func25, Tryz.ntmps25
  go_wp2
  go_loop [5] (fun i => ∃ k : Nat, k ≤ l.length ∧ Hid (memS l s = memS (l.drop k) s) ∧ i = .int .i64 k) (fun i => l.length - (intOf i).toNat)
  case atStart => exact ⟨0, Nat.zero_le _, rfl, rfl⟩
  case round =>
    obtain ⟨k, hk, HM, rfl⟩ := hrel
    by_cases hlt : k < l.length
    · obtain ⟨x, hx⟩ := gx hlt
      have hdrop : l.drop k = x :: l.drop (k + 1) := by
        rw [List.drop_eq_getElem_cons hlt]
        rw [List.getElem?_eq_getElem hlt] at hx
        rw [Option.some.inj hx]
      obtain ⟨g, rfl, _, hgl, hcell⟩ := ownsRow_at hrow (by omega)
      have q := hcell w rfl k (.string x) (by simp [strCells, hx])
      have HM2 : Hid (memS l s = (x.toList == s.toList || memS (l.drop (k + 1)) s)) := by rw [← memS_cons, ← hdrop]; exact HM
      clear hcell hdrop HM hx hrow
      cases he : (x.toList == s.toList)
      · have HM3 : Hid (memS l s = memS (l.drop (k + 1)) s) := by have := HM2.out; rw [he] at this; exact this
        clear HM2
        go_wp2
        go_round
        case rel => exact ⟨k + 1, by omega, HM3, by go_num⟩
        case measure => simp [intOf]; omega
      · have HM3 : Hid (memS l s = true) := by have := HM2.out; rw [he] at this; exact this
        clear HM2
        go_wp2
        go_ret
        exact ⟨⟨_, rfl, by unfold InR; rw [HM3.out]; simp⟩, rfl⟩
    · have HM3 : Hid (memS l s = false) := by
        have := HM.out
        rw [List.drop_eq_nil_iff.2 (by omega)] at this
        exact this
      clear HM
      go_wp2
      go_ret
      exact ⟨⟨_, rfl, by unfold InR; rw [HM3.out]; simp⟩, rfl⟩

/-- The words of the types' own, of the schema. -/
def btl : List ByteArray := bts.map fun l => ⟨l.toArray⟩
def kwl : List ByteArray := kws.map fun l => ⟨l.toArray⟩
theorem toLists (ls : List (List UInt8)) : (ls.map fun l => (⟨l.toArray⟩ : ByteArray)).map ByteArray.toList = ls := by
  rw [List.map_map]
  conv => rhs; rw [← List.map_id ls]
  congr 1; funext l; simp [ByteArray.toList_eq]
theorem memS_bt (s : ByteArray) : memS btl s = isBt s.toList := by
  have : memS btl s = (btl.map ByteArray.toList).contains s.toList := by
    unfold memS
    rw [List.contains_eq_any_beq, List.any_map]
    congr 1; funext x; simp [Bool.beq_comm]
  rw [this, btl, toLists]; rfl
theorem memS_kw (s : ByteArray) : memS kwl s = isKw s.toList := by
  have : memS kwl s = (kwl.map ByteArray.toList).contains s.toList := by
    unfold memS
    rw [List.contains_eq_any_beq, List.any_map]
    congr 1; funext x; simp [Bool.beq_comm]
  rw [this, kwl, toLists]; rfl

set_option maxHeartbeats 400000 in
theorem c54 (w : World) :
    Calls Tryz.prog 86 #[] w fun e w' => ∃ v, e = .returned v ∧ w'.ownsRow w.heap.size 9 1 v btl.length (strCells btl) ∧ Below w.heap.size w w' := by
  go_enter Tryz.func86, Tryz.ntmps86
  go_wp2
  go_ret
  exact ⟨_, rfl, ⟨rfl, .inr ⟨_, 15, _, rfl, Nat.le_refl _, heap_alloc_new w _, by decide, by decide, rfl, rfl⟩⟩, (Below.refl _ _).alloc (Nat.le_refl _) _⟩

set_option maxHeartbeats 400000 in
theorem c66 (w : World) :
    Calls Tryz.prog 128 #[] w fun e w' => ∃ v, e = .returned v ∧ w'.ownsRow w.heap.size 9 1 v kwl.length (strCells kwl) ∧ Below w.heap.size w w' := by
  go_enter Tryz.func128, Tryz.ntmps128
  go_wp2
  go_ret
  exact ⟨_, rfl, ⟨rfl, .inr ⟨_, 6, _, rfl, Nat.le_refl _, heap_alloc_new w _, by decide, by decide, rfl, rfl⟩⟩, (Below.refl _ _).alloc (Nat.le_refl _) _⟩

theorem InR.lt {l : List ByteArray} {s : ByteArray} {r : Int} (h : InR l s r) : decide (r < 0) = !memS l s := by
  unfold InR at h
  cases hm : memS l s <;> rw [hm] at h <;> simp at h ⊢ <;> omega
theorem InR.ge {l : List ByteArray} {s : ByteArray} {r : Int} (h : InR l s r) : decide (0 ≤ r) = memS l s := by
  unfold InR at h
  cases hm : memS l s <;> rw [hm] at h <;> simp at h ⊢ <;> omega

theorem size_list (s : ByteArray) : (s.toList == []) = decide (s.size = 0) := by
  have h2 : s.toList.length = s.size := by rw [ByteArray.toList_eq]; rfl
  rw [Bool.eq_iff_iff]
  simp only [beq_iff_eq, decide_eq_true_eq]
  rw [← List.length_eq_zero_iff, h2]
theorem isL_isD {c : Int} (h : isL c = true) : isD c = false := by
  simp [isL] at h
  simp [isD]
  omega
theorem kindW_name (s : ByteArray) : (kindW s == 1) = (!decide (s.size = 0) && (isL (bAt s 0) && (!isBt s.toList && !isKw s.toList))) := by
  unfold kindW kindOf
  by_cases h0 : s.size = 0
  · simp [h0]
  · cases h1 : isL (bAt s 0)
    · cases h2 : isD (bAt s 0) <;> simp [h0]
    · rw [isL_isD h1]
      cases h3 : isKw s.toList <;> cases h4 : isBt s.toList <;> simp [h0]
theorem kindW_num (s : ByteArray) : (kindW s == 2) = (!decide (s.size = 0) && isD (bAt s 0)) := by
  unfold kindW kindOf
  by_cases h0 : s.size = 0
  · simp [h0]
  · cases h2 : isD (bAt s 0)
    · cases h1 : isL (bAt s 0) <;> cases h3 : isKw s.toList <;> cases h4 : isBt s.toList <;> simp [h0]
    · simp [h0]
theorem kindW_bt (s : ByteArray) : (kindW s == 3) = isBt s.toList := by
  cases h4 : isBt s.toList
  · unfold kindW kindOf
    by_cases h0 : s.size = 0
    · simp [h0]
    · cases h1 : isL (bAt s 0) <;> cases h2 : isD (bAt s 0) <;> cases h3 : isKw s.toList <;> simp [h0, h4]
  · have hs : s = ⟨s.toList.toArray⟩ := by rw [ByteArray.toList_eq]
    have hm : s.toList ∈ bts := by simpa [isBt] using h4
    have : ∀ l ∈ bts, (kindW ⟨l.toArray⟩ == 3) = true := by decide +kernel
    rw [hs]
    exact this _ hm

end Go.Proofs.YtbbbegjedmicpaaGreatDoor

/-
  THE REFERENCE, CONTRACTS: isName, isNumber, isType, value.
-/
namespace Go.Proofs.YtbbbegjedmicpaaGreatDoor
open Go.RowKit

set_option maxHeartbeats 1000000 in
theorem c51 (w : World) (s : ByteArray) :
    Calls Tryz.prog 83 #[.string s] w fun e w' => e = .returned (.bool (kindW s == 1)) ∧ Below w.heap.size w w' := by
  rw [kindW_name]
  go_enter Tryz.func83, Tryz.ntmps83
  go_wp2_with fail
  refine (c54 w).mono ?_
  rintro e w1 ⟨v1, rfl, hr1, hb1⟩
  go_wp2_with fail
  refine (c20 w1 _ v1 btl s (by decide) hr1).mono ?_
  rintro e w2 ⟨⟨r1, rfl, hi1⟩, rfl⟩
  go_wp2_with fail
  refine (c66 w2).mono ?_
  rintro e w3 ⟨v3, rfl, hr3, hb3⟩
  go_wp2_with fail
  refine (c20 w3 _ v3 kwl s (by decide) hr3).mono ?_
  rintro e w4 ⟨⟨r2, rfl, hi2⟩, rfl⟩
  have hlt1 := hi1.lt
  have hlt2 := hi2.lt
  rw [memS_bt] at hlt1
  rw [memS_kw] at hlt2
  have hsz := size_list s
  have HB : Below w.heap.size w w4 := hb1.trans (hb3.mono hb1.size)
  clear hr1 hr3 hb1 hb3 hi1 hi2
  by_cases h0 : s.size = 0
  · have h1 : (s.toList == []) = true := by rw [hsz]; simp [h0]
    clear hsz hlt1 hlt2
    go_wp2
    go_ret
    exact ⟨retb (by simp [h0]), HB⟩
  · have h1 : (s.toList == []) = false := by rw [hsz]; simp [h0]
    have hp : 0 < s.size := by omega
    have hb := bAt_eq hp
    clear hsz
    cases h2 : isL (bAt s 0)
    · clear hlt1 hlt2
      go_wp2_with (go_at_call 43; refine (c30 _ _).mono ?_; rintro e w' ⟨rfl, rfl⟩)
      go_ret
      exact ⟨retb (by simp [h2]), HB⟩
    · cases h3 : isBt s.toList
      · cases h4 : isKw s.toList
        · rw [h3] at hlt1
          rw [h4] at hlt2
          go_wp2_with (go_at_call 43; refine (c30 _ _).mono ?_; rintro e w' ⟨rfl, rfl⟩)
          go_ret
          exact ⟨retb (by simp [h0, h2, h3, h4]), HB⟩
        · rw [h3] at hlt1
          rw [h4] at hlt2
          go_wp2_with (go_at_call 43; refine (c30 _ _).mono ?_; rintro e w' ⟨rfl, rfl⟩)
          go_ret
          exact ⟨retb (by simp [h4]), HB⟩
      · rw [h3] at hlt1
        go_wp2_with (go_at_call 43; refine (c30 _ _).mono ?_; rintro e w' ⟨rfl, rfl⟩)
        go_ret
        exact ⟨retb (by simp [h3]), HB⟩

set_option maxHeartbeats 1000000 in
theorem c52 (w : World) (s : ByteArray) :
    Calls Tryz.prog 84 #[.string s] w fun e w' => e = .returned (.bool (kindW s == 2)) ∧ w' = w := by
  rw [kindW_num]
  have hsz := size_list s
  by_cases h0 : s.size = 0
  · have h1 : (s.toList == []) = true := by rw [hsz]; simp [h0]
    clear hsz
    go_enter Tryz.func84, Tryz.ntmps84
    go_wp2
    go_ret
    exact ⟨retb (by simp [h0]), rfl⟩
  · have h1 : (s.toList == []) = false := by rw [hsz]; simp [h0]
    have hp : 0 < s.size := by omega
    have hb := bAt_eq hp
    clear hsz
    go_enter Tryz.func84, Tryz.ntmps84
    go_wp2_with (go_at_call 44; refine (c31 _ _).mono ?_; rintro e w' ⟨rfl, rfl⟩)
    go_ret
    exact ⟨retb (by simp [h0]), rfl⟩

set_option maxHeartbeats 1000000 in
theorem c53 (w : World) (s : ByteArray) :
    Calls Tryz.prog 85 #[.string s] w fun e w' => e = .returned (.bool (kindW s == 3 || kindW s == 1)) ∧ Below w.heap.size w w' := by
  rw [kindW_bt]
  go_enter Tryz.func85, Tryz.ntmps85
  go_wp2_with fail
  refine (c51 w s).mono ?_
  rintro e w1 ⟨rfl, hb1⟩
  cases h1 : (kindW s == 1)
  · go_wp2_with fail
    refine (c54 w1).mono ?_
    rintro e w2 ⟨v1, rfl, hr1, hb2⟩
    go_wp2_with fail
    refine (c20 w2 _ v1 btl s (by decide) hr1).mono ?_
    rintro e w3 ⟨⟨r1, rfl, hi1⟩, rfl⟩
    have hlt1 := hi1.ge
    rw [memS_bt] at hlt1
    have HB : Below w.heap.size w w3 := hb1.trans (hb2.mono hb1.size)
    clear hr1 hb1 hb2 hi1
    go_wp2
    go_ret
    exact ⟨retb (by simp at h1; simp [h1]), HB⟩
  · go_wp2
    go_ret
    exact ⟨retb (by simp at h1; simp [h1]), hb1⟩

end Go.Proofs.YtbbbegjedmicpaaGreatDoor

/-
  THE REFERENCE, CONTRACT: value.
-/
namespace Go.Proofs.YtbbbegjedmicpaaGreatDoor
open Go.RowKit

/-- A number's value, from a place on; 2^40 if it is above. -/
def valF (s : ByteArray) : Nat → Nat → Int → Int
  | 0, _, n => n
  | f + 1, k, n => if k < s.size then (if 10 * n + (bAt s k - 48) % 256 > 1099511627776 then 1099511627776 else valF s f (k + 1) (10 * n + (bAt s k - 48) % 256)) else n
def valI (s : ByteArray) : Int := valF s s.size 0 0

theorem valF_end {s : ByteArray} {f k : Nat} {n : Int} (h : ¬ k < s.size) : valF s f k n = n := by
  cases f <;> simp [valF, h]

set_option maxHeartbeats 400000 in
theorem c39 (w : World) (s : ByteArray) (hs : s.size ≤ 2000) :
    Calls Tryz.prog 52 #[.string s] w fun e w' => e = .returned (.int .i64 (valI s)) ∧ w' = w := by
  go_enter Tryz.func52, Tryz.ntmps52
  go_wp2
  go_loop [3, 4] (fun x i => ∃ (f k : Nat) (n : Int), k ≤ s.size ∧ s.size - k ≤ f ∧ 0 ≤ n ∧ n ≤ 1099511627776 ∧ Hid (valF s f k n = valI s) ∧ x = .int .i64 n ∧ i = .int .i64 k) (fun _ i => s.size - (intOf i).toNat)
  case atStart => exact ⟨s.size, 0, 0, by omega, by omega, by omega, by omega, rfl, rfl, rfl⟩
  case round =>
    obtain ⟨f, k, n, hk, hf, hn0, hn1, HV, rfl, rfl⟩ := hrel
    by_cases hlt : k < s.size
    · have hbk := bAt_eq hlt
      cases f with
      | zero => omega
      | succ f =>
      have hd0 : 0 ≤ (bAt s k - 48) % 256 := Int.emod_nonneg _ (by decide)
      have hd1 : (bAt s k - 48) % 256 < 256 := Int.emod_lt_of_pos _ (by decide)
      by_cases hc : 10 * n + (bAt s k - 48) % 256 > 1099511627776
      · have HV2 : Hid (valI s = 1099511627776) := by
          have := HV.out
          rw [valF, if_pos hlt, if_pos hc] at this
          exact this.symm
        go_wp2
        go_ret
        exact ⟨reti HV2.out.symm, rfl⟩
      · have HV2 : Hid (valF s f (k + 1) (10 * n + (bAt s k - 48) % 256) = valI s) := by
          have := HV.out
          rw [valF, if_pos hlt, if_neg hc] at this
          exact this
        go_wp2
        go_round
        case rel => exact ⟨f, k + 1, _, by omega, by omega, by omega, by omega, HV2, by go_num, by go_num⟩
        case measure => simp [intOf]; omega
    · have HV2 : Hid (valI s = n) := by rw [← HV.out, valF_end hlt]; rfl
      go_wp2
      go_ret
      exact ⟨reti HV2.out.symm, rfl⟩

end Go.Proofs.YtbbbegjedmicpaaGreatDoor
