import Derived.Test.YtbbbegjedmicpaaGreatDoorProg
import Derived.WalkKit
import Derived.WalkSpells
import Derived.WalkLawsBesides
import Derived.Maps.AppendAt

/-
  CONTRACTS OF THE LEAVES: the tests of one byte, and of a word's text.
-/
namespace Go.Proofs.YtbbbegjedmicpaaGreatDoor
open Go.RowKit
theorem mkF (fn : Fn) (first cap : Array Value) (w : World) : (Instr.makeFunc fn first cap).run Tryz.prog w = .ok (.func fn first cap) w := rfl
theorem gl {α : Type} {l : List α} {i : Nat} {x : α} (h : l[i]? = some x) : i < l.length := (List.getElem?_eq_some_iff.1 h).1
theorem gx {α : Type} {l : List α} {i : Nat} (h : i < l.length) : ∃ x, l[i]? = some x := ⟨_, List.getElem?_eq_getElem h⟩

/-- A letter or an underscore; a digit; a gap: of a byte's number. -/
def isL (c : Int) : Bool := (decide (97 ≤ c) && decide (c ≤ 122)) || (decide (65 ≤ c) && decide (c ≤ 90)) || c == 95
def isD (c : Int) : Bool := decide (48 ≤ c) && decide (c ≤ 57)
def isG (c : Int) : Bool := c == 32 || c == 10

theorem retb {a b : Bool} (h : a = true ↔ b = true) : Ending.returned (.bool a) = .returned (.bool b) := by
  rw [Bool.eq_iff_iff.2 h]

set_option maxHeartbeats 400000 in
theorem c30 (c : Int) (w : World) :
    Calls Tryz.prog 43 #[.int .u8 c] w fun e w' => e = .returned (.bool (isL c)) ∧ w' = w := by
  go_enter Tryz.func43, Tryz.ntmps43
  go_wp2
  all_goals
    go_ret
    exact ⟨retb (by simp [isL]; try omega), rfl⟩

set_option maxHeartbeats 400000 in
theorem c55 (c : Int) (w : World) :
    Calls Tryz.prog 118 #[.int .u8 c] w fun e w' => e = .returned (.bool (isL c)) ∧ w' = w := by
  go_enter Tryz.func118, Tryz.ntmps118
  go_wp2
  all_goals
    go_ret
    exact ⟨retb (by simp [isL]; try omega), rfl⟩

set_option maxHeartbeats 400000 in
theorem c31 (c : Int) (w : World) :
    Calls Tryz.prog 44 #[.int .u8 c] w fun e w' => e = .returned (.bool (isD c)) ∧ w' = w := by
  go_enter Tryz.func44, Tryz.ntmps44
  go_wp2
  all_goals
    go_ret
    exact ⟨retb (by simp [isD]; try omega), rfl⟩

set_option maxHeartbeats 400000 in
theorem c56 (c : Int) (w : World) :
    Calls Tryz.prog 119 #[.int .u8 c] w fun e w' => e = .returned (.bool (isD c)) ∧ w' = w := by
  go_enter Tryz.func119, Tryz.ntmps119
  go_wp2
  all_goals
    go_ret
    exact ⟨retb (by simp [isD]; try omega), rfl⟩

set_option maxHeartbeats 400000 in
theorem c40 (c : Int) (w : World) :
    Calls Tryz.prog 73 #[.int .u8 c] w fun e w' => e = .returned (.bool (isG c)) ∧ w' = w := by
  go_enter Tryz.func73, Tryz.ntmps73
  go_wp2
  all_goals
    go_ret
    exact ⟨retb (by simp [isG]; try omega), rfl⟩

/-- The words of the grammar's own: the texts. -/
def kws : List (List UInt8) := [[109, 101, 115, 115, 97, 103, 101], [101, 110, 117, 109], [114, 101, 112, 101, 97, 116, 101, 100], [111, 112, 116, 105, 111, 110, 97, 108], [111, 110, 101, 111, 102], [109, 97, 112]]
def bts : List (List UInt8) := [[105, 110, 116, 51, 50], [105, 110, 116, 54, 52], [117, 105, 110, 116, 51, 50], [117, 105, 110, 116, 54, 52], [115, 105, 110, 116, 51, 50], [115, 105, 110, 116, 54, 52], [98, 111, 111, 108], [102, 105, 120, 101, 100, 51, 50], [102, 105, 120, 101, 100, 54, 52], [115, 102, 105, 120, 101, 100, 51, 50], [115, 102, 105, 120, 101, 100, 54, 52], [102, 108, 111, 97, 116], [100, 111, 117, 98, 108, 101], [115, 116, 114, 105, 110, 103], [98, 121, 116, 101, 115]]
def isKw (l : List UInt8) : Bool := kws.contains l
def isBt (l : List UInt8) : Bool := bts.contains l

end Go.Proofs.YtbbbegjedmicpaaGreatDoor

/-
  CONTRACTS: is a word's text one of the grammar's own?
-/
namespace Go.Proofs.YtbbbegjedmicpaaGreatDoor
open Go.RowKit

set_option maxHeartbeats 1000000 in
theorem c57 (s : ByteArray) (w : World) :
    Calls Tryz.prog 120 #[.string s] w fun e w' => e = .returned (.bool (isKw s.toList)) ∧ w' = w := by
  cases h0 : (s.toList == [109, 101, 115, 115, 97, 103, 101])
  rotate_left
  · go_enter Tryz.func120, Tryz.ntmps120
    go_wp2
    go_ret
    exact ⟨retb (by simp only [isKw, kws, List.contains_cons, h0]; simp), rfl⟩
  cases h1 : (s.toList == [101, 110, 117, 109])
  rotate_left
  · go_enter Tryz.func120, Tryz.ntmps120
    go_wp2
    go_ret
    exact ⟨retb (by simp only [isKw, kws, List.contains_cons, h0, h1]; simp), rfl⟩
  cases h2 : (s.toList == [114, 101, 112, 101, 97, 116, 101, 100])
  rotate_left
  · go_enter Tryz.func120, Tryz.ntmps120
    go_wp2
    go_ret
    exact ⟨retb (by simp only [isKw, kws, List.contains_cons, h0, h1, h2]; simp), rfl⟩
  cases h3 : (s.toList == [111, 112, 116, 105, 111, 110, 97, 108])
  rotate_left
  · go_enter Tryz.func120, Tryz.ntmps120
    go_wp2
    go_ret
    exact ⟨retb (by simp only [isKw, kws, List.contains_cons, h0, h1, h2, h3]; simp), rfl⟩
  cases h4 : (s.toList == [111, 110, 101, 111, 102])
  rotate_left
  · go_enter Tryz.func120, Tryz.ntmps120
    go_wp2
    go_ret
    exact ⟨retb (by simp only [isKw, kws, List.contains_cons, h0, h1, h2, h3, h4]; simp), rfl⟩
  cases h5 : (s.toList == [109, 97, 112])
  rotate_left
  · go_enter Tryz.func120, Tryz.ntmps120
    go_wp2
    go_ret
    exact ⟨retb (by simp only [isKw, kws, List.contains_cons, h0, h1, h2, h3, h4, h5]; simp), rfl⟩
  · go_enter Tryz.func120, Tryz.ntmps120
    go_wp2
    go_ret
    exact ⟨retb (by simp only [isKw, kws, List.contains_cons, h0, h1, h2, h3, h4, h5]; simp), rfl⟩

set_option maxHeartbeats 1000000 in
theorem c58 (s : ByteArray) (w : World) :
    Calls Tryz.prog 121 #[.string s] w fun e w' => e = .returned (.bool (isBt s.toList)) ∧ w' = w := by
  cases h0 : (s.toList == [105, 110, 116, 51, 50])
  rotate_left
  · go_enter Tryz.func121, Tryz.ntmps121
    go_wp2
    go_ret
    exact ⟨retb (by simp only [isBt, bts, List.contains_cons, h0]; simp), rfl⟩
  cases h1 : (s.toList == [105, 110, 116, 54, 52])
  rotate_left
  · go_enter Tryz.func121, Tryz.ntmps121
    go_wp2
    go_ret
    exact ⟨retb (by simp only [isBt, bts, List.contains_cons, h0, h1]; simp), rfl⟩
  cases h2 : (s.toList == [117, 105, 110, 116, 51, 50])
  rotate_left
  · go_enter Tryz.func121, Tryz.ntmps121
    go_wp2
    go_ret
    exact ⟨retb (by simp only [isBt, bts, List.contains_cons, h0, h1, h2]; simp), rfl⟩
  cases h3 : (s.toList == [117, 105, 110, 116, 54, 52])
  rotate_left
  · go_enter Tryz.func121, Tryz.ntmps121
    go_wp2
    go_ret
    exact ⟨retb (by simp only [isBt, bts, List.contains_cons, h0, h1, h2, h3]; simp), rfl⟩
  cases h4 : (s.toList == [115, 105, 110, 116, 51, 50])
  rotate_left
  · go_enter Tryz.func121, Tryz.ntmps121
    go_wp2
    go_ret
    exact ⟨retb (by simp only [isBt, bts, List.contains_cons, h0, h1, h2, h3, h4]; simp), rfl⟩
  cases h5 : (s.toList == [115, 105, 110, 116, 54, 52])
  rotate_left
  · go_enter Tryz.func121, Tryz.ntmps121
    go_wp2
    go_ret
    exact ⟨retb (by simp only [isBt, bts, List.contains_cons, h0, h1, h2, h3, h4, h5]; simp), rfl⟩
  cases h6 : (s.toList == [98, 111, 111, 108])
  rotate_left
  · go_enter Tryz.func121, Tryz.ntmps121
    go_wp2
    go_ret
    exact ⟨retb (by simp only [isBt, bts, List.contains_cons, h0, h1, h2, h3, h4, h5, h6]; simp), rfl⟩
  cases h7 : (s.toList == [102, 105, 120, 101, 100, 51, 50])
  rotate_left
  · go_enter Tryz.func121, Tryz.ntmps121
    go_wp2
    go_ret
    exact ⟨retb (by simp only [isBt, bts, List.contains_cons, h0, h1, h2, h3, h4, h5, h6, h7]; simp), rfl⟩
  cases h8 : (s.toList == [102, 105, 120, 101, 100, 54, 52])
  rotate_left
  · go_enter Tryz.func121, Tryz.ntmps121
    go_wp2
    go_ret
    exact ⟨retb (by simp only [isBt, bts, List.contains_cons, h0, h1, h2, h3, h4, h5, h6, h7, h8]; simp), rfl⟩
  cases h9 : (s.toList == [115, 102, 105, 120, 101, 100, 51, 50])
  rotate_left
  · go_enter Tryz.func121, Tryz.ntmps121
    go_wp2
    go_ret
    exact ⟨retb (by simp only [isBt, bts, List.contains_cons, h0, h1, h2, h3, h4, h5, h6, h7, h8, h9]; simp), rfl⟩
  cases h10 : (s.toList == [115, 102, 105, 120, 101, 100, 54, 52])
  rotate_left
  · go_enter Tryz.func121, Tryz.ntmps121
    go_wp2
    go_ret
    exact ⟨retb (by simp only [isBt, bts, List.contains_cons, h0, h1, h2, h3, h4, h5, h6, h7, h8, h9, h10]; simp), rfl⟩
  cases h11 : (s.toList == [102, 108, 111, 97, 116])
  rotate_left
  · go_enter Tryz.func121, Tryz.ntmps121
    go_wp2
    go_ret
    exact ⟨retb (by simp only [isBt, bts, List.contains_cons, h0, h1, h2, h3, h4, h5, h6, h7, h8, h9, h10, h11]; simp), rfl⟩
  cases h12 : (s.toList == [100, 111, 117, 98, 108, 101])
  rotate_left
  · go_enter Tryz.func121, Tryz.ntmps121
    go_wp2
    go_ret
    exact ⟨retb (by simp only [isBt, bts, List.contains_cons, h0, h1, h2, h3, h4, h5, h6, h7, h8, h9, h10, h11, h12]; simp), rfl⟩
  cases h13 : (s.toList == [115, 116, 114, 105, 110, 103])
  rotate_left
  · go_enter Tryz.func121, Tryz.ntmps121
    go_wp2
    go_ret
    exact ⟨retb (by simp only [isBt, bts, List.contains_cons, h0, h1, h2, h3, h4, h5, h6, h7, h8, h9, h10, h11, h12, h13]; simp), rfl⟩
  cases h14 : (s.toList == [98, 121, 116, 101, 115])
  rotate_left
  · go_enter Tryz.func121, Tryz.ntmps121
    go_wp2
    go_ret
    exact ⟨retb (by simp only [isBt, bts, List.contains_cons, h0, h1, h2, h3, h4, h5, h6, h7, h8, h9, h10, h11, h12, h13, h14]; simp), rfl⟩
  · go_enter Tryz.func121, Tryz.ntmps121
    go_wp2
    go_ret
    exact ⟨retb (by simp only [isBt, bts, List.contains_cons, h0, h1, h2, h3, h4, h5, h6, h7, h8, h9, h10, h11, h12, h13, h14]; simp), rfl⟩

end Go.Proofs.YtbbbegjedmicpaaGreatDoor

/-
  THE WORDS OF A TEXT, in plain terms: where a word ends, which words there are.
-/
namespace Go.Proofs.YtbbbegjedmicpaaGreatDoor
open Go.RowKit

/-- The byte at a place, as a number. -/
def bAt (t : ByteArray) (k : Nat) : Int := if h : k < t.size then (t[k].toNat : Int) else 0
theorem bAt_eq {t : ByteArray} {k : Nat} (h : k < t.size) : (t[k].toNat : Int) = bAt t k := by unfold bAt; rw [dif_pos h]

/-- Goes on while a test holds. -/
def scan (p : Int → Bool) (t : ByteArray) : Nat → Nat → Nat
  | 0, k => k
  | n + 1, k => if decide (k < t.size) && p (bAt t k) then scan p t n (k + 1) else k

theorem scan_go {p : Int → Bool} {t : ByteArray} {n k : Nat} (hn : t.size - k ≤ n) (hk : k < t.size) (hp : p (bAt t k) = true) :
    ∃ m, t.size - (k + 1) ≤ m ∧ scan p t n k = scan p t m (k + 1) := by
  cases n with
  | zero => omega
  | succ m => exact ⟨m, by omega, by simp [scan, hk, hp]⟩
theorem scan_stop {p : Int → Bool} {t : ByteArray} {n k : Nat} (h : ¬ k < t.size ∨ p (bAt t k) = false) : scan p t n k = k := by
  cases n with
  | zero => rfl
  | succ m => rcases h with h | h <;> simp [scan, h]
theorem scan_le (p : Int → Bool) (t : ByteArray) : ∀ n k, k ≤ t.size → k ≤ scan p t n k ∧ scan p t n k ≤ t.size
  | 0, k, h => ⟨Nat.le_refl _, h⟩
  | n + 1, k, h => by
    unfold scan
    by_cases hc : (decide (k < t.size) && p (bAt t k)) = true
    · rw [if_pos hc]
      have h1 : k < t.size := by simp at hc; exact hc.1
      have := scan_le p t n (k + 1) h1
      omega
    · rw [if_neg hc]; omega

def isA (c : Int) : Bool := isL c || isD c
/-- Where the word that begins at a place ends. -/
def wEnd (t : ByteArray) (a : Nat) : Nat :=
  if isL (bAt t a) then scan isA t t.size (a + 1) else if isD (bAt t a) && bAt t a != 48 then scan isD t t.size (a + 1) else a + 1
theorem wEnd_le (t : ByteArray) (a : Nat) (h : a < t.size) : a + 1 ≤ wEnd t a ∧ wEnd t a ≤ t.size := by
  unfold wEnd
  split
  · exact scan_le _ _ _ _ h
  · split
    · exact scan_le _ _ _ _ h
    · omega

/-- A word: its text, its place. -/
abbrev W := ByteArray × Nat

/-- The words from a place on. -/
def lexF (t : ByteArray) : Nat → Nat → List W
  | 0, _ => []
  | n + 1, a => if a < t.size then if isG (bAt t a) then lexF t n (a + 1) else (t.extract a (wEnd t a), a) :: lexF t n (wEnd t a) else []
def lex (t : ByteArray) : List W := lexF t t.size 0
def allWords (t : ByteArray) : List W := lex t ++ [(⟨#[]⟩, t.size)]

theorem lexF_end {t : ByteArray} {n a : Nat} (h : ¬ a < t.size) : lexF t n a = [] := by
  cases n with
  | zero => rfl
  | succ n => simp [lexF, h]
theorem lexF_gap {t : ByteArray} {n a : Nat} (hn : t.size - a ≤ n) (h : a < t.size) (hg : isG (bAt t a) = true) :
    ∃ m, t.size - (a + 1) ≤ m ∧ lexF t n a = lexF t m (a + 1) := by
  cases n with
  | zero => omega
  | succ m => exact ⟨m, by omega, by simp [lexF, h, hg]⟩
theorem lexF_word {t : ByteArray} {n a : Nat} (hn : t.size - a ≤ n) (h : a < t.size) (hg : isG (bAt t a) = false) :
    ∃ m, t.size - (wEnd t a) ≤ m ∧ lexF t n a = (t.extract a (wEnd t a), a) :: lexF t m (wEnd t a) := by
  cases n with
  | zero => omega
  | succ m =>
    have := wEnd_le t a h
    exact ⟨m, by omega, by simp [lexF, h, hg]⟩

/-- What is so of every word: it lies in the text, its text is as long as the place tells, and not empty. -/
theorem lexF_mem (t : ByteArray) : ∀ n a, ∀ x ∈ lexF t n a, a ≤ x.2 ∧ x.2 < t.size ∧ 0 < x.1.size ∧ x.1.size ≤ t.size
  | 0, a, x, h => by simp [lexF] at h
  | n + 1, a, x, h => by
    unfold lexF at h
    by_cases ha : a < t.size
    · rw [if_pos ha] at h
      by_cases hg : isG (bAt t a) = true
      · rw [if_pos hg] at h
        have := lexF_mem t n (a + 1) x h
        omega
      · rw [if_neg hg] at h
        have he := wEnd_le t a ha
        rcases List.mem_cons.1 h with rfl | h
        · refine ⟨Nat.le_refl _, ha, ?_, ?_⟩ <;> simp [ByteArray.size_extract] <;> omega
        · have := lexF_mem t n (wEnd t a) x h
          omega
    · rw [if_neg ha] at h; simp at h

theorem lexF_length (t : ByteArray) : ∀ n a, (lexF t n a).length ≤ t.size - a
  | 0, a => by simp [lexF]
  | n + 1, a => by
    unfold lexF
    by_cases ha : a < t.size
    · rw [if_pos ha]
      have he := wEnd_le t a ha
      by_cases hg : isG (bAt t a) = true
      · rw [if_pos hg]; have := lexF_length t n (a + 1); omega
      · rw [if_neg hg]; have := lexF_length t n (wEnd t a); simp only [List.length_cons]; omega
    · rw [if_neg ha]; simp

end Go.Proofs.YtbbbegjedmicpaaGreatDoor

/-
  CONTRACTS: wordEnd, kindOf.
-/
namespace Go.Proofs.YtbbbegjedmicpaaGreatDoor
open Go.RowKit

theorem reti {k : IntKind} {a b : Int} (h : a = b) : Ending.returned (.int k a) = .returned (.int k b) := by rw [h]

set_option maxHeartbeats 400000 in
theorem c41 (t : ByteArray) (a : Nat) (w : World) (h : a < t.size) (ht : t.size ≤ 2000) :
    Calls Tryz.prog 74 #[.string t, .int .i64 a] w fun e w' => e = .returned (.int .i64 (wEnd t a)) ∧ w' = w := by
  have hb := bAt_eq h
  cases h1 : isL (bAt t a)
  · cases h2 : isD (bAt t a)
    · have HE : Hid (wEnd t a = a + 1) := by unfold wEnd; simp [h1, h2, Hid]
      go_enter Tryz.func74, Tryz.ntmps74
      go_wp2_with (first | (go_at_call 118; refine (c55 _ _).mono ?_; rintro e w' ⟨rfl, rfl⟩) | (go_at_call 119; refine (c56 _ _).mono ?_; rintro e w' ⟨rfl, rfl⟩))
      go_ret
      exact ⟨reti (by rw [HE.out]; simp), rfl⟩
    · cases h3 : (bAt t a != 48)
      · have HE : Hid (wEnd t a = a + 1) := by unfold wEnd; simp only [h1, h2, h3, Hid]; simp
        go_enter Tryz.func74, Tryz.ntmps74
        go_wp2_with (first | (go_at_call 118; refine (c55 _ _).mono ?_; rintro e w' ⟨rfl, rfl⟩) | (go_at_call 119; refine (c56 _ _).mono ?_; rintro e w' ⟨rfl, rfl⟩))
        go_ret
        exact ⟨reti (by rw [HE.out]; simp), rfl⟩
      · have HE : Hid (wEnd t a = scan isD t t.size (a + 1)) := by unfold wEnd; simp only [h1, h2, h3, Hid]; simp
        go_enter Tryz.func74, Tryz.ntmps74
        go_wp2_with (first | (go_at_call 118; refine (c55 _ _).mono ?_; rintro e w' ⟨rfl, rfl⟩) | (go_at_call 119; refine (c56 _ _).mono ?_; rintro e w' ⟨rfl, rfl⟩))
        go_loop [6] (fun i => ∃ n k : Nat, k ≤ t.size ∧ t.size - k ≤ n ∧ Hid (scan isD t n k = scan isD t t.size (a + 1)) ∧ i = .int .i64 k) (fun i => t.size - (intOf i).toNat)
        case atStart => exact ⟨t.size, a + 1, by omega, by omega, rfl, by simp⟩
        case round =>
          obtain ⟨n, k, hk, hn, HS, rfl⟩ := hrel
          by_cases hlt : k < t.size
          · have hbk := bAt_eq hlt
            cases h4 : isD (bAt t k)
            · have HF : Hid (k = scan isD t t.size (a + 1)) := by rw [← HS.out, scan_stop (.inr h4)]; exact rfl
              go_wp2_with (first | (go_at_call 119; refine (c56 _ _).mono ?_; rintro e w' ⟨rfl, rfl⟩))
              go_ret
              exact ⟨reti (by rw [HE.out, ← HF.out]), rfl⟩
            · obtain ⟨m, hm, hs⟩ := scan_go hn hlt h4
              have HF : Hid (scan isD t m (k + 1) = scan isD t t.size (a + 1)) := hs.symm.trans HS.out
              clear hs
              go_wp2_with (first | (go_at_call 119; refine (c56 _ _).mono ?_; rintro e w' ⟨rfl, rfl⟩))
              go_round
              case rel => exact ⟨m, k + 1, by omega, hm, HF, by go_num⟩
              case measure => simp [intOf]; omega
          · have HF : Hid (k = scan isD t t.size (a + 1)) := by rw [← HS.out, scan_stop (.inl hlt)]; exact rfl
            go_wp2_with (first | (go_at_call 119; refine (c56 _ _).mono ?_; rintro e w' ⟨rfl, rfl⟩))
            go_ret
            exact ⟨reti (by rw [HE.out, ← HF.out]), rfl⟩
  · have HE : Hid (wEnd t a = scan isA t t.size (a + 1)) := by unfold wEnd; simp only [h1, Hid]; simp
    go_enter Tryz.func74, Tryz.ntmps74
    go_wp2_with (first | (go_at_call 118; refine (c55 _ _).mono ?_; rintro e w' ⟨rfl, rfl⟩) | (go_at_call 119; refine (c56 _ _).mono ?_; rintro e w' ⟨rfl, rfl⟩))
    go_loop [6] (fun i => ∃ n k : Nat, k ≤ t.size ∧ t.size - k ≤ n ∧ Hid (scan isA t n k = scan isA t t.size (a + 1)) ∧ i = .int .i64 k) (fun i => t.size - (intOf i).toNat)
    case atStart => exact ⟨t.size, a + 1, by omega, by omega, rfl, by simp⟩
    case round =>
      obtain ⟨n, k, hk, hn, HS, rfl⟩ := hrel
      by_cases hlt : k < t.size
      · have hbk := bAt_eq hlt
        cases h4 : isA (bAt t k)
        · have HF : Hid (k = scan isA t t.size (a + 1)) := by rw [← HS.out, scan_stop (.inr h4)]; exact rfl
          have h5 : isL (bAt t k) = false ∧ isD (bAt t k) = false := by simpa [isA] using h4
          obtain ⟨h5, h6⟩ := h5
          clear h4
          go_wp2_with (first | (go_at_call 118; refine (c55 _ _).mono ?_; rintro e w' ⟨rfl, rfl⟩) | (go_at_call 119; refine (c56 _ _).mono ?_; rintro e w' ⟨rfl, rfl⟩))
          go_ret
          exact ⟨reti (by rw [HE.out, ← HF.out]), rfl⟩
        · obtain ⟨m, hm, hs⟩ := scan_go hn hlt h4
          have HF : Hid (scan isA t m (k + 1) = scan isA t t.size (a + 1)) := hs.symm.trans HS.out
          clear hs
          cases h5 : isL (bAt t k)
          · have h6 : isD (bAt t k) = true := by simpa [isA, h5] using h4
            clear h4
            go_wp2_with (first | (go_at_call 118; refine (c55 _ _).mono ?_; rintro e w' ⟨rfl, rfl⟩) | (go_at_call 119; refine (c56 _ _).mono ?_; rintro e w' ⟨rfl, rfl⟩))
            go_round
            case rel => exact ⟨m, k + 1, by omega, hm, HF, by go_num⟩
            case measure => simp [intOf]; omega
          · clear h4
            go_wp2_with (first | (go_at_call 118; refine (c55 _ _).mono ?_; rintro e w' ⟨rfl, rfl⟩) | (go_at_call 119; refine (c56 _ _).mono ?_; rintro e w' ⟨rfl, rfl⟩))
            go_round
            case rel => exact ⟨m, k + 1, by omega, hm, HF, by go_num⟩
            case measure => simp [intOf]; omega
      · have HF : Hid (k = scan isA t t.size (a + 1)) := by rw [← HS.out, scan_stop (.inl hlt)]; exact rfl
        go_wp2_with (first | (go_at_call 119; refine (c56 _ _).mono ?_; rintro e w' ⟨rfl, rfl⟩))
        go_ret
        exact ⟨reti (by rw [HE.out, ← HF.out]), rfl⟩

end Go.Proofs.YtbbbegjedmicpaaGreatDoor

/-
  CONTRACTS: kindOf, split.
-/
namespace Go.Proofs.YtbbbegjedmicpaaGreatDoor
open Go.RowKit

/-- What kind of word a text is: 0 plain, 1 a name, 2 a number, 3 a type's own word. -/
def kindOf (s : ByteArray) : Int :=
  if isD (bAt s 0) then 2 else if !isL (bAt s 0) || isKw s.toList then 0 else if isBt s.toList then 3 else 1
/-- .. and 4 the end, which has no text. -/
def kindW (s : ByteArray) : Int := if s.size = 0 then 4 else kindOf s

set_option maxHeartbeats 400000 in
theorem c42 (s : ByteArray) (w : World) (h : 0 < s.size) :
    Calls Tryz.prog 75 #[.string s] w fun e w' => e = .returned (.int .i64 (kindOf s)) ∧ w' = w := by
  have hb := bAt_eq h
  cases h1 : isD (bAt s 0)
  · cases h2 : isL (bAt s 0)
    · have HE : Hid (kindOf s = 0) := by unfold kindOf; simp [h1, h2, Hid]
      go_enter Tryz.func75, Tryz.ntmps75
      go_wp2_with (first | (go_at_call 118; refine (c55 _ _).mono ?_; rintro e w' ⟨rfl, rfl⟩) | (go_at_call 119; refine (c56 _ _).mono ?_; rintro e w' ⟨rfl, rfl⟩))
      go_ret
      exact ⟨reti (by rw [HE.out]), rfl⟩
    · cases h3 : isKw s.toList
      · cases h4 : isBt s.toList
        · have HE : Hid (kindOf s = 1) := by unfold kindOf; simp [h1, h2, h3, h4, Hid]
          go_enter Tryz.func75, Tryz.ntmps75
          go_wp2_with (first | (go_at_call 118; refine (c55 _ _).mono ?_; rintro e w' ⟨rfl, rfl⟩) | (go_at_call 119; refine (c56 _ _).mono ?_; rintro e w' ⟨rfl, rfl⟩) | (go_at_call 120; refine (c57 _ _).mono ?_; rintro e w' ⟨rfl, rfl⟩) | (go_at_call 121; refine (c58 _ _).mono ?_; rintro e w' ⟨rfl, rfl⟩))
          go_ret
          exact ⟨reti (by rw [HE.out]), rfl⟩
        · have HE : Hid (kindOf s = 3) := by unfold kindOf; simp [h1, h2, h3, h4, Hid]
          go_enter Tryz.func75, Tryz.ntmps75
          go_wp2_with (first | (go_at_call 118; refine (c55 _ _).mono ?_; rintro e w' ⟨rfl, rfl⟩) | (go_at_call 119; refine (c56 _ _).mono ?_; rintro e w' ⟨rfl, rfl⟩) | (go_at_call 120; refine (c57 _ _).mono ?_; rintro e w' ⟨rfl, rfl⟩) | (go_at_call 121; refine (c58 _ _).mono ?_; rintro e w' ⟨rfl, rfl⟩))
          go_ret
          exact ⟨reti (by rw [HE.out]), rfl⟩
      · have HE : Hid (kindOf s = 0) := by unfold kindOf; simp [h1, h2, h3, Hid]
        go_enter Tryz.func75, Tryz.ntmps75
        go_wp2_with (first | (go_at_call 118; refine (c55 _ _).mono ?_; rintro e w' ⟨rfl, rfl⟩) | (go_at_call 119; refine (c56 _ _).mono ?_; rintro e w' ⟨rfl, rfl⟩) | (go_at_call 120; refine (c57 _ _).mono ?_; rintro e w' ⟨rfl, rfl⟩))
        go_ret
        exact ⟨reti (by rw [HE.out]), rfl⟩
  · have HE : Hid (kindOf s = 2) := by unfold kindOf; simp [h1, Hid]
    go_enter Tryz.func75, Tryz.ntmps75
    go_wp2_with (first | (go_at_call 118; refine (c55 _ _).mono ?_; rintro e w' ⟨rfl, rfl⟩) | (go_at_call 119; refine (c56 _ _).mono ?_; rintro e w' ⟨rfl, rfl⟩))
    go_ret
    exact ⟨reti (by rw [HE.out]), rfl⟩

theorem vint {k : IntKind} {a b : Int} (h : a = b) : Value.int k a = .int k b := by rw [h]

/-- A word's cells, in the program's list. -/
def wcI (x : W) : List Value := [.int .i64 (kindW x.1), .string x.1, .int .i64 x.2]

theorem cell_three_new (w : World) (a b c : Value) (t : TypeId) : ∀ j u, [a, b, c][j]? = some u → (w.alloc (.cells #[a, b, c] t)).cell? ((⟨w.heap.size, 0, none⟩ : Addr).add j) = some u := by
  intro j u hj
  match j, hj with
  | 0, hj => simp at hj; subst hj; simp [Addr.add]
  | 1, hj => simp at hj; subst hj; simp [Addr.add]
  | 2, hj => simp at hj; subst hj; simp [Addr.add]
  | j + 3, hj => simp at hj

theorem Tryz.info114 : (Tryz.prog.info? 114).map (fun i => (i.zero, i.size, i.bytes)) = some (some (.agg #[.int .i64 0, .string ⟨#[]⟩, .int .i64 0]), 3, 32) := by kernel_rfl

theorem flat_len (l : List W) : (l.flatMap wcI).length = l.length * 3 := by
  induction l with
  | nil => rfl
  | cons x l ih => simp [List.flatMap_cons, wcI, ih]; omega

set_option maxHeartbeats 400000 in
theorem c26 (t : ByteArray) (w : World) (ht : t.size ≤ 2000) :
    Calls Tryz.prog 40 #[.string t] w fun e w' => ∃ v, e = .returned v ∧ w'.ownsRow w.heap.size 114 3 v (allWords t).length ((allWords t).flatMap wcI) ∧ Below w.heap.size w w' := by
  obtain ⟨i0, hi, hz0, hz1, hz2⟩ := info_parts Tryz.info114
  go_enter Tryz.func40, Tryz.ntmps40
  go_wp2
  go_loopw [3, 4] (fun v a wr => ∃ (n k : Nat) (pre : List W), k ≤ t.size ∧ t.size - k ≤ n ∧ pre.length ≤ k ∧ Hid (pre ++ lexF t n k = lex t) ∧ a = .int .i64 k ∧ wr.ownsRow w.heap.size 114 3 v pre.length (pre.flatMap wcI) ∧ Below w.heap.size w wr) (fun _ i _ => t.size - (intOf i).toNat)
  case atStart => exact ⟨t.size, 0, [], by omega, by omega, by simp, rfl, rfl, World.ownsRow_nil _ _ _ _, Below.refl _ _⟩
  case round =>
    obtain ⟨n, k, pre, hk, hn, hpl, HL, rfl, hown, hnx⟩ := hrel
    by_cases hlt : k < t.size
    · have hbk := bAt_eq hlt
      cases hg : isG (bAt t k)
      · have he := wEnd_le t k hlt
        have hse : 0 < (t.extract k (wEnd t k)).size := by rw [ByteArray.size_extract]; omega
        obtain ⟨m, hm, hlw⟩ := lexF_word hn hlt hg
        have HF : Hid ((pre ++ [(t.extract k (wEnd t k), k)]) ++ lexF t m (wEnd t k) = lex t) := by
          have := HL.out; rw [hlw] at this; simpa [Hid] using this
        have HK : Hid (kindW (t.extract k (wEnd t k)) = kindOf (t.extract k (wEnd t k))) := by
          unfold kindW; rw [if_neg (by omega)]; exact rfl
        clear hlw
        go_wp2_with (first | (go_at_call 73; refine (c40 _ _).mono ?_; rintro e w' ⟨rfl, rfl⟩) | (go_at_call 74; refine (c41 _ _ _ hlt ht).mono ?_; rintro e w' ⟨rfl, rfl⟩) | (go_at_call 75; refine (c42 _ _ hse).mono ?_; rintro e w' ⟨rfl, rfl⟩) | (at_builtin; refine wpList_append_own_at _ rfl _ _ 121 rfl w.heap.size 114 i0 _ 3 32 Tryz.underlying121 hi hz0 hz1 hz2 rfl (by decide) u3 _ _ rfl (hown.alloc _) _ 1 1 [_, _, _] rfl rfl (cell_three_new _ _ _ _ _) ?h1 ?h63 ?hby ?hba ?_; rotate_right; intro v' w1 hown' hgrow hnil hloc))
        case h1 => intro u hu; simp at hu; rcases hu with rfl | rfl | rfl <;> rfl
        case h63 => unfold maxLen; omega
        case hby => omega
        case hba => have := hnx.size; simp; omega
        refine ⟨⟨m, wEnd t k, pre ++ [(t.extract k (wEnd t k), k)], he.2, hm, by simp; omega, HF, vint (by omega), ?_, ?_⟩, by simp [intOf]; omega⟩
        · simpa [wcI, HK.out] using hown'
        · exact (hnx.alloc hnx.size _).grown hgrow (by have := hnx.size; simp; omega) (fun j hj => (hown.lt j hj).1)
      · obtain ⟨m, hm, hlw⟩ := lexF_gap hn hlt hg
        have HF : Hid (pre ++ lexF t m (k + 1) = lex t) := by
          have := HL.out; rw [hlw] at this; simpa [Hid] using this
        clear hlw
        go_wp2_with (first | (go_at_call 73; refine (c40 _ _).mono ?_; rintro e w' ⟨rfl, rfl⟩))
        go_roundw
        case rel => exact ⟨m, k + 1, pre, by omega, hm, by omega, HF, by go_num, hown, hnx⟩
        case measure => simp [intOf]; omega
    · have HF : Hid (pre = lex t) := by
        have := HL.out; rw [lexF_end hlt] at this; simpa [Hid] using this
      go_wp2_with (first | (at_builtin; refine wpList_append_own_at _ rfl _ _ 121 rfl w.heap.size 114 i0 _ 3 32 Tryz.underlying121 hi hz0 hz1 hz2 rfl (by decide) u3 _ _ rfl (hown.alloc _) _ 1 1 [_, _, _] rfl rfl (cell_three_new _ _ _ _ _) ?h1 ?h63 ?hby ?hba ?_; rotate_right; intro v' w1 hown' hgrow hnil hloc))
      case h1 => intro u hu; simp at hu; rcases hu with rfl | rfl | rfl <;> rfl
      case h63 => unfold maxLen; omega
      case hby => omega
      case hba => have := hnx.size; simp; omega
      go_ret
      refine ⟨v', rfl, ?_, ?_⟩
      · have := HF.out
        subst this
        have hk : kindW ⟨#[]⟩ = 4 := rfl
        simpa [allWords, wcI, hk] using hown'
      · exact (hnx.alloc hnx.size _).grown hgrow (by have := hnx.size; simp; omega) (fun j hj => (hown.lt j hj).1)

end Go.Proofs.YtbbbegjedmicpaaGreatDoor
