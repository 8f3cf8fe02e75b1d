import Derived.Test.YtbbbegjedmicpaaGreatDoorRefD
import Derived.Test.YtbbbegjedmicpaaGreatDoorPmA
import Derived.Laws.Bits64

/-
  THE REFERENCE, CONTRACTS: wrong, long, at.
-/
namespace Go.Proofs.YtbbbegjedmicpaaGreatDoor
open Go.RowKit

theorem Kept.below {bs : List Nat} {a b c : World} (h : Kept bs a b) (k : Below b.heap.size b c) : Kept bs a c := h.trans (Kept.of_below k)
theorem Kept.drewN {bs : List Nat} {a b : World} (h : Kept bs a b) (n : Nat) : Kept bs a (b.drewN n) := h.trans ⟨rfl, rfl, rfl, Nat.le_refl _, fun _ _ _ => rfl⟩
theorem Kept.set {bs : List Nat} {a b : World} (h : Kept bs a b) {c : Nat} (hp : c ∈ bs) (off : Nat) (u : Value) : Kept bs a (b.setCell ⟨c, off, none⟩ u) :=
  h.trans ⟨rfl, rfl, rfl, by simp [World.setCell], fun k _ hk2 => Below.heap_setCell _ _ _ _ (fun e => hk2 (e ▸ hp))⟩
theorem Blk.kept {w w1 : World} {bs : List Nat} {b : Nat} {cs : Array Value} {T : TypeId} (h : Blk w b cs T) (hk : Kept bs w w1) (hn : b ∉ bs) : Blk w1 b cs T := (hk.block b h.lt hn).trans h


/-- The place of the first word that may not be. -/
def wrongI (wr : Int) (at_ : Nat) : Int := if wr < 0 ∨ (at_ : Int) < wr then at_ else wr
def longI (wr : Int) (x : W) : Int := if 20 < x.1.size then wrongI wr x.2 else wr

set_option maxHeartbeats 1000000 in
set_option maxRecDepth 100000 in
theorem c21 (w : World) (rb : Nat) (c0 c1 c2 c4 c5 c6 c7 : Value) (wr : Int) (s : ByteArray) (p : Nat) (K : Blk w rb #[c0, c1, c2, .int .i64 wr, c4, c5, c6, c7] 79) :
    Calls Tryz.prog 26 #[.pointer (some ⟨rb, 0, none⟩), .agg #[.string s, .int .i64 p]] w fun e w' => e = .returned (.tuple #[]) ∧ Blk w' rb #[c0, c1, c2, .int .i64 (wrongI wr p), c4, c5, c6, c7] 79 ∧ Kept [rb] w w' := by
  have K1 := K.alloc (Obj.cells #[.string s, .int .i64 p] 81)
  obtain ⟨k1, k2⟩ := K1.rules
  have B0 : Kept [rb] w (w.alloc (Obj.cells #[.string s, .int .i64 p] 81)) := (Kept.refl _ _).alloc _
  have hne : rb ≠ w.heap.size := by have := K.lt; omega
  cases h1 : decide (wr < 0)
  · cases h2 : decide ((p : Int) < wr)
    · have HW : Hid (wrongI wr p = wr) := by unfold wrongI; rw [if_neg]; rfl; simp at h1 h2; omega
      go_enter Tryz.func26, Tryz.ntmps26
      go_wp2_with fail
      go_quiet (fail)
      go_wp2
      go_end0
      exact ⟨rfl, by rw [HW.out]; exact K1, B0.drewN _⟩
    · have HW : Hid (wrongI wr p = p) := by unfold wrongI; rw [if_pos]; rfl; simp at h1 h2; omega
      go_enter Tryz.func26, Tryz.ntmps26
      go_wp2_with fail
      go_quiet (fail)
      go_wp2
      go_end0
      refine ⟨rfl, by rw [HW.out]; exact K1.drew.set 3 _, ?_⟩
      exact (B0.drewN _).set (by simp) _ _
  · have HW : Hid (wrongI wr p = p) := by unfold wrongI; rw [if_pos]; rfl; simp at h1; omega
    go_enter Tryz.func26, Tryz.ntmps26
    go_wp2_with fail
    go_quiet (fail)
    go_wp2
    go_end0
    refine ⟨rfl, by rw [HW.out]; exact K1.drew.set 3 _, ?_⟩
    exact (B0.drewN _).set (by simp) _ _

set_option maxHeartbeats 1000000 in
set_option maxRecDepth 100000 in
theorem c33 (w : World) (rb : Nat) (c0 c1 c2 c4 c5 c6 c7 : Value) (wr : Int) (s : ByteArray) (p : Nat) (K : Blk w rb #[c0, c1, c2, .int .i64 wr, c4, c5, c6, c7] 79) :
    Calls Tryz.prog 46 #[.pointer (some ⟨rb, 0, none⟩), .agg #[.string s, .int .i64 p]] w fun e w' => e = .returned (.tuple #[]) ∧ Blk w' rb #[c0, c1, c2, .int .i64 (longI wr (s, p)), c4, c5, c6, c7] 79 ∧ Kept [rb] w w' := by
  have K1 := K.alloc (Obj.cells #[.string s, .int .i64 p] 81)
  have B0 : Kept [rb] w (w.alloc (Obj.cells #[.string s, .int .i64 p] 81)) := (Kept.refl _ _).alloc _
  by_cases h1 : 20 < s.size
  · have h2 : (20 : Int) < (s.size : Int) := by omega
    have HW : Hid (longI wr (s, p) = wrongI wr p) := by unfold longI; rw [if_pos h1]; rfl
    go_enter Tryz.func46, Tryz.ntmps46
    go_wp2_with fail
    refine (c21 _ rb c0 c1 c2 c4 c5 c6 c7 wr s p K1).mono ?_
    rintro e w2 ⟨rfl, K2, kk⟩
    go_wp2
    go_end0
    exact ⟨rfl, by rw [HW.out]; exact K2, B0.trans kk⟩
  · have h2 : decide ((20 : Int) < (s.size : Int)) = false := by simp; omega
    have HW : Hid (longI wr (s, p) = wr) := by unfold longI; rw [if_neg h1]; rfl
    go_enter Tryz.func46, Tryz.ntmps46
    go_wp2
    go_end0
    exact ⟨rfl, by rw [HW.out]; exact K1, B0⟩

/-- The reference's words in memory: the row, and the word that is at hand. -/
theorem row_word {w : World} {lo : Nat} {va : Option Addr} {vn vc : Nat} {ws : List W} (h : w.ownsRow lo 81 2 (.slice va vn vc) ws.length (ws.flatMap wcR)) {i : Nat} {x : W} (hx : ws[i]? = some x) :
    vn = ws.length ∧ i < ws.length ∧ ∃ g, va = some ⟨g, 0, none⟩ ∧ g < w.heap.size ∧ ∀ w' : World, w'.heap[g]? = w.heap[g]? → w'.cell? ⟨g, i * 2, none⟩ = some (.string x.1) ∧ w'.cell? ⟨g, i * 2 + 1, none⟩ = some (.int .i64 x.2) := by
  have hlt := gl hx
  obtain ⟨g, rfl, _, hgl, hcell⟩ := ownsRow_at h (by omega)
  refine ⟨ownsRow_len h, hlt, g, rfl, hgl, fun w' hw => ⟨?_, ?_⟩⟩
  · exact hcell w' hw (i * 2) _ ((flat_get wcR 2 wcR_len ws i x hx 0 (by omega)).trans rfl)
  · exact hcell w' hw (i * 2 + 1) _ ((flat_get wcR 2 wcR_len ws i x hx 1 (by omega)).trans rfl)

set_option maxHeartbeats 1000000 in
set_option maxRecDepth 100000 in
theorem c34 (w : World) (rb lo : Nat) (wv c3 c4 c5 c6 c7 : Value) (i : Nat) (bad : Int) (ws : List W) (x : W) (s : ByteArray) (K : Blk w rb #[wv, .int .i64 i, .int .i64 bad, c3, c4, c5, c6, c7] 79) (hrow : w.ownsRow lo 81 2 wv ws.length (ws.flatMap wcR)) (hx : ws[i]? = some x) :
    Calls Tryz.prog 47 #[.pointer (some ⟨rb, 0, none⟩), .string s] w fun e w' => e = .returned (.bool (decide (bad < 0) && x.1.toList == s.toList)) ∧ Below w.heap.size w w' := by
  obtain ⟨va, vn, vc, rfl⟩ := ownsRow_form hrow
  obtain ⟨rfl, hlt, g, rfl, hgl, hcell⟩ := row_word hrow hx
  obtain ⟨q1, q2⟩ := hcell w rfl
  obtain ⟨k1, k2⟩ := K.rules
  have hi1 : (i : Int) < (ws.length : Int) := by omega
  clear hcell hx hrow
  cases h1 : decide (bad < 0)
  · go_enter Tryz.func47, Tryz.ntmps47
    go_wp2_with fail
    go_quiet (fail)
    go_wp2
    go_ret
    exact ⟨by simp, belowN (Below.refl _ _) _⟩
  · go_enter Tryz.func47, Tryz.ntmps47
    go_wp2_with fail
    go_quiet (fail)
    go_wp2
    go_ret
    exact ⟨by simp, belowN (Below.refl _ _) _⟩

end Go.Proofs.YtbbbegjedmicpaaGreatDoor

/-
  THE DOCUMENT's READER, CONTRACTS: fail, varint, little, signed, zigzag.
-/
namespace Go.Proofs.YtbbbegjedmicpaaGreatDoor
open Go.RowKit

theorem below_sets {n c : Nat} {a : World} (hc : n ≤ c) : ∀ (vs : List Value) (o : Nat) {b : World}, Below n a b → Below n a (b.setCells c o vs)
  | [], _, _, h => h
  | v :: vs, o, b, h => by
    have := below_sets hc vs (o + 1) (h.setCell (p := ⟨c, o, none⟩) hc v)
    simpa [World.setCells] using this

/-- The document's input: the bytes, and what is wrong with them first. -/
def InAt (w : World) (xb : Nat) (b : ByteArray) (e p : Int) : Prop := Blk w xb #[.string b, .int .i64 e, .int .i64 p] 234

set_option maxHeartbeats 1000000 in
set_option maxRecDepth 100000 in
theorem d_fail (w : World) (xb : Nat) (b : ByteArray) (e0 p0 e p : Int) (K : InAt w xb b e0 p0) (h0 : e0 = 0) :
    Calls Tryz.prog 164 #[.pointer (some ⟨xb, 0, none⟩), .int .i64 e, .int .i64 p] w fun en w' => en = .returned (.tuple #[]) ∧ InAt w' xb b e p ∧ Kept [xb] w w' := by
  subst h0
  have K0 : Blk w xb #[.string b, .int .i64 0, .int .i64 p0] 234 := K
  obtain ⟨k1, k2⟩ := K0.rules
  go_enter Tryz.func164, Tryz.ntmps164
  go_wp2
  go_end0
  refine ⟨rfl, ?_, ?_⟩
  · exact (K0.set 1 (.int .i64 e)).set 2 (.int .i64 p)
  · exact ((Kept.refl _ _).set (by simp) _ _).set (by simp) _ _

theorem bAt_range (t : ByteArray) (k : Nat) : 0 ≤ bAt t k ∧ bAt t k < 256 := by
  unfold bAt
  split
  · rename_i h
    have := t[k].toNat_lt
    omega
  · omega
theorem pow7_step (i : Nat) : (2 : Int) ^ (7 * (i + 1)) = 128 * 2 ^ (7 * i) := by
  rw [show 7 * (i + 1) = 7 * i + 7 from by omega, Int.pow_add]
  omega
theorem pow_mono {i j : Nat} (h : i ≤ j) : (2 : Int) ^ i ≤ 2 ^ j := by
  have := Nat.pow_le_pow_right (n := 2) (by decide) h
  exact_mod_cast this
/-- A number that has i bytes stays so with one more. -/
theorem vi_grow {i : Nat} {n c : Int} (h0 : 0 ≤ n) (h1 : n < 2 ^ (7 * i)) : 0 ≤ n + c % 128 * 2 ^ (7 * i) ∧ n + c % 128 * 2 ^ (7 * i) < 2 ^ (7 * (i + 1)) := by
  have hp : (0 : Int) < 2 ^ (7 * i) := Int.pow_pos (by decide)
  have h2 : 0 ≤ c % 128 := Int.emod_nonneg _ (by decide)
  have h3 : c % 128 ≤ 127 := by have := Int.emod_lt_of_pos c (show (0 : Int) < 128 by decide); omega
  rw [pow7_step]
  generalize (2 : Int) ^ (7 * i) = q at *
  have h4 : 0 ≤ c % 128 * q := Int.mul_nonneg h2 (by omega)
  have h5 : c % 128 * q ≤ 127 * q := Int.mul_le_mul_of_nonneg_right h3 (by omega)
  omega

def ViRet (w : World) (xb : Nat) (b : ByteArray) (e : Nat) (r : Fx (Int × Nat)) (en : Ending) (w' : World) : Prop :=
  match r with
  | .ok (n, z) => en = .returned (.tuple #[.int .u64 n, .int .i64 z]) ∧ w' = w
  | .error (c, p) => en = .returned (.tuple #[.int .u64 0, .int .i64 e]) ∧ InAt w' xb b c p ∧ Kept [xb] w w'

theorem wrap_u64 {c : Int} (h0 : 0 ≤ c) (h1 : c < 18446744073709551616) : IntKind.u64.wrap c = c := by
  simp [IntKind.wrap, IntKind.signed, IntKind.bits]
  omega

set_option maxHeartbeats 2000000 in
set_option maxRecDepth 100000 in
theorem d_varint (w : World) (xb : Nat) (b : ByteArray) (p0 : Int) (K : InAt w xb b 0 p0) (a e : Nat) (hsz : b.size ≤ 268435456) (he : e ≤ b.size) (ha : a ≤ e) :
    Calls Tryz.prog 223 #[.pointer (some ⟨xb, 0, none⟩), .int .i64 a, .int .i64 e] w (ViRet w xb b e (viP b a e)) := by
  have K0 : Blk w xb #[.string b, .int .i64 0, .int .i64 p0] 234 := K
  obtain ⟨k1, k2⟩ := K0.rules
  obtain ⟨r, hr⟩ : ∃ r, viP b a e = r := ⟨_, rfl⟩
  have HR : Hid (viP b a e = r) := hr
  rw [hr]
  clear hr
  go_enter Tryz.func223, Tryz.ntmps223
  go_wp2
  go_loop [8, 9] (fun x i => ∃ (k : Nat) (n : Int), k ≤ 10 ∧ 0 ≤ n ∧ Hid (n < 2 ^ (7 * k)) ∧ Hid (viF b a e (10 - k) k n = r) ∧ x = .int .u64 n ∧ i = .int .i64 k) (fun _ i => 10 - (intOf i).toNat)
  case atStart => exact ⟨0, 0, by omega, by omega, (by decide : (0 : Int) < 2 ^ (7 * 0)), HR, rfl, rfl⟩
  case round =>
    obtain ⟨k, n, hk, hn0, HN, HV, rfl, rfl⟩ := hrel
    by_cases hk10 : k < 10
    · have hki : (k : Int) < 10 := by omega
      obtain ⟨m, hm⟩ : ∃ m, 10 - k = m + 1 := ⟨9 - k, by omega⟩
      by_cases hlt : a + k < e
      · have hli : decide ((e : Int) ≤ (a : Int) + (k : Int)) = false := by simp; omega
        have hbk := bAt_eq (t := b) (k := a + k) (by omega)
        have hr2 := bAt_range b (a + k)
        obtain ⟨c, hc⟩ : ∃ c, bAt b (a + k) = c := ⟨_, rfl⟩
        have HC : Hid (bAt b (a + k) = c) := hc
        rw [hc] at hbk hr2
        clear hc
        obtain ⟨hc0, hc1⟩ := hr2
        have hw1 := wrap_u64 hc0 (by omega)
        by_cases h9 : k = 9 ∧ 1 < c
        · obtain ⟨rfl, hc2⟩ := h9
          have HE : Hid (r = .error (7, (a : Int))) := by
            have := HV.out
            rw [hm, viF, if_pos hlt, if_pos ⟨rfl, by rw [HC.out]; exact hc2⟩] at this
            exact this.symm
          clear HN HV HR
          go_wp2_with fail
          refine (d_fail _ xb b 0 p0 7 a K rfl).mono ?_
          rintro en w1 ⟨rfl, K2, kk⟩
          go_wp2
          go_ret2
          rw [HE.out]
          exact ⟨rfl, K2, kk⟩
        · have hg := vi_grow (i := k) (c := c) hn0 HN.out
          have HG1 : Hid (n + c % 128 * 2 ^ (7 * k) < 2 ^ (7 * (k + 1))) := hg.2
          have hg0 := hg.1
          have hm0 : 0 ≤ c % 128 * 2 ^ (7 * k) := Int.mul_nonneg (Int.emod_nonneg _ (by decide)) (Int.le_of_lt (Int.pow_pos (by decide)))
          have hg64 : n + c % 128 * 2 ^ (7 * k) < 18446744073709551616 := by
            by_cases h : k = 9
            · subst h
              have h1 := HN.out
              have hc2 : ¬ 1 < c := fun h => h9 ⟨rfl, h⟩
              have : c % 128 = c := Int.emod_eq_of_lt hc0 (by omega)
              rw [this]
              simp only [Nat.reduceMul, Int.reducePow] at *
              omega
            · have h2 : (2 : Int) ^ (7 * (k + 1)) ≤ 2 ^ 63 := pow_mono (by omega)
              have h1 := hg.2
              omega
          have hw2 := wrap_u64 hm0 (by omega)
          have hw3 := wrap_u64 hg0 hg64
          have ht : c.tmod 128 = c % 128 := Int.tmod_eq_emod_of_nonneg hc0
          clear hg
          by_cases hc8 : c < 128
          · have HE : Hid (r = .ok (n + c % 128 * 2 ^ (7 * k), a + k + 1)) := by
              have := HV.out
              rw [hm, viF, if_pos hlt, if_neg (by rw [HC.out]; exact h9), HC.out, if_pos hc8] at this
              exact this.symm
            rw [HE.out]
            clear HV HR HE HN HG1
            by_cases hk9 : k = 9
            · subst hk9
              have hc2 : ¬ 1 < c := fun h => h9 ⟨rfl, h⟩
              simp only [Nat.reduceMul, Int.reducePow] at hw2 hw3 hg0 hg64 hm0 ⊢
              go_wp2
              go_ret2
              exact ⟨by go_num, rfl⟩
            · have hk9i : ¬ (k : Int) = 9 := by omega
              go_wp2
              go_ret2
              exact ⟨by go_num, rfl⟩
          · have hk9 : k < 9 := by
              rcases Nat.lt_or_ge k 9 with h | h
              · exact h
              · exact absurd ⟨by omega, by omega⟩ h9
            have hk9i : ¬ (k : Int) = 9 := by omega
            have HE : Hid (viF b a e (10 - (k + 1)) (k + 1) (n + c % 128 * 2 ^ (7 * k)) = r) := by
              have := HV.out
              rw [hm, viF, if_pos hlt, if_neg (by rw [HC.out]; exact h9), HC.out, if_neg hc8] at this
              rw [show 10 - (k + 1) = m from by omega]
              exact this
            clear HV HN
            go_wp2
            go_round
            case rel => exact ⟨k + 1, _, by omega, hg0, HG1, HE, by go_num, by go_num⟩
            case measure => simp [intOf]; omega
      · have hli : (e : Int) ≤ (a : Int) + (k : Int) := by omega
        have HE : Hid (r = .error (6, (a : Int))) := by
          have := HV.out
          rw [hm, viF, if_neg hlt] at this
          exact this.symm
        clear HN HV HR
        go_wp2_with fail
        refine (d_fail _ xb b 0 p0 6 a K rfl).mono ?_
        rintro en w1 ⟨rfl, K2, kk⟩
        go_wp2
        go_ret2
        rw [HE.out]
        exact ⟨rfl, K2, kk⟩
    · obtain rfl : k = 10 := by omega
      have HE : Hid (r = .error (7, (a : Int))) := HV.out.symm
      clear HN HV HR
      go_wp2_with fail
      refine (d_fail _ xb b 0 p0 7 a K rfl).mono ?_
      rintro en w1 ⟨rfl, K2, kk⟩
      go_wp2
      go_ret2
      rw [HE.out]
      exact ⟨rfl, K2, kk⟩

end Go.Proofs.YtbbbegjedmicpaaGreatDoor

/-
  THE DOCUMENT's READER, CONTRACTS: little, signed, zigzag, record.
-/
namespace Go.Proofs.YtbbbegjedmicpaaGreatDoor
open Go.RowKit

/-- The bytes from a place on, as a number. -/
def leT (s : ByteArray) (k : Nat) : Int := leF s (s.size - k) k
theorem leT_end {s : ByteArray} {k : Nat} (h : ¬ k < s.size) : leT s k = 0 := by
  unfold leT
  rw [show s.size - k = 0 from by omega]
  rfl
theorem leT_step {s : ByteArray} {k : Nat} (h : k < s.size) : leT s k = 256 * leT s (k + 1) + bAt s k := by
  unfold leT
  rw [show s.size - k = (s.size - (k + 1)) + 1 from by omega, leF, if_pos h]
theorem leT_range (s : ByteArray) : ∀ d k, s.size - k = d → 0 ≤ leT s k ∧ leT s k < 256 ^ d
  | 0, k, h => by rw [leT_end (by omega)]; decide
  | d + 1, k, h => by
    have hk : k < s.size := by omega
    have := leT_range s d (k + 1) (by omega)
    have hb := bAt_range s k
    rw [leT_step hk, Int.pow_succ]
    omega

set_option maxHeartbeats 1000000 in
theorem d_little (w : World) (s : ByteArray) (hs : s.size ≤ 8) :
    Calls Tryz.prog 224 #[.string s] w fun e w' => e = .returned (.int .u64 (leP s)) ∧ w' = w := by
  go_enter Tryz.func224, Tryz.ntmps224
  go_wp2
  go_loop [3, 4] (fun x i => ∃ (k : Nat), k ≤ s.size ∧ x = .int .u64 (leT s k) ∧ i = .int .i64 ((k : Int) - 1)) (fun _ i => (intOf i + 1).toNat)
  case atStart => exact ⟨s.size, by omega, by rw [leT_end (by omega)], by go_num⟩
  case round =>
    obtain ⟨k, hk, rfl, rfl⟩ := hrel
    by_cases h0 : k = 0
    · subst h0
      go_wp2
      go_ret
      exact ⟨rfl, rfl⟩
    · obtain ⟨j, rfl⟩ : ∃ j, k = j + 1 := ⟨k - 1, by omega⟩
      have hj0 : (0 : Int) ≤ ((j + 1 : Nat) : Int) - 1 := by omega
      have e1 : ((j + 1 : Nat) : Int) - 1 = (j : Int) := by omega
      rw [e1] at *
      have hbk := bAt_eq (t := s) (k := j) (by omega)
      have hr := bAt_range s j
      have hl := leT_range s _ (j + 1) rfl
      have hstep := leT_step (s := s) (k := j) (by omega)
      have hlt : leT s (j + 1) < 256 ^ 7 := Int.lt_of_lt_of_le hl.2 (by
        have := Nat.pow_le_pow_right (n := 256) (i := s.size - (j + 1)) (j := 7) (by decide) (by omega)
        exact Int.ofNat_le.2 this)
      have h256 : (256 : Int) ^ 7 = 72057594037927936 := by decide
      rw [h256] at hlt
      have hl0 := hl.1
      clear hl h256
      have HS : Hid (leT s j = 256 * leT s (j + 1) + bAt s j) := hstep
      clear hstep
      generalize leT s (j + 1) = L at *
      obtain ⟨c, hc⟩ : ∃ c, bAt s j = c := ⟨_, rfl⟩
      rw [hc] at hbk hr HS
      clear hc
      obtain ⟨hc0, hc1⟩ := hr
      have hw1 := wrap_u64 hc0 (by omega)
      have hw2 := wrap_u64 (c := 256 * L) (by omega) (by omega)
      have hw3 := wrap_u64 (c := 256 * L + c) (by omega) (by omega)
      go_wp2
      go_round
      case rel => exact ⟨j, by omega, by rw [HS.out], by go_num⟩
      case measure => simp [intOf]

theorem leP_range {s : ByteArray} (h : s.size ≤ 8) : 0 ≤ leP s ∧ leP s < 18446744073709551616 := by
  have h1 := leT_range s _ 0 rfl
  have e : leT s 0 = leP s := rfl
  rw [e] at h1
  refine ⟨h1.1, Int.lt_of_lt_of_le h1.2 ?_⟩
  have := Nat.pow_le_pow_right (n := 256) (i := s.size - 0) (j := 8) (by decide) (by omega)
  have h2 := Int.ofNat_le.2 this
  have e8 : ((256 ^ 8 : Nat) : Int) = 18446744073709551616 := by decide
  rw [e8] at h2
  exact h2

theorem retu {a b : Int} (h : a = b) : Ending.returned (.int .u64 a) = .returned (.int .u64 b) := by rw [h]
theorem d_signed (w : World) (n : Int) :
    Calls Tryz.prog 276 #[.int .u64 n] w fun e w' => e = .returned (.int .u64 (sg32 n)) ∧ w' = w := by
  go_enter Tryz.func276, Tryz.ntmps276
  go_wp2
  go_ret
  refine ⟨?_, rfl⟩
  congr 2
  simp [IntKind.wrap, IntKind.signed, IntKind.bits, sg32, wrap64, wrap32]
  split <;> omega

theorem xor_ones (m : Nat) (h : m < 18446744073709551616) : 18446744073709551615 ^^^ m = 18446744073709551615 - m := by
  have h1 : (BitVec.allOnes 64 ^^^ BitVec.ofNat 64 m).toNat = (~~~ (BitVec.ofNat 64 m)).toNat := by rw [BitVec.allOnes_xor]
  rw [BitVec.toNat_not, BitVec.toNat_xor, BitVec.toNat_allOnes, BitVec.toNat_ofNat, Nat.mod_eq_of_lt h] at h1
  exact h1

theorem d_zigzag (w : World) (n : Int) (h0 : 0 ≤ n) (h1 : n < 18446744073709551616) :
    Calls Tryz.prog 277 #[.int .u64 n] w fun e w' => e = .returned (.int .u64 (zzI n)) ∧ w' = w := by
  have ht : n.tmod 2 = n % 2 := Int.tmod_eq_emod_of_nonneg h0
  have hd : n.tdiv 2 = n / 2 := Int.tdiv_eq_ediv_of_nonneg h0
  have hx : bits .xor .u64 IntKind.u64.max (n / 2) = 18446744073709551615 - n / 2 := by
    obtain ⟨m, hm⟩ : ∃ m : Nat, n / 2 = (m : Int) := ⟨(n / 2).toNat, by omega⟩
    rw [hm]
    have h2 : m < 18446744073709551616 := by omega
    have e : IntKind.u64.max = ((18446744073709551615 : Nat) : Int) := by decide
    rw [e, bits_xor_u64_nat _ _ (by decide) h2, xor_ones m h2]
    omega
  by_cases hodd : n % 2 = 1
  · go_enter Tryz.func277, Tryz.ntmps277
    go_wp2
    go_ret
    exact ⟨retu (by rw [zzI, if_pos hodd]), rfl⟩
  · go_enter Tryz.func277, Tryz.ntmps277
    go_wp2
    go_ret
    exact ⟨retu (by rw [zzI, if_neg hodd]), rfl⟩

end Go.Proofs.YtbbbegjedmicpaaGreatDoor

/-
  THE REFERENCE, CONTRACT: next.
-/
namespace Go.Proofs.YtbbbegjedmicpaaGreatDoor
open Go.RowKit

/-- Is a word of a sort? -/
def sortOK (so : Int) (s x : ByteArray) : Bool :=
  if so = 0 then x.toList == s.toList && !(s.toList == []) else if so = 1 then kindW x == 1 else if so = 2 then kindW x == 2 else kindW x == 3 || kindW x == 1
def nextW (so : Int) (s : ByteArray) (x : W) : W := if sortOK so s x.1 then x else (⟨#[]⟩, x.2)
def nextI (so : Int) (s : ByteArray) (x : W) (i : Nat) : Nat := if sortOK so s x.1 then i + 1 else i
def nextB (so : Int) (s : ByteArray) (x : W) (bad : Int) : Int := if sortOK so s x.1 then bad else if bad < 0 then x.2 else bad
def wv2 (x : W) : Value := .agg #[.string x.1, .int .i64 x.2]

theorem Blk.new1 (w : World) (o : Obj) (cs : Array Value) (T : TypeId) : Blk ((w.alloc o).alloc (.cells cs T)) (w.heap.size + 1) cs T := by
  have h := Blk.new (w.alloc o) cs T
  have e : (w.alloc o).heap.size = w.heap.size + 1 := by simp
  rw [e] at h
  exact h
theorem Kept.sets {bs : List Nat} {a : World} {c : Nat} (hp : c ∈ bs ∨ a.heap.size ≤ c) : ∀ (vs : List Value) (o : Nat) {b : World}, Kept bs a b → Kept bs a (b.setCells c o vs)
  | [], _, _, h => h
  | v :: vs, o, b, h => by
    have h1 : Kept bs a (b.setCell ⟨c, o, none⟩ v) := by
      refine ⟨h.os, h.tape, h.output, by simpa [World.setCell] using h.size, fun k hk hk2 => ?_⟩
      rw [Below.heap_setCell _ _ _ _ (fun e => ?_)]
      · exact h.block k hk hk2
      · rcases hp with hp | hp
        · exact hk2 (e ▸ hp)
        · simp at e; omega
    have := Kept.sets hp vs (o + 1) h1
    simpa [World.setCells] using this

set_option maxHeartbeats 268435456 in
set_option maxRecDepth 100000 in
theorem c32 (w : World) (rb lo : Nat) (wv c3 c4 c5 c6 c7 : Value) (i : Nat) (bad : Int) (ws : List W) (x : W) (so : Int) (hso : so = 0 ∨ so = 1 ∨ so = 2 ∨ so = 3) (s : ByteArray) (hlen : ws.length ≤ 2001)
    (K : Blk w rb #[wv, .int .i64 i, .int .i64 bad, c3, c4, c5, c6, c7] 79) (hrow : w.ownsRow lo 81 2 wv ws.length (ws.flatMap wcR)) (hx : ws[i]? = some x) :
    Calls Tryz.prog 45 #[.pointer (some ⟨rb, 0, none⟩), .int .i64 so, .string s] w fun e w' => e = .returned (wv2 (nextW so s x)) ∧
      Blk w' rb #[wv, .int .i64 (nextI so s x i), .int .i64 (nextB so s x bad), c3, c4, c5, c6, c7] 79 ∧ Kept [rb] w w' := by
  obtain ⟨va, vn, vc, rfl⟩ := ownsRow_form hrow
  obtain ⟨rfl, hlt, g, rfl, hgl, hcell⟩ := row_word hrow hx
  have hcw : (w.alloc (Obj.cells #[.string ⟨#[]⟩, .int .i64 0] 81)).heap[g]? = w.heap[g]? := Below.heap_alloc _ _ _ hgl
  obtain ⟨q1, q2⟩ := hcell _ hcw
  have hi1 : (i : Int) < (ws.length : Int) := by omega
  have K0 := Blk.new w #[.string ⟨#[]⟩, .int .i64 0] 81
  have K1 := K.alloc (Obj.cells #[.string ⟨#[]⟩, .int .i64 0] 81)
  have hz := K.lt
  obtain ⟨k1, k2⟩ := K1.rules
  have B0 : Kept [rb] w (w.alloc (Obj.cells #[.string ⟨#[]⟩, .int .i64 0] 81)) := (Kept.refl _ _).alloc _
  go_enter Tryz.func45, Tryz.ntmps45
  go_wp2_with fail
  go_region
  clear q1 q2 hcell hcw k1 k2 hi1
  have J0 : Blk ((w.alloc (Obj.cells #[.string ⟨#[]⟩, .int .i64 0] 81)).alloc (Obj.cells #[.string x.1, .int .i64 x.2] 81)).drew w.heap.size #[.string ⟨#[]⟩, .int .i64 0] 81 := (K0.alloc _).drew
  have JW : Blk ((w.alloc (Obj.cells #[.string ⟨#[]⟩, .int .i64 0] 81)).alloc (Obj.cells #[.string x.1, .int .i64 x.2] 81)).drew (w.heap.size + 1) #[.string x.1, .int .i64 x.2] 81 := (Blk.new1 w _ _ _).drew
  have J1 : Blk ((w.alloc (Obj.cells #[.string ⟨#[]⟩, .int .i64 0] 81)).alloc (Obj.cells #[.string x.1, .int .i64 x.2] 81)).drew rb _ 79 := (K1.alloc _).drew
  have C0 : Kept [rb] w ((w.alloc (Obj.cells #[.string ⟨#[]⟩, .int .i64 0] 81)).alloc (Obj.cells #[.string x.1, .int .i64 x.2] 81)).drew := (B0.alloc _).drew
  clear K0 K1 B0 K
  go_wp2_with fail
  refine (c51 _ x.1).mono ?_
  rintro e w3 ⟨rfl, hb3⟩
  replace J0 := J0.below hb3 J0.lt
  replace JW := JW.below hb3 JW.lt
  replace J1 := J1.below hb3 J1.lt
  replace C0 := C0.below hb3
  clear hb3
  obtain ⟨m1, m2⟩ := JW.rules
  go_wp2_with fail
  refine (c52 _ x.1).mono ?_
  rintro e _ ⟨rfl, rfl⟩
  go_wp2_with fail
  clear m1 m2
  refine (c53 _ x.1).mono ?_
  rintro e w5 ⟨rfl, hb3⟩
  replace J0 := J0.below hb3 J0.lt
  replace JW := JW.below hb3 JW.lt
  replace J1 := J1.below hb3 J1.lt
  replace C0 := C0.below hb3
  clear hb3
  obtain ⟨m1, m2⟩ := JW.rules
  obtain ⟨n1, n2⟩ := J1.rules
  obtain ⟨o1, o2⟩ := J0.rules
  have ne1 : rb ≠ w.heap.size := by omega
  have ne2 : rb ≠ w.heap.size + 1 := by omega
  cases hS : sortOK so s x.1
  · have HW : Hid (nextW so s x = (⟨#[]⟩, x.2)) := by unfold nextW; rw [hS]; rfl
    have HI : Hid (nextI so s x i = i) := by unfold nextI; rw [hS]; rfl
    have HB : Hid (nextB so s x bad = if bad < 0 then (x.2 : Int) else bad) := by unfold nextB; rw [hS]; rfl
    have HS : Hid (sortOK so s x.1 = false) := hS
    clear hS
    rcases hso with rfl | rfl | rfl | rfl
    · cases h1 : (x.1.toList == s.toList)
      · cases hb : decide (bad < 0)
        · have hb1 : ¬ bad < 0 := of_decide_eq_false hb
          go_wp2
          refine bodyPost_ret (ret_cell Tryz.results45 _ _ rfl (J0.sets_all [_, _] rfl) Tryz.underlying81 (by kernel_rfl)) rfl ⟨?_, ?_, ?_⟩
          · rw [HW.out]; rfl
          · rw [HI.out, HB.out, if_neg (by omega)]; exact J1.sets_other ne1.symm [_, _] 0
          · exact C0.sets (.inr (Nat.le_refl _)) [_, _] 0
        · have hb1 : bad < 0 := of_decide_eq_true hb
          go_wp2
          refine bodyPost_ret (ret_cell Tryz.results45 _ _ rfl ((J0.other 2 _ ne1).sets_all [_, _] rfl) Tryz.underlying81 (by kernel_rfl)) rfl ⟨?_, ?_, ?_⟩
          · rw [HW.out]; rfl
          · rw [HI.out, HB.out, if_pos hb1]; exact (J1.set 2 _).sets_other ne1.symm [_, _] 0
          · exact (C0.set (List.mem_singleton.2 rfl) _ _).sets (.inr (Nat.le_refl _)) [_, _] 0
      · have h2 : (s.toList == []) = true := by have := HS.out; rw [sortOK, if_pos rfl, h1] at this; simpa using this
        cases hb : decide (bad < 0)
        · have hb1 : ¬ bad < 0 := of_decide_eq_false hb
          go_wp2
          refine bodyPost_ret (ret_cell Tryz.results45 _ _ rfl (J0.sets_all [_, _] rfl) Tryz.underlying81 (by kernel_rfl)) rfl ⟨?_, ?_, ?_⟩
          · rw [HW.out]; rfl
          · rw [HI.out, HB.out, if_neg (by omega)]; exact J1.sets_other ne1.symm [_, _] 0
          · exact C0.sets (.inr (Nat.le_refl _)) [_, _] 0
        · have hb1 : bad < 0 := of_decide_eq_true hb
          go_wp2
          refine bodyPost_ret (ret_cell Tryz.results45 _ _ rfl ((J0.other 2 _ ne1).sets_all [_, _] rfl) Tryz.underlying81 (by kernel_rfl)) rfl ⟨?_, ?_, ?_⟩
          · rw [HW.out]; rfl
          · rw [HI.out, HB.out, if_pos hb1]; exact (J1.set 2 _).sets_other ne1.symm [_, _] 0
          · exact (C0.set (List.mem_singleton.2 rfl) _ _).sets (.inr (Nat.le_refl _)) [_, _] 0
    · have h1 : (kindW x.1 == 1) = false := by have := HS.out; simpa [sortOK] using this
      cases hb : decide (bad < 0)
      · have hb1 : ¬ bad < 0 := of_decide_eq_false hb
        go_wp2
        refine bodyPost_ret (ret_cell Tryz.results45 _ _ rfl (J0.sets_all [_, _] rfl) Tryz.underlying81 (by kernel_rfl)) rfl ⟨?_, ?_, ?_⟩
        · rw [HW.out]; rfl
        · rw [HI.out, HB.out, if_neg (by omega)]; exact J1.sets_other ne1.symm [_, _] 0
        · exact C0.sets (.inr (Nat.le_refl _)) [_, _] 0
      · have hb1 : bad < 0 := of_decide_eq_true hb
        go_wp2
        refine bodyPost_ret (ret_cell Tryz.results45 _ _ rfl ((J0.other 2 _ ne1).sets_all [_, _] rfl) Tryz.underlying81 (by kernel_rfl)) rfl ⟨?_, ?_, ?_⟩
        · rw [HW.out]; rfl
        · rw [HI.out, HB.out, if_pos hb1]; exact (J1.set 2 _).sets_other ne1.symm [_, _] 0
        · exact (C0.set (List.mem_singleton.2 rfl) _ _).sets (.inr (Nat.le_refl _)) [_, _] 0
    · have h1 : (kindW x.1 == 2) = false := by have := HS.out; simpa [sortOK] using this
      cases hb : decide (bad < 0)
      · have hb1 : ¬ bad < 0 := of_decide_eq_false hb
        go_wp2
        refine bodyPost_ret (ret_cell Tryz.results45 _ _ rfl (J0.sets_all [_, _] rfl) Tryz.underlying81 (by kernel_rfl)) rfl ⟨?_, ?_, ?_⟩
        · rw [HW.out]; rfl
        · rw [HI.out, HB.out, if_neg (by omega)]; exact J1.sets_other ne1.symm [_, _] 0
        · exact C0.sets (.inr (Nat.le_refl _)) [_, _] 0
      · have hb1 : bad < 0 := of_decide_eq_true hb
        go_wp2
        refine bodyPost_ret (ret_cell Tryz.results45 _ _ rfl ((J0.other 2 _ ne1).sets_all [_, _] rfl) Tryz.underlying81 (by kernel_rfl)) rfl ⟨?_, ?_, ?_⟩
        · rw [HW.out]; rfl
        · rw [HI.out, HB.out, if_pos hb1]; exact (J1.set 2 _).sets_other ne1.symm [_, _] 0
        · exact (C0.set (List.mem_singleton.2 rfl) _ _).sets (.inr (Nat.le_refl _)) [_, _] 0
    · have h1 : (kindW x.1 == 3 || kindW x.1 == 1) = false := by have := HS.out; simpa [sortOK] using this
      cases hb : decide (bad < 0)
      · have hb1 : ¬ bad < 0 := of_decide_eq_false hb
        go_wp2
        refine bodyPost_ret (ret_cell Tryz.results45 _ _ rfl (J0.sets_all [_, _] rfl) Tryz.underlying81 (by kernel_rfl)) rfl ⟨?_, ?_, ?_⟩
        · rw [HW.out]; rfl
        · rw [HI.out, HB.out, if_neg (by omega)]; exact J1.sets_other ne1.symm [_, _] 0
        · exact C0.sets (.inr (Nat.le_refl _)) [_, _] 0
      · have hb1 : bad < 0 := of_decide_eq_true hb
        go_wp2
        refine bodyPost_ret (ret_cell Tryz.results45 _ _ rfl ((J0.other 2 _ ne1).sets_all [_, _] rfl) Tryz.underlying81 (by kernel_rfl)) rfl ⟨?_, ?_, ?_⟩
        · rw [HW.out]; rfl
        · rw [HI.out, HB.out, if_pos hb1]; exact (J1.set 2 _).sets_other ne1.symm [_, _] 0
        · exact (C0.set (List.mem_singleton.2 rfl) _ _).sets (.inr (Nat.le_refl _)) [_, _] 0
  · have HW : Hid (nextW so s x = x) := by unfold nextW; rw [hS]; rfl
    have HI : Hid (nextI so s x i = i + 1) := by unfold nextI; rw [hS]; rfl
    have HB : Hid (nextB so s x bad = bad) := by unfold nextB; rw [hS]; rfl
    have HS : Hid (sortOK so s x.1 = true) := hS
    clear hS
    rcases hso with rfl | rfl | rfl | rfl
    · have h1 : (x.1.toList == s.toList) = true ∧ (s.toList == []) = false := by have := HS.out; simpa [sortOK] using this
      obtain ⟨h1, h2⟩ := h1
      go_wp2
      refine bodyPost_ret (ret_cell Tryz.results45 _ _ rfl ((J0.other 1 _ ne1).sets_all [_, _] rfl) Tryz.underlying81 (by kernel_rfl)) rfl ⟨?_, ?_, ?_⟩
      · rw [HW.out]; rfl
      · rw [HI.out, HB.out]; exact (J1.set 1 _).sets_other ne1.symm [_, _] 0
      · exact (C0.set (List.mem_singleton.2 rfl) _ _).sets (.inr (Nat.le_refl _)) [_, _] 0
    · have h1 : (kindW x.1 == 1) = true := by have := HS.out; simpa [sortOK] using this
      go_wp2
      refine bodyPost_ret (ret_cell Tryz.results45 _ _ rfl ((J0.other 1 _ ne1).sets_all [_, _] rfl) Tryz.underlying81 (by kernel_rfl)) rfl ⟨?_, ?_, ?_⟩
      · rw [HW.out]; rfl
      · rw [HI.out, HB.out]; exact (J1.set 1 _).sets_other ne1.symm [_, _] 0
      · exact (C0.set (List.mem_singleton.2 rfl) _ _).sets (.inr (Nat.le_refl _)) [_, _] 0
    · have h1 : (kindW x.1 == 2) = true := by have := HS.out; simpa [sortOK] using this
      go_wp2
      refine bodyPost_ret (ret_cell Tryz.results45 _ _ rfl ((J0.other 1 _ ne1).sets_all [_, _] rfl) Tryz.underlying81 (by kernel_rfl)) rfl ⟨?_, ?_, ?_⟩
      · rw [HW.out]; rfl
      · rw [HI.out, HB.out]; exact (J1.set 1 _).sets_other ne1.symm [_, _] 0
      · exact (C0.set (List.mem_singleton.2 rfl) _ _).sets (.inr (Nat.le_refl _)) [_, _] 0
    · have h1 : (kindW x.1 == 3 || kindW x.1 == 1) = true := by have := HS.out; simpa [sortOK] using this
      go_wp2
      refine bodyPost_ret (ret_cell Tryz.results45 _ _ rfl ((J0.other 1 _ ne1).sets_all [_, _] rfl) Tryz.underlying81 (by kernel_rfl)) rfl ⟨?_, ?_, ?_⟩
      · rw [HW.out]; rfl
      · rw [HI.out, HB.out]; exact (J1.set 1 _).sets_other ne1.symm [_, _] 0
      · exact (C0.set (List.mem_singleton.2 rfl) _ _).sets (.inr (Nat.le_refl _)) [_, _] 0

end Go.Proofs.YtbbbegjedmicpaaGreatDoor

/-
  MESSAGES IN MEMORY: rows of fields, of values, in blocks from a number on.
-/
namespace Go.Proofs.YtbbbegjedmicpaaGreatDoor
open Go.RowKit

theorem RowIn.nil (w : World) (Z : Nat → Prop) (T : TypeId) (k : Nat) : RowIn w Z T k (.slice none 0 0) 0 [] := ⟨World.ownsRow_nil _ _ _ _, fun b hb => by cases hb⟩
/-- Blocks that were there stay, and stay on. -/
def vCells (v : PV) (mv : Value) : List Value := [.int .u64 v.1, .string v.2.1, mv, .string v.2.2.unk]
/-- The cells of values: what a message's list is, P tells. -/
def VsIn (P : Value → PM → Prop) : List Value → List PV → Prop
  | cs, [] => cs = []
  | cs, v :: vs => ∃ mv rest, cs = .int .u64 v.1 :: .string v.2.1 :: mv :: .string v.2.2.unk :: rest ∧ P mv v.2.2 ∧ VsIn P rest vs
/-- A list of values. -/
def ValsIn (P : Value → PM → Prop) (w : World) (Z : Nat → Prop) (vv : Value) (l : List PV) : Prop :=
  ∃ vcs, RowIn w Z 55 4 vv l.length vcs ∧ VsIn P vcs l
def FsIn (P : Value → PM → Prop) (w : World) (Z : Nat → Prop) : List Value → List PF → Prop
  | cs, [] => cs = []
  | cs, f :: fs => ∃ vv rest, cs = .int .i64 f.1 :: vv :: rest ∧ ValsIn P w Z vv f.2 ∧ FsIn P w Z rest fs
/-- A message's list of fields, so many levels deep at most. -/
def MIn : Nat → World → (Nat → Prop) → Value → PM → Prop
  | 0, _, _, _, _ => False
  | k + 1, w, Z, v, m => ∃ cs, RowIn w Z 58 2 v m.fs.length cs ∧ FsIn (MIn k w Z) w Z cs m.fs

theorem VsIn.imp {P Q : Value → PM → Prop} (h : ∀ v m, P v m → Q v m) : ∀ {l : List PV} {cs : List Value}, VsIn P cs l → VsIn Q cs l
  | [], _, h1 => h1
  | _ :: _, _, ⟨mv, rest, h1, h2, h3⟩ => ⟨mv, rest, h1, h _ _ h2, VsIn.imp h h3⟩
theorem ValsIn.keep {P Q : Value → PM → Prop} {w w' : World} {Z : Nat → Prop} (hP : ∀ v m, P v m → Q v m) (hk : ∀ b, Z b → b < w.heap.size → w'.heap[b]? = w.heap[b]?) {vv : Value} {l : List PV} (h : ValsIn P w Z vv l) : ValsIn Q w' Z vv l := by
  obtain ⟨vcs, h1, h2⟩ := h
  exact ⟨vcs, h1.keep hk, h2.imp hP⟩
theorem FsIn.keep {P Q : Value → PM → Prop} {w w' : World} {Z : Nat → Prop} (hP : ∀ v m, P v m → Q v m) (hk : ∀ b, Z b → b < w.heap.size → w'.heap[b]? = w.heap[b]?) : ∀ {fs : List PF} {cs : List Value}, FsIn P w Z cs fs → FsIn Q w' Z cs fs
  | [], _, h1 => h1
  | _ :: _, _, ⟨vv, rest, h1, h2, h3⟩ => ⟨vv, rest, h1, h2.keep hP hk, FsIn.keep hP hk h3⟩
theorem MIn.keep {w w' : World} {Z : Nat → Prop} (hk : ∀ b, Z b → b < w.heap.size → w'.heap[b]? = w.heap[b]?) : ∀ {k : Nat} {v : Value} {m : PM}, MIn k w Z v m → MIn k w' Z v m
  | 0, _, _, h => h
  | _ + 1, _, _, ⟨cs, h1, h2⟩ => ⟨cs, h1.keep hk, h2.keep (fun _ _ h => MIn.keep hk h) hk⟩
theorem MIn.below {w w' : World} {Z : Nat → Prop} {n : Nat} (hb : Below n w w') (hn : w.heap.size ≤ n) {k : Nat} {v : Value} {m : PM} (h : MIn k w Z v m) : MIn k w' Z v m :=
  h.keep (fun b _ hl => hb.block b (Nat.lt_of_lt_of_le hl hn))
theorem ValsIn.below {w w' : World} {Z : Nat → Prop} {n : Nat} (hb : Below n w w') (hn : w.heap.size ≤ n) {k : Nat} {v : Value} {l : List PV} (h : ValsIn (MIn k w Z) w Z v l) : ValsIn (MIn k w' Z) w' Z v l :=
  h.keep (fun _ _ h => h.below hb hn) (fun b _ hl => hb.block b (Nat.lt_of_lt_of_le hl hn))
theorem FsIn.below {w w' : World} {Z : Nat → Prop} {n : Nat} (hb : Below n w w') (hn : w.heap.size ≤ n) {k : Nat} {cs : List Value} {l : List PF} (h : FsIn (MIn k w Z) w Z cs l) : FsIn (MIn k w' Z) w' Z cs l :=
  h.keep (fun _ _ h => h.below hb hn) (fun b _ hl => hb.block b (Nat.lt_of_lt_of_le hl hn))
theorem ValsIn.mono {P Q : Value → PM → Prop} {w : World} {Z Y : Nat → Prop} (hP : ∀ v m, P v m → Q v m) (hz : ∀ b, Z b → b < w.heap.size → Y b) {vv : Value} {l : List PV} (h : ValsIn P w Z vv l) : ValsIn Q w Y vv l := by
  obtain ⟨vcs, h1, h2⟩ := h
  exact ⟨vcs, h1.mono hz, h2.imp hP⟩
theorem FsIn.mono {P Q : Value → PM → Prop} {w : World} {Z Y : Nat → Prop} (hP : ∀ v m, P v m → Q v m) (hz : ∀ b, Z b → b < w.heap.size → Y b) : ∀ {fs : List PF} {cs : List Value}, FsIn P w Z cs fs → FsIn Q w Y cs fs
  | [], _, h1 => h1
  | _ :: _, _, ⟨vv, rest, h1, h2, h3⟩ => ⟨vv, rest, h1, h2.mono hP hz, FsIn.mono hP hz h3⟩
theorem MIn.mono {w : World} {Z Y : Nat → Prop} (hz : ∀ b, Z b → b < w.heap.size → Y b) : ∀ {k : Nat} {v : Value} {m : PM}, MIn k w Z v m → MIn k w Y v m
  | 0, _, _, h => h
  | _ + 1, _, _, ⟨cs, h1, h2⟩ => ⟨cs, h1.mono hz, h2.mono (fun _ _ h => MIn.mono hz h) hz⟩
theorem VsIn.len {P : Value → PM → Prop} : ∀ {l : List PV} {cs : List Value}, VsIn P cs l → cs.length = l.length * 4
  | [], _, h => by rw [show _ = [] from h]; rfl
  | _ :: l, _, ⟨mv, rest, h1, _, h3⟩ => by rw [h1]; simp [h3.len]; omega
theorem FsIn.len {P : Value → PM → Prop} {w : World} {Z : Nat → Prop} : ∀ {l : List PF} {cs : List Value}, FsIn P w Z cs l → cs.length = l.length * 2
  | [], _, h => by rw [show _ = [] from h]; rfl
  | _ :: l, _, ⟨vv, rest, h1, _, h3⟩ => by rw [h1]; simp [h3.len]; omega
theorem VsIn.append {P : Value → PM → Prop} : ∀ {l r : List PV} {cs ds : List Value}, VsIn P cs l → VsIn P ds r → VsIn P (cs ++ ds) (l ++ r)
  | [], _, _, _, h1, h2 => by rw [show _ = [] from h1]; exact h2
  | _ :: l, r, _, ds, ⟨mv, rest, h1, h3, h4⟩, h2 => by rw [h1]; exact ⟨mv, rest ++ ds, rfl, h3, h4.append h2⟩
theorem FsIn.append {P : Value → PM → Prop} {w : World} {Z : Nat → Prop} : ∀ {l r : List PF} {cs ds : List Value}, FsIn P w Z cs l → FsIn P w Z ds r → FsIn P w Z (cs ++ ds) (l ++ r)
  | [], _, _, _, h1, h2 => by rw [show _ = [] from h1]; exact h2
  | _ :: l, r, _, ds, ⟨mv, rest, h1, h3, h4⟩, h2 => by rw [h1]; exact ⟨mv, rest ++ ds, rfl, h3, h4.append h2⟩
theorem VsIn.get {P : Value → PM → Prop} : ∀ {l : List PV} {cs : List Value}, VsIn P cs l → ∀ {i : Nat} {v : PV}, l[i]? = some v →
    ∃ mv, P mv v.2.2 ∧ cs[i * 4]? = some (.int .u64 v.1) ∧ cs[i * 4 + 1]? = some (.string v.2.1) ∧ cs[i * 4 + 2]? = some mv ∧ cs[i * 4 + 3]? = some (.string v.2.2.unk)
  | [], _, _, i, v, h => by simp at h
  | x :: l, _, ⟨mv, rest, h1, h2, h3⟩, 0, v, h => by
    simp at h
    subst h
    subst h1
    exact ⟨mv, h2, rfl, rfl, rfl, rfl⟩
  | x :: l, _, ⟨mv, rest, h1, h2, h3⟩, i + 1, v, h => by
    obtain ⟨mv', q1, q2, q3, q4, q5⟩ := h3.get (i := i) (v := v) (by simpa using h)
    subst h1
    have e : ∀ j, (i + 1) * 4 + j = (i * 4 + j) + 4 := fun j => by omega
    refine ⟨mv', q1, ?_, ?_, ?_, ?_⟩
    · rw [show (i + 1) * 4 = i * 4 + 4 from by omega]; exact q2
    · rw [e]; exact q3
    · rw [e]; exact q4
    · rw [e]; exact q5
theorem FsIn.get {P : Value → PM → Prop} {w : World} {Z : Nat → Prop} : ∀ {l : List PF} {cs : List Value}, FsIn P w Z cs l → ∀ {i : Nat} {f : PF}, l[i]? = some f →
    ∃ vv, ValsIn P w Z vv f.2 ∧ cs[i * 2]? = some (.int .i64 f.1) ∧ cs[i * 2 + 1]? = some vv
  | [], _, _, i, v, h => by simp at h
  | x :: l, _, ⟨vv, rest, h1, h2, h3⟩, 0, v, h => by
    simp at h
    subst h
    subst h1
    exact ⟨vv, h2, rfl, rfl⟩
  | x :: l, _, ⟨vv, rest, h1, h2, h3⟩, i + 1, v, h => by
    obtain ⟨vv', q1, q2, q3⟩ := h3.get (i := i) (f := v) (by simpa using h)
    subst h1
    refine ⟨vv', q1, ?_, ?_⟩
    · rw [show (i + 1) * 2 = i * 2 + 2 from by omega]; exact q2
    · rw [show (i + 1) * 2 + 1 = (i * 2 + 1) + 2 from by omega]; exact q3
theorem ValsIn.nil (P : Value → PM → Prop) (w : World) (Z : Nat → Prop) : ValsIn P w Z (.slice none 0 0) [] := ⟨[], RowIn.nil _ _ _ _, rfl⟩
theorem MIn.none (k : Nat) (w : World) (Z : Nat → Prop) : MIn (k + 1) w Z (.slice .none 0 0) PM.none := ⟨[], RowIn.nil _ _ _ _, rfl⟩
theorem ValsIn.form {P : Value → PM → Prop} {w : World} {Z : Nat → Prop} {vv : Value} {l : List PV} (h : ValsIn P w Z vv l) : ∃ a c, vv = .slice a l.length c := by
  obtain ⟨vcs, h1, _⟩ := h
  obtain ⟨a, n, c, rfl⟩ := ownsRow_form h1.1
  rw [ownsRow_len h1.1]
  exact ⟨a, c, rfl⟩
theorem MIn.form {k : Nat} {w : World} {Z : Nat → Prop} {v : Value} {m : PM} (h : MIn k w Z v m) : ∃ a c, v = .slice a m.fs.length c := by
  cases k with
  | zero => exact h.elim
  | succ k =>
    obtain ⟨cs, h1, _⟩ := h
    obtain ⟨a, n, c, rfl⟩ := ownsRow_form h1.1
    rw [ownsRow_len h1.1]
    exact ⟨a, c, rfl⟩

end Go.Proofs.YtbbbegjedmicpaaGreatDoor
