import Derived.Test.YtbbbegjedmicpaaGreatDoorRdL
import Derived.Maps.OwnSet
import Derived.Maps.OwnOps

/-
  SETS: the maps that the program keeps what stood ahead in. CONTRACTS: add, has (texts, numbers), refuse.
-/
namespace Go.Proofs.YtbbbegjedmicpaaGreatDoor
open Go.RowKit Go.Maps Go.ChangeMaps Go.WideMaps Go.WideElems
attribute [local go_sem] f91_0 f91_1 f91_2

theorem lawS : Keyed Tryz.prog 9 := string_keyed Tryz.underlying9
theorem lawN : Keyed Tryz.prog 53 := int_keyed Tryz.underlying53
theorem zero140 (w : World) : (zeroValue 128).run Tryz.prog w = .ok (.agg #[]) w := by kernel_rfl

def litS (s : ByteArray) : Lit := .string s.data.toList
def litN (n : Nat) : Lit := .int .u64 n
/-- A set of texts, of numbers, in block b. -/
def StrSet (w : World) (b : Nat) (l : List ByteArray) : Prop := w.ownsMap Tryz.prog 9 (unitElem (H := Unit)) b l.length (setOf (.agg []) (l.map litS))
def NumSet (w : World) (b : Nat) (l : List Nat) : Prop := w.ownsMap Tryz.prog 53 (unitElem (H := Unit)) b l.length (setOf (.agg []) (l.map litN))

def memS (l : List ByteArray) (s : ByteArray) : Bool := l.any fun x => x.toList == s.toList
def memN (l : List Nat) (n : Nat) : Bool := l.any fun x => x == n

theorem keyS (s : ByteArray) (h : s.size ≤ maxLen) : keyOf Tryz.prog 9 (.string s) = some (litS s) := keyOf_string_mk Tryz.underlying9 h
theorem keyN (n : Nat) (h : n < 18446744073709551616) : keyOf Tryz.prog 53 (.int .u64 n) = some (litN n) := keyOf_int_mk Tryz.underlying53 (WalkArith.wf_u64 (by omega))
theorem has_S (l : List ByteArray) (s : ByteArray) : Maps.has (setOf (H := Unit) (.agg []) (l.map litS)) (litS s) = memS l s := by
  rw [has_setOf _ _ _ (by intro x hx; obtain ⟨y, _, rfl⟩ := List.mem_map.1 hx; exact trivial)]
  unfold memS
  rw [List.any_map]
  congr 1
  funext x
  show (x.data.toList == s.data.toList) = _
  rw [ByteArray.toList_eq, ByteArray.toList_eq]
theorem has_N (l : List Nat) (n : Nat) : Maps.has (setOf (H := Unit) (.agg []) (l.map litN)) (litN n) = memN l n := by
  rw [has_setOf _ _ _ (by intro x hx; obtain ⟨y, _, rfl⟩ := List.mem_map.1 hx; exact trivial)]
  unfold memN
  rw [List.any_map]
  congr 1
  funext x
  show decide (IntKind.u64 = IntKind.u64 ∧ (x : Int) = (n : Int)) = _
  rw [Bool.eq_iff_iff]
  simp
  omega

/-- Of what was there the blocks in bs alone may have turned. -/
structure Kept (bs : List Nat) (w w' : World) : Prop where
  os : w'.os = w.os
  tape : w'.tape = w.tape
  output : w'.output = w.output
  size : w.heap.size ≤ w'.heap.size
  block : ∀ k, k < w.heap.size → k ∉ bs → w'.heap[k]? = w.heap[k]?
theorem Kept.refl (bs : List Nat) (w : World) : Kept bs w w := ⟨rfl, rfl, rfl, Nat.le_refl _, fun _ _ _ => rfl⟩
theorem Kept.trans {bs : List Nat} {a b c : World} (h : Kept bs a b) (k : Kept bs b c) : Kept bs a c :=
  ⟨k.os.trans h.os, k.tape.trans h.tape, k.output.trans h.output, Nat.le_trans h.size k.size, fun i hi hn => (k.block i (Nat.lt_of_lt_of_le hi h.size) hn).trans (h.block i hi hn)⟩
theorem Kept.mono {bs cs : List Nat} {a b : World} (h : Kept bs a b) (hs : ∀ x ∈ bs, x ∈ cs) : Kept cs a b :=
  ⟨h.os, h.tape, h.output, h.size, fun i hi hn => h.block i hi (fun hc => hn (hs i hc))⟩
theorem Kept.of_below {bs : List Nat} {a b : World} (h : Below a.heap.size a b) : Kept bs a b := ⟨h.os, h.tape, h.output, h.size, fun i hi _ => h.block i hi⟩
theorem Kept.of_grown {a b : World} {k : Nat} (h : a.grownBy b (some k)) : Kept [k] a b := ⟨h.os, h.tape, h.output, h.size, fun i hi hn => h.block i hi (fun e => hn (by simp at e; simp [e]))⟩
theorem Kept.to_below {bs : List Nat} {a b : World} {n : Nat} (h : Kept bs a b) (hn : n ≤ a.heap.size) (hb : ∀ x ∈ bs, n ≤ x) : Below n a b :=
  ⟨h.os, h.tape, h.output, h.size, fun i hi => h.block i (Nat.lt_of_lt_of_le hi hn) (fun hc => by have := hb i hc; omega)⟩
theorem Kept.alloc {bs : List Nat} {a b : World} (h : Kept bs a b) (o : Obj) : Kept bs a (b.alloc o) := h.trans (Kept.of_below ((Below.refl _ _).alloc (Nat.le_refl _) o))
theorem Kept.drew {bs : List Nat} {a b : World} (h : Kept bs a b) : Kept bs a b.drew := h.trans (Kept.of_below (Below.refl _ _).drew)
theorem ownsMap_keep {w w' : World} {k : TypeId} {R : Value → Option (DataW Unit × List MemPlace)} {b n : Nat} {D : DataW Unit} (h : w.ownsMap Tryz.prog k R b n D) (hb : w'.heap[b]? = w.heap[b]?) : w'.ownsMap Tryz.prog k R b n D := by
  obtain ⟨es, clock, h1, h2⟩ := h
  exact ⟨es, clock, hb.trans h1, h2⟩

theorem StrSet.lt {w : World} {b : Nat} {l : List ByteArray} (h : StrSet w b l) : b < w.heap.size := World.ownsMap.lt h
theorem NumSet.lt {w : World} {b : Nat} {l : List Nat} (h : NumSet w b l) : b < w.heap.size := World.ownsMap.lt h
theorem StrSet.keep {w w' : World} {b : Nat} {l : List ByteArray} (h : StrSet w b l) (hb : w'.heap[b]? = w.heap[b]?) : StrSet w' b l := ownsMap_keep h hb
theorem NumSet.keep {w w' : World} {b : Nat} {l : List Nat} (h : NumSet w b l) (hb : w'.heap[b]? = w.heap[b]?) : NumSet w' b l := ownsMap_keep h hb

set_option maxHeartbeats 400000 in
theorem c62 (w : World) (b : Nat) (l : List ByteArray) (s : ByteArray) (h : StrSet w b l) (hl : l.length < maxLen) (hs : s.size ≤ maxLen) :
    Calls Tryz.prog 125 #[.map (some b), .string s] w fun e w' => e = .returned (.tuple #[]) ∧ StrSet w' b (l ++ [s]) ∧ Kept [b] w w' := by
  have hown : w.ownsMap Tryz.prog 9 (unitElem (H := Unit)) b l.length (setOf (.agg []) (l.map litS)) := h
  go_enter Tryz.func125, Tryz.ntmps125
  go_wp2_with (at_mapUpdate; refine wpList_mapUpdate_own _ rfl _ _ _ 185 rfl 9 128 lawS Tryz.underlying185 _ b _ _ rfl hown hl _ _ _ rfl rfl (keyS s hs) _ [] unitElem_mk ?_; intro w1 hown1 hgrow1)
  go_end0
  refine ⟨rfl, ?_, Kept.of_grown hgrow1⟩
  unfold StrSet
  rw [List.map_append, List.map_singleton, setOf_snoc, List.length_append]
  exact hown1

set_option maxHeartbeats 400000 in
theorem c84 (w : World) (b : Nat) (l : List Nat) (n : Nat) (h : NumSet w b l) (hl : l.length < maxLen) (hs : n < 18446744073709551616) :
    Calls Tryz.prog 245 #[.map (some b), .int .u64 n] w fun e w' => e = .returned (.tuple #[]) ∧ NumSet w' b (l ++ [n]) ∧ Kept [b] w w' := by
  have hown : w.ownsMap Tryz.prog 53 (unitElem (H := Unit)) b l.length (setOf (.agg []) (l.map litN)) := h
  go_enter Tryz.func245, Tryz.ntmps245
  go_wp2_with (at_mapUpdate; refine wpList_mapUpdate_own _ rfl _ _ _ 245 rfl 53 128 lawN Tryz.underlying245 _ b _ _ rfl hown hl _ _ _ rfl rfl (keyN n hs) _ [] unitElem_mk ?_; intro w1 hown1 hgrow1)
  go_end0
  refine ⟨rfl, ?_, Kept.of_grown hgrow1⟩
  unfold NumSet
  rw [List.map_append, List.map_singleton, setOf_snoc, List.length_append]
  exact hown1

set_option maxHeartbeats 400000 in
theorem c63 (w : World) (b : Nat) (l : List ByteArray) (s : ByteArray) (h : StrSet w b l) (hs : s.size ≤ maxLen) :
    Calls Tryz.prog 126 #[.map (some b), .string s] w fun e w' => e = .returned (.bool (memS l s)) ∧ Below w.heap.size w w' := by
  have hown : w.ownsMap Tryz.prog 9 (unitElem (H := Unit)) b l.length (setOf (.agg []) (l.map litS)) := h
  rw [← has_S]
  go_enter Tryz.func126, Tryz.ntmps126
  go_wp2_with (at_lookup; refine wpList_lookup_own_unit _ rfl _ _ 185 rfl 9 128 lawS Tryz.underlying185 (zero140 _) b _ _ rfl hown _ _ rfl (keyS s hs) ?_)
  go_ret
  exact ⟨rfl, (Below.refl _ _).alloc (Nat.le_refl _) _⟩

set_option maxHeartbeats 400000 in
theorem c83 (w : World) (b : Nat) (l : List Nat) (n : Nat) (h : NumSet w b l) (hs : n < 18446744073709551616) :
    Calls Tryz.prog 244 #[.map (some b), .int .u64 n] w fun e w' => e = .returned (.bool (memN l n)) ∧ Below w.heap.size w w' := by
  have hown : w.ownsMap Tryz.prog 53 (unitElem (H := Unit)) b l.length (setOf (.agg []) (l.map litN)) := h
  rw [← has_N]
  go_enter Tryz.func244, Tryz.ntmps244
  go_wp2_with (at_lookup; refine wpList_lookup_own_unit _ rfl _ _ 245 rfl 53 128 lawN Tryz.underlying245 (zero140 _) b _ _ rfl hown _ _ rfl (keyN n hs) ?_)
  go_ret
  exact ⟨rfl, (Below.refl _ _).alloc (Nat.le_refl _) _⟩

set_option maxHeartbeats 400000 in
theorem c48_no (w : World) (k : Int) (s : ByteArray) (p : Nat) :
    Calls Tryz.prog 81 #[.bool false, .agg #[.int .i64 k, .string s, .int .i64 p]] w fun e w' => e = .returned (.tuple #[]) ∧ Below w.heap.size w w' := by
  go_enter Tryz.func81, Tryz.ntmps81
  go_wp2
  go_end0
  exact ⟨rfl, (Below.refl _ _).alloc (Nat.le_refl _) _⟩
set_option maxHeartbeats 400000 in
theorem c48_yes (w : World) (k : Int) (s : ByteArray) (p : Nat) :
    Calls Tryz.prog 81 #[.bool true, .agg #[.int .i64 k, .string s, .int .i64 p]] w fun e w' => e = fault 3 p ∧ Below w.heap.size w w' := by
  go_enter Tryz.func81, Tryz.ntmps81
  go_wp2_with fail
  refine (c25 _ _ _).mono ?_
  rintro e w2 ⟨rfl, rfl⟩
  go_wp2
  exact ⟨rfl, rfl, (Below.refl _ _).alloc (Nat.le_refl _) _⟩

end Go.Proofs.YtbbbegjedmicpaaGreatDoor
