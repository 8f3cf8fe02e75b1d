import Derived.Test.YtbbbegjedmicpaaGreatDoorLeaf

/-
  THE PROGRAM's READER in memory; contracts of its smallest functions.
-/
namespace Go.Proofs.YtbbbegjedmicpaaGreatDoor
open Go.RowKit

/-- The reader in block rb: its words in block wb, its place i. -/
structure Rd (w : World) (rb wb : Nat) (ws : List W) (i : Nat) : Prop where
  lt : i < ws.length
  few : ws.length ≤ 2001
  ne : rb ≠ wb
  row : ∃ cap, w.cell? ⟨rb, 0, none⟩ = some (.slice (some ⟨wb, 0, none⟩) ws.length cap)
  next : w.cell? ⟨rb, 1, none⟩ = some (.int .i64 i)
  free : w.frozen? ⟨rb, 1, none⟩ = false
  words : ∀ (k : Nat) (x : W), ws[k]? = some x → w.cell? ⟨wb, k * 3, none⟩ = some (.int .i64 (kindW x.1)) ∧ w.cell? ⟨wb, k * 3 + 1, none⟩ = some (.string x.1) ∧ w.cell? ⟨wb, k * 3 + 2, none⟩ = some (.int .i64 x.2)
  ends : ∀ (k : Nat) (x : W), ws[k]? = some x → 0 < x.1.size → k + 1 < ws.length
  small : ∀ (k : Nat) (x : W), ws[k]? = some x → x.1.size ≤ 2000 ∧ x.2 ≤ 2000

set_option maxHeartbeats 400000 in
theorem c25 (e p : Int) (w : World) :
    Calls Tryz.prog 39 #[.int .i64 e, .int .i64 p] w fun e' w' => e' = .panicked [{ v := .iface 108 (.agg #[.int .i64 e, .int .i64 p]), recovered := false }] ∧ w' = w := by
  go_enter Tryz.func39, Tryz.ntmps39
  go_wp2
  exact ⟨rfl, rfl, rfl⟩

set_option maxHeartbeats 400000 in
theorem c43 (w : World) (rb wb : Nat) (ws : List W) (i : Nat) (x : W) (R : Rd w rb wb ws i) (hx : ws[i]? = some x) :
    Calls Tryz.prog 76 #[.pointer (some ⟨rb, 0, none⟩)] w fun e w' => e = .returned (.agg #[.int .i64 (kindW x.1), .string x.1, .int .i64 x.2]) ∧ Below w.heap.size w w' := by
  obtain ⟨cap, hrow⟩ := R.row
  have hnext := R.next
  have hlt := R.lt
  have hfew := R.few
  obtain ⟨q0, q1, q2⟩ := R.words i x hx
  clear R hx
  have a0 := fun o => (World.cell?_alloc_lt w o _ (World.block_lt_of_cell? _ _ hrow)).trans hrow
  have a1 := fun o => (World.cell?_alloc_lt w o _ (World.block_lt_of_cell? _ _ hnext)).trans hnext
  have b0 := fun o => (World.cell?_alloc_lt w o _ (World.block_lt_of_cell? _ _ q0)).trans q0
  have b1 := fun o => (World.cell?_alloc_lt w o _ (World.block_lt_of_cell? _ _ q1)).trans q1
  have b2 := fun o => (World.cell?_alloc_lt w o _ (World.block_lt_of_cell? _ _ q2)).trans q2
  go_enter Tryz.func76, Tryz.ntmps76
  go_wp2
  go_region
  go_wp2
  exact bodyPost_ret (v := .agg #[.int .i64 (kindW x.1), .string x.1, .int .i64 x.2]) (by simp [results, Tryz.results76, go_sem]) rfl ⟨rfl, ((Below.refl _ _).alloc (Nat.le_refl _) _).drew⟩

/-- The reader's place, turned. -/
def adv (w : World) (rb j : Nat) : World := w.setCell ⟨rb, 1, none⟩ (.int .i64 j)
/-- Of what was there below block number n the reader's place alone has turned: it is j. -/
def Adv (n rb : Nat) (w w' : World) (j : Nat) : Prop := Below n (adv w rb j) w'

theorem adv_size (w : World) (rb j : Nat) : (adv w rb j).heap.size = w.heap.size := by simp [adv, World.setCell]

/-- What a store does to a block. -/
def putObj (off : Nat) (v : Value) : Obj → Obj
  | .cells c e f => .cells (c.setIfInBounds off v) e f
  | o => o
theorem heap_setCell (w : World) (b off : Nat) (v : Value) (k : Nat) : (w.setCell ⟨b, off, none⟩ v).heap[k]? = if b = k then (w.heap[k]?).map (putObj off v) else w.heap[k]? := by
  simp only [World.setCell, Array.getElem?_modify]
  split
  · cases w.heap[k]? with
    | none => rfl
    | some o => cases o <;> rfl
  · rfl
theorem putObj_twice (off : Nat) (u v : Value) (o : Obj) : putObj off v (putObj off u o) = putObj off v o := by
  cases o <;> simp [putObj]
theorem putObj_same {w : World} {b off : Nat} {v : Value} (h : w.cell? ⟨b, off, none⟩ = some v) : (w.heap[b]?).map (putObj off v) = w.heap[b]? := by
  unfold World.cell? at h
  cases ho : w.heap[b]? with
  | none => rfl
  | some o =>
    simp only [ho] at h
    cases o with
    | cells c e f =>
      simp at h
      simp only [Option.map_some, putObj]
      congr 2
      apply Array.ext
      · simp
      · intro i h1 h2
        rw [Array.getElem_setIfInBounds]
        split
        · subst_vars
          rw [Array.getElem?_eq_getElem h2] at h
          exact (Option.some.inj h).symm
        · rfl
    | _ => rfl

theorem Adv.of_below {w w' : World} {n rb j : Nat} (h : w.cell? ⟨rb, 1, none⟩ = some (.int .i64 j)) (hb : Below n w w') : Adv n rb w w' j := by
  refine ⟨hb.os, hb.tape, hb.output, by rw [adv_size]; exact hb.size, fun k hk => ?_⟩
  rw [hb.block k hk, adv, heap_setCell]
  split
  · subst_vars; exact (putObj_same h).symm
  · rfl
theorem Adv.trans {w w1 w2 : World} {n m rb i j : Nat} (h : Adv n rb w w1 i) (k : Adv m rb w1 w2 j) (hnm : n ≤ m) : Adv n rb w w2 j := by
  refine ⟨k.os.trans h.os, k.tape.trans h.tape, k.output.trans h.output, ?_, fun b hb => ?_⟩
  · have h1 := h.size; have h2 := k.size; rw [adv_size] at *; omega
  · rw [k.block b (by omega), adv, heap_setCell, h.block b hb, adv, adv, heap_setCell, heap_setCell]
    split
    · simp only [Option.map_map]; congr 1; funext o; exact putObj_twice _ _ _ _
    · rfl
theorem Adv.size {w w' : World} {n rb j : Nat} (h : Adv n rb w w' j) : w.heap.size ≤ w'.heap.size := by have := Below.size h; rwa [adv_size] at this
theorem Adv.cell {w w' : World} {n rb j : Nat} (h : Adv n rb w w' j) {a : Addr} (ha : a.block < n) (hne : a.block ≠ rb) : w'.cell? a = w.cell? a := by
  refine World.cell?_of_block ((Below.block h a.block ha).trans ?_)
  rw [adv, heap_setCell, if_neg (fun e => hne e.symm)]
theorem Adv.rd {w w' : World} {n rb wb i j : Nat} {ws : List W} (R : Rd w rb wb ws i) (h : Adv n rb w w' j) (hr : rb < n) (hw : wb < n) (hj : j < ws.length) : Rd w' rb wb ws j := by
  obtain ⟨cap, hrow⟩ := R.row
  have hw' : ∀ off, w'.cell? ⟨wb, off, none⟩ = w.cell? ⟨wb, off, none⟩ := fun off => h.cell (a := ⟨wb, off, none⟩) hw (fun e => R.ne e.symm)
  refine ⟨hj, R.few, R.ne, ⟨cap, ?_⟩, ?_, ?_, fun k x hx => ?_, R.ends, R.small⟩
  · rw [Below.cell h (p := ⟨rb, 0, none⟩) hr, adv, World.cell?_setCell_other _ _ _ _ (by simp)]; exact hrow
  · rw [Below.cell h (p := ⟨rb, 1, none⟩) hr, adv]; exact World.cell?_setCell_same _ _ _ R.next
  · rw [Below.frozen h (p := ⟨rb, 1, none⟩) hr, adv, World.frozen?_setCell]; exact R.free
  · rw [hw', hw', hw']; exact R.words k x hx
theorem Rd.blocks {w : World} {rb wb i : Nat} {ws : List W} (R : Rd w rb wb ws i) : rb < w.heap.size ∧ wb < w.heap.size := by
  refine ⟨World.block_lt_of_cell? _ _ R.next, ?_⟩
  obtain ⟨x, hx⟩ : ∃ x, ws[i]? = some x := ⟨_, List.getElem?_eq_getElem R.lt⟩
  exact World.block_lt_of_cell? _ _ (R.words i x hx).1

end Go.Proofs.YtbbbegjedmicpaaGreatDoor

/-
  CONTRACTS: take, giveUp, isNext, skip, kind, typeWord.
-/
namespace Go.Proofs.YtbbbegjedmicpaaGreatDoor
open Go.RowKit

/-- A block that is there is not turned by a new one: as rules for the walk. -/
theorem old_alloc {w : World} {b : Nat} (h : b < w.heap.size) : (∀ o off, (w.alloc o).cell? ⟨b, off, none⟩ = w.cell? ⟨b, off, none⟩) ∧ (∀ o off, (w.alloc o).frozen? ⟨b, off, none⟩ = w.frozen? ⟨b, off, none⟩) ∧ ¬ b = w.heap.size ∧ ¬ w.heap.size = b :=
  ⟨fun o off => World.cell?_alloc_lt w o ⟨b, off, none⟩ h, fun o off => World.frozen?_of_block (Below.heap_alloc w o b h), by omega, by omega⟩
theorem old_below {n : Nat} {w w1 : World} {b : Nat} (hb : Below n w w1) (h : b < n) : (∀ off, w1.cell? ⟨b, off, none⟩ = w.cell? ⟨b, off, none⟩) ∧ (∀ off, w1.frozen? ⟨b, off, none⟩ = w.frozen? ⟨b, off, none⟩) :=
  ⟨fun off => hb.cell (p := ⟨b, off, none⟩) h, fun off => hb.frozen (p := ⟨b, off, none⟩) h⟩
/-- The reader, while others' blocks turn. -/
theorem Rd.below {w w' : World} {n rb wb i : Nat} {ws : List W} (R : Rd w rb wb ws i) (h : Below n w w') (hr : rb < n) (hw : wb < n) : Rd w' rb wb ws i :=
  (Adv.of_below R.next h).rd R hr hw R.lt
theorem Rd.alloc {w : World} {rb wb i : Nat} {ws : List W} (R : Rd w rb wb ws i) (o : Obj) : Rd (w.alloc o) rb wb ws i :=
  R.below ((Below.refl w.heap.size w).alloc (Nat.le_refl _) o) R.blocks.1 R.blocks.2

theorem Adv.alloc {w w' : World} {n rb j : Nat} (h : Adv n rb w w' j) (hn : n ≤ w.heap.size) (o : Obj) : Adv n rb w (w'.alloc o) j :=
  Below.alloc h (Nat.le_trans hn h.size) o
theorem Adv.setCell {w w' : World} {n rb j : Nat} (h : Adv n rb w w' j) {a : Addr} (ha : n ≤ a.block) (u : Value) : Adv n rb w (w'.setCell a u) j := Below.setCell h ha u
theorem Adv.drew {w w' : World} {n rb j : Nat} (h : Adv n rb w w' j) : Adv n rb w w'.drew j := Below.drew h
theorem Adv.grown {w w1 w' : World} {n rb j : Nat} {row : Option Nat} (h : Adv n rb w w1 j) (hg : w1.grownBy w' row) (hn : n ≤ w.heap.size) (hr : ∀ k, row = some k → n ≤ k) : Adv n rb w w' j :=
  Below.grown h hg (Nat.le_trans hn h.size) hr
theorem Adv.below {w w1 w' : World} {n m rb j : Nat} (h : Adv n rb w w1 j) (hb : Below m w1 w') (hnm : n ≤ m) : Adv n rb w w' j := Below.trans h (hb.mono hnm)
theorem Adv.mono {w w1 : World} {n m rb j : Nat} (h : Adv m rb w w1 j) (hnm : n ≤ m) : Adv n rb w w1 j := Below.mono h hnm
theorem Adv.step {w w' : World} {n rb i : Nat} (h : Adv n rb w w' i) (j : Nat) : Adv n rb w (w'.setCell ⟨rb, 1, none⟩ (.int .i64 j)) j :=
  h.trans (Below.refl n (adv w' rb j)) (Nat.le_refl _)

set_option maxHeartbeats 400000 in
theorem c76 (w : World) (rb wb : Nat) (ws : List W) (i : Nat) (x : W) (R : Rd w rb wb ws i) (hx : ws[i]? = some x) (hs : 0 < x.1.size) :
    Calls Tryz.prog 239 #[.pointer (some ⟨rb, 0, none⟩)] w fun e w' => e = .returned (.agg #[.int .i64 (kindW x.1), .string x.1, .int .i64 x.2]) ∧ Rd w' rb wb ws (i + 1) ∧ Adv w.heap.size rb w w' (i + 1) := by
  have hlt := R.lt
  have hfew := R.few
  obtain ⟨hb1, hb2⟩ := R.blocks
  go_enter Tryz.func239, Tryz.ntmps239
  go_wp2_with fail
  refine (c43 _ rb wb ws i x (R.alloc _) hx).mono ?_
  rintro e w1 ⟨rfl, hw1⟩
  have hz : w.heap.size < w1.heap.size := by have := hw1.size; simp at this; omega
  have R1 := (R.alloc _).below hw1 (by simp; omega) (by simp; omega)
  obtain ⟨p1, p2, p3, p4⟩ := old_alloc (w := w1) (b := rb) (by omega)
  obtain ⟨s1, s2, s3, s4⟩ := old_alloc (w := w1) (b := w.heap.size) hz
  obtain ⟨t1, t2⟩ := old_below hw1 (b := w.heap.size) (by simp)
  have n1 := R1.next
  have n2 := R1.free
  have n3 : ¬ rb = w.heap.size := by omega
  have n4 : ¬ w.heap.size = rb := by omega
  go_wp2_with fail
  have A1 : Adv w.heap.size rb w w1 i := Adv.of_below R.next (((Below.refl w.heap.size w).alloc (Nat.le_refl _) _).trans (hw1.mono (by simp)))
  have A2 := (((((A1.alloc (Nat.le_refl _) (Obj.cells #[Value.int IntKind.i64 (kindW x.fst), Value.string x.fst, Value.int IntKind.i64 x.snd] 114)).step (i + 1)).setCell (a := ⟨w.heap.size, 0, none⟩) (Nat.le_refl _) (Value.int IntKind.i64 (kindW x.fst))).setCell (a := ⟨w.heap.size, 1, none⟩) (Nat.le_refl _) (Value.string x.fst)).setCell (a := ⟨w.heap.size, 2, none⟩) (Nat.le_refl _) (Value.int IntKind.i64 x.snd))
  refine bodyPost_ret (v := .agg #[.int .i64 (kindW x.1), .string x.1, .int .i64 x.2]) ?_ rfl ⟨rfl, ?_, A2⟩
  · simp [results, Tryz.results239, go_sem, *]
  · exact A2.rd R hb1 hb2 (R.ends i x hx hs)

theorem f91_0 (a b c : Value) (w : World) : (Instr.field 114 (.agg #[a, b, c]) 0).run Tryz.prog w = .ok a w := by kernel_rfl
theorem f91_1 (a b c : Value) (w : World) : (Instr.field 114 (.agg #[a, b, c]) 1).run Tryz.prog w = .ok b w := by kernel_rfl
theorem f91_2 (a b c : Value) (w : World) : (Instr.field 114 (.agg #[a, b, c]) 2).run Tryz.prog w = .ok c w := by kernel_rfl
attribute [local go_sem] f91_0 f91_1 f91_2

/-- How a reader gives up: an error and a place. -/
def fault (e p : Int) : Ending := .panicked [{ v := .iface 108 (.agg #[.int .i64 e, .int .i64 p]), recovered := false }]

set_option maxHeartbeats 400000 in
theorem c75 (w : World) (rb wb : Nat) (ws : List W) (i : Nat) (x : W) (R : Rd w rb wb ws i) (hx : ws[i]? = some x) :
    Calls Tryz.prog 238 #[.pointer (some ⟨rb, 0, none⟩)] w fun e w' => e = fault 2 x.2 ∧ Below w.heap.size w w' := by
  go_enter Tryz.func238, Tryz.ntmps238
  go_wp2_with fail
  refine (c43 _ rb wb ws i x R hx).mono ?_
  rintro e w1 ⟨rfl, hw1⟩
  go_wp2_with fail
  refine (c25 _ _ _).mono ?_
  rintro e w2 ⟨rfl, rfl⟩
  go_wp2
  exact ⟨rfl, rfl, hw1⟩

set_option maxHeartbeats 400000 in
theorem c59 (w : World) (rb wb : Nat) (ws : List W) (i : Nat) (x : W) (s : ByteArray) (R : Rd w rb wb ws i) (hx : ws[i]? = some x) :
    Calls Tryz.prog 122 #[.pointer (some ⟨rb, 0, none⟩), .string s] w fun e w' => e = .returned (.bool (x.1.toList == s.toList)) ∧ Below w.heap.size w w' := by
  go_enter Tryz.func122, Tryz.ntmps122
  go_wp2_with fail
  refine (c43 _ rb wb ws i x R hx).mono ?_
  rintro e w1 ⟨rfl, hw1⟩
  go_wp2
  go_ret
  exact ⟨rfl, hw1⟩

theorem size_of_kind {s : ByteArray} (h : kindW s ≠ 4) : 0 < s.size := by
  unfold kindW at h
  by_cases h0 : s.size = 0
  · rw [if_pos h0] at h; exact absurd rfl h
  · omega

theorem size_of_text {s : ByteArray} {l : List UInt8} (h : (s.toList == l) = true) (hl : 0 < l.length) : 0 < s.size := by
  have h1 : s.toList = l := by simpa using h
  have h2 : s.toList.length = s.size := by rw [ByteArray.toList_eq]; rfl
  rw [h1] at h2; omega

set_option maxHeartbeats 400000 in
theorem c67_ok (w : World) (rb wb : Nat) (ws : List W) (i : Nat) (x : W) (s : ByteArray) (R : Rd w rb wb ws i) (hx : ws[i]? = some x) (hs : (x.1.toList == s.toList) = true) (hp : 0 < x.1.size) :
    Calls Tryz.prog 184 #[.pointer (some ⟨rb, 0, none⟩), .string s] w fun e w' => e = .returned (.tuple #[]) ∧ Rd w' rb wb ws (i + 1) ∧ Adv w.heap.size rb w w' (i + 1) := by
  go_enter Tryz.func184, Tryz.ntmps184
  go_wp2_with fail
  refine (c59 _ rb wb ws i x s R hx).mono ?_
  rintro e w1 ⟨rfl, hw1⟩
  have R1 := R.below hw1 R.blocks.1 R.blocks.2
  have A1 := Adv.of_below R.next hw1
  go_wp2_with fail
  refine (c76 _ rb wb ws i x R1 hx hp).mono ?_
  rintro e w2 ⟨rfl, R2, A2⟩
  go_wp2
  go_end0
  exact ⟨rfl, R2, A1.trans A2 A1.size⟩

set_option maxHeartbeats 400000 in
theorem c67_no (w : World) (rb wb : Nat) (ws : List W) (i : Nat) (x : W) (s : ByteArray) (R : Rd w rb wb ws i) (hx : ws[i]? = some x) (hs : (x.1.toList == s.toList) = false) :
    Calls Tryz.prog 184 #[.pointer (some ⟨rb, 0, none⟩), .string s] w fun e w' => e = fault 2 x.2 ∧ Adv w.heap.size rb w w' i := by
  go_enter Tryz.func184, Tryz.ntmps184
  go_wp2_with fail
  refine (c59 _ rb wb ws i x s R hx).mono ?_
  rintro e w1 ⟨rfl, hw1⟩
  have R1 := R.below hw1 R.blocks.1 R.blocks.2
  have A1 := Adv.of_below R.next hw1
  go_wp2_with fail
  refine (c75 _ rb wb ws i x R1 hx).mono ?_
  rintro e w2 ⟨rfl, hw2⟩
  unfold fault
  go_wp2
  exact ⟨rfl, rfl, A1.below hw2 hw1.size⟩

set_option maxHeartbeats 400000 in
theorem c68_ok (w : World) (rb wb : Nat) (ws : List W) (i : Nat) (x : W) (k : Int) (R : Rd w rb wb ws i) (hx : ws[i]? = some x) (hs : (kindW x.1 != k) = false) (hp : 0 < x.1.size) :
    Calls Tryz.prog 185 #[.pointer (some ⟨rb, 0, none⟩), .int .i64 k] w fun e w' => e = .returned (.agg #[.int .i64 (kindW x.1), .string x.1, .int .i64 x.2]) ∧ Rd w' rb wb ws (i + 1) ∧ Adv w.heap.size rb w w' (i + 1) := by
  have B0 := (Below.refl w.heap.size w).alloc (Nat.le_refl _) (Obj.cells #[Value.int IntKind.i64 0, Value.string { data := #[] }, Value.int IntKind.i64 0] 114)
  go_enter Tryz.func185, Tryz.ntmps185
  go_wp2_with fail
  refine (c43 _ rb wb ws i x (R.alloc _) hx).mono ?_
  rintro e w1 ⟨rfl, hw1⟩
  have R1 := (R.alloc _).below hw1 (R.alloc _).blocks.1 (R.alloc _).blocks.2
  have A1 := Adv.of_below R.next (B0.trans (hw1.mono (by simp)))
  have z1 : w.heap.size < w1.heap.size := by have := hw1.size; simp at this; omega
  go_wp2_with fail
  refine (c76 _ rb wb ws i x R1 hx hp).mono ?_
  rintro e w2 ⟨rfl, R2, A2⟩
  have A3 := A1.trans A2 (by omega)
  have n1 : ¬ w.heap.size = rb := by have := R.blocks; omega
  obtain ⟨t1, t2⟩ := old_below hw1 (b := w.heap.size) (by simp)
  have u1 : ∀ off, w2.cell? ⟨w.heap.size, off, none⟩ = w1.cell? ⟨w.heap.size, off, none⟩ := fun off => A2.cell (a := ⟨w.heap.size, off, none⟩) z1 n1
  have u2 : ∀ off, w2.frozen? ⟨w.heap.size, off, none⟩ = w1.frozen? ⟨w.heap.size, off, none⟩ := fun off => (Below.frozen A2 (p := ⟨w.heap.size, off, none⟩) z1).trans (World.frozen?_setCell _ _ _ _)
  go_wp2
  have A4 := ((A3.setCell (a := ⟨w.heap.size, 0, none⟩) (Nat.le_refl _) (Value.int IntKind.i64 (kindW x.fst))).setCell (a := ⟨w.heap.size, 1, none⟩) (Nat.le_refl _) (Value.string x.fst)).setCell (a := ⟨w.heap.size, 2, none⟩) (Nat.le_refl _) (Value.int IntKind.i64 x.snd)
  refine bodyPost_ret (v := .agg #[.int .i64 (kindW x.1), .string x.1, .int .i64 x.2]) ?_ rfl ⟨rfl, ?_, A4⟩
  · simp [results, Tryz.results185, go_sem, *]
  · exact A4.rd R R.blocks.1 R.blocks.2 (R.ends i x hx hp)

set_option maxHeartbeats 400000 in
theorem c68_no (w : World) (rb wb : Nat) (ws : List W) (i : Nat) (x : W) (k : Int) (R : Rd w rb wb ws i) (hx : ws[i]? = some x) (hs : (kindW x.1 != k) = true) :
    Calls Tryz.prog 185 #[.pointer (some ⟨rb, 0, none⟩), .int .i64 k] w fun e w' => e = fault 2 x.2 ∧ Adv w.heap.size rb w w' i := by
  have B0 := (Below.refl w.heap.size w).alloc (Nat.le_refl _) (Obj.cells #[Value.int IntKind.i64 0, Value.string { data := #[] }, Value.int IntKind.i64 0] 114)
  go_enter Tryz.func185, Tryz.ntmps185
  go_wp2_with fail
  refine (c43 _ rb wb ws i x (R.alloc _) hx).mono ?_
  rintro e w1 ⟨rfl, hw1⟩
  have R1 := (R.alloc _).below hw1 (R.alloc _).blocks.1 (R.alloc _).blocks.2
  have A1 := Adv.of_below R.next (B0.trans (hw1.mono (by simp)))
  have z1 : w.heap.size < w1.heap.size := by have := hw1.size; simp at this; omega
  go_wp2_with fail
  refine (c75 _ rb wb ws i x R1 hx).mono ?_
  rintro e w2 ⟨rfl, hw2⟩
  unfold fault
  go_wp2
  exact ⟨rfl, rfl, A1.below hw2 (by omega)⟩

end Go.Proofs.YtbbbegjedmicpaaGreatDoor

/-
  THE GRAMMAR, in plain terms: one function a rule, over the list of words and a place in it; an error is the place in the text at which reading stops.
-/
namespace Go.Proofs.YtbbbegjedmicpaaGreatDoor
open Go.RowKit

structure FieldR where
  form : Int
  key : Option W
  type : W
  name : W
  num : W
structure PartR where
  oneof : Option W
  fields : List FieldR
structure BlockR where
  enum : Bool
  name : W
  parts : List PartR
  values : List (W × W)

abbrev Res (α : Type) := Except Nat (α × Nat)
/-- What comes next, if a result is one. -/
def andP {α β : Type} (r : Res α) (f : α → Nat → Res β) : Res β :=
  match r with
  | .error p => .error p
  | .ok (a, j) => f a j

def kindP (ws : List W) (k : Int) (i : Nat) : Res W :=
  match ws[i]? with
  | some x => if kindW x.1 == k then .ok (x, i + 1) else .error x.2
  | none => .error 0
def skipP (ws : List W) (s : List UInt8) (i : Nat) : Res Unit :=
  match ws[i]? with
  | some x => if x.1.toList == s then .ok ((), i + 1) else .error x.2
  | none => .error 0
def typeP (ws : List W) (i : Nat) : Res W :=
  match ws[i]? with
  | some x => if kindW x.1 == 3 || kindW x.1 == 1 then .ok (x, i + 1) else .error x.2
  | none => .error 0
def numP (ws : List W) (i : Nat) : Res (W × W) :=
  andP (kindP ws 1 i) fun n i => andP (skipP ws [61] i) fun _ i => andP (kindP ws 2 i) fun m i => andP (skipP ws [59] i) fun _ i => .ok ((n, m), i)
def fieldP (ws : List W) (form : Int) (i : Nat) : Res FieldR :=
  andP (typeP ws i) fun t i => andP (numP ws i) fun nm i => .ok (⟨form, none, t, nm.1, nm.2⟩, i)
def mapP (ws : List W) (i : Nat) : Res FieldR :=
  andP (skipP ws [109, 97, 112] i) fun _ i => andP (skipP ws [60] i) fun _ i => andP (typeP ws i) fun k i => andP (skipP ws [44] i) fun _ i =>
  andP (typeP ws i) fun t i => andP (skipP ws [62] i) fun _ i => andP (numP ws i) fun nm i => .ok (⟨4, some k, t, nm.1, nm.2⟩, i)

/-- As often as it comes, till a test says stop. -/
def manyP {α : Type} (stop : Nat → Bool) (p : Nat → Res α) : Nat → Nat → Res (List α)
  | 0, i => .ok ([], i)
  | n + 1, i => if stop i then .ok ([], i) else andP (p i) fun a j => andP (manyP stop p n j) fun l k => .ok (a :: l, k)
/-- What was read ahead, put in front. -/
def preP {α : Type} (pre : List α) (r : Res (List α)) : Res (List α) := andP r fun l k => .ok (pre ++ l, k)

def isTxt (ws : List W) (s : List UInt8) (i : Nat) : Bool :=
  match ws[i]? with
  | some x => x.1.toList == s
  | none => true
def isEnd (ws : List W) (i : Nat) : Bool :=
  match ws[i]? with
  | some x => kindW x.1 == 4
  | none => true

def oneofP (ws : List W) (i : Nat) : Res PartR :=
  andP (skipP ws [111, 110, 101, 111, 102] i) fun _ i => andP (kindP ws 1 i) fun o i => andP (skipP ws [123] i) fun _ i => andP (fieldP ws 3 i) fun f i =>
  andP (preP [f] (manyP (isTxt ws [125]) (fieldP ws 3) ws.length i)) fun l i => andP (skipP ws [125] i) fun _ i => .ok (⟨some o, l⟩, i)
def aloneP (r : Res FieldR) : Res PartR := andP r fun f i => .ok (⟨none, [f]⟩, i)
def partP (ws : List W) (i : Nat) : Res PartR :=
  if isTxt ws [111, 110, 101, 111, 102] i then oneofP ws i
  else if isTxt ws [109, 97, 112] i then aloneP (mapP ws i)
  else if isTxt ws [114, 101, 112, 101, 97, 116, 101, 100] i then aloneP (fieldP ws 2 (i + 1))
  else if isTxt ws [111, 112, 116, 105, 111, 110, 97, 108] i then aloneP (fieldP ws 1 (i + 1))
  else aloneP (fieldP ws 0 i)
def messageP (ws : List W) (i : Nat) : Res BlockR :=
  andP (skipP ws [109, 101, 115, 115, 97, 103, 101] i) fun _ i => andP (kindP ws 1 i) fun n i => andP (skipP ws [123] i) fun _ i =>
  andP (manyP (isTxt ws [125]) (partP ws) ws.length i) fun l i => andP (skipP ws [125] i) fun _ i => .ok (⟨false, n, l, []⟩, i)
def enumP (ws : List W) (i : Nat) : Res BlockR :=
  andP (skipP ws [101, 110, 117, 109] i) fun _ i => andP (kindP ws 1 i) fun n i => andP (skipP ws [123] i) fun _ i =>
  andP (manyP (isTxt ws [125]) (numP ws) ws.length i) fun l i => andP (skipP ws [125] i) fun _ i => .ok (⟨true, n, [], l⟩, i)
def blockP (ws : List W) (i : Nat) : Res BlockR := if isTxt ws [101, 110, 117, 109] i then enumP ws i else messageP ws i
def treeP (ws : List W) : Res (List BlockR) := manyP (isEnd ws) (blockP ws) ws.length 0

/-- Reading goes on: a result lies behind the place where it began. -/
def On {α : Type} (i : Nat) (r : Res α) : Prop := ∀ a j, r = .ok (a, j) → i < j
theorem andP_ok {α β : Type} {r : Res α} {f : α → Nat → Res β} {b : β} {k : Nat} (h : andP r f = .ok (b, k)) : ∃ a j, r = .ok (a, j) ∧ f a j = .ok (b, k) := by
  cases r with
  | error p => simp [andP] at h
  | ok x => exact ⟨x.1, x.2, rfl, h⟩
theorem kindP_on (ws : List W) (k : Int) (i : Nat) : ∀ a j, kindP ws k i = .ok (a, j) → j = i + 1 ∧ ws[i]? = some a ∧ kindW a.1 = k := by
  intro a j h
  unfold kindP at h
  split at h
  · split at h
    · simp at h; obtain ⟨rfl, rfl⟩ := h; refine ⟨rfl, by assumption, by simp_all⟩
    · simp at h
  · simp at h
theorem skipP_on (ws : List W) (s : List UInt8) (i : Nat) : ∀ a j, skipP ws s i = .ok (a, j) → j = i + 1 ∧ ∃ x, ws[i]? = some x ∧ x.1.toList = s := by
  intro a j h
  unfold skipP at h
  split at h
  · split at h
    · simp at h; subst h; exact ⟨rfl, _, by assumption, by simp_all⟩
    · simp at h
  · simp at h
theorem typeP_on (ws : List W) (i : Nat) : ∀ a j, typeP ws i = .ok (a, j) → j = i + 1 ∧ ws[i]? = some a ∧ (kindW a.1 = 3 ∨ kindW a.1 = 1) := by
  intro a j h
  unfold typeP at h
  split at h
  · split at h
    · simp at h; obtain ⟨rfl, rfl⟩ := h; refine ⟨rfl, by assumption, by simp_all⟩
    · simp at h
  · simp at h
theorem numP_on (ws : List W) (i : Nat) : On i (numP ws i) := by
  intro a j h
  unfold numP at h
  obtain ⟨_, i1, h1, h⟩ := andP_ok h
  obtain ⟨_, i2, h2, h⟩ := andP_ok h
  obtain ⟨_, i3, h3, h⟩ := andP_ok h
  obtain ⟨_, i4, h4, h⟩ := andP_ok h
  have := (kindP_on _ _ _ _ _ h1).1
  have := (skipP_on _ _ _ _ _ h2).1
  have := (kindP_on _ _ _ _ _ h3).1
  have := (skipP_on _ _ _ _ _ h4).1
  simp at h
  omega
theorem fieldP_on (ws : List W) (form : Int) (i : Nat) : On i (fieldP ws form i) := by
  intro a j h
  unfold fieldP at h
  obtain ⟨_, i1, h1, h⟩ := andP_ok h
  obtain ⟨_, i2, h2, h⟩ := andP_ok h
  have := (typeP_on _ _ _ _ h1).1
  have := numP_on _ _ _ _ h2
  simp at h
  omega
theorem mapP_on (ws : List W) (i : Nat) : On i (mapP ws i) := by
  intro a j h
  unfold mapP at h
  obtain ⟨_, i1, h1, h⟩ := andP_ok h
  obtain ⟨_, i2, h2, h⟩ := andP_ok h
  obtain ⟨_, i3, h3, h⟩ := andP_ok h
  obtain ⟨_, i4, h4, h⟩ := andP_ok h
  obtain ⟨_, i5, h5, h⟩ := andP_ok h
  obtain ⟨_, i6, h6, h⟩ := andP_ok h
  obtain ⟨_, i7, h7, h⟩ := andP_ok h
  have := (skipP_on _ _ _ _ _ h1).1
  have := (skipP_on _ _ _ _ _ h2).1
  have := (typeP_on _ _ _ _ h3).1
  have := (skipP_on _ _ _ _ _ h4).1
  have := (typeP_on _ _ _ _ h5).1
  have := (skipP_on _ _ _ _ _ h6).1
  have := numP_on _ _ _ _ h7
  simp at h
  omega
theorem manyP_on {α : Type} (stop : Nat → Bool) (p : Nat → Res α) (hp : ∀ i, On i (p i)) : ∀ n i a j, manyP stop p n i = .ok (a, j) → i ≤ j
  | 0, i, a, j, h => by simp [manyP] at h; omega
  | n + 1, i, a, j, h => by
    unfold manyP at h
    split at h
    · simp at h; omega
    · obtain ⟨_, i1, h1, h⟩ := andP_ok h
      obtain ⟨_, i2, h2, h⟩ := andP_ok h
      have := hp _ _ _ h1
      have := manyP_on stop p hp _ _ _ _ h2
      simp at h
      omega
theorem oneofP_on (ws : List W) (i : Nat) : On i (oneofP ws i) := by
  intro a j h
  unfold oneofP at h
  obtain ⟨_, i1, h1, h⟩ := andP_ok h
  obtain ⟨_, i2, h2, h⟩ := andP_ok h
  obtain ⟨_, i3, h3, h⟩ := andP_ok h
  obtain ⟨_, i4, h4, h⟩ := andP_ok h
  obtain ⟨_, i5, h5, h⟩ := andP_ok h
  obtain ⟨_, i6, h6, h⟩ := andP_ok h
  obtain ⟨_, i7, h7, h8⟩ := andP_ok h5
  have := (skipP_on _ _ _ _ _ h1).1
  have := (kindP_on _ _ _ _ _ h2).1
  have := (skipP_on _ _ _ _ _ h3).1
  have := fieldP_on _ _ _ _ _ h4
  have := manyP_on _ _ (fieldP_on ws 3) _ _ _ _ h7
  have := (skipP_on _ _ _ _ _ h6).1
  simp at h h8
  omega
theorem aloneP_on {i : Nat} {r : Res FieldR} (hr : On i r) : On i (aloneP r) := by
  intro a j h
  obtain ⟨_, i1, h1, h⟩ := andP_ok h
  have := hr _ _ h1
  simp at h
  omega
theorem On.mono {α : Type} {i k : Nat} {r : Res α} (h : On k r) (hik : i ≤ k) : On i r := fun a j e => Nat.lt_of_le_of_lt hik (h a j e)
theorem partP_on (ws : List W) (i : Nat) : On i (partP ws i) := by
  unfold partP
  split
  · exact oneofP_on ws i
  · split
    · exact aloneP_on (mapP_on ws i)
    · split
      · exact aloneP_on ((fieldP_on ws 2 (i + 1)).mono (by omega))
      · split
        · exact aloneP_on ((fieldP_on ws 1 (i + 1)).mono (by omega))
        · exact aloneP_on (fieldP_on ws 0 i)

/-- One round of a loop that reads as often as it comes. -/
theorem manyP_stop {α : Type} {stop : Nat → Bool} {p : Nat → Res α} {n i : Nat} (h : stop i = true) : manyP stop p n i = .ok ([], i) := by
  cases n with
  | zero => rfl
  | succ n => simp [manyP, h]
theorem manyP_err {α : Type} {stop : Nat → Bool} {p : Nat → Res α} {n i q : Nat} (h : stop i = false) (hn : 0 < n) (hp : p i = .error q) : manyP stop p n i = .error q := by
  cases n with
  | zero => omega
  | succ n => simp [manyP, h, hp, andP]
theorem manyP_go {α : Type} {stop : Nat → Bool} {p : Nat → Res α} {n i j : Nat} {a : α} (pre : List α) (h : stop i = false) (hn : 0 < n) (hp : p i = .ok (a, j)) :
    preP pre (manyP stop p n i) = preP (pre ++ [a]) (manyP stop p (n - 1) j) := by
  cases n with
  | zero => omega
  | succ n =>
    simp only [manyP, h, hp, andP, Nat.add_sub_cancel]
    cases manyP stop p n j <;> simp [preP, andP]

end Go.Proofs.YtbbbegjedmicpaaGreatDoor

/-
  CONTRACTS of the reader by the grammar's functions: skip, kind, typeWord, numbered.
-/
namespace Go.Proofs.YtbbbegjedmicpaaGreatDoor
open Go.RowKit
attribute [local go_sem] f91_0 f91_1 f91_2

/-- What a reader's function does: it answers, and the place is behind what it has read; or it gives up. -/
def Post {α : Type} (w : World) (rb wb : Nat) (ws : List W) (r : Res α) (ret : α → World → Ending → Prop) (e : Ending) (w' : World) : Prop :=
  match r with
  | .ok (a, j) => ret a w' e ∧ Rd w' rb wb ws j ∧ Adv w.heap.size rb w w' j
  | .error p => e = fault 2 p ∧ ∃ j, Adv w.heap.size rb w w' j

theorem Rd.word {w : World} {rb wb i : Nat} {ws : List W} (R : Rd w rb wb ws i) : ∃ x, ws[i]? = some x := ⟨_, List.getElem?_eq_getElem R.lt⟩

theorem c68 (w : World) (rb wb : Nat) (ws : List W) (i : Nat) (k : Int) (R : Rd w rb wb ws i) (hk : k ≠ 4) :
    Calls Tryz.prog 185 #[.pointer (some ⟨rb, 0, none⟩), .int .i64 k] w (Post w rb wb ws (kindP ws k i) fun x _ e => e = .returned (.agg #[.int .i64 (kindW x.1), .string x.1, .int .i64 x.2])) := by
  obtain ⟨x, hx⟩ := R.word
  unfold kindP
  simp only [hx]
  by_cases h : kindW x.1 = k
  · rw [if_pos (by simpa using h)]
    exact (c68_ok w rb wb ws i x k R hx (by simp [h]) (size_of_kind (by rw [h]; exact hk))).mono fun e w' h => h
  · rw [if_neg (by simpa using h)]
    exact (c68_no w rb wb ws i x k R hx (by simpa using h)).mono fun e w' h => ⟨h.1, _, h.2⟩

theorem c67 (w : World) (rb wb : Nat) (ws : List W) (i : Nat) (s : ByteArray) (l : List UInt8) (R : Rd w rb wb ws i) (hs : s.toList = l) (hl : 0 < l.length) :
    Calls Tryz.prog 184 #[.pointer (some ⟨rb, 0, none⟩), .string s] w (Post w rb wb ws (skipP ws l i) fun _ _ e => e = .returned (.tuple #[])) := by
  obtain ⟨x, hx⟩ := R.word
  unfold skipP
  simp only [hx]
  by_cases h : (x.1.toList == l) = true
  · rw [if_pos h]
    exact (c67_ok w rb wb ws i x s R hx (by rw [hs]; exact h) (size_of_text h hl)).mono fun e w' h => h
  · rw [if_neg h]
    exact (c67_no w rb wb ws i x s R hx (by rw [hs]; simpa using h)).mono fun e w' h => ⟨h.1, _, h.2⟩

theorem old_adv {n rb : Nat} {w w1 : World} {j b : Nat} (h : Adv n rb w w1 j) (hb : b < n) (hne : b ≠ rb) : (∀ off, w1.cell? ⟨b, off, none⟩ = w.cell? ⟨b, off, none⟩) ∧ (∀ off, w1.frozen? ⟨b, off, none⟩ = w.frozen? ⟨b, off, none⟩) :=
  ⟨fun off => h.cell (a := ⟨b, off, none⟩) hb hne, fun off => (Below.frozen h (p := ⟨b, off, none⟩) hb).trans (World.frozen?_setCell _ _ _ _)⟩

set_option maxHeartbeats 400000 in
theorem c85 (w : World) (rb wb : Nat) (ws : List W) (i : Nat) (R : Rd w rb wb ws i) :
    Calls Tryz.prog 285 #[.pointer (some ⟨rb, 0, none⟩)] w (Post w rb wb ws (typeP ws i) fun x _ e => e = .returned (.agg #[.int .i64 (kindW x.1), .string x.1, .int .i64 x.2])) := by
  obtain ⟨x, hx⟩ := R.word
  have HX : Hid (ws[i]? = some x) := hx
  have B0 := (Below.refl w.heap.size w).alloc (Nat.le_refl _) (Obj.cells #[Value.int IntKind.i64 0, Value.string { data := #[] }, Value.int IntKind.i64 0] 114)
  have n1 : ¬ w.heap.size = rb := by have := R.blocks; omega
  unfold typeP
  simp only [hx]
  cases h : (kindW x.1 == 3)
  · have hk : kindP ws 1 i = if kindW x.1 == 1 then .ok (x, i + 1) else .error x.2 := by unfold kindP; simp only [hx]
    have HK := Hid.out (p := (Bool.false || (kindW x.1 == 1)) = (kindW x.1 == 1)) (by simp [Hid])
    rw [HK]
    have HK2 : Hid (kindP ws 1 i = if kindW x.1 == 1 then .ok (x, i + 1) else .error x.2) := hk
    clear hx hk HK
    go_enter Tryz.func285, Tryz.ntmps285
    go_wp2_with fail
    refine (c43 _ rb wb ws i x (R.alloc _) HX.out).mono ?_
    rintro e w1 ⟨rfl, hw1⟩
    have R1 := (R.alloc _).below hw1 (R.alloc _).blocks.1 (R.alloc _).blocks.2
    have A1 := Adv.of_below R.next (B0.trans (hw1.mono (by simp)))
    have z1 : w.heap.size < w1.heap.size := by have := hw1.size; simp at this; omega
    obtain ⟨t1, t2⟩ := old_below hw1 (b := w.heap.size) (by simp)
    go_wp2_with fail
    refine (c68 _ rb wb ws i 1 R1 (by decide)).mono ?_
    rw [HK2.out]
    cases h1 : (kindW x.1 == 1)
    · rintro e w2 ⟨rfl, j, A2⟩
      unfold fault
      go_wp2
      exact ⟨rfl, rfl, j, A1.trans A2 (by omega)⟩
    · rintro e w2 ⟨rfl, R2, A2⟩
      obtain ⟨u1, u2⟩ := old_adv A2 (b := w.heap.size) z1 n1
      have A3 := A1.trans A2 (by omega)
      go_wp2
      have A4 := ((A3.setCell (a := ⟨w.heap.size, 0, none⟩) (Nat.le_refl _) (Value.int IntKind.i64 (kindW x.fst))).setCell (a := ⟨w.heap.size, 1, none⟩) (Nat.le_refl _) (Value.string x.fst)).setCell (a := ⟨w.heap.size, 2, none⟩) (Nat.le_refl _) (Value.int IntKind.i64 x.snd)
      refine bodyPost_ret (v := .agg #[.int .i64 (kindW x.1), .string x.1, .int .i64 x.2]) ?_ rfl ⟨rfl, ?_, A4⟩
      · simp [results, Tryz.results285, go_sem, *]
      · exact A4.rd R R.blocks.1 R.blocks.2 R2.lt
  · have hp : 0 < x.1.size := size_of_kind (by simp at h; omega)
    clear hx
    go_enter Tryz.func285, Tryz.ntmps285
    go_wp2_with fail
    refine (c43 _ rb wb ws i x (R.alloc _) HX.out).mono ?_
    rintro e w1 ⟨rfl, hw1⟩
    have R1 := (R.alloc _).below hw1 (R.alloc _).blocks.1 (R.alloc _).blocks.2
    have A1 := Adv.of_below R.next (B0.trans (hw1.mono (by simp)))
    have z1 : w.heap.size < w1.heap.size := by have := hw1.size; simp at this; omega
    obtain ⟨t1, t2⟩ := old_below hw1 (b := w.heap.size) (by simp)
    go_wp2_with fail
    refine (c76 _ rb wb ws i x R1 HX.out hp).mono ?_
    rintro e w2 ⟨rfl, R2, A2⟩
    obtain ⟨u1, u2⟩ := old_adv A2 (b := w.heap.size) z1 n1
    have A3 := A1.trans A2 (by omega)
    go_wp2
    have A4 := ((A3.setCell (a := ⟨w.heap.size, 0, none⟩) (Nat.le_refl _) (Value.int IntKind.i64 (kindW x.fst))).setCell (a := ⟨w.heap.size, 1, none⟩) (Nat.le_refl _) (Value.string x.fst)).setCell (a := ⟨w.heap.size, 2, none⟩) (Nat.le_refl _) (Value.int IntKind.i64 x.snd)
    refine bodyPost_ret (v := .agg #[.int .i64 (kindW x.1), .string x.1, .int .i64 x.2]) ?_ rfl ⟨rfl, ?_, A4⟩
    · simp [results, Tryz.results285, go_sem, *]
    · exact A4.rd R R.blocks.1 R.blocks.2 R2.lt

end Go.Proofs.YtbbbegjedmicpaaGreatDoor

/-
  CONTRACT: numbered.
-/
namespace Go.Proofs.YtbbbegjedmicpaaGreatDoor
open Go.RowKit
attribute [local go_sem] f91_0 f91_1 f91_2

theorem andP_err {α β : Type} {r : Res α} {f : α → Nat → Res β} {p : Nat} (h : r = .error p) : andP r f = .error p := by rw [h]; rfl
theorem andP_go {α β : Type} {r : Res α} {f : α → Nat → Res β} {a : α} {j : Nat} (h : r = .ok (a, j)) : andP r f = f a j := by rw [h]; rfl

set_option maxHeartbeats 1000000 in
theorem c69 (w : World) (rb wb : Nat) (ws : List W) (i : Nat) (R : Rd w rb wb ws i) :
    Calls Tryz.prog 186 #[.pointer (some ⟨rb, 0, none⟩)] w (Post w rb wb ws (numP ws i) fun x _ e => e = .returned (.tuple #[.agg #[.int .i64 (kindW x.1.1), .string x.1.1, .int .i64 x.1.2], .agg #[.int .i64 (kindW x.2.1), .string x.2.1, .int .i64 x.2.2]])) := by
  have B0 := ((Below.refl w.heap.size w).alloc (Nat.le_refl _) (Obj.cells #[Value.int IntKind.i64 0, Value.string { data := #[] }, Value.int IntKind.i64 0] 114)).alloc (by simp) (Obj.cells #[Value.int IntKind.i64 0, Value.string { data := #[] }, Value.int IntKind.i64 0] 114)
  have n1 : ¬ w.heap.size = rb := by have := R.blocks; omega
  have n2 : ¬ w.heap.size + 1 = rb := by have := R.blocks; omega
  have n3 : ¬ rb = w.heap.size := by have := R.blocks; omega
  have n4 : ¬ rb = w.heap.size + 1 := by have := R.blocks; omega
  have R0 := (R.alloc (Obj.cells #[Value.int IntKind.i64 0, Value.string { data := #[] }, Value.int IntKind.i64 0] 114)).alloc (Obj.cells #[Value.int IntKind.i64 0, Value.string { data := #[] }, Value.int IntKind.i64 0] 114)
  have A0 := Adv.of_below R.next B0
  generalize hr : numP ws i = r
  have HR : Hid (numP ws i = r) := hr
  go_enter Tryz.func186, Tryz.ntmps186
  go_wp2_with fail
  refine (c68 _ rb wb ws i 1 R0 (by decide)).mono ?_
  cases h1 : kindP ws 1 i with
  | error p =>
    rintro e w1 ⟨rfl, j, A1⟩
    obtain rfl : r = .error p := by rw [← HR.out, numP, andP_err h1]
    unfold fault
    go_wp2
    exact ⟨rfl, rfl, j, A0.trans A1 (by simp; omega)⟩
  | ok q =>
    obtain ⟨x, i1⟩ := q
    rintro e w1 ⟨rfl, R1, A1⟩
    have z1 : w.heap.size + 1 < w1.heap.size := by have := A1.size; simp at this; omega
    obtain ⟨t1, t2⟩ := old_adv A1 (b := w.heap.size) (by simp; omega) n1
    obtain ⟨t3, t4⟩ := old_adv A1 (b := w.heap.size + 1) (by simp) n2
    have A2 := ((((A0.trans A1 (by simp; omega)).setCell (a := ⟨w.heap.size, 0, none⟩) (Nat.le_refl _) (Value.int IntKind.i64 (kindW x.fst))).setCell (a := ⟨w.heap.size, 1, none⟩) (Nat.le_refl _) (Value.string x.fst)).setCell (a := ⟨w.heap.size, 2, none⟩) (Nat.le_refl _) (Value.int IntKind.i64 x.snd))
    have R2 := A2.rd R R.blocks.1 R.blocks.2 R1.lt
    go_wp2_with fail
    refine (c67 _ rb wb ws i1 _ [61] R2 (by decide +kernel) (by decide)).mono ?_
    cases h2 : skipP ws [61] i1 with
    | error p =>
      rintro e w2 ⟨rfl, j, A3⟩
      obtain rfl : r = .error p := by rw [← HR.out, numP, andP_go h1, andP_err h2]
      unfold fault
      go_wp2
      exact ⟨rfl, rfl, j, A2.trans A3 (by simp; omega)⟩
    | ok q =>
      obtain ⟨_, i2⟩ := q
      rintro e w2 ⟨rfl, R3, A3⟩
      have z2 : w.heap.size + 1 < w2.heap.size := by have := A3.size; simp at this; omega
      obtain ⟨s1, s2⟩ := old_adv A3 (b := w.heap.size) (by simp; omega) n1
      obtain ⟨s3, s4⟩ := old_adv A3 (b := w.heap.size + 1) (by simp; omega) n2
      have A4 := A2.trans A3 (by simp; omega)
      have k0 : w2.cell? ⟨w.heap.size, 0, none⟩ = some (.int .i64 (kindW x.1)) := by simp [go_sem, s1, t1]
      have k1 : w2.cell? ⟨w.heap.size, 1, none⟩ = some (.string x.1) := by simp [go_sem, s1, t1]
      have k2 : w2.cell? ⟨w.heap.size, 2, none⟩ = some (.int .i64 x.2) := by simp [go_sem, s1, t1]
      have k3 : ∀ off, w2.frozen? ⟨w.heap.size, off, none⟩ = false := by simp [go_sem, s2, t2]
      have k4 : ∀ off, w2.frozen? ⟨w.heap.size + 1, off, none⟩ = false := by simp [go_sem, s4, t4]
      have k5 : w2.cell? ⟨w.heap.size + 1, 0, none⟩ = some (.int .i64 0) := by simp [go_sem, s3, t3]
      have k6 : w2.cell? ⟨w.heap.size + 1, 1, none⟩ = some (.string ⟨#[]⟩) := by simp [go_sem, s3, t3]
      have k7 : w2.cell? ⟨w.heap.size + 1, 2, none⟩ = some (.int .i64 0) := by simp [go_sem, s3, t3]
      go_wp2_with fail
      refine (c68 _ rb wb ws i2 2 R3 (by decide)).mono ?_
      cases h3 : kindP ws 2 i2 with
      | error p =>
        rintro e w3 ⟨rfl, j, A5⟩
        obtain rfl : r = .error p := by rw [← HR.out, numP, andP_go h1, andP_go h2, andP_err h3]
        unfold fault
        go_wp2
        exact ⟨rfl, rfl, j, A4.trans A5 (by omega)⟩
      | ok q =>
        obtain ⟨y, i3⟩ := q
        rintro e w3 ⟨rfl, R5, A5⟩
        have z3 : w.heap.size + 1 < w3.heap.size := by have := A5.size; omega
        obtain ⟨v1, v2⟩ := old_adv A5 (b := w.heap.size) (by omega) n1
        obtain ⟨v3, v4⟩ := old_adv A5 (b := w.heap.size + 1) (by omega) n2
        have A6 := ((((A4.trans A5 (by omega)).setCell (a := ⟨w.heap.size + 1, 0, none⟩) (Nat.le_succ _) (Value.int IntKind.i64 (kindW y.fst))).setCell (a := ⟨w.heap.size + 1, 1, none⟩) (Nat.le_succ _) (Value.string y.fst)).setCell (a := ⟨w.heap.size + 1, 2, none⟩) (Nat.le_succ _) (Value.int IntKind.i64 y.snd))
        have R6 := A6.rd R R.blocks.1 R.blocks.2 R5.lt
        go_wp2_with fail
        refine (c67 _ rb wb ws i3 _ [59] R6 (by decide +kernel) (by decide)).mono ?_
        cases h4 : skipP ws [59] i3 with
        | error p =>
          rintro e w4 ⟨rfl, j, A7⟩
          obtain rfl : r = .error p := by rw [← HR.out, numP, andP_go h1, andP_go h2, andP_go h3, andP_err h4]
          unfold fault
          go_wp2
          exact ⟨rfl, rfl, j, A6.trans A7 (by simp; omega)⟩
        | ok q =>
          obtain ⟨_, i4⟩ := q
          rintro e w4 ⟨rfl, R7, A7⟩
          have z4 : w.heap.size + 1 < w4.heap.size := by have := A7.size; simp at this; omega
          obtain ⟨x1, x2⟩ := old_adv A7 (b := w.heap.size) (by simp; omega) n1
          obtain ⟨x3, x4⟩ := old_adv A7 (b := w.heap.size + 1) (by simp; omega) n2
          have A8 := A6.trans A7 (by simp; omega)
          have m0 : w4.cell? ⟨w.heap.size, 0, none⟩ = some (.int .i64 (kindW x.1)) := by simp [go_sem, x1, v1, k0]
          have m1 : w4.cell? ⟨w.heap.size, 1, none⟩ = some (.string x.1) := by simp [go_sem, x1, v1, k1]
          have m2 : w4.cell? ⟨w.heap.size, 2, none⟩ = some (.int .i64 x.2) := by simp [go_sem, x1, v1, k2]
          have m3 : ∀ off, w4.frozen? ⟨w.heap.size, off, none⟩ = false := by simp [go_sem, x2, v2, k3]
          have m4 : ∀ off, w4.frozen? ⟨w.heap.size + 1, off, none⟩ = false := by simp [go_sem, x4, v4, k4]
          have m5 : w4.cell? ⟨w.heap.size + 1, 0, none⟩ = some (.int .i64 (kindW y.1)) := by simp [go_sem, x3, v3, k5]
          have m6 : w4.cell? ⟨w.heap.size + 1, 1, none⟩ = some (.string y.1) := by simp [go_sem, x3, v3, k6]
          have m7 : w4.cell? ⟨w.heap.size + 1, 2, none⟩ = some (.int .i64 y.2) := by simp [go_sem, x3, v3, k7]
          clear x1 x2 x3 x4 v1 v2 v3 v4 k0 k1 k2 k3 k4 k5 k6 k7
          obtain rfl : r = .ok ((x, y), i4) := by rw [← HR.out, numP, andP_go h1, andP_go h2, andP_go h3, andP_go h4]
          go_wp2
          go_region
          have A9 := ((((((A8.setCell (a := ⟨w.heap.size, 0, none⟩) (Nat.le_refl _) (Value.int IntKind.i64 (kindW x.fst))).setCell (a := ⟨w.heap.size, 1, none⟩) (Nat.le_refl _) (Value.string x.fst)).setCell (a := ⟨w.heap.size, 2, none⟩) (Nat.le_refl _) (Value.int IntKind.i64 x.snd)).setCell (a := ⟨w.heap.size + 1, 0, none⟩) (Nat.le_succ _) (Value.int IntKind.i64 (kindW y.fst))).setCell (a := ⟨w.heap.size + 1, 1, none⟩) (Nat.le_succ _) (Value.string y.fst)).setCell (a := ⟨w.heap.size + 1, 2, none⟩) (Nat.le_succ _) (Value.int IntKind.i64 y.snd)).drew
          go_wp2
          refine bodyPost_ret (v := .tuple #[.agg #[.int .i64 (kindW x.1), .string x.1, .int .i64 x.2], .agg #[.int .i64 (kindW y.1), .string y.1, .int .i64 y.2]]) ?_ rfl ⟨rfl, ?_, A9⟩
          · simp [results, Tryz.results186, go_sem, *]
          · exact A9.rd R R.blocks.1 R.blocks.2 R7.lt

end Go.Proofs.YtbbbegjedmicpaaGreatDoor

/-
  A BLOCK OF CELLS KNOWN WHOLE: how it fares.
-/
namespace Go.Proofs.YtbbbegjedmicpaaGreatDoor
open Go.RowKit

def Blk (w : World) (b : Nat) (cs : Array Value) (T : TypeId) : Prop := w.heap[b]? = some (.cells cs T (0, 0))

theorem below_on {a b c : World} (h : Below a.heap.size a b) (k : Below b.heap.size b c) : Below a.heap.size a c :=
  h.trans ⟨k.os, k.tape, k.output, k.size, fun i hi => k.block i (Nat.lt_of_lt_of_le hi h.size)⟩
theorem Blk.new (w : World) (cs : Array Value) (T : TypeId) : Blk (w.alloc (.cells cs T)) w.heap.size cs T := heap_alloc_new w _
theorem Blk.lt {w : World} {b : Nat} {cs : Array Value} {T : TypeId} (h : Blk w b cs T) : b < w.heap.size := by
  unfold Blk at h
  by_cases hb : b < w.heap.size
  · exact hb
  · rw [Array.getElem?_eq_none (by omega)] at h; cases h
theorem one_new (w : World) (cs : Array Value) (T : TypeId) : Below w.heap.size w (w.alloc (Obj.cells cs T)) ∧ Blk (w.alloc (Obj.cells cs T)) w.heap.size cs T := ⟨(Below.refl _ _).alloc (Nat.le_refl _) _, Blk.new w cs T⟩
theorem Blk.alloc {w : World} {b : Nat} {cs : Array Value} {T : TypeId} (h : Blk w b cs T) (o : Obj) : Blk (w.alloc o) b cs T := (Below.heap_alloc w o b h.lt).trans h
theorem Blk.below {w w1 : World} {n b : Nat} {cs : Array Value} {T : TypeId} (h : Blk w b cs T) (hb : Below n w w1) (hn : b < n) : Blk w1 b cs T := (hb.block b hn).trans h
theorem Blk.adv_ {w w1 : World} {n rb j b : Nat} {cs : Array Value} {T : TypeId} (h : Blk w b cs T) (ha : Adv n rb w w1 j) (hn : b < n) (hne : b ≠ rb) : Blk w1 b cs T := by
  unfold Blk at *
  rw [Below.block ha b hn, Go.Proofs.YtbbbegjedmicpaaGreatDoor.adv, heap_setCell, if_neg (fun e => hne e.symm)]
  exact h
theorem Blk.set {w : World} {b : Nat} {cs : Array Value} {T : TypeId} (h : Blk w b cs T) (off : Nat) (v : Value) : Blk (w.setCell ⟨b, off, none⟩ v) b (cs.setIfInBounds off v) T := by
  unfold Blk at *
  rw [heap_setCell, if_pos rfl, h]; rfl
theorem Blk.other {w : World} {b : Nat} {cs : Array Value} {T : TypeId} (h : Blk w b cs T) {c : Nat} (off : Nat) (v : Value) (hne : c ≠ b) : Blk (w.setCell ⟨c, off, none⟩ v) b cs T := by
  unfold Blk at *
  rw [heap_setCell, if_neg hne, h]
theorem Blk.drew {w : World} {b : Nat} {cs : Array Value} {T : TypeId} (h : Blk w b cs T) : Blk w.drew b cs T := h
theorem Blk.grown {w w1 : World} {row : Option Nat} {b : Nat} {cs : Array Value} {T : TypeId} (h : Blk w b cs T) (hg : w.grownBy w1 row) (hne : some b ≠ row) : Blk w1 b cs T := (hg.block b h.lt hne).trans h
theorem Blk.cell {w : World} {b : Nat} {cs : Array Value} {T : TypeId} (h : Blk w b cs T) (off : Nat) : w.cell? ⟨b, off, none⟩ = cs[off]? := by
  unfold Blk at h
  simp [World.cell?, h]
theorem Blk.rules {w : World} {b : Nat} {cs : Array Value} {T : TypeId} (h : Blk w b cs T) : (∀ off, w.cell? ⟨b, off, none⟩ = cs[off]?) ∧ (∀ off, w.frozen? ⟨b, off, none⟩ = false) := by
  refine ⟨h.cell, fun off => ?_⟩
  unfold Blk at h
  simp [World.frozen?, h]

/-- Many stores, one behind the other. -/
theorem Adv.sets {w w' : World} {n rb j : Nat} (h : Adv n rb w w' j) {b : Nat} (hb : n ≤ b) : ∀ (vs : List Value) (o : Nat), Adv n rb w (w'.setCells b o vs) j
  | [], o => h
  | v :: vs, o => by
    have := Adv.sets (h.setCell (a := ⟨b, o, none⟩) hb v) hb vs (o + 1)
    simpa [World.setCells] using this

theorem Blk.sets_other {w : World} {b : Nat} {cs : Array Value} {T : TypeId} (h : Blk w b cs T) {c : Nat} (hne : c ≠ b) : ∀ (vs : List Value) (o : Nat), Blk (w.setCells c o vs) b cs T
  | [], o => h
  | v :: vs, o => by
    have := Blk.sets_other (h.other o v hne) hne vs (o + 1)
    simpa [World.setCells] using this
theorem Blk.sets {w : World} {b : Nat} {T : TypeId} : ∀ (vs pre old post : List Value), Blk w b (pre ++ old ++ post).toArray T → vs.length = old.length → Blk (w.setCells b pre.length vs) b (pre ++ vs ++ post).toArray T
  | [], pre, old, post, h, hl => by
    have : old = [] := List.eq_nil_of_length_eq_zero hl.symm
    subst this
    simpa [World.setCells] using h
  | v :: vs, pre, [], post, h, hl => by simp at hl
  | v :: vs, pre, o :: old, post, h, hl => by
    have h1 := h.set pre.length v
    have e : ((pre ++ o :: old ++ post).toArray).setIfInBounds pre.length v = ((pre ++ [v]) ++ old ++ post).toArray := by
      simp [List.set_append_right]
    rw [e] at h1
    have := Blk.sets vs (pre ++ [v]) old post h1 (by simpa using hl)
    simpa [World.setCells] using this
theorem Blk.sets_all {w : World} {b : Nat} {cs : Array Value} {T : TypeId} (h : Blk w b cs T) (vs : List Value) (hl : vs.length = cs.size) : Blk (w.setCells b 0 vs) b vs.toArray T := by
  have := Blk.sets vs [] cs.toList [] (w := w) (b := b) (T := T) (by simpa using h) (by simpa using hl)
  simpa using this

/-- A result that lies in a cell of its own. -/
theorem ret_cell {fn : Func} {p : Tmp} {ty : TypeId} {b : Nat} {cs : Array Value} {fs : Array Field} (h : fn.results = #[.cell p ty]) (tmps : Array Value) (W : World) (hp : tmps.getD p undef = .pointer (some ⟨b, 0, none⟩)) (K : Blk W b cs ty)
    (hu : Tryz.prog.underlying ty = some (.struct fs)) (hi : (Tryz.prog.info? ty).map (·.size) = some cs.size) :
    (results fn tmps).run Tryz.prog W = .ok (.agg cs) W := by
  have hl := run_loadVar_row (P := Tryz.prog) W b ty ty cs (0, 0) _ K hu rfl hi
  have hp' : tmps[p]?.getD undef = .pointer (some ⟨b, 0, none⟩) := by simpa using hp
  simp only [results, h]
  simp [hp', asAddr, hl]

end Go.Proofs.YtbbbegjedmicpaaGreatDoor
