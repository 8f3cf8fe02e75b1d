import Derived.Test.YtbbbegjedmicpaaGreatDoorRdI
import Derived.BigQuiet
import Derived.Laws.BytesArg
import Derived.Deep.AppendLies
import Derived.ArgAppend
import Derived.OwnWalk

/-
  THE LAW, CONTRACTS: pick, sameT, mark.
-/
namespace Go.Proofs.YtbbbegjedmicpaaGreatDoor
open Go.RowKit

set_option maxHeartbeats 1000000 in
theorem c8 (w : World) (c : Int) (h1 : -9223372036854775808 ≤ c) (h2 : c ≤ 9223372036854775807) :
    Calls Tryz.prog 9 #[.int .i64 c, .int .i64 20] w fun e w' => (∃ r : Int, e = .returned (.int .i64 r) ∧ 0 ≤ r ∧ r < 20) ∧ w' = w := by
  by_cases hc : c < 0
  · go_enter Tryz.func9, Tryz.ntmps9
    go_wp2
    go_ret
    have h3 := Int.neg_tmod (c + 1) 20
    have h4 := Int.tmod_nonneg (a := -(c + 1)) 20 (by omega)
    have h5 := Int.tmod_lt_of_pos (-(c + 1)) (b := 20) (by omega)
    exact ⟨⟨_, rfl, by omega, by omega⟩, rfl⟩
  · go_enter Tryz.func9, Tryz.ntmps9
    go_wp2
    go_ret
    exact ⟨⟨_, rfl, by omega, by omega⟩, rfl⟩

set_option maxHeartbeats 1000000 in
theorem c9 (w : World) (lo lo' : Nat) (v v' : Value) (l : List ByteArray) (hlen : l.length ≤ 2001) (h : w.ownsRow lo 9 1 v l.length (strCells l)) (h' : w.ownsRow lo' 9 1 v' l.length (strCells l)) :
    Calls Tryz.prog 10 #[v, v'] w fun e w' => e = .returned (.bool true) ∧ Below w.heap.size w w' := by
  obtain ⟨va, vc, rfl⟩ := row_v h
  obtain ⟨ua, uc, rfl⟩ := row_v h'
  go_enter Tryz.func10, Tryz.ntmps10
  go_wp2
  go_loopw [5] (fun i wr => ∃ (k nq : Nat), k ≤ l.length ∧ i = .int .i64 k ∧ wr = w.drewN nq) (fun i _ => l.length - (intOf i).toNat)
  case atStart => exact ⟨0, 0, Nat.zero_le _, rfl, rfl⟩
  case round =>
    obtain ⟨k, nq, hk, rfl, rfl⟩ := hrel
    by_cases hlt : k < l.length
    · obtain ⟨x, hx⟩ := gx hlt
      obtain ⟨g, rfl, _, hgl, hcell⟩ := ownsRow_at h (by omega)
      obtain ⟨g', rfl, _, hgl', hcell'⟩ := ownsRow_at h' (by omega)
      have q := hcell w rfl k (.string x) (by simp [strCells, hx])
      have q' := hcell' w rfl k (.string x) (by simp [strCells, hx])
      have hli : (k : Int) < (l.length : Int) := by omega
      have hxx : (x.toList == x.toList) = true := by simp
      clear hcell hcell'
      go_wp2_with fail
      go_quiet (fail)
      go_wp2
      go_roundw
      case rel => exact ⟨k + 1, _, by omega, by go_num, rfl⟩
      case measure => simp [intOf]; omega
    · have hli : ¬ (k : Int) < (l.length : Int) := by omega
      go_wp2
      go_ret
      exact ⟨rfl, belowN (Below.refl _ _) _⟩

set_option maxRecDepth 100000 in
set_option maxHeartbeats 1000000 in
theorem c23 (w : World) (n : Nat) (hn : n ≤ 1000) :
    Calls Tryz.prog 27 #[.int .i64 n] w fun e w' => (∃ m : ByteArray, e = .returned (.string m)) ∧ Below w.heap.size w w' := by
  go_enter Tryz.func27, Tryz.ntmps27
  go_wp2
  go_loopw [0, 3] (fun i s wr => ∃ (k : Nat) (m : ByteArray), k ≤ n ∧ i = .int .i64 k ∧ s = .string m ∧ m.size + k ≤ n + 4 ∧ Below w.heap.size w wr) (fun i _ _ => (intOf i).toNat)
  case atStart => exact ⟨n, ⟨#[109, 97, 114, 107]⟩, Nat.le_refl _, rfl, rfl, by show 4 + n ≤ n + 4; omega, Below.refl _ _⟩
  case round =>
    obtain ⟨k, m, hk, rfl, rfl, hm, hb⟩ := hrel
    by_cases hlt : 0 < k
    · have hli : (0 : Int) < (k : Int) := by omega
      have kc : ∀ z : Int, (convert 147 9 (.slice (some ⟨wr.heap.size, 0, none⟩) 1 1)).run Tryz.prog (wr.alloc (Obj.cells #[.int .u8 z] 5)) = .ok (.string (strOfNums [z])) (wr.alloc (Obj.cells #[.int .u8 z] 5)) := fun z =>
        run_convert_bytes_arg _ 147 5 Tryz.underlying147 Tryz.underlying5 wr.heap.size 0 1 1 [z] rfl (fun i hi => by
          obtain rfl : i = 0 := by omega
          exact (Blk.new wr #[.int .u8 z] 5).cell 0) 9 Tryz.underlying9
      have ksz : ∀ z : Int, (strOfNums [z]).size = 1 := fun _ => rfl
      go_wp2
      go_roundw
      case rel => exact ⟨k / 10, _, by omega, by simp, rfl, by rw [ByteArray.size_append, ksz]; omega, hb.alloc hb.size _⟩
      case measure => simp [intOf]; omega
    · have hli : decide ((0 : Int) < (k : Int)) = false := by simp; omega
      go_wp2
      go_ret
      exact ⟨⟨_, rfl⟩, hb⟩

end Go.Proofs.YtbbbegjedmicpaaGreatDoor

/-
  THE LAW: its books in memory.
-/
namespace Go.Proofs.YtbbbegjedmicpaaGreatDoor
open Go.RowKit

theorem Tryz.info30 : (Tryz.prog.info? 30).map (fun i => (i.zero, i.size, i.bytes)) = some (some (.slice none 0 0), 1, 24) := by kernel_rfl
theorem cell_one (w : World) (a : Value) (t : TypeId) : ∀ j u, [a][j]? = some u → (w.alloc (.cells #[a] t)).cell? ((⟨w.heap.size, 0, none⟩ : Addr).add j) = some u := by
  intro j u hu
  cases j with
  | zero =>
    simp at hu
    subst hu
    exact (Blk.new w #[a] t).cell 0
  | succ j => simp at hu

theorem row_base {w : World} {base base' : Nat} {e : TypeId} {size : Nat} {v : Value} {n : Nat} {xs : List Value} (h : w.ownsRow base e size v n xs) (hb : base' ≤ base) : w.ownsRow base' e size v n xs := by
  refine ⟨h.1, ?_⟩
  rcases h.2 with h2 | ⟨g, cap, cur, h1, h2, h3⟩
  · exact .inl h2
  · exact .inr ⟨g, cap, cur, h1, Nat.le_trans hb h2, h3⟩

/-- A list whose texts are all the same. -/
def BkEnt (w : World) (base : Nat) (v : Value) (m : ByteArray) : Prop :=
  v = .slice none 0 0 ∨ ∃ g k cap cur, v = .slice (some ⟨g, 0, none⟩) k cap ∧ base ≤ g ∧ w.heap[g]? = some (.cells cur 9 (0, 0)) ∧ k ≤ 2010 ∧ ∀ j, j < k → cur[j]? = some (.string m)
theorem BkEnt.keep {w w' : World} {base : Nat} {v : Value} {m : ByteArray} (h : BkEnt w base v m) (hk : ∀ b, v.ownBlock = some b → b < w.heap.size → w'.heap[b]? = w.heap[b]?) : BkEnt w' base v m := by
  rcases h with h | ⟨g, k, cap, cur, rfl, h2, h3, h4⟩
  · exact .inl h
  · exact .inr ⟨g, k, cap, cur, rfl, h2, (hk g rfl (Blk.lt h3)).trans h3, h4⟩
theorem BkEnt.of_row {w : World} {base j : Nat} {v : Value} {m : ByteArray} (h : w.ownsRow base 9 1 v j (List.replicate j (.string m))) (hj : j ≤ 2010) : BkEnt w base v m := by
  rcases h.2 with ⟨h1, _⟩ | ⟨g, cap, cur, h1, h2, h3, h4, h5, h6, h7⟩
  · exact .inl h1
  · refine .inr ⟨g, j, cap, cur, h1, h2, h3, hj, fun i hi => ?_⟩
    have : (cur.toList.take (j * 1))[i]? = some (.string m) := by rw [h7]; simp [hi]
    rw [List.getElem?_take, if_pos (by omega)] at this
    simpa using this

def slen : Value → Nat | .slice _ k _ => k | _ => 0

/-- The books. -/
structure BkAt (w : World) (bb n : Nat) (tv tn : Value) (ts : List Value) (ns : List ByteArray) : Prop where
  blk : Blk w bb #[.int .i64 n, .slice none 0 0, .slice none 0 0, .slice none 0 0, .slice none 0 0, tv, tn] 39
  tr : w.ownsRow (bb + 1) 30 1 tv ts.length ts
  nr : w.ownsRow (bb + 1) 9 1 tn ns.length (strCells ns)
  d : ∀ b, tv.ownBlock = some b → tn.ownBlock ≠ some b
  e : ∀ (i : Nat) x y, ts[i]? = some x → ns[i]? = some y → BkEnt w (bb + 1) x y
  a : ∀ x ∈ ts, ∀ b, x.ownBlock = some b → bb < b ∧ b < w.heap.size ∧ tn.ownBlock ≠ some b ∧ tv.ownBlock ≠ some b

theorem BkAt.new (w : World) : BkAt (w.alloc (Obj.cells #[.int .i64 0, .slice none 0 0, .slice none 0 0, .slice none 0 0, .slice none 0 0, .slice none 0 0, .slice none 0 0] 39)) w.heap.size 0 (.slice none 0 0) (.slice none 0 0) [] [] :=
  ⟨Blk.new _ _ _, World.ownsRow_nil _ _ _ _, World.ownsRow_nil _ _ _ _, fun b hb => by simp [Value.ownBlock] at hb, fun i x y hx => by simp at hx, fun x hx => by simp at hx⟩

/-- The books stay while other blocks turn. -/
theorem BkAt.keep {w w' : World} {bb n : Nat} {tv tn : Value} {ts : List Value} {ns : List ByteArray} (h : BkAt w bb n tv tn ts ns) (hs : w.heap.size ≤ w'.heap.size)
    (hk : ∀ b, b < w.heap.size → (b = bb ∨ tv.ownBlock = some b ∨ tn.ownBlock = some b ∨ ∃ x ∈ ts, x.ownBlock = some b) → w'.heap[b]? = w.heap[b]?) : BkAt w' bb n tv tn ts ns :=
  ⟨(hk bb h.blk.lt (.inl rfl)).trans h.blk, ownsRow_keep h.tr (fun b hb => hk b (h.tr.lt b hb).2 (.inr (.inl hb))), ownsRow_keep h.nr (fun b hb => hk b (h.nr.lt b hb).2 (.inr (.inr (.inl hb)))), h.d,
    fun i x y hx hy => (h.e i x y hx hy).keep (fun b hb hl => hk b hl (.inr (.inr (.inr ⟨x, List.mem_of_getElem? hx, hb⟩)))),
    fun x hx b hb => by obtain ⟨h1, h2, h3⟩ := h.a x hx b hb; exact ⟨h1, Nat.lt_of_lt_of_le h2 hs, h3⟩⟩
theorem BkAt.below {w w' : World} {bb n : Nat} {tv tn : Value} {ts : List Value} {ns : List ByteArray} (h : BkAt w bb n tv tn ts ns) (hb : Below w.heap.size w w') : BkAt w' bb n tv tn ts ns :=
  h.keep hb.size (fun b hl _ => hb.block b hl)
theorem BkAt.count {w : World} {bb n : Nat} {tv tn : Value} {ts : List Value} {ns : List ByteArray} (h : BkAt w bb n tv tn ts ns) (n' : Nat) : BkAt (w.setCell ⟨bb, 0, none⟩ (.int .i64 n')) bb n' tv tn ts ns := by
  have hne : ∀ b, b ≠ bb → (w.setCell ⟨bb, 0, none⟩ (.int .i64 n')).heap[b]? = w.heap[b]? := fun b hb => Below.heap_setCell _ _ _ _ hb
  refine ⟨?_, ownsRow_setCell_below h.tr (by simp) _, ownsRow_setCell_below h.nr (by simp) _, h.d, fun i x y hx hy => (h.e i x y hx hy).keep (fun b hb _ => hne b (by have := (h.a x (List.mem_of_getElem? hx) b hb).1; omega)), fun x hx b hb => by obtain ⟨h1, h2, h3⟩ := h.a x hx b hb; exact ⟨h1, by simpa [World.setCell] using h2, h3⟩⟩
  have := h.blk.set 0 (.int .i64 n')
  exact this

/-- The books, and a list that is about to be written into them, of which some entries may share the block. -/
structure TxAt (w : World) (bb n : Nat) (m : ByteArray) (v : Value) (j : Nat) (tv tn : Value) (ts : List Value) (ns : List ByteArray) : Prop where
  bk : BkAt w bb n tv tn ts ns
  row : w.ownsRow (bb + 1) 9 1 v j (List.replicate j (.string m))
  ap : ∀ b, v.ownBlock = some b → tn.ownBlock ≠ some b ∧ tv.ownBlock ≠ some b
  sh : ∀ (i : Nat) x y, ts[i]? = some x → ns[i]? = some y → ∀ b, x.ownBlock = some b → v.ownBlock = some b → y = m ∧ slen x ≤ j
  jl : j ≤ 2009

section
variable {w w5 : World} {bb n : Nat} {m : ByteArray} {v : Value} {j : Nat} {tv tn : Value} {ts : List Value} {ns : List ByteArray}

theorem TxAt.addT (h : TxAt w bb n m v j tv tn ts ns) (hl : ns.length = ts.length) {tv' : Value} (hs : w.heap.size ≤ w5.heap.size) (hk : ∀ k, k < w.heap.size → some k ≠ tv.ownBlock → w5.heap[k]? = w.heap[k]?)
    (hown : w5.ownsRow (bb + 1) 30 1 tv' (ts.length + 1) (ts ++ [v])) (hat : ∀ b, tv'.ownBlock = some b → tv.ownBlock = some b ∨ w.heap.size ≤ b) :
    Blk w5 bb #[.int .i64 n, .slice none 0 0, .slice none 0 0, .slice none 0 0, .slice none 0 0, tv, tn] 39 ∧ TxAt (w5.setCell ⟨bb, 5, none⟩ tv') bb n m v j tv' tn (ts ++ [v]) ns := by
  have hbb : some bb ≠ tv.ownBlock := fun e => by have := (h.bk.tr.lt bb e.symm).1; omega
  have K5 : Blk w5 bb #[.int .i64 n, .slice none 0 0, .slice none 0 0, .slice none 0 0, .slice none 0 0, tv, tn] 39 := (hk bb h.bk.blk.lt hbb).trans h.bk.blk
  have hk6 : ∀ k, k < w.heap.size → k ≠ bb → some k ≠ tv.ownBlock → (w5.setCell ⟨bb, 5, none⟩ tv').heap[k]? = w.heap[k]? := fun k h1 h2 h3 => (Below.heap_setCell _ _ _ _ h2).trans (hk k h1 h3)
  have hs6 : w.heap.size ≤ (w5.setCell ⟨bb, 5, none⟩ tv').heap.size := by simpa [World.setCell] using hs
  have hsz6 : (w5.setCell ⟨bb, 5, none⟩ tv').heap.size = w5.heap.size := by simp [World.setCell]
  have htn : ∀ b, tv'.ownBlock = some b → tn.ownBlock ≠ some b := fun b hb hn => by
    rcases hat b hb with h1 | h1
    · exact h.bk.d b h1 hn
    · have := (h.bk.nr.lt b hn).2; omega
  refine ⟨K5, ⟨K5.set 5 tv', ?_, ?_, htn, ?_, ?_⟩, ?_, ?_, ?_, h.jl⟩
  · have := ownsRow_setCell_below hown (a := ⟨bb, 5, none⟩) (by simp) tv'
    simpa using this
  · exact ownsRow_keep h.bk.nr (fun b hb => hk6 b (h.bk.nr.lt b hb).2 (by have := (h.bk.nr.lt b hb).1; omega) (fun e => h.bk.d b e.symm hb))
  · intro i x y hx hy
    have hi : i < ts.length := by have := (List.getElem?_eq_some_iff.1 hy).1; omega
    rw [List.getElem?_append_left hi] at hx
    refine (h.bk.e i x y hx hy).keep (fun b hb hl => hk6 b hl ?_ ?_)
    · have := (h.bk.a x (List.mem_of_getElem? hx) b hb).1; omega
    · exact fun e => (h.bk.a x (List.mem_of_getElem? hx) b hb).2.2.2 e.symm
  · intro x hx b hb
    rcases List.mem_append.1 hx with hx | hx
    · obtain ⟨h1, h2, h3, h4⟩ := h.bk.a x hx b hb
      refine ⟨h1, by omega, h3, fun e => ?_⟩
      rcases hat b e with h5 | h5
      · exact h4 h5
      · omega
    · simp at hx
      subst hx
      have h1 := h.row.lt b hb
      refine ⟨by omega, by omega, (h.ap b hb).1, fun e => ?_⟩
      rcases hat b e with h5 | h5
      · exact (h.ap b hb).2 h5
      · omega
  · exact ownsRow_keep h.row (fun b hb => hk6 b (h.row.lt b hb).2 (by have := (h.row.lt b hb).1; omega) (fun e => (h.ap b hb).2 e.symm))
  · intro b hb
    refine ⟨(h.ap b hb).1, fun e => ?_⟩
    rcases hat b e with h5 | h5
    · exact (h.ap b hb).2 h5
    · have := (h.row.lt b hb).2; omega
  · intro i x y hx hy
    have hi : i < ts.length := by have := (List.getElem?_eq_some_iff.1 hy).1; omega
    rw [List.getElem?_append_left hi] at hx
    exact h.sh i x y hx hy

theorem TxAt.addN (h : TxAt w bb n m v j tv tn ts ns) (hl : ts.length = ns.length + 1) (hv : ts[ns.length]? = some v) {tn' : Value} (hs : w.heap.size ≤ w5.heap.size) (hk : ∀ k, k < w.heap.size → some k ≠ tn.ownBlock → w5.heap[k]? = w.heap[k]?)
    (hown : w5.ownsRow (bb + 1) 9 1 tn' (ns.length + 1) (strCells ns ++ [.string m])) (hat : ∀ b, tn'.ownBlock = some b → tn.ownBlock = some b ∨ w.heap.size ≤ b) :
    Blk w5 bb #[.int .i64 n, .slice none 0 0, .slice none 0 0, .slice none 0 0, .slice none 0 0, tv, tn] 39 ∧ TxAt (w5.setCell ⟨bb, 6, none⟩ tn') bb n m v j tv tn' ts (ns ++ [m]) := by
  have hbb : some bb ≠ tn.ownBlock := fun e => by have := (h.bk.nr.lt bb e.symm).1; omega
  have K5 : Blk w5 bb #[.int .i64 n, .slice none 0 0, .slice none 0 0, .slice none 0 0, .slice none 0 0, tv, tn] 39 := (hk bb h.bk.blk.lt hbb).trans h.bk.blk
  have hk6 : ∀ k, k < w.heap.size → k ≠ bb → some k ≠ tn.ownBlock → (w5.setCell ⟨bb, 6, none⟩ tn').heap[k]? = w.heap[k]? := fun k h1 h2 h3 => (Below.heap_setCell _ _ _ _ h2).trans (hk k h1 h3)
  have hsz6 : (w5.setCell ⟨bb, 6, none⟩ tn').heap.size = w5.heap.size := by simp [World.setCell]
  have htn : ∀ b, tv.ownBlock = some b → tn'.ownBlock ≠ some b := fun b hb hn => by
    rcases hat b hn with h1 | h1
    · exact h.bk.d b hb h1
    · have := (h.bk.tr.lt b hb).2; omega
  have hrow : (w5.setCell ⟨bb, 6, none⟩ tn').ownsRow (bb + 1) 9 1 v j (List.replicate j (.string m)) := ownsRow_keep h.row (fun b hb => hk6 b (h.row.lt b hb).2 (by have := (h.row.lt b hb).1; omega) (fun e => (h.ap b hb).1 e.symm))
  have hcase : ∀ (i : Nat) (x : Value) (y : ByteArray), ts[i]? = some x → (ns ++ [m])[i]? = some y → (ns[i]? = some y) ∨ (x = v ∧ y = m) := by
    intro i x y hx hy
    by_cases hi : i < ns.length
    · rw [List.getElem?_append_left hi] at hy
      exact .inl hy
    · have hi2 : i < ts.length := (List.getElem?_eq_some_iff.1 hx).1
      obtain rfl : i = ns.length := by omega
      rw [hv] at hx
      simp at hy
      exact .inr ⟨(Option.some.inj hx).symm, hy.symm⟩
  refine ⟨K5, ⟨K5.set 6 tn', ?_, ?_, htn, ?_, ?_⟩, hrow, ?_, ?_, h.jl⟩
  · exact ownsRow_keep h.bk.tr (fun b hb => hk6 b (h.bk.tr.lt b hb).2 (by have := (h.bk.tr.lt b hb).1; omega) (fun e => h.bk.d b hb e.symm))
  · have := ownsRow_setCell_below hown (a := ⟨bb, 6, none⟩) (by simp) tn'
    simpa [strCells] using this
  · intro i x y hx hy
    rcases hcase i x y hx hy with hy | ⟨rfl, rfl⟩
    · refine (h.bk.e i x y hx hy).keep (fun b hb hl => hk6 b hl ?_ ?_)
      · have := (h.bk.a x (List.mem_of_getElem? hx) b hb).1; omega
      · exact fun e => (h.bk.a x (List.mem_of_getElem? hx) b hb).2.2.1 e.symm
    · exact BkEnt.of_row hrow (by have := h.jl; omega)
  · intro x hx b hb
    obtain ⟨h1, h2, h3, h4⟩ := h.bk.a x hx b hb
    refine ⟨h1, by omega, fun e => ?_, h4⟩
    rcases hat b e with h5 | h5
    · exact h3 h5
    · omega
  · intro b hb
    refine ⟨fun e => ?_, (h.ap b hb).2⟩
    rcases hat b e with h5 | h5
    · exact (h.ap b hb).1 h5
    · have := (h.row.lt b hb).2; omega
  · intro i x y hx hy b hb hvb
    rcases hcase i x y hx hy with hy | ⟨rfl, rfl⟩
    · exact h.sh i x y hx hy b hb hvb
    · refine ⟨rfl, ?_⟩
      rcases h.row.2 with ⟨rfl, h0⟩ | ⟨g, cap, cur, rfl, _⟩
      · exact Nat.zero_le _
      · exact Nat.le_refl _

/-- The list gets longer where it lies. -/
theorem TxAt.fits {g cap : Nat} (h : TxAt w bb n m (.slice (some ⟨g, 0, none⟩) j cap) j tv tn ts ns) (hj : j ≤ 2008) (hs : w.heap.size ≤ w5.heap.size) (hk : ∀ k, k < w.heap.size → k ≠ g → w5.heap[k]? = w.heap[k]?)
    (hown : w5.ownsRow (bb + 1) 9 1 (.slice (some ⟨g, 0, none⟩) (j + 1) cap) (j + 1) (List.replicate j (.string m) ++ [.string m])) : TxAt w5 bb n m (.slice (some ⟨g, 0, none⟩) (j + 1) cap) (j + 1) tv tn ts ns := by
  have hg := h.row.lt g rfl
  have hown' : w5.ownsRow (bb + 1) 9 1 (.slice (some ⟨g, 0, none⟩) (j + 1) cap) (j + 1) (List.replicate (j + 1) (.string m)) := by rw [List.replicate_succ']; exact hown
  have hap := h.ap g rfl
  refine ⟨⟨(hk bb h.bk.blk.lt (by omega)).trans h.bk.blk, ?_, ?_, h.bk.d, ?_, ?_⟩, hown', ?_, ?_, by omega⟩
  · exact ownsRow_keep h.bk.tr (fun b hb => hk b (h.bk.tr.lt b hb).2 (fun e => hap.2 (e ▸ hb)))
  · exact ownsRow_keep h.bk.nr (fun b hb => hk b (h.bk.nr.lt b hb).2 (fun e => hap.1 (e ▸ hb)))
  · intro i x y hx hy
    by_cases hb : x.ownBlock = some g
    · obtain ⟨rfl, h2⟩ := h.sh i x y hx hy g hb rfl
      rcases h.bk.e i x y hx hy with rfl | ⟨g', k, cap', cur, rfl, h3, h4, h5, h6⟩
      · exact .inl rfl
      · obtain rfl : g' = g := by simpa [Value.ownBlock] using hb
        have h2' : k ≤ j := h2
        obtain h7 | ⟨g2, k2, cap2, cur2, h7, h8, h9, h10, h11⟩ := BkEnt.of_row hown' (by omega)
        · simp at h7
        · simp only [Value.slice.injEq, Option.some.injEq, Addr.mk.injEq, and_true] at h7
          obtain ⟨rfl, rfl, rfl⟩ := h7
          exact .inr ⟨g', k, cap', cur2, rfl, h3, h9, h5, fun i hi => h11 i (by omega)⟩
    · exact (h.bk.e i x y hx hy).keep (fun b hb2 hl => hk b hl (fun e => hb (e ▸ hb2)))
  · intro x hx b hb
    obtain ⟨h1, h2, h3⟩ := h.bk.a x hx b hb
    exact ⟨h1, by omega, h3⟩
  · intro b hb
    exact h.ap b hb
  · intro i x y hx hy b hb hvb
    obtain ⟨h1, h2⟩ := h.sh i x y hx hy b hb hvb
    exact ⟨h1, by omega⟩

/-- The list gets a block of its own. -/
theorem TxAt.grows {v' : Value} (h : TxAt w bb n m v j tv tn ts ns) (hj : j ≤ 2008) (hs : w.heap.size ≤ w5.heap.size) (hk : ∀ k, k < w.heap.size → w5.heap[k]? = w.heap[k]?)
    (hown : w5.ownsRow w.heap.size 9 1 v' (j + 1) (List.replicate j (.string m) ++ [.string m])) : TxAt w5 bb n m v' (j + 1) tv tn ts ns := by
  have hbb := h.bk.blk.lt
  have hown' : w5.ownsRow (bb + 1) 9 1 v' (j + 1) (List.replicate (j + 1) (.string m)) := by rw [List.replicate_succ']; exact row_base hown (by omega)
  refine ⟨h.bk.keep hs (fun b hb _ => hk b hb), hown', ?_, ?_, by omega⟩
  · intro b hb
    have h1 := (hown.lt b hb).1
    exact ⟨fun e => by have := (h.bk.nr.lt b e).2; omega, fun e => by have := (h.bk.tr.lt b e).2; omega⟩
  · intro i x y hx hy b hb hvb
    have h1 := (hown.lt b hvb).1
    have := (h.bk.a x (List.mem_of_getElem? hx) b hb).2.1
    omega
end

end Go.Proofs.YtbbbegjedmicpaaGreatDoor
