import Derived.Test.YtbbbegjedmicpaaGreatDoorLawA

/-
  THE LAW, CONTRACTS: texts.
-/
namespace Go.Proofs.YtbbbegjedmicpaaGreatDoor
open Go.RowKit

theorem marked {α : Type} (m : α) (l : List α) (k : Nat) (hk : k < l.length) : (List.replicate k m ++ l.drop k).set k m = List.replicate (k + 1) m ++ l.drop (k + 1) := by
  rw [List.set_append_right _ _ (by simp), List.length_replicate, Nat.sub_self, List.drop_eq_getElem_cons hk, List.set_cons_zero, List.replicate_succ', List.append_assoc]
  rfl

section
variable {w : World} {bb n : Nat} {m : ByteArray} {v : Value} {j : Nat} {tv tn : Value} {ts : List Value} {ns : List ByteArray} {ops : Array Oper} {rest : List Oper} {o : Oper} {a : Act} {Q : Exit → Act → World → Prop}

theorem append_t (hg : o.guard = none) (s x : Operand) (hop : o.op = Op.call { callee := Callee.builtin Builtin.append, args := #[s, x], argTypes := #[37, 37] })
    (X : TxAt w bb n m v j tv tn ts ns) (hl : ns.length = ts.length) (hts : ts.length ≤ 1000) (hs : a.eval s = tv) (hx : a.eval x = .slice (some ⟨w.heap.size, 0, none⟩) 1 1)
    (hK : ∀ gg cap w5, Blk w5 bb #[.int .i64 n, .slice none 0 0, .slice none 0 0, .slice none 0 0, .slice none 0 0, tv, tn] 39 →
      TxAt (w5.setCell ⟨bb, 5, none⟩ (.slice (some ⟨gg, 0, none⟩) (ts.length + 1) cap)) bb n m v j (.slice (some ⟨gg, 0, none⟩) (ts.length + 1) cap) tn (ts ++ [v]) ns →
      Below bb w (w5.setCell ⟨bb, 5, none⟩ (.slice (some ⟨gg, 0, none⟩) (ts.length + 1) cap)) → wpList Tryz.prog ops Q rest (a.put o.dst (.slice (some ⟨gg, 0, none⟩) (ts.length + 1) cap)) w5) :
    wpList Tryz.prog ops Q (o :: rest) a (w.alloc (Obj.cells #[v] 30)) := by
  obtain ⟨i30, hi30, hz300, hz301, hz302⟩ := info_parts Tryz.info30
  have hbb := X.bk.blk.lt
  obtain ⟨va, vn, vc, rfl⟩ := ownsRow_form X.row
  refine wpList_append_lies _ hg s x 37 hop (bb + 1) 30 i30 _ 1 24 Tryz.underlying37 hi30 hz300 hz301 hz302 rfl (by decide) tv ts.length ts hs (X.bk.tr.alloc _) ⟨w.heap.size, 0, none⟩ 1 1 [.slice va vn vc] hx rfl (cell_one _ _ _) (fun u hu => by simp at hu; subst hu; rfl) (by omega) (by unfold maxLen; omega) (by omega) (by simp; omega) _ rfl ?_
  intro gg cap w5 hown5 hgrow5 hat5 hlt5
  have hsz : w.heap.size ≤ w5.heap.size := by have := hgrow5.size; simp at this; omega
  have hk : ∀ k, k < w.heap.size → some k ≠ tv.ownBlock → w5.heap[k]? = w.heap[k]? := fun k h1 h2 => (hgrow5.block k (by simp; omega) h2).trans (heap_alloc_old _ _ h1)
  obtain ⟨K5, X5⟩ := X.addT hl hsz hk hown5 (fun b hb => by
    have hbg : gg = b := by simpa [Value.ownBlock] using hb
    subst hbg
    rcases hat5 with h1 | h1
    · exact .inl h1
    · right; simp at h1; omega)
  refine hK gg cap w5 K5 X5 ?_
  have D : Below bb w w5 := ((Below.refl bb w).alloc (by omega) _).grown hgrow5 (by simp; omega) (fun k hk => by have := (X.bk.tr.lt k hk).1; omega)
  exact D.setCell (Nat.le_refl _) _

theorem append_n (hg : o.guard = none) (s x : Operand) (hop : o.op = Op.call { callee := Callee.builtin Builtin.append, args := #[s, x], argTypes := #[30, 30] })
    (X : TxAt w bb n m v j tv tn ts ns) (hl : ts.length = ns.length + 1) (hv : ts[ns.length]? = some v) (hts : ns.length ≤ 1000) (hs : a.eval s = tn) (H : Nat) (hH : w.heap.size = H) (hx : a.eval x = .slice (some ⟨H, 0, none⟩) 1 1)
    (hK : ∀ gg cap w5, Blk w5 bb #[.int .i64 n, .slice none 0 0, .slice none 0 0, .slice none 0 0, .slice none 0 0, tv, tn] 39 →
      TxAt (w5.setCell ⟨bb, 6, none⟩ (.slice (some ⟨gg, 0, none⟩) (ns.length + 1) cap)) bb n m v j tv (.slice (some ⟨gg, 0, none⟩) (ns.length + 1) cap) ts (ns ++ [m]) →
      Below bb w (w5.setCell ⟨bb, 6, none⟩ (.slice (some ⟨gg, 0, none⟩) (ns.length + 1) cap)) → wpList Tryz.prog ops Q rest (a.put o.dst (.slice (some ⟨gg, 0, none⟩) (ns.length + 1) cap)) w5) :
    wpList Tryz.prog ops Q (o :: rest) a (w.alloc (Obj.cells #[.string m] 9)) := by
  subst hH
  obtain ⟨i9, hi9, hz90, hz91, hz92⟩ := info_parts Tryz.info9
  have hbb := X.bk.blk.lt
  refine wpList_append_lies _ hg s x 30 hop (bb + 1) 9 i9 _ 1 16 Tryz.underlying30 hi9 hz90 hz91 hz92 rfl (by decide) tn ns.length (strCells ns) hs (X.bk.nr.alloc _) ⟨w.heap.size, 0, none⟩ 1 1 [.string m] hx rfl (cell_one _ _ _) (fun u hu => by simp at hu; subst hu; rfl) (by omega) (by unfold maxLen; omega) (by omega) (by simp; omega) _ rfl ?_
  intro gg cap w5 hown5 hgrow5 hat5 hlt5
  have hsz : w.heap.size ≤ w5.heap.size := by have := hgrow5.size; simp at this; omega
  have hk : ∀ k, k < w.heap.size → some k ≠ tn.ownBlock → w5.heap[k]? = w.heap[k]? := fun k h1 h2 => (hgrow5.block k (by simp; omega) h2).trans (heap_alloc_old _ _ h1)
  obtain ⟨K5, X5⟩ := X.addN hl hv hsz hk hown5 (fun b hb => by
    have hbg : gg = b := by simpa [Value.ownBlock] using hb
    subst hbg
    rcases hat5 with h1 | h1
    · exact .inl h1
    · right; simp at h1; omega)
  refine hK gg cap w5 K5 X5 ?_
  have D : Below bb w w5 := ((Below.refl bb w).alloc (by omega) _).grown hgrow5 (by simp; omega) (fun k hk => by have := (X.bk.nr.lt k hk).1; omega)
  exact D.setCell (Nat.le_refl _) _

theorem append_l (hg : o.guard = none) (s x : Operand) (hop : o.op = Op.call { callee := Callee.builtin Builtin.append, args := #[s, x], argTypes := #[30, 30] })
    (X : TxAt w bb n m v j tv tn ts ns) (hj : j ≤ 2008) (hs : a.eval s = v) (H : Nat) (hH : w.heap.size = H) (hx : a.eval x = .slice (some ⟨H, 0, none⟩) 1 1)
    (hK : ∀ v' w5, TxAt w5 bb n m v' (j + 1) tv tn ts ns → Below bb w w5 → wpList Tryz.prog ops Q rest (a.put o.dst v') w5) :
    wpList Tryz.prog ops Q (o :: rest) a (w.alloc (Obj.cells #[.string m] 9)) := by
  subst hH
  obtain ⟨i9, hi9, hz90, hz91, hz92⟩ := info_parts Tryz.info9
  have hbb := X.bk.blk.lt
  have h1c : ∀ u ∈ [Value.string m], u.oneCell' = true := fun u hu => by simp at hu; subst hu; rfl
  have hgrows : ∀ (ao : Option Addr) (cap : Nat), v = .slice ao j cap → (ao = none → j = 0 ∧ cap = 0) → cap < j + 1 → (∀ b, ao = some b → ∀ i u, (List.replicate j (Value.string m))[i]? = some u → (w.alloc (Obj.cells #[.string m] 9)).cell? (b.add i) = some u) → wpList Tryz.prog ops Q (o :: rest) a (w.alloc (Obj.cells #[.string m] 9)) := by
    intro ao cap hv hnone hfull holds
    refine wpList_append_grows _ hg s x 30 hop 9 i9 _ 1 16 Tryz.underlying30 hi9 hz90 hz91 hz92 rfl (by decide) ao j cap (List.replicate j (.string m)) (hs.trans hv) hnone (by simp) holds ⟨w.heap.size, 0, none⟩ 1 1 [.string m] hx rfl (cell_one _ _ _) h1c hfull (by unfold maxLen; omega) (by omega) ?_
    intro v' w5 hown5 hgrow5
    have hsz : w.heap.size ≤ w5.heap.size := by have := hgrow5.size; simp at this; omega
    refine hK v' w5 (X.grows hj hsz (fun k hk => (hgrow5.block k (by simp; omega) (by simp)).trans (heap_alloc_old _ _ hk)) (row_base hown5 (by simp))) ?_
    exact ((Below.refl bb w).alloc (by omega) _).grown hgrow5 (by simp; omega) (fun k hk => by cases hk)
  rcases X.row.2 with ⟨h0, h1⟩ | ⟨g, cap, cur, h0, h2, h3, h4, h5, h6, h7⟩
  · subst h1
    exact hgrows none 0 h0 (fun _ => ⟨rfl, rfl⟩) (by omega) (fun b hb => by cases hb)
  · by_cases hroom : j + 1 ≤ cap
    · subst h0
      refine wpList_append_fits _ hg s x 30 hop (bb + 1) 9 i9 1 Tryz.underlying30 hi9 hz91 g j cap (List.replicate j (.string m)) hs (X.row.alloc _) ⟨w.heap.size, 0, none⟩ 1 1 [.string m] hx rfl (cell_one _ _ _) h1c hroom ?_
      intro w5 hown5 hgrow5
      have hsz : w.heap.size ≤ w5.heap.size := by have := hgrow5.size; simp at this; omega
      refine hK _ w5 (X.fits hj hsz (fun k hk hne => (hgrow5.block k (by simp; omega) (by simpa using hne)).trans (heap_alloc_old _ _ hk)) hown5) ?_
      exact ((Below.refl bb w).alloc (by omega) _).grown hgrow5 (by simp; omega) (fun k hk => by cases hk; omega)
    · refine hgrows (some ⟨g, 0, none⟩) cap h0 (fun h => by cases h) (by omega) (fun b hb i u hu => ?_)
      cases hb
      subst h0
      exact (X.row.alloc (Obj.cells #[.string m] 9)).cells (g := g) rfl i u hu
end

set_option maxRecDepth 100000 in
set_option maxHeartbeats 2000000 in
theorem c11 (w : World) (bb n : Nat) (tv tn : Value) (ts : List Value) (ns : List ByteArray) (B : BkAt w bb n tv tn ts ns) (hn : n ≤ 100) (hl : ns.length = ts.length) (hts : ts.length ≤ 400)
    (lv : Value) (l : List ByteArray) (hlen : l.length ≤ 2001) (hrow : w.ownsRow (bb + 1) 9 1 lv l.length (strCells l))
    (hap : ∀ b, lv.ownBlock = some b → tn.ownBlock ≠ some b ∧ tv.ownBlock ≠ some b ∧ ∀ x ∈ ts, x.ownBlock ≠ some b) :
    Calls Tryz.prog 12 #[.pointer (some ⟨bb, 0, none⟩), lv] w fun e w' => e = .returned (.tuple #[]) ∧ (∃ tv' tn' ts' ns', BkAt w' bb (n + 1) tv' tn' ts' ns' ∧ ns'.length = ts'.length ∧ ts'.length = ts.length + 4) ∧ Below bb w w' := by
  obtain ⟨i9, hi9, hz90, hz91, hz92⟩ := info_parts Tryz.info9
  obtain ⟨i30, hi30, hz300, hz301, hz302⟩ := info_parts Tryz.info30
  obtain ⟨va, vc, rfl⟩ := row_v hrow
  obtain ⟨k1, k2⟩ := B.blk.rules
  have hnb : ((n : Int) + 1) = ((n + 1 : Nat) : Int) := by omega
  have B1 : BkAt (w.setCell ⟨bb, 0, none⟩ (.int .i64 ((n : Int) + 1))) bb (n + 1) tv tn ts ns := by rw [hnb]; exact B.count (n + 1)
  have hr1 : (w.setCell ⟨bb, 0, none⟩ (.int .i64 ((n : Int) + 1))).ownsRow (bb + 1) 9 1 (.slice va l.length vc) l.length (strCells l) := ownsRow_setCell_below hrow (by simp) _
  have D1 : Below bb w (w.setCell ⟨bb, 0, none⟩ (.int .i64 ((n : Int) + 1))) := (Below.refl bb w).setCell (Nat.le_refl _) _
  generalize hw1 : w.setCell ⟨bb, 0, none⟩ (.int .i64 ((n : Int) + 1)) = w1 at B1 hr1 D1
  have hrm : ∀ W : World, Calls Tryz.prog 27 #[.int .i64 ((n : Int) + 1)] W fun e w' => (∃ m : ByteArray, e = .returned (.string m)) ∧ Below W.heap.size W w' := fun W => by rw [hnb]; exact c23 W (n + 1) (by omega)
  clear hnb
  obtain ⟨j1, j2⟩ := B1.blk.rules
  go_enter Tryz.func12, Tryz.ntmps12
  go_wp2_with fail
  refine (hrm _).mono ?_
  rintro e w2 ⟨⟨m, rfl⟩, hb2⟩
  have B2 : BkAt w2 bb (n + 1) tv tn ts ns := B1.below hb2
  have D2 : Below bb w w2 := D1.trans (hb2.mono (Nat.le_of_lt B1.blk.lt))
  have hr2 : w2.ownsRow (bb + 1) 9 1 (.slice va l.length vc) l.length (strCells l) := ownsRow_keep hr1 (fun b hb => hb2.block b (hr1.lt b hb).2)
  clear hb2 hr1 D1 B1 j1 j2 hw1 hrm k1 k2 hrow B
  go_wp2
  go_loopw [5] (fun i wr => ∃ k : Nat, k ≤ l.length ∧ i = .int .i64 k ∧ wr.ownsRow (bb + 1) 9 1 (.slice va l.length vc) l.length (List.replicate k (.string m) ++ (strCells l).drop k) ∧ BkAt wr bb (n + 1) tv tn ts ns ∧ Below bb w wr) (fun i _ => l.length - (intOf i).toNat)
  case atStart => exact ⟨0, Nat.zero_le _, rfl, by simpa using hr2, B2, D2⟩
  case round =>
    obtain ⟨k, hk, rfl, hr, Bk, D⟩ := hrel
    clear B2 D2 hr2
    by_cases hlt : k < l.length
    · have hli : (k : Int) < (l.length : Int) := by omega
      obtain ⟨g, rfl, hgb, hgl, hcell⟩ := ownsRow_at hr (by omega)
      have hfr := hr.frozenAt k
      have hst := hr.stored k (.string m)
      obtain ⟨y, hy⟩ : ∃ y, (strCells l)[k]? = some y := ⟨_, List.getElem?_eq_getElem (by simpa [strCells] using hlt)⟩
      have q := hcell wr rfl k y (by rw [List.getElem?_append_right (by simp)]; simp [hy])
      have hset : (List.replicate k (Value.string m) ++ (strCells l).drop k).set k (.string m) = List.replicate (k + 1) (.string m) ++ (strCells l).drop (k + 1) := marked _ _ _ (by simpa [strCells] using hlt)
      rw [hset] at hst
      have HS : Hid ((wr.setCell ⟨g, k, none⟩ (.string m)).ownsRow (bb + 1) 9 1 (.slice (some ⟨g, 0, none⟩) l.length vc) l.length (List.replicate (k + 1) (.string m) ++ (strCells l).drop (k + 1))) := hst.1
      have HB : Hid (BkAt (wr.setCell ⟨g, k, none⟩ (.string m)) bb (n + 1) tv tn ts ns) := by
        refine Bk.keep (by simp [World.setCell]) (fun b hb hc => Below.heap_setCell _ _ _ _ ?_)
        have hg := hap g rfl
        intro hbg
        have hbg' : b = g := hbg
        clear hbg
        subst hbg'
        rcases hc with h1 | h1 | h1 | ⟨x, hx, h1⟩
        · omega
        · exact hg.2.1 h1
        · exact hg.1 h1
        · exact hg.2.2 x hx h1
      clear hcell hst hset hr hy Bk
      go_wp2
      go_roundw
      case rel => exact ⟨k + 1, by omega, by go_num, HS.out, HB.out, D.setCell (by simp; omega) _⟩
      case measure => simp [intOf]; omega
    · have hli : ¬ (k : Int) < (l.length : Int) := by omega
      obtain rfl : k = l.length := by omega
      have X0 : TxAt wr bb (n + 1) m (.slice va l.length vc) l.length tv tn ts ns := by
        refine ⟨Bk, by simpa [strCells, List.drop_of_length_le] using hr, fun b hb => ⟨(hap b hb).1, (hap b hb).2.1⟩, fun i x y hx hy b hb hvb => absurd hb ((hap b hvb).2.2 x (List.mem_of_getElem? hx)), by omega⟩
      clear hr Bk hap
      go_wp2
      go_loopw [1, 6] (fun v i wr => ∃ (k : Nat) (tv tn : Value) (ts' : List Value) (ns' : List ByteArray), k ≤ 4 ∧ i = .int .i64 k ∧ TxAt wr bb (n + 1) m v (l.length + k) tv tn ts' ns' ∧ ns'.length = ts'.length ∧ ts'.length = ts.length + k ∧ Below bb w wr) (fun _ i _ => 4 - (intOf i).toNat)
      case atStart => exact ⟨0, tv, tn, ts, ns, by omega, rfl, X0, hl, rfl, D⟩
      case round =>
        obtain ⟨k, tv, tn, ts', ns', hk, rfl, X, hl', hts', D⟩ := hrel
        clear X0 hl
        have HL : Hid (ns'.length = ts'.length) := hl'
        have HT : Hid (ts'.length = ts.length + k) := hts'
        clear hl' hts'
        obtain ⟨la, ll, lc, rfl⟩ := ownsRow_form X.row
        obtain ⟨ta, tl, tc, rfl⟩ := ownsRow_form X.bk.tr
        obtain ⟨na, nl, nc, rfl⟩ := ownsRow_form X.bk.nr
        by_cases hlt : k < 4
        · have hli : (k : Int) < 4 := by omega
          obtain ⟨k1, k2⟩ := X.bk.blk.rules
          go_wp2_with (first | (at_builtin; refine append_t rfl _ _ rfl X HL.out (by have := HT.out; omega) rfl rfl ?_; intro gg cap w5 K5 X5 D5; obtain ⟨k51, k52⟩ := K5.rules; obtain ⟨k61, k62⟩ := X5.bk.blk.rules) | (at_builtin; refine append_n rfl _ _ rfl X5 (by have := HL.out; simp; omega) (by rw [HL.out]; simp) (by have := HL.out; have := HT.out; omega) rfl _ (by simp [World.setCell]) rfl ?_; intro gg7 cap7 w7 K7 X7 D7; obtain ⟨k71, k72⟩ := K7.rules; obtain ⟨k81, k82⟩ := X7.bk.blk.rules) | (at_builtin; refine append_l rfl _ _ rfl X7 (by omega) rfl _ (by simp [World.setCell]) rfl ?_; intro v9 w9 X9 D9))
          go_roundw
          case rel => exact ⟨k + 1, _, _, ts' ++ [_], ns' ++ [m], by omega, by go_num, X9, by simp; exact HL.out, by have := HT.out; simp; omega, ((D.trans D5).trans D7).trans D9⟩
          case measure => simp [intOf]; omega
        · have hli : decide ((k : Int) < 4) = false := by simp; omega
          go_wp2
          go_end0
          exact ⟨rfl, ⟨_, _, ts', ns', X.bk, HL.out, by have := HT.out; omega⟩, D⟩

end Go.Proofs.YtbbbegjedmicpaaGreatDoor
