import Derived.Test.YthdndcehhmljnaaGreatDoorReadB
import Derived.Defers
import Derived.Recover

/-
  CONTRACTS: the closure that Parse hands over.
-/
namespace Go.Proofs.YthdndcehhmljnaaGreatDoor
open Go.RowKit Go.Maps

/-- A schema in memory: its messages' names. -/
def SchemaAt (w : World) (sb : Nat) (l : List ByteArray) (lo : Nat) : Prop :=
  ∃ v, Blk w sb #[v] 52 ∧ w.ownsRow lo 9 1 v l.length (strCells l) ∧ lo ≤ sb ∧ v.ownBlock ≠ some sb
/-- What the reader's closure answers. -/
def FaceRet (w : World) (r : Except (Int × Nat) (List BlockR)) (e : Ending) (w' : World) : Prop :=
  (match r with
  | .error (k, p) => e = fault k p
  | .ok bs => ∃ sb, e = .returned (.pointer (some ⟨sb, 0, none⟩)) ∧ SchemaAt w' sb (msgNames bs) w.heap.size) ∧ Below w.heap.size w w'

theorem readI_ok {t : ByteArray} {bs : List BlockR} (h : readI t = .ok bs) : (∀ b ∈ bs, BlockOK b) ∧ bs.length ≤ 2001 := by
  unfold readI at h
  split at h
  · cases h
  · split at h
    · cases h
    · rename_i h3
      split at h
      · cases h
      · cases h
        exact treeP_ok (allWords_ok t (by omega)) h3

set_option maxRecDepth 100000 in
set_option maxHeartbeats 1000000 in
theorem c14 (w : World) (tb : Nat) (t : ByteArray) (hmax : t.size ≤ 140737488355328) (hc : w.cell? ⟨tb, 0, none⟩ = some (.string t)) (hg : GOK w) :
    Calls Tryz.prog 14 #[.pointer (some ⟨tb, 0, none⟩)] w (FaceRet w (readI t)) := by
  generalize hr : readI t = r
  have HR : Hid (readI t = r) := hr
  clear hr
  go_enter Tryz.func14, Tryz.ntmps14
  go_wp2_with fail
  refine (c15 _ t hmax hg).mono ?_
  cases h : readI t with
  | error q =>
    obtain ⟨k, p⟩ := q
    rintro e w2 ⟨he, hb2⟩
    obtain rfl : e = fault k p := he
    obtain rfl : r = .error (k, p) := HR.out.symm.trans h
    unfold fault
    go_wp2
    exact ⟨rfl, rfl, hb2⟩
  | ok bs =>
    rintro e w2 ⟨⟨a, n, c, cs, rfl, hrw, hbs⟩, hb2⟩
    have OK := readI_ok h
    obtain rfl : r = .ok bs := HR.out.symm.trans h
    go_wp2_with fail
    refine (c16 _ a n c bs cs _ hrw hbs OK.2 OK.1).mono ?_
    rintro e w3 ⟨v, rfl, hown, hb3⟩
    obtain ⟨va, vn, vc, rfl⟩ := ownsRow_form hown
    have C3 := hb2.trans (hb3.mono hb2.size)
    go_wp2
    go_ret
    refine ⟨⟨w3.heap.size, rfl, .slice va vn vc, Blk.new w3 _ _, ?_, C3.size, ?_⟩, C3.alloc C3.size _⟩
    · exact ownsRow_base (hown.alloc _) hb2.size
    · intro e
      have := (hown.lt _ e).2
      omega

theorem ta80 (k p : Int) (w : World) : (Instr.typeAssert (.iface 80 (.agg #[.int .i64 k, .int .i64 p])) 20 80 true).run Tryz.prog w = .ok (.tuple #[.agg #[.int .i64 k, .int .i64 p], .bool true]) w := by kernel_rfl
theorem lay20 (x y v : Value) : #[x, y] ++ (((Array.replicate 18 undef).setIfInBounds 3 v).setIfInBounds 0 v) = #[x, y, v, undef, undef, v, undef, undef, undef, undef, undef, undef, undef, undef, undef, undef, undef, undef, undef, undef] := by kernel_rfl

set_option maxRecDepth 100000 in
theorem c24_idle (a b : Addr) (w : World) :
    CallsD Tryz.prog 24 #[.pointer (some a), .pointer (some b)] .returning w fun e u' w' => e = .returned (.tuple #[]) ∧ u' = .returning ∧ w' = w := by
  refine callsD_of_wpS Tryz.func24 rfl fun c₀ cs hu => ?_
  apply wpS_seq
  apply wpS_region
  simp [wpOpsS, go_sem, recoverD, hu, Tryz.ntmps24, Exit.thenS]
  refine wpS_of_wp ?_
  rw [lay20]
  go_wp2
  cases c₀
  simp_all [bodyPostS, results, Tryz.results24]

set_option maxRecDepth 100000 in
theorem c24_caught (ab bb : Nat) (k p : Int) (older : List PanicEntry) (w : World) (x y : Value) (ha : w.cell? ⟨ab, 0, none⟩ = some x) (hb : w.cell? ⟨bb, 0, none⟩ = some y) (fa : w.frozen? ⟨ab, 0, none⟩ = false) (fb : w.frozen? ⟨bb, 0, none⟩ = false) (hab : ¬ ab = bb) :
    CallsD Tryz.prog 24 #[.pointer (some ⟨ab, 0, none⟩), .pointer (some ⟨bb, 0, none⟩)] (.panicking ({ v := .iface 80 (.agg #[.int .i64 k, .int .i64 p]), recovered := false } :: older)) w fun e u' w' =>
      e = .returned (.tuple #[]) ∧ u' = .panicking ({ v := .iface 80 (.agg #[.int .i64 k, .int .i64 p]), recovered := true } :: older) ∧
        w' = (((w.setCell ⟨ab, 0, none⟩ (.int .i64 k)).setCell ⟨bb, 0, none⟩ (.int .i64 p)).alloc (Obj.cells #[.int .i64 k, .int .i64 p] 80)).drew := by
  have hta := ta80 k p
  have la := World.block_lt_of_cell? _ _ ha
  have lb := World.block_lt_of_cell? _ _ hb
  simp only at la lb
  obtain ⟨p1, p2, p3, p4⟩ := old_alloc (w := w) (b := ab) la
  obtain ⟨s1, s2, s3, s4⟩ := old_alloc (w := w) (b := bb) lb
  have hba : ¬ bb = ab := fun e => hab e.symm
  refine callsD_of_wpS Tryz.func24 rfl fun c₀ cs hu => ?_
  apply wpS_seq
  apply wpS_region
  simp [wpOpsS, go_sem, recoverD, hu, Tryz.ntmps24, Exit.thenS]
  refine wpS_of_wp ?_
  rw [lay20]
  go_wp2
  go_region
  exact ⟨rfl, _, rfl, .tuple #[], by simp [results, Tryz.results24], rfl, rfl, rfl⟩

/-- What Parse answers. -/
def ParseRet (w : World) (r : Except (Int × Nat) (List BlockR)) (e : Ending) (w' : World) : Prop :=
  (match r with
  | .error (k, p) => e = .returned (.tuple #[.pointer none, .int .i64 k, .int .i64 p])
  | .ok bs => ∃ sb, e = .returned (.tuple #[.pointer (some ⟨sb, 0, none⟩), .int .i64 0, .int .i64 0]) ∧ SchemaAt w' sb (msgNames bs) w.heap.size) ∧ Below w.heap.size w w'

set_option maxRecDepth 100000 in
set_option maxHeartbeats 1000000 in
theorem c13 (w : World) (tb : Nat) (t : ByteArray) (hmax : t.size ≤ 140737488355328) (hc : w.cell? ⟨tb, 0, none⟩ = some (.string t)) (hg : GOK w) :
    Calls Tryz.prog 13 #[.func (Fn.func 14) #[] #[.pointer (some ⟨tb, 0, none⟩)]] w (ParseRet w (readI t)) := by
  have hmf : ∀ (fn : Fn) (first cap : Array Value) (w : World), (Instr.makeFunc fn first cap).run Tryz.prog w = .ok (.func fn first cap) w := fun _ _ _ _ => rfl
  generalize hr : readI t = r
  have HR : Hid (readI t = r) := hr
  clear hr
  have htl := World.block_lt_of_cell? _ _ hc
  have B0 := ((Below.refl w.heap.size w).alloc (Nat.le_refl _) (Obj.cells #[.int .i64 0] 24)).alloc (by simp) (Obj.cells #[.int .i64 0] 3)
  go_enter_defers Tryz.func13, Tryz.ntmps13
  have hc0 : ((w.alloc (Obj.cells #[.int .i64 0] 24)).alloc (Obj.cells #[.int .i64 0] 3)).cell? ⟨tb, 0, none⟩ = some (.string t) := (B0.cell (p := ⟨tb, 0, none⟩) htl).trans hc
  have hg0 : GOK ((w.alloc (Obj.cells #[.int .i64 0] 24)).alloc (Obj.cells #[.int .i64 0] 3)) := hg.keep (B0.block _ hg.lt)
  have K0 := (Blk.new w #[.int .i64 0] 24).alloc (Obj.cells #[.int .i64 0] 3)
  have K1 : Blk ((w.alloc (Obj.cells #[.int .i64 0] 24)).alloc (Obj.cells #[.int .i64 0] 3)) (w.heap.size + 1) #[.int .i64 0] 3 := by
    have := Blk.new (w.alloc (Obj.cells #[.int .i64 0] 24)) #[.int .i64 0] 3
    simpa using this
  go_wp2_with fail
  refine (c14 _ tb t hmax hc0 hg0).mono ?_
  cases h : readI t with
  | error q =>
    obtain ⟨k, p⟩ := q
    rintro e w2 ⟨he, hb2⟩
    obtain rfl : e = fault k p := he
    obtain rfl : r = .error (k, p) := HR.out.symm.trans h
    have K2 := K0.below hb2 K0.lt
    have K3 := K1.below hb2 K1.lt
    have C2 := B0.trans (hb2.mono B0.size)
    obtain ⟨k1, k2⟩ := K2.rules
    obtain ⟨k3, k4⟩ := K3.rules
    have z3 := K3.lt
    unfold fault
    refine leaves_cons (f := 24) (args := #[.pointer (some ⟨w.heap.size, 0, none⟩), .pointer (some ⟨w.heap.size + 1, 0, none⟩)]) (by simp) (by simp [go_sem]) ?_
    refine (c24_caught w.heap.size (w.heap.size + 1) k p [] w2 _ _ (k1 0) (k3 0) (k2 0) (k4 0) (by omega)).mono ?_
    rintro e u' w'' ⟨rfl, rfl, rfl⟩
    have q0 := (((K2.set 0 (.int .i64 k)).other (c := w.heap.size + 1) 0 (.int .i64 p) (by omega)).alloc (Obj.cells #[.int .i64 k, .int .i64 p] 80)).cell 0
    have q1 := (((K3.other (c := w.heap.size) 0 (.int .i64 k) (by omega)).set 0 (.int .i64 p)).alloc (Obj.cells #[.int .i64 k, .int .i64 p] 80)).cell 0
    have C3 : Below w.heap.size w (((w2.setCell ⟨w.heap.size, 0, none⟩ (.int .i64 k)).setCell ⟨w.heap.size + 1, 0, none⟩ (.int .i64 p)).alloc (Obj.cells #[.int .i64 k, .int .i64 p] 80)).drew := (((C2.setCell (p := ⟨w.heap.size, 0, none⟩) (Nat.le_refl _) (.int .i64 k)).setCell (p := ⟨w.heap.size + 1, 0, none⟩) (Nat.le_succ _) (.int .i64 p)).alloc (by simp [World.setCell]; omega) _).drew
    simp at q0 q1
    simp [Leaves, settle, results, Tryz.results13, go_sem, q0, q1]
    exact ⟨rfl, C3⟩
  | ok bs =>
    rintro e w2 ⟨⟨sb, rfl, hsch⟩, hb2⟩
    obtain rfl : r = .ok bs := HR.out.symm.trans h
    have K2 := K0.below hb2 K0.lt
    have K3 := K1.below hb2 K1.lt
    have C2 := B0.trans (hb2.mono B0.size)
    obtain ⟨k1, k2⟩ := K2.rules
    obtain ⟨k3, k4⟩ := K3.rules
    have z3 := K3.lt
    go_wp2
    refine leaves_cons (f := 24) (args := #[.pointer (some ⟨w.heap.size, 0, none⟩), .pointer (some ⟨w.heap.size + 1, 0, none⟩)]) (by simp) (by simp [go_sem]) ?_
    refine (c24_idle ⟨w.heap.size, 0, none⟩ ⟨w.heap.size + 1, 0, none⟩ _).mono ?_
    rintro e u' w'' ⟨rfl, rfl, rfl⟩
    have q0 := ((K2.set 0 (.int .i64 0)).other (c := w.heap.size + 1) 0 (.int .i64 0) (by omega)).cell 0
    have q1 := ((K3.other (c := w.heap.size) 0 (.int .i64 0) (by omega)).set 0 (.int .i64 0)).cell 0
    have C3 : Below w.heap.size w ((w2.setCell ⟨w.heap.size, 0, none⟩ (.int .i64 0)).setCell ⟨w.heap.size + 1, 0, none⟩ (.int .i64 0)) := (C2.setCell (p := ⟨w.heap.size, 0, none⟩) (Nat.le_refl _) (.int .i64 0)).setCell (p := ⟨w.heap.size + 1, 0, none⟩) (Nat.le_succ _) (.int .i64 0)
    have hs3 : SchemaAt ((w2.setCell ⟨w.heap.size, 0, none⟩ (.int .i64 0)).setCell ⟨w.heap.size + 1, 0, none⟩ (.int .i64 0)) sb (msgNames bs) w.heap.size := by
      obtain ⟨v, h1, h2, h3, h4⟩ := hsch
      have h3' : w.heap.size + 2 ≤ sb := by simpa using h3
      have h2' : w2.ownsRow (w.heap.size + 2) 9 1 v (msgNames bs).length (strCells (msgNames bs)) := ownsRow_base h2 (by simp)
      refine ⟨v, (h1.other 0 _ (by omega)).other 0 _ (by omega), ?_, by omega, h4⟩
      have h5 := ownsRow_setCell_below (ownsRow_setCell_below h2' (a := ⟨w.heap.size, 0, none⟩) (by simp) (.int .i64 0)) (a := ⟨w.heap.size + 1, 0, none⟩) (by simp) (.int .i64 0)
      exact ownsRow_base h5 (by omega)
    simp at q0 q1
    simp [Leaves, settle, results, Tryz.results13, go_sem, q0, q1]
    exact ⟨⟨sb, rfl, hs3⟩, C3⟩

end Go.Proofs.YthdndcehhmljnaaGreatDoor

/-
  CONTRACTS: Parse, slices.Clone, Messages.
-/
namespace Go.Proofs.YthdndcehhmljnaaGreatDoor
open Go.RowKit Go.Maps

set_option maxRecDepth 100000 in
set_option maxHeartbeats 1000000 in
theorem c5 (w : World) (t : ByteArray) (hmax : t.size ≤ 140737488355328) (hg : GOK w) :
    Calls Tryz.prog 5 #[.string t] w (ParseRet w (readI t)) := by
  have hmf : ∀ (fn : Fn) (first cap : Array Value) (w : World), (Instr.makeFunc fn first cap).run Tryz.prog w = .ok (.func fn first cap) w := fun _ _ _ _ => rfl
  have B0 := (Below.refl w.heap.size w).alloc (Nat.le_refl _) (Obj.cells #[.string t] 9)
  generalize hr : readI t = r
  have HR : Hid (readI t = r) := hr
  clear hr
  go_enter Tryz.func5, Tryz.ntmps5
  go_wp2_with fail
  refine (c13 _ w.heap.size t hmax ((Blk.new w #[.string t] 9).cell 0) (hg.keep (B0.block _ hg.lt))).mono ?_
  rw [HR.out]
  cases r with
  | error q =>
    obtain ⟨k, p⟩ := q
    rintro e w2 ⟨he, hb2⟩
    obtain rfl : e = .returned (.tuple #[.pointer none, .int .i64 k, .int .i64 p]) := he
    go_wp2
    go_ret3
    exact ⟨rfl, B0.trans (hb2.mono B0.size)⟩
  | ok bs =>
    rintro e w2 ⟨⟨sb, rfl, v, h1, h2, h3, h4⟩, hb2⟩
    go_wp2
    go_ret3
    exact ⟨⟨sb, rfl, v, h1, ownsRow_base h2 B0.size, Nat.le_trans B0.size h3, h4⟩, B0.trans (hb2.mono B0.size)⟩

set_option maxRecDepth 100000 in
set_option maxHeartbeats 1000000 in
theorem c22 (w : World) (lo : Nat) (v : Value) (l : List ByteArray) (hlen : l.length ≤ 2001) (hrow : w.ownsRow lo 9 1 v l.length (strCells l)) :
    Calls Tryz.prog 22 #[v] w fun e w' => ∃ v', e = .returned v' ∧ w'.ownsRow w.heap.size 9 1 v' l.length (strCells l) ∧ Below w.heap.size w w' := by
  obtain ⟨i0, hi0, hz0, hz1, hz2⟩ := info_parts Tryz.info9
  have hnil := fun (w : World) (a : Option Addr) (n c n' c' : Nat) => Lib.run_eql_slice_nil (P := Tryz.prog) w 30 9 a n c n' c' Tryz.underlying30
  rcases hrow.2 with ⟨rfl, h0⟩ | ⟨g, cap, cur, rfl, h2, h3, h4, h5, h6, h7⟩
  · have hl : l = [] := List.eq_nil_of_length_eq_zero h0
    subst hl
    go_enter Tryz.func22, Tryz.ntmps22
    go_wp2
    go_ret
    exact ⟨_, rfl, World.ownsRow_nil _ _ _ _, Below.refl _ _⟩
  · have hcells : ∀ j u, (strCells l)[j]? = some u → w.cell? ((⟨g, 0, none⟩ : Addr).add j) = some u := hrow.cells (g := g) rfl
    have hgl : g < w.heap.size := Blk.lt h3
    have hown0 := World.ownsRow_made (base := w.heap.size) (e := 9) (size := 1) w #[] 0 (Nat.le_refl _) (by unfold maxLen; omega) rfl
    have hcells2 : ∀ j u, (strCells l)[j]? = some u → (w.alloc (Obj.cells #[] 9)).cell? ((⟨g, 0, none⟩ : Addr).add j) = some u := by
      intro j u hj
      rw [← hcells j u hj]
      exact World.cell?_alloc_lt _ _ _ (by simp [Addr.add]; split <;> exact hgl)
    have HC : Hid (∀ j u, (strCells l)[j]? = some u → (w.alloc (Obj.cells #[] 9)).cell? ((⟨g, 0, none⟩ : Addr).add j) = some u) := hcells2
    have hs1 : (strCells l).length = l.length * 1 := by simp [strCells]
    clear hcells hcells2
    go_enter Tryz.func22, Tryz.ntmps22
    go_wp2_with (first | (at_builtin; refine wpList_append_own_at _ rfl _ _ 30 rfl w.heap.size 9 i0 _ 1 16 Tryz.underlying30 hi0 hz0 hz1 hz2 rfl (by decide) _ _ _ rfl hown0 ⟨g, 0, none⟩ l.length cap (strCells l) rfl hs1 HC.out ?h1 ?h63 ?hby ?hba ?_; rotate_right; intro v' w5 hown5 hgrow hnl hloc))
    case h1 => intro u hu; obtain ⟨x, _, rfl⟩ := List.mem_map.1 hu; rfl
    case h63 => unfold maxLen; omega
    case hby => omega
    case hba => simp
    go_ret
    refine ⟨_, rfl, ?_, ?_⟩
    · simpa using hown5
    · exact ((Below.refl w.heap.size w).alloc (Nat.le_refl _) _).grown hgrow (by simp) (fun j hj => (hown0.lt j hj).1)

/-- A schema stays as it is while others' blocks turn. -/
theorem SchemaAt.keep {w w' : World} {sb : Nat} {l : List ByteArray} {lo n : Nat} (h : SchemaAt w sb l lo) (hb : Below n w w') (hn : w.heap.size ≤ n) : SchemaAt w' sb l lo := by
  obtain ⟨v, h1, h2, h3, h4⟩ := h
  exact ⟨v, h1.below hb (Nat.lt_of_lt_of_le h1.lt hn), ownsRow_keep h2 (fun b hb2 => hb.block b (Nat.lt_of_lt_of_le (h2.lt b hb2).2 hn)), h3, h4⟩

set_option maxRecDepth 100000 in
set_option maxHeartbeats 1000000 in
theorem c7 (w : World) (sb lo : Nat) (l : List ByteArray) (hlen : l.length ≤ 2001) (hs : SchemaAt w sb l lo) :
    Calls Tryz.prog 7 #[.pointer (some ⟨sb, 0, none⟩)] w fun e w' => ∃ v', e = .returned (.tuple #[v', .int .i64 0]) ∧ w'.ownsRow w.heap.size 9 1 v' l.length (strCells l) ∧ Below w.heap.size w w' := by
  obtain ⟨v, h1, h2, h3, h4⟩ := hs
  obtain ⟨va, vn, vc, rfl⟩ := ownsRow_form h2
  obtain ⟨k1, k2⟩ := h1.rules
  go_enter Tryz.func7, Tryz.ntmps7
  go_wp2_with fail
  refine (c22 _ lo _ l hlen h2).mono ?_
  rintro e w2 ⟨v', rfl, hown, hb⟩
  go_wp2
  go_ret2
  exact ⟨v', rfl, hown, hb⟩
set_option maxHeartbeats 1000000 in
theorem c7_nil (w : World) :
    Calls Tryz.prog 7 #[.pointer none] w fun e w' => e = .returned (.tuple #[.slice none 0 0, .int .i64 1]) ∧ w' = w := by
  go_enter Tryz.func7, Tryz.ntmps7
  go_wp2
  go_ret2
  exact ⟨rfl, rfl⟩

end Go.Proofs.YthdndcehhmljnaaGreatDoor
