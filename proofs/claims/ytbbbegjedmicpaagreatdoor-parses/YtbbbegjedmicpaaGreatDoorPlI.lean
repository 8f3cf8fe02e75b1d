import Derived.Test.YtbbbegjedmicpaaGreatDoorBuL
import Derived.Defers
import Derived.Recover

/-
  PLANS: NewKept: no plan is kept yet.
-/
namespace Go.Proofs.YtbbbegjedmicpaaGreatDoor
open Go.RowKit Go.Maps
attribute [local go_sem ↓] Go.wp_at_zero Go.wp_at_succ

/-- The kept plans: a mutex that nobody holds, and where plans are, by the messages' names. -/
def KeptAt (w : World) (kp mk n : Nat) (pm : ByteArray → Option Nat) : Prop := Blk w kp #[.int .i32 0, .int .u32 0, .map (some mk)] 136 ∧ PtrMap w mk n pm
theorem p_newKept (w : World) : Calls Tryz.prog 21 #[] w fun e w' => ∃ kp mk, e = .returned (.pointer (some ⟨kp, 0, none⟩)) ∧ KeptAt w' kp mk 0 (fun _ => none) ∧ w.heap.size ≤ kp ∧ w.heap.size ≤ mk ∧ mk ≠ kp ∧ Below w.heap.size w w' := by
  have hmm := @run_makeMap Tryz.prog
  go_enter Tryz.func21, Tryz.ntmps21
  go_wp2
  go_ret
  refine ⟨_, _, rfl, ⟨Blk.newAt (by simp) _ _, ?_⟩, Nat.le_succ _, Nat.le_refl _, by omega, ((Below.refl w.heap.size w).alloc (Nat.le_refl _) _).alloc (by simp) _⟩
  exact (PtrMap.made w).keep (Below.heap_alloc _ _ _ (by simp))

end Go.Proofs.YtbbbegjedmicpaaGreatDoor

/-
  CONTRACTS: the closure that Parse hands over.
-/
namespace Go.Proofs.YtbbbegjedmicpaaGreatDoor
open Go.RowKit Go.Maps

/-- A schema in memory: its messages, of these names. -/
def SchemaAt (w : World) (sb : Nat) (l : List ByteArray) (lo : Nat) : Prop :=
  ∃ v kv bs y, Blk w sb #[v, kv] 71 ∧ lo ≤ sb ∧ ModelAt w (fun b => lo ≤ b ∧ b ≠ sb) v bs y ∧ msgNames bs = l
theorem ModelAt.keep {w w' : World} {P : Nat → Prop} {v : Value} {bs : List BlockR} {y : List YM} (hk : ∀ b, P b → b < w.heap.size → w'.heap[b]? = w.heap[b]?) (h : ModelAt w P v bs y) : ModelAt w' P v bs y :=
  ⟨h.row.keep hk, h.names, fun m hm => (h.msg m hm).keep hk, h.g⟩
theorem ModelAt.mono {w : World} {P Q : Nat → Prop} {v : Value} {bs : List BlockR} {y : List YM} (hs : ∀ b, P b → b < w.heap.size → Q b) (h : ModelAt w P v bs y) : ModelAt w Q v bs y :=
  ⟨h.row.mono hs, h.names, fun m hm => (h.msg m hm).mono hs, h.g⟩
/-- A schema as Parse makes it: its messages, and no plan yet. -/
def SchB (w : World) (sb kp mk : Nat) (bs : List BlockR) (lo : Nat) : Prop :=
  ∃ v y, Blk w sb #[v, .pointer (some ⟨kp, 0, none⟩)] 71 ∧ (lo ≤ sb ∧ lo ≤ kp ∧ lo ≤ mk ∧ sb ≠ kp ∧ sb ≠ mk ∧ mk ≠ kp) ∧ ModelAt w (fun b => lo ≤ b ∧ b ≠ sb ∧ b ≠ kp ∧ b ≠ mk) v bs y ∧ KeptAt w kp mk 0 (fun _ => none)
theorem SchB.toAt {w : World} {sb kp mk : Nat} {bs : List BlockR} {lo : Nat} (h : SchB w sb kp mk bs lo) : SchemaAt w sb (msgNames bs) lo := by
  obtain ⟨v, y, h1, h2, h3, _⟩ := h
  exact ⟨v, _, bs, y, h1, h2.1, h3.mono fun x q _ => ⟨q.1, q.2.1⟩, rfl⟩
/-- What the reader's closure answers. -/
def FaceRet (w : World) (r : Except (Int × Nat) (List BlockR)) (e : Ending) (w' : World) : Prop :=
  (match r with
  | .error (k, p) => e = fault k p
  | .ok bs => ∃ sb kp mk, e = .returned (.pointer (some ⟨sb, 0, none⟩)) ∧ SchB w' sb kp mk bs w.heap.size) ∧ Below w.heap.size w w'

set_option maxRecDepth 100000 in
set_option maxHeartbeats 1000000 in
theorem c14 (w : World) (tb : Nat) (t : ByteArray) (hmax : t.size ≤ 140737488355328) (hc : w.cell? ⟨tb, 0, none⟩ = some (.string t)) (hg : GOK w) (hbo : BOK w) :
    Calls Tryz.prog 18 #[.pointer (some ⟨tb, 0, none⟩)] w (FaceRet w (readI t)) := by
  generalize hr : readI t = r
  have HR : Hid (readI t = r) := hr
  clear hr
  go_enter Tryz.func18, Tryz.ntmps18
  go_wp2_with fail
  refine (c15 _ t hmax hg).mono ?_
  cases h : readI t with
  | error q =>
    obtain ⟨k, p⟩ := q
    rintro e w2 ⟨he, hb2⟩
    obtain rfl : e = fault k p := he
    obtain rfl : r = .error (k, p) := HR.out.symm.trans h
    unfold fault
    go_wp2
    exact ⟨rfl, rfl, hb2⟩
  | ok bs =>
    rintro e w2 ⟨⟨a, n, c, cs, rfl, hrw, hbs⟩, hb2⟩
    have OK := readI_good h
    obtain rfl : n = bs.length := ownsRow_len hrw.1
    obtain rfl : r = .ok bs := HR.out.symm.trans h
    go_wp2_with fail
    refine (b_build w2 a c bs cs _ hrw hbs OK (hg.keep (hb2.block _ hg.lt)) (hbo.keep (hb2.block _ hbo.lt))).mono ?_
    rintro e w3 ⟨v, y, rfl, hM, hb3⟩
    obtain ⟨va, vn, vc, rfl⟩ := ownsRow_form hM.row.1
    have C3 := below_nx hb2 hb3
    go_wp2_with fail
    refine (p_newKept w3).mono ?_
    rintro e w4 ⟨kp, mk, rfl, hK, hkp, hmk, hne, hb4⟩
    have C4 := below_nx C3 hb4
    have z3 := C3.size
    have z2 := hb2.size
    have zk := hK.1.lt
    have zm := hK.2.lt
    go_wp2
    go_ret
    refine ⟨⟨w4.heap.size, kp, mk, rfl, _, y, Blk.new w4 _ _, ⟨C4.size, by omega, by omega, by omega, by omega, hne⟩, ?_, (hK.1.alloc _), hK.2.keep (Below.heap_alloc _ _ _ zm)⟩, C4.alloc C4.size _⟩
    have hM4 := hM.mono (Q := fun b => w.heap.size ≤ b ∧ b < w3.heap.size) (fun x hx hl => ⟨by omega, hl⟩)
    have h5 := hM4.keep (w' := w4) (fun x _ hl => hb4.block x hl)
    have h6 := h5.mono (Q := fun b => w.heap.size ≤ b ∧ b ≠ w4.heap.size ∧ b ≠ kp ∧ b ≠ mk) (fun x hx hl => ⟨hx.1, by omega, by omega, by omega⟩)
    exact h6.keep (fun x _ hl => Below.heap_alloc _ _ _ hl)

theorem ta80 (k p : Int) (w : World) : (Instr.typeAssert (.iface 108 (.agg #[.int .i64 k, .int .i64 p])) 20 108 true).run Tryz.prog w = .ok (.tuple #[.agg #[.int .i64 k, .int .i64 p], .bool true]) w := by kernel_rfl
theorem lay20 (x y v : Value) : #[x, y] ++ (((Array.replicate 18 undef).setIfInBounds 3 v).setIfInBounds 0 v) = #[x, y, v, undef, undef, v, undef, undef, undef, undef, undef, undef, undef, undef, undef, undef, undef, undef, undef, undef] := by kernel_rfl

set_option maxRecDepth 100000 in
theorem c24_idle (a b : Addr) (w : World) :
    CallsD Tryz.prog 36 #[.pointer (some a), .pointer (some b)] .returning w fun e u' w' => e = .returned (.tuple #[]) ∧ u' = .returning ∧ w' = w := by
  refine callsD_of_wpS Tryz.func36 rfl fun c₀ cs hu => ?_
  apply wpS_seq
  apply wpS_region
  simp [wpOpsS, go_sem, recoverD, hu, Tryz.ntmps36, Exit.thenS]
  refine wpS_of_wp ?_
  rw [lay20]
  go_wp2
  cases c₀
  simp_all [bodyPostS, results, Tryz.results36]

set_option maxRecDepth 100000 in
theorem c24_caught (ab bb : Nat) (k p : Int) (older : List PanicEntry) (w : World) (x y : Value) (ha : w.cell? ⟨ab, 0, none⟩ = some x) (hb : w.cell? ⟨bb, 0, none⟩ = some y) (fa : w.frozen? ⟨ab, 0, none⟩ = false) (fb : w.frozen? ⟨bb, 0, none⟩ = false) (hab : ¬ ab = bb) :
    CallsD Tryz.prog 36 #[.pointer (some ⟨ab, 0, none⟩), .pointer (some ⟨bb, 0, none⟩)] (.panicking ({ v := .iface 108 (.agg #[.int .i64 k, .int .i64 p]), recovered := false } :: older)) w fun e u' w' =>
      e = .returned (.tuple #[]) ∧ u' = .panicking ({ v := .iface 108 (.agg #[.int .i64 k, .int .i64 p]), recovered := true } :: older) ∧
        w' = (((w.setCell ⟨ab, 0, none⟩ (.int .i64 k)).setCell ⟨bb, 0, none⟩ (.int .i64 p)).alloc (Obj.cells #[.int .i64 k, .int .i64 p] 108)).drew := by
  have hta := ta80 k p
  have la := World.block_lt_of_cell? _ _ ha
  have lb := World.block_lt_of_cell? _ _ hb
  simp only at la lb
  obtain ⟨p1, p2, p3, p4⟩ := old_alloc (w := w) (b := ab) la
  obtain ⟨s1, s2, s3, s4⟩ := old_alloc (w := w) (b := bb) lb
  have hba : ¬ bb = ab := fun e => hab e.symm
  refine callsD_of_wpS Tryz.func36 rfl fun c₀ cs hu => ?_
  apply wpS_seq
  apply wpS_region
  simp [wpOpsS, go_sem, recoverD, hu, Tryz.ntmps36, Exit.thenS]
  refine wpS_of_wp ?_
  rw [lay20]
  go_wp2
  go_region
  exact ⟨rfl, _, rfl, .tuple #[], by simp [results, Tryz.results36], rfl, rfl, rfl⟩

/-- What Parse answers. -/
def ParseRet (w : World) (r : Except (Int × Nat) (List BlockR)) (e : Ending) (w' : World) : Prop :=
  (match r with
  | .error (k, p) => e = .returned (.tuple #[.pointer none, .int .i64 k, .int .i64 p])
  | .ok bs => ∃ sb kp mk, e = .returned (.tuple #[.pointer (some ⟨sb, 0, none⟩), .int .i64 0, .int .i64 0]) ∧ SchB w' sb kp mk bs w.heap.size) ∧ Below w.heap.size w w'

set_option maxRecDepth 100000 in
set_option maxHeartbeats 1000000 in
theorem c13 (w : World) (tb : Nat) (t : ByteArray) (hmax : t.size ≤ 140737488355328) (hc : w.cell? ⟨tb, 0, none⟩ = some (.string t)) (hg : GOK w) (hbo : BOK w) :
    Calls Tryz.prog 17 #[.func (Fn.func 18) #[] #[.pointer (some ⟨tb, 0, none⟩)]] w (ParseRet w (readI t)) := by
  have hmf := @mkF
  generalize hr : readI t = r
  have HR : Hid (readI t = r) := hr
  clear hr
  have htl := World.block_lt_of_cell? _ _ hc
  have B0 := ((Below.refl w.heap.size w).alloc (Nat.le_refl _) (Obj.cells #[.int .i64 0] 24)).alloc (by simp) (Obj.cells #[.int .i64 0] 3)
  go_enter_defers Tryz.func17, Tryz.ntmps17
  have hc0 : ((w.alloc (Obj.cells #[.int .i64 0] 24)).alloc (Obj.cells #[.int .i64 0] 3)).cell? ⟨tb, 0, none⟩ = some (.string t) := (B0.cell (p := ⟨tb, 0, none⟩) htl).trans hc
  have hg0 : GOK ((w.alloc (Obj.cells #[.int .i64 0] 24)).alloc (Obj.cells #[.int .i64 0] 3)) := hg.keep (B0.block _ hg.lt)
  have hbo0 : BOK ((w.alloc (Obj.cells #[.int .i64 0] 24)).alloc (Obj.cells #[.int .i64 0] 3)) := hbo.keep (B0.block _ hbo.lt)
  have K0 := (Blk.new w #[.int .i64 0] 24).alloc (Obj.cells #[.int .i64 0] 3)
  have K1 : Blk ((w.alloc (Obj.cells #[.int .i64 0] 24)).alloc (Obj.cells #[.int .i64 0] 3)) (w.heap.size + 1) #[.int .i64 0] 3 := by
    have := Blk.new (w.alloc (Obj.cells #[.int .i64 0] 24)) #[.int .i64 0] 3
    simpa using this
  go_wp2_with fail
  refine (c14 _ tb t hmax hc0 hg0 hbo0).mono ?_
  cases h : readI t with
  | error q =>
    obtain ⟨k, p⟩ := q
    rintro e w2 ⟨he, hb2⟩
    obtain rfl : e = fault k p := he
    obtain rfl : r = .error (k, p) := HR.out.symm.trans h
    have K2 := K0.below hb2 K0.lt
    have K3 := K1.below hb2 K1.lt
    have C2 := B0.trans (hb2.mono B0.size)
    obtain ⟨k1, k2⟩ := K2.rules
    obtain ⟨k3, k4⟩ := K3.rules
    have z3 := K3.lt
    unfold fault
    refine leaves_cons (f := 36) (args := #[.pointer (some ⟨w.heap.size, 0, none⟩), .pointer (some ⟨w.heap.size + 1, 0, none⟩)]) (by simp) (by simp [go_sem]) ?_
    refine (c24_caught w.heap.size (w.heap.size + 1) k p [] w2 _ _ (k1 0) (k3 0) (k2 0) (k4 0) (by omega)).mono ?_
    rintro e u' w'' ⟨rfl, rfl, rfl⟩
    have q0 := (((K2.set 0 (.int .i64 k)).other (c := w.heap.size + 1) 0 (.int .i64 p) (by omega)).alloc (Obj.cells #[.int .i64 k, .int .i64 p] 108)).cell 0
    have q1 := (((K3.other (c := w.heap.size) 0 (.int .i64 k) (by omega)).set 0 (.int .i64 p)).alloc (Obj.cells #[.int .i64 k, .int .i64 p] 108)).cell 0
    have C3 : Below w.heap.size w (((w2.setCell ⟨w.heap.size, 0, none⟩ (.int .i64 k)).setCell ⟨w.heap.size + 1, 0, none⟩ (.int .i64 p)).alloc (Obj.cells #[.int .i64 k, .int .i64 p] 108)).drew := (((C2.setCell (p := ⟨w.heap.size, 0, none⟩) (Nat.le_refl _) (.int .i64 k)).setCell (p := ⟨w.heap.size + 1, 0, none⟩) (Nat.le_succ _) (.int .i64 p)).alloc (by simp [World.setCell]; omega) _).drew
    simp at q0 q1
    simp [Leaves, settle, results, Tryz.results17, go_sem, q0, q1]
    exact ⟨rfl, C3⟩
  | ok bs =>
    rintro e w2 ⟨⟨sb, kp, mk, rfl, hsch⟩, hb2⟩
    obtain rfl : r = .ok bs := HR.out.symm.trans h
    have K2 := K0.below hb2 K0.lt
    have K3 := K1.below hb2 K1.lt
    have C2 := B0.trans (hb2.mono B0.size)
    obtain ⟨k1, k2⟩ := K2.rules
    obtain ⟨k3, k4⟩ := K3.rules
    have z3 := K3.lt
    go_wp2
    refine leaves_cons (f := 36) (args := #[.pointer (some ⟨w.heap.size, 0, none⟩), .pointer (some ⟨w.heap.size + 1, 0, none⟩)]) (by simp) (by simp [go_sem]) ?_
    refine (c24_idle ⟨w.heap.size, 0, none⟩ ⟨w.heap.size + 1, 0, none⟩ _).mono ?_
    rintro e u' w'' ⟨rfl, rfl, rfl⟩
    have q0 := ((K2.set 0 (.int .i64 0)).other (c := w.heap.size + 1) 0 (.int .i64 0) (by omega)).cell 0
    have q1 := ((K3.other (c := w.heap.size) 0 (.int .i64 0) (by omega)).set 0 (.int .i64 0)).cell 0
    have C3 : Below w.heap.size w ((w2.setCell ⟨w.heap.size, 0, none⟩ (.int .i64 0)).setCell ⟨w.heap.size + 1, 0, none⟩ (.int .i64 0)) := (C2.setCell (p := ⟨w.heap.size, 0, none⟩) (Nat.le_refl _) (.int .i64 0)).setCell (p := ⟨w.heap.size + 1, 0, none⟩) (Nat.le_succ _) (.int .i64 0)
    have hs3 : SchB ((w2.setCell ⟨w.heap.size, 0, none⟩ (.int .i64 0)).setCell ⟨w.heap.size + 1, 0, none⟩ (.int .i64 0)) sb kp mk bs w.heap.size := by
      obtain ⟨v, y, h1, ⟨h3, h4, h5, h6, h7, h8⟩, hM, hK⟩ := hsch
      have h3' : w.heap.size + 2 ≤ sb := by simpa using h3
      have h4' : w.heap.size + 2 ≤ kp := by simpa using h4
      have h5' : w.heap.size + 2 ≤ mk := by simpa using h5
      have hkk : ∀ x, w.heap.size + 2 ≤ x → ((w2.setCell ⟨w.heap.size, 0, none⟩ (.int .i64 0)).setCell ⟨w.heap.size + 1, 0, none⟩ (.int .i64 0)).heap[x]? = w2.heap[x]? := fun x hx => by rw [heap_setCell, if_neg (by omega), heap_setCell, if_neg (by omega)]
      have hM2 := hM.keep (w' := ((w2.setCell ⟨w.heap.size, 0, none⟩ (.int .i64 0)).setCell ⟨w.heap.size + 1, 0, none⟩ (.int .i64 0))) (fun x hx _ => hkk x (by simpa using hx.1))
      have hM3 := hM2.mono (Q := fun b => w.heap.size ≤ b ∧ b ≠ sb ∧ b ≠ kp ∧ b ≠ mk) (fun x hx _ => by
        have h9 : w.heap.size + 2 ≤ x := by simpa using hx.1
        exact ⟨by omega, hx.2⟩)
      exact ⟨v, y, (hkk sb h3').trans h1, ⟨by omega, by omega, by omega, h6, h7, h8⟩, hM3, (hkk kp h4').trans hK.1, hK.2.keep (hkk mk h5')⟩
    simp at q0 q1
    simp [Leaves, settle, results, Tryz.results17, go_sem, q0, q1]
    exact ⟨⟨sb, kp, mk, rfl, hs3⟩, C3⟩

end Go.Proofs.YtbbbegjedmicpaaGreatDoor

/-
  CONTRACTS: Parse, Messages.
-/
namespace Go.Proofs.YtbbbegjedmicpaaGreatDoor
open Go.RowKit Go.Maps

set_option maxRecDepth 100000 in
set_option maxHeartbeats 1000000 in
theorem c5 (w : World) (t : ByteArray) (hmax : t.size ≤ 140737488355328) (hg : GOK w) (hbo : BOK w) :
    Calls Tryz.prog 6 #[.string t] w (ParseRet w (readI t)) := by
  have hmf := @mkF
  have B0 := (Below.refl w.heap.size w).alloc (Nat.le_refl _) (Obj.cells #[.string t] 9)
  generalize hr : readI t = r
  have HR : Hid (readI t = r) := hr
  clear hr
  go_enter Tryz.func6, Tryz.ntmps6
  go_wp2_with fail
  refine (c13 _ w.heap.size t hmax ((Blk.new w #[.string t] 9).cell 0) (hg.keep (B0.block _ hg.lt)) (hbo.keep (B0.block _ hbo.lt))).mono ?_
  rw [HR.out]
  cases r with
  | error q =>
    obtain ⟨k, p⟩ := q
    rintro e w2 ⟨he, hb2⟩
    obtain rfl : e = .returned (.tuple #[.pointer none, .int .i64 k, .int .i64 p]) := he
    go_wp2
    go_ret3
    exact ⟨rfl, B0.trans (hb2.mono B0.size)⟩
  | ok bs =>
    rintro e w2 ⟨⟨sb, kp, mk, rfl, v, y, h1, ⟨h3, h4, h5, h6⟩, hM, hK⟩, hb2⟩
    go_wp2
    go_ret3
    exact ⟨⟨sb, kp, mk, rfl, v, y, h1, ⟨Nat.le_trans B0.size h3, Nat.le_trans B0.size h4, Nat.le_trans B0.size h5, h6⟩, hM.mono (fun x hx _ => ⟨Nat.le_trans B0.size hx.1, hx.2⟩), hK⟩, B0.trans (hb2.mono B0.size)⟩

/-- A schema stays as it is while others' blocks turn. -/
theorem SchemaAt.keep {w w' : World} {sb : Nat} {l : List ByteArray} {lo n : Nat} (h : SchemaAt w sb l lo) (hb : Below n w w') (hn : w.heap.size ≤ n) : SchemaAt w' sb l lo := by
  obtain ⟨v, kv, bs, y, h1, h3, hM, h4⟩ := h
  exact ⟨v, kv, bs, y, h1.below hb (Nat.lt_of_lt_of_le h1.lt hn), h3, hM.keep (fun b _ hl => hb.block b (Nat.lt_of_lt_of_le hl hn)), h4⟩

set_option maxRecDepth 100000 in
set_option maxHeartbeats 1000000 in
theorem c7 (w : World) (sb lo : Nat) (l : List ByteArray) (hlen : l.length ≤ 2001) (hs : SchemaAt w sb l lo) :
    Calls Tryz.prog 8 #[.pointer (some ⟨sb, 0, none⟩)] w fun e w' => ∃ v', e = .returned (.tuple #[v', .int .i64 0]) ∧ w'.ownsRow w.heap.size 9 1 v' l.length (strCells l) ∧ Below w.heap.size w w' := by
  obtain ⟨i0, hi0, hz0, hz1, hz2⟩ := info_parts Tryz.info9
  obtain ⟨v, kv, bs, y, h1, h3, hM, rfl⟩ := hs
  obtain ⟨va, vc, rfl⟩ := row_v hM.row.1
  have hyl : y.length = (msgNames bs).length := by rw [← hM.names]; simp
  obtain ⟨k1, k2⟩ := h1.rules
  go_enter Tryz.func8, Tryz.ntmps8
  go_wp2
  clear k1 k2
  go_loopw [4, 14] (fun v' i wr => ∃ (k : Nat), k ≤ y.length ∧ i = .int .i64 k ∧ wr.ownsRow w.heap.size 9 1 v' k (strCells ((msgNames bs).take k)) ∧ Below w.heap.size w wr) (fun _ i _ => y.length - (intOf i).toNat)
  case atStart => exact ⟨0, Nat.zero_le _, rfl, World.ownsRow_nil _ _ _ _, Below.refl _ _⟩
  case round =>
    obtain ⟨k, hk, rfl, hown, CW⟩ := hrel
    by_cases hlt : k < y.length
    · obtain ⟨m, hm⟩ := gx hlt
      have hname : (msgNames bs)[k]? = some m.1.1 := by rw [← hM.names, List.getElem?_map, hm]; rfl
      have htake : (msgNames bs).take (k + 1) = (msgNames bs).take k ++ [m.1.1] := by rw [List.take_add_one, hname]; rfl
      obtain ⟨g, rfl, _, hgl, hcell⟩ := ownsRow_at hM.row.1 (by omega)
      have q := hcell wr (CW.block g hgl) k (ptrV (some m.1.2)) (by simp [ptrCells, hm])
      unfold ptrV at q
      obtain ⟨fv, fbs, hb1, _, _, _⟩ := hM.msg m (List.mem_of_getElem? hm)
      obtain ⟨k1, k2⟩ := (hb1.below CW hb1.lt).rules
      have hl2 : k + 1 ≤ 2001 := by omega
      clear hcell
      go_wp2_with (first | (at_builtin; refine wpList_append_own_at _ rfl _ _ 30 rfl w.heap.size 9 i0 _ 1 16 Tryz.underlying30 hi0 hz0 hz1 hz2 rfl (by decide) u4 _ _ rfl (hown.alloc _) _ 1 1 [_] rfl rfl (cell_one_new _ _ _) ?h1 ?h63 ?hby ?hba ?_; rotate_right; intro v' w5 hown5 hgrow hnil hloc))
      case h1 => rfl
      case h63 => unfold maxLen; omega
      case hby => omega
      case hba => have := CW.size; simp; omega
      refine ⟨⟨k + 1, by omega, by go_num, ?_, ?_⟩, by simp [intOf]; omega⟩
      · rw [htake]
        simpa [strCells] using hown5
      · exact (CW.alloc CW.size _).grown hgrow (by have := CW.size; simp; omega) (fun j hj => (hown.lt j hj).1)
    · have hli : decide ((k : Int) < (y.length : Int)) = false := by simp; omega
      obtain rfl : k = y.length := by omega
      rw [hyl, List.take_length] at hown
      go_wp2
      go_ret2
      exact ⟨u4, rfl, hown, CW⟩
set_option maxHeartbeats 1000000 in
theorem c7_nil (w : World) :
    Calls Tryz.prog 8 #[.pointer none] w fun e w' => e = .returned (.tuple #[.slice none 0 0, .int .i64 1]) ∧ w' = w := by
  go_enter Tryz.func8, Tryz.ntmps8
  go_wp2
  go_ret2
  exact ⟨rfl, rfl⟩

end Go.Proofs.YtbbbegjedmicpaaGreatDoor
