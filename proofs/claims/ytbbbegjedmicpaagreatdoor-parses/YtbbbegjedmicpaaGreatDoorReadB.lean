import Derived.Test.YtbbbegjedmicpaaGreatDoorCkH

/-
  CONTRACTS: Read, MessageNames.
-/
namespace Go.Proofs.YtbbbegjedmicpaaGreatDoor
open Go.RowKit Go.Maps
attribute [local go_sem] f91_0 f91_1 f91_2

/-- The program's answer to a text: its tree, or an error and its place. -/
def readI (t : ByteArray) : Except (Int × Nat) (List BlockR) :=
  if 2000 < t.size then .error (2, 0)
  else
    match treeP (allWords t) with
    | .error p => .error (2, p)
    | .ok (bs, _) =>
      match blocksCk (nameList bs) [] 0 bs with
      | .error p => .error (3, p)
      | .ok _ => .ok bs

theorem rd_of_row {w : World} {base rb : Nat} {t : ByteArray} {v : Value} (ht : t.size ≤ 2000) (hrow : w.ownsRow base 114 3 v (allWords t).length ((allWords t).flatMap wcI)) (hrb : Blk w rb #[v, .int .i64 0] 124) (hne : ∀ b, v.ownBlock = some b → b ≠ rb) : ∃ wb, Rd w rb wb (allWords t) 0 := by
  have hlen := allWords_len t
  have hl2 := lex_len t
  obtain ⟨a, n, c, rfl⟩ := ownsRow_form hrow
  have hn := ownsRow_len hrow
  subst hn
  obtain ⟨g, rfl, hg, hgl, hcell⟩ := ownsRow_at hrow (by omega)
  have hc := hcell w rfl
  have W := allWords_ok t ht
  refine ⟨g, by omega, by omega, fun e => hne g rfl e.symm, ⟨c, by simpa using hrb.cell 0⟩, by simpa using hrb.cell 1, hrb.rules.2 1, fun k x hx => ?_, fun k x hx hs => ?_, fun k x hx => ?_⟩
  · have l3 : ∀ x, (wcI x).length = 3 := fun _ => rfl
    refine ⟨?_, ?_, ?_⟩
    · have := hc (k * 3 + 0) _ ((flat_get wcI 3 l3 _ k x hx 0 (by omega)).trans rfl)
      simpa using this
    · exact hc (k * 3 + 1) _ ((flat_get wcI 3 l3 _ k x hx 1 (by omega)).trans rfl)
    · exact hc (k * 3 + 2) _ ((flat_get wcI 3 l3 _ k x hx 2 (by omega)).trans rfl)
  · rcases allWords_get hx with ⟨h1, _⟩ | ⟨_, rfl⟩
    · omega
    · exact absurd (show 0 < (ByteArray.mk #[]).size from hs) (by decide)
  · refine ⟨W.size k x hx, ?_⟩
    rcases allWords_get hx with ⟨_, h⟩ | ⟨_, rfl⟩
    · have := lexF_mem t t.size 0 x h; omega
    · exact ht

/-- What Read answers. -/
def ReadRet (w : World) (r : Except (Int × Nat) (List BlockR)) (e : Ending) (w' : World) : Prop :=
  (match r with
  | .error (k, p) => e = fault k p
  | .ok bs => ∃ a n c cs, e = .returned (.agg #[.slice a n c]) ∧ RowIn w' (fun x => w.heap.size ≤ x) 118 6 (.slice a n c) bs.length cs ∧ BlocksIn w' (fun x => w.heap.size ≤ x) cs bs) ∧ Below w.heap.size w w'

set_option maxRecDepth 100000 in
set_option maxHeartbeats 2000000 in
theorem c15 (w : World) (t : ByteArray) (hmax : t.size ≤ 140737488355328) (hg : GOK w) :
    Calls Tryz.prog 20 #[.string t] w (ReadRet w (readI t)) := by
  obtain ⟨B0, K0⟩ := one_new w #[.slice none 0 0] 66
  generalize hr : readI t = r
  have HR : Hid (readI t = r) := hr
  clear hr
  by_cases hl : 2000 < t.size
  · have hd : (2000 : Int) < (t.size : Int) := by omega
    obtain rfl : r = .error (2, 0) := by rw [← HR.out, readI, if_pos hl]
    go_enter Tryz.func20, Tryz.ntmps20
    go_wp2_with fail
    refine (c25 _ _ _).mono ?_
    rintro e w2 ⟨rfl, rfl⟩
    go_wp2
    exact ⟨rfl, rfl, B0⟩
  · have ht : t.size ≤ 2000 := by omega
    have hd : decide ((2000 : Int) < (t.size : Int)) = false := by simp; omega
    have HR2 : Hid ((match treeP (allWords t) with
      | .error p => .error (2, p)
      | .ok (bs, _) =>
        match blocksCk (nameList bs) [] 0 bs with
        | .error p => .error (3, p)
        | .ok _ => .ok bs) = r) := by
      have := HR.out
      rw [readI, if_neg hl] at this
      exact this
    clear hl
    go_enter Tryz.func20, Tryz.ntmps20
    go_wp2_with fail
    refine (c26 t _ ht).mono ?_
    rintro e w1 ⟨v, rfl, hrow, hb1⟩
    obtain ⟨va, vn, vc, rfl⟩ := ownsRow_form hrow
    have C1 : Below w.heap.size w w1 := B0.trans (hb1.mono (by simp))
    have K1 := K0.below hb1 K0.lt
    have C2 := C1.alloc C1.size (Obj.cells #[.slice va vn vc, .int .i64 0] 124)
    have K2 := K1.alloc (Obj.cells #[.slice va vn vc, .int .i64 0] 124)
    obtain ⟨wb, R2⟩ := rd_of_row (rb := w1.heap.size) ht (hrow.alloc (Obj.cells #[.slice va vn vc, .int .i64 0] 124)) (Blk.new w1 _ _) (fun b hb => by have := (hrow.lt b hb).2; omega)
    have z1 := K1.lt
    clear hrow hb1 hd
    go_wp2_with fail
    refine (c27 _ w1.heap.size wb (allWords t) R2).mono ?_
    cases h3 : treeP (allWords t) with
    | error p =>
      rintro e w3 ⟨rfl, j, A⟩
      obtain rfl : r = .error (2, p) := by rw [← HR2.out, h3]
      unfold fault
      go_wp2
      refine ⟨rfl, rfl, C2.trans ⟨A.os, A.tape, A.output, A.size, fun k hk => ?_⟩⟩
      rw [Below.block A k (by simp; omega), adv, heap_setCell, if_neg (by omega)]
    | ok q =>
      obtain ⟨bs, j⟩ := q
      rintro e w3 ⟨⟨a, n, c, cs, rfl, hrw, hbs⟩, R3, A⟩
      have C3 : Below w.heap.size w w3 := C2.trans ⟨A.os, A.tape, A.output, A.size, fun k hk => by
        rw [Below.block A k (by simp; omega), adv, heap_setCell, if_neg (by omega)]⟩
      have K3 := K2.adv_ A K2.lt (by omega)
      have z3 : w1.heap.size + 1 ≤ w3.heap.size := by have := A.size; simpa using this
      have hrw2 := hrw.mono (S' := fun b => w.heap.size < b) (fun b hb _ => by simp at hb; omega)
      have hbs2 := hbs.mono (S' := fun b => w.heap.size < b) (fun b hb _ => by simp at hb; omega)
      have OK := treeP_ok (allWords_ok t ht) h3
      have C4 := C3.alloc C3.size (Obj.cells #[.slice a n c] 66)
      have K4 := K3.alloc (Obj.cells #[.slice a n c] 66)
      have J4 := Blk.new w3 #[.slice a n c] 66
      have hrw4 := hrw2.keep (w' := w3.alloc (Obj.cells #[.slice a n c] 66)) (fun b _ hb => Below.heap_alloc _ _ _ hb)
      have hbs4 := hbs2.keep (w' := w3.alloc (Obj.cells #[.slice a n c] 66)) (fun b _ hb => Below.heap_alloc _ _ _ hb)
      have hg4 : GOK (w3.alloc (Obj.cells #[.slice a n c] 66)) := hg.keep (C4.block _ hg.lt)
      clear hrw hbs R3 hrw2 hbs2
      go_wp2_with fail
      refine (c28 _ a n c bs cs _ hrw4 hbs4 OK.2 OK.1 hg4).mono ?_
      cases h4 : blocksCk (nameList bs) [] 0 bs with
      | error p =>
        rintro e w5 ⟨he, hb5⟩
        obtain rfl : e = fault 3 p := he
        obtain rfl : r = .error (3, p) := by rw [← HR2.out, h3]; simp only [h4]
        unfold fault
        go_wp2
        exact ⟨rfl, rfl, C4.trans (hb5.mono C4.size)⟩
      | ok u =>
        rintro e w5 ⟨he, hb5⟩
        obtain rfl : e = .returned (.tuple #[]) := he
        obtain rfl : r = .ok bs := by rw [← HR2.out, h3]; simp only [h4]
        have C5 := C4.trans (hb5.mono C4.size)
        have K5 := K4.below hb5 K4.lt
        have J5 := J4.below hb5 J4.lt
        have hrw5 := hrw4.keep (w' := w5) (fun b _ hb => hb5.block b hb)
        have hbs5 := hbs4.keep (w' := w5) (fun b _ hb => hb5.block b hb)
        obtain ⟨k1, k2⟩ := K5.rules
        obtain ⟨j1, j2⟩ := J5.rules
        go_wp2
        have K6 := K5.sets_all [.slice a n c] rfl
        have C6 : Below w.heap.size w (w5.setCells w.heap.size 0 [.slice a n c]) := C5.trans ((Below.refl w.heap.size w5).setCell (p := ⟨w.heap.size, 0, none⟩) (Nat.le_refl _) (.slice a n c))
        refine bodyPost_ret (ret_cell Tryz.results20 _ _ rfl K6 Tryz.underlying66 (by kernel_rfl)) rfl ⟨⟨a, n, c, cs, rfl, ?_, ?_⟩, C6⟩
        · have h9 := hrw5.keep (w' := w5.setCells w.heap.size 0 [.slice a n c]) (fun b hb _ => setCells_block _ _ (by have : w.heap.size < b := hb; omega) _ _)
          exact h9.mono (fun b hb _ => by have : w.heap.size < b := hb; omega)
        · have h9 := hbs5.keep (w' := w5.setCells w.heap.size 0 [.slice a n c]) (fun b hb _ => setCells_block _ _ (by have : w.heap.size < b := hb; omega) _ _)
          exact h9.mono (fun b hb _ => by have : w.heap.size < b := hb; omega)


/-- The messages' names. -/
def msgNames (bs : List BlockR) : List ByteArray := (bs.filter fun b => !b.enum).map fun b => b.name.1

set_option maxRecDepth 100000 in
set_option maxHeartbeats 2000000 in
theorem c16 (w : World) (ta : Option Addr) (tn tc : Nat) (bs : List BlockR) (cs : List Value) (S : Nat → Prop) (hrow : RowIn w S 118 6 (.slice ta tn tc) bs.length cs) (hbs : BlocksIn w S cs bs) (hlen : bs.length ≤ 2001) (hok : ∀ b ∈ bs, BlockOK b) :
    Calls Tryz.prog 37 #[.agg #[.slice ta tn tc]] w fun e w' => ∃ v, e = .returned v ∧ w'.ownsRow w.heap.size 9 1 v (msgNames bs).length (strCells (msgNames bs)) ∧ Below w.heap.size w w' := by
  have hvn := ownsRow_len hrow.1
  subst hvn
  obtain ⟨i0, hi0, hz0, hz1, hz2⟩ := info_parts Tryz.info9
  have C0 := (Below.refl w.heap.size w).alloc (Nat.le_refl _) (Obj.cells #[.slice ta bs.length tc] 66)
  go_enter Tryz.func37, Tryz.ntmps37
  go_wp2
  go_loopw [3, 9] (fun v i wr => ∃ (k : Nat) (l : List ByteArray), k ≤ bs.length ∧ i = .int .i64 k ∧ l.length ≤ k ∧ Hid (l ++ msgNames (bs.drop k) = msgNames bs) ∧ wr.ownsRow w.heap.size 9 1 v l.length (strCells l) ∧ Below w.heap.size w wr) (fun _ i _ => bs.length - (intOf i).toNat)
  case atStart => exact ⟨0, [], Nat.zero_le _, rfl, Nat.le_refl _, by simp [Hid], World.ownsRow_nil _ _ _ _, C0⟩
  case round =>
    clear C0
    obtain ⟨k, l, hk, rfl, hll, HP, hown, CW⟩ := hrel
    by_cases hlt : k < bs.length
    · obtain ⟨b, hb⟩ := gx hlt
      have hbo := hok b (List.mem_of_getElem? hb)
      have hdrop : bs.drop k = b :: bs.drop (k + 1) := by
        rw [List.drop_eq_getElem_cons hlt]
        rw [List.getElem?_eq_getElem hlt] at hb
        rw [Option.some.inj hb]
      obtain ⟨g, rfl, _, hgl, hcell⟩ := ownsRow_at hrow.1 (by omega)
      obtain ⟨pa, pn, pc, va, vn, vc, p0, p1, p2, p3, p4, p5, hbi⟩ := hbs.get hb
      have hcg := hcell wr (CW.block g hgl)
      rw [Nat.add_zero] at p0
      have q0 := hcg _ _ p0
      have q1 := hcg _ _ p1
      have q2 := hcg _ _ p2
      have q3 := hcg _ _ p3
      have q4 := hcg _ _ p4
      have q5 := hcg _ _ p5
      have KB := Blk.new wr #[.bool b.enum, .int .i64 (kindW b.name.1), .string b.name.1, .int .i64 b.name.2, .slice pa pn pc, .slice va vn vc] 118
      have CA := CW.alloc CW.size (Obj.cells #[.bool b.enum, .int .i64 (kindW b.name.1), .string b.name.1, .int .i64 b.name.2, .slice pa pn pc, .slice va vn vc] 118)
      have hownA := hown.alloc (Obj.cells #[.bool b.enum, .int .i64 (kindW b.name.1), .string b.name.1, .int .i64 b.name.2, .slice pa pn pc, .slice va vn vc] 118)
      clear hcell hcg p0 p1 p2 p3 p4 p5 hb hbi
      cases hen : b.enum
      · rw [hen] at q0 KB CA hownA
        have HP2 : Hid ((l ++ [b.name.1]) ++ msgNames (bs.drop (k + 1)) = msgNames bs) := by
          have := HP.out
          rw [hdrop] at this
          simpa [msgNames, hen, Hid] using this
        clear hdrop
        go_wp2_with fail
        refine (c29 _ _ hbo.name).mono ?_
        rintro e w4 ⟨rfl, hb4⟩
        have C4 := CA.trans (hb4.mono CA.size)
        have hown4 := ownsRow_below hb4 hownA
        clear q0 q1 q2 q3 q4 q5
        go_wp2_with (first | (at_builtin; refine wpList_append_own_at _ rfl _ _ 30 rfl w.heap.size 9 i0 _ 1 16 Tryz.underlying30 hi0 hz0 hz1 hz2 rfl (by decide) u3 _ _ rfl (hown4.alloc _) _ 1 1 [_] rfl rfl (cell_one_new _ _ _) ?h1 ?h63 ?hby ?hba ?_; rotate_right; intro v' w5 hown5 hgrow hnil hloc))
        case h1 => intro u hu; simp at hu; subst hu; rfl
        case h63 => unfold maxLen; omega
        case hby => omega
        case hba => have := C4.size; simp; omega
        refine ⟨⟨k + 1, l ++ [b.name.1], by omega, by go_num, by simp; omega, HP2, ?_, ?_⟩, by simp [intOf]; omega⟩
        · simpa [strCells] using hown5
        · exact (C4.alloc C4.size _).grown hgrow (by have := C4.size; simp; omega) (fun j hj => (hown4.lt j hj).1)
      · rw [hen] at q0 KB CA hownA
        have HP2 : Hid (l ++ msgNames (bs.drop (k + 1)) = msgNames bs) := by
          have := HP.out
          rw [hdrop] at this
          simpa [msgNames, hen, Hid] using this
        clear hdrop
        go_wp2
        go_roundw
        case rel => exact ⟨k + 1, l, by omega, by go_num, by omega, HP2, hownA, CA⟩
        case measure => simp [intOf]; omega
    · have hdone : bs.drop k = [] := by rw [List.drop_eq_nil_iff]; omega
      have HP2 : Hid (l = msgNames bs) := by
        have := HP.out
        rw [hdone] at this
        simpa [msgNames, Hid] using this
      clear hdone
      go_wp2
      go_ret
      refine ⟨_, rfl, ?_, CW⟩
      rw [← HP2.out]
      exact hown

end Go.Proofs.YtbbbegjedmicpaaGreatDoor

/-
  THE SHAPE OF A TREE THAT WAS READ: types, forms, keys.
-/
namespace Go.Proofs.YtbbbegjedmicpaaGreatDoor
open Go.RowKit

structure ShapeF (f : FieldR) : Prop where
  size : f.type.1.size ≤ 2000
  kind : kindW f.type.1 = 3 ∨ kindW f.type.1 = 1
  key : f.form = 4 ↔ f.key.isSome = true
def ShapeP (p : PartR) : Prop :=
  (∀ f ∈ p.fields, ShapeF f) ∧ ((∃ o, p.oneof = some o ∧ kindW o.1 = 1 ∧ ∀ f ∈ p.fields, f.form = 3) ∨ (p.oneof = none ∧ ∃ f, p.fields = [f] ∧ (f.form = 0 ∨ f.form = 1 ∨ f.form = 2 ∨ f.form = 4)))
def ShapeB (b : BlockR) : Prop := ∀ p ∈ b.parts, ShapeP p

theorem manyP_all {α : Type} {stop : Nat → Bool} {p : Nat → Res α} {Q : α → Prop} (hp : ∀ i a j, p i = .ok (a, j) → Q a) : ∀ (n i : Nat) (l : List α) (j : Nat), manyP stop p n i = .ok (l, j) → ∀ a ∈ l, Q a
  | 0, i, l, j, h => by
    simp [manyP] at h
    simp_all
  | n + 1, i, l, j, h => by
    unfold manyP at h
    split at h
    · simp_all
    · obtain ⟨a, k, h1, h⟩ := andP_ok h
      obtain ⟨r, k2, h2, h⟩ := andP_ok h
      simp at h
      obtain ⟨rfl, _⟩ := h
      intro x hx
      rcases List.mem_cons.1 hx with rfl | hx
      · grind
      · exact manyP_all hp n k r k2 h2 x hx
theorem fieldP_shape {ws : List W} (H : WsOK ws) {form : Int} {i : Nat} {f : FieldR} {j : Nat} (hf : form ≠ 4) (h : fieldP ws form i = .ok (f, j)) : ShapeF f ∧ f.form = form := by
  unfold fieldP at h
  obtain ⟨t, i1, h1, h⟩ := andP_ok h
  obtain ⟨nm, i2, h2, h⟩ := andP_ok h
  simp at h
  obtain ⟨rfl, _⟩ := h
  obtain ⟨_, h3, h4⟩ := typeP_on _ _ _ _ h1
  exact ⟨⟨H.size _ _ h3, h4, by grind⟩, rfl⟩
theorem mapP_shape {ws : List W} (H : WsOK ws) {i : Nat} {f : FieldR} {j : Nat} (h : mapP ws i = .ok (f, j)) : ShapeF f ∧ f.form = 4 := by
  unfold mapP at h
  obtain ⟨_, i1, _, h⟩ := andP_ok h
  obtain ⟨_, i2, _, h⟩ := andP_ok h
  obtain ⟨k, i3, _, h⟩ := andP_ok h
  obtain ⟨_, i4, _, h⟩ := andP_ok h
  obtain ⟨t, i5, h5, h⟩ := andP_ok h
  obtain ⟨_, i6, _, h⟩ := andP_ok h
  obtain ⟨nm, i7, _, h⟩ := andP_ok h
  simp at h
  obtain ⟨rfl, _⟩ := h
  obtain ⟨_, h3, h4⟩ := typeP_on _ _ _ _ h5
  exact ⟨⟨H.size _ _ h3, h4, by simp⟩, rfl⟩
theorem oneofP_shape {ws : List W} (H : WsOK ws) {i : Nat} {p : PartR} {j : Nat} (h : oneofP ws i = .ok (p, j)) : ShapeP p := by
  unfold oneofP at h
  obtain ⟨_, i1, _, h⟩ := andP_ok h
  obtain ⟨o, i2, h2, h⟩ := andP_ok h
  obtain ⟨_, i3, _, h⟩ := andP_ok h
  obtain ⟨f, i4, h4, h⟩ := andP_ok h
  obtain ⟨l, i5, h5, h⟩ := andP_ok h
  obtain ⟨_, i6, _, h⟩ := andP_ok h
  obtain ⟨l', i7, h7, h8⟩ := andP_ok h5
  simp at h
  obtain ⟨rfl, _⟩ := h
  simp at h8
  obtain ⟨rfl, _⟩ := h8
  have a4 := fieldP_shape H (by decide) h4
  have a7 := manyP_all (Q := fun f => ShapeF f ∧ f.form = 3) (fun i a j h => fieldP_shape H (by decide) h) _ _ _ _ h7
  have ho := (kindP_on _ _ _ _ _ h2).2.2
  have all : ∀ x ∈ f :: l', ShapeF x ∧ x.form = 3 := by
    simp_all
  exact ⟨fun x hx => (all x hx).1, .inl ⟨o, rfl, ho, fun x hx => (all x hx).2⟩⟩
theorem aloneP_shape {r : Res FieldR} {p : PartR} {j : Nat} (hr : ∀ f j, r = .ok (f, j) → ShapeF f ∧ (f.form = 0 ∨ f.form = 1 ∨ f.form = 2 ∨ f.form = 4)) (h : aloneP r = .ok (p, j)) : ShapeP p := by
  obtain ⟨f, i1, h1, h⟩ := andP_ok h
  simp at h
  obtain ⟨rfl, _⟩ := h
  have := hr _ _ h1
  exact ⟨by simp_all, .inr ⟨rfl, f, rfl, this.2⟩⟩
theorem partP_shape {ws : List W} (H : WsOK ws) {i : Nat} {p : PartR} {j : Nat} (h : partP ws i = .ok (p, j)) : ShapeP p := by
  unfold partP at h
  split at h
  · exact oneofP_shape H h
  · split at h
    · exact aloneP_shape (fun f j hf => by have := mapP_shape H hf; simp_all) h
    · split at h
      · exact aloneP_shape (fun f j hf => by have := fieldP_shape H (by decide) hf; simp_all) h
      · split at h
        · exact aloneP_shape (fun f j hf => by have := fieldP_shape H (by decide) hf; simp_all) h
        · exact aloneP_shape (fun f j hf => by have := fieldP_shape H (by decide) hf; simp_all) h
theorem treeP_shape {ws : List W} (H : WsOK ws) {bs : List BlockR} {j : Nat} (h : treeP ws = .ok (bs, j)) : ∀ b ∈ bs, ShapeB b := by
  refine manyP_all (Q := ShapeB) (fun i b j hb => ?_) _ _ _ _ h
  unfold blockP at hb
  split at hb
  · unfold enumP at hb
    obtain ⟨_, i1, _, hb⟩ := andP_ok hb
    obtain ⟨n, i2, _, hb⟩ := andP_ok hb
    obtain ⟨_, i3, _, hb⟩ := andP_ok hb
    obtain ⟨l, i4, _, hb⟩ := andP_ok hb
    obtain ⟨_, i5, _, hb⟩ := andP_ok hb
    simp at hb
    obtain ⟨rfl, _⟩ := hb
    intro p hp
    simp at hp
  · unfold messageP at hb
    obtain ⟨_, i1, _, hb⟩ := andP_ok hb
    obtain ⟨n, i2, _, hb⟩ := andP_ok hb
    obtain ⟨_, i3, _, hb⟩ := andP_ok hb
    obtain ⟨l, i4, h4, hb⟩ := andP_ok hb
    obtain ⟨_, i5, _, hb⟩ := andP_ok hb
    simp at hb
    obtain ⟨rfl, _⟩ := hb
    exact manyP_all (Q := ShapeP) (fun i p j hp => partP_shape H hp) _ _ _ _ h4

end Go.Proofs.YtbbbegjedmicpaaGreatDoor
