import Derived.Test.YtbbbegjedmicpaaGreatDoorEqD

/-
  THE FIRST WRONG WORD (plain terms): places rise, so the least place is the first.
-/
namespace Go.Proofs.YtbbbegjedmicpaaGreatDoor
open Go.RowKit

/-- Places that rise, between two. -/
def Rise : Nat → List Nat → Nat → Prop
  | lo, [], hi => lo ≤ hi
  | lo, a :: l, hi => lo ≤ a ∧ Rise a l hi
theorem Rise.app : ∀ {l1 l2 : List Nat} {lo mid hi : Nat}, Rise lo l1 mid → Rise mid l2 hi → Rise lo (l1 ++ l2) hi
  | [], [], _, _, _, h1, h2 => Nat.le_trans h1 h2
  | [], _ :: _, _, _, _, h1, h2 => ⟨Nat.le_trans h1 h2.1, h2.2⟩
  | _ :: _, _, _, _, _, h1, h2 => ⟨h1.1, Rise.app h1.2 h2⟩
theorem Rise.low : ∀ {l : List Nat} {lo lo' hi : Nat}, Rise lo l hi → lo' ≤ lo → Rise lo' l hi
  | [], _, _, _, h, h' => Nat.le_trans h' h
  | _ :: _, _, _, _, h, h' => ⟨Nat.le_trans h' h.1, h.2⟩
theorem Rise.le : ∀ {l : List Nat} {lo hi : Nat}, Rise lo l hi → ∀ a ∈ l, lo ≤ a
  | _ :: _, _, _, h, a, ha => by
    rcases List.mem_cons.1 ha with rfl | ha
    · exact h.1
    · exact Nat.le_trans h.1 (Rise.le h.2 a ha)
theorem Rise.tail : ∀ {l1 l2 : List Nat} {lo hi : Nat}, Rise lo (l1 ++ l2) hi → Rise lo l2 hi
  | [], _, _, _, h => h
  | _ :: _, _, _, _, h => (Rise.tail h.2).low h.1
theorem Rise.split : ∀ {l1 l2 : List Nat} {lo hi : Nat}, Rise lo (l1 ++ l2) hi → ∀ a ∈ l1, ∀ b ∈ l2, a ≤ b
  | _ :: _, _, _, _, h, a, ha, b, hb => by
    rcases List.mem_cons.1 ha with rfl | ha
    · exact (Rise.tail h.2).le b hb
    · exact Rise.split h.2 a ha b hb

def keyPl : Option W → List Nat
  | some k => [k.2]
  | none => []
def fPl (f : FieldR) : List Nat := keyPl f.key ++ [f.type.2, f.name.2, f.num.2]
def pPl (p : PartR) : List Nat := keyPl p.oneof ++ p.fields.flatMap fPl
def vPl (v : W × W) : List Nat := [v.1.2, v.2.2]
def bPl (b : BlockR) : List Nat := b.name.2 :: (b.parts.flatMap pPl ++ b.values.flatMap vPl)

/-- What stays as it is once a word was wrong, ahead of all that follow. -/
theorem wrongI_keep {w : Int} {a : Nat} (h0 : 0 ≤ w) (h : w ≤ a) : wrongI w a = w := by
  unfold wrongI
  rw [if_neg (by omega)]
theorem ite_keep {c : Bool} {w : Int} {a : Nat} (h0 : 0 ≤ w) (h : w ≤ a) : (if c then wrongI w a else w) = w := by
  split
  · exact wrongI_keep h0 h
  · rfl
theorem eK_keep {o : Option W} {w : Int} (h0 : 0 ≤ w) (h : ∀ a ∈ keyPl o, w ≤ (a : Nat)) : eK o w = w := by
  cases o with
  | none => rfl
  | some k =>
    show (if keyGood (kindW k.1) k.1 then w else wrongI w k.2) = w
    split
    · rfl
    · exact wrongI_keep h0 (h k.2 (by simp [keyPl]))
theorem fE_keep {types : List ByteArray} {f : FieldR} {e : ES} (h0 : 0 ≤ e.wr) (h : ∀ a ∈ fPl f, e.wr ≤ (a : Nat)) : (fE types f e).wr = e.wr := by
  show eV e.nums f.num (eN e.names (decide (12 ≤ e.nums.length)) f.name (eT types f.type (eK f.key e.wr))) = e.wr
  rw [eK_keep h0 (fun a ha => h a (by simp [fPl, ha]))]
  have h1 : eT types f.type e.wr = e.wr := ite_keep h0 (h f.type.2 (by simp [fPl]))
  have h2 : eN e.names (decide (12 ≤ e.nums.length)) f.name e.wr = e.wr := ite_keep h0 (h f.name.2 (by simp [fPl]))
  rw [h1, h2]
  exact ite_keep h0 (h f.num.2 (by simp [fPl]))
theorem fsE_keep {types : List ByteArray} : ∀ {fs : List FieldR} {e : ES}, 0 ≤ e.wr → (∀ a ∈ fs.flatMap fPl, e.wr ≤ (a : Nat)) → (fsE types fs e).wr = e.wr
  | [], e, _, _ => rfl
  | f :: fs, e, h0, h => by
    have h1 := fE_keep (types := types) (f := f) (e := e) h0 (fun a ha => h a (by simp only [List.flatMap_cons, List.mem_append]; exact .inl ha))
    show (fsE types fs (fE types f e)).wr = e.wr
    rw [fsE_keep (by rw [h1]; exact h0) (fun a ha => by rw [h1]; exact h a (by simp only [List.flatMap_cons, List.mem_append]; exact .inr ha)), h1]
theorem pE_keep {types : List ByteArray} {p : PartR} {e : ES} (h0 : 0 ≤ e.wr) (h : ∀ a ∈ pPl p, e.wr ≤ (a : Nat)) : (pE types p e).wr = e.wr := by
  unfold pE
  cases ho : p.oneof with
  | none => exact fsE_keep h0 (fun a ha => h a (by simp only [pPl, List.mem_append]; exact .inr ha))
  | some o =>
    have h1 : eN e.names false o e.wr = e.wr := ite_keep h0 (h o.2 (by simp [pPl, ho, keyPl]))
    simp only
    rw [fsE_keep (by rw [h1]; exact h0) (fun a ha => by show eN e.names false o e.wr ≤ _; rw [h1]; exact h a (by simp only [pPl, List.mem_append]; exact .inr ha))]
    exact h1
theorem psE_keep {types : List ByteArray} : ∀ {ps : List PartR} {e : ES}, 0 ≤ e.wr → (∀ a ∈ ps.flatMap pPl, e.wr ≤ (a : Nat)) → (psE types ps e).wr = e.wr
  | [], e, _, _ => rfl
  | p :: ps, e, h0, h => by
    have h1 := pE_keep (types := types) (p := p) (e := e) h0 (fun a ha => h a (by simp only [List.flatMap_cons, List.mem_append]; exact .inl ha))
    show (psE types ps (pE types p e)).wr = e.wr
    rw [psE_keep (by rw [h1]; exact h0) (fun a ha => by rw [h1]; exact h a (by simp only [List.flatMap_cons, List.mem_append]; exact .inr ha)), h1]
theorem vE_keep {v : W × W} {e : Int × List ByteArray} (h0 : 0 ≤ e.1) (h : ∀ a ∈ vPl v, e.1 ≤ (a : Nat)) : (vE v e).1 = e.1 := by
  unfold vE
  simp only
  have h1 : eN e.2 false v.1 e.1 = e.1 := ite_keep h0 (h v.1.2 (by simp [vPl]))
  rw [h1]
  split
  · exact wrongI_keep h0 (h v.2.2 (by simp [vPl]))
  · rfl
theorem vsE_keep : ∀ {vs : List (W × W)} {e : Int × List ByteArray}, 0 ≤ e.1 → (∀ a ∈ vs.flatMap vPl, e.1 ≤ (a : Nat)) → (vsE vs e).1 = e.1
  | [], e, _, _ => rfl
  | v :: vs, e, h0, h => by
    have h1 := vE_keep (v := v) (e := e) h0 (fun a ha => h a (by simp only [List.flatMap_cons, List.mem_append]; exact .inl ha))
    show (vsE vs (vE v e)).1 = e.1
    rw [vsE_keep (by rw [h1]; exact h0) (fun a ha => by rw [h1]; exact h a (by simp only [List.flatMap_cons, List.mem_append]; exact .inr ha)), h1]
theorem bE_keep {types : List ByteArray} {b : BlockR} {names : List ByteArray} {m : Nat} {w : Int} (h0 : 0 ≤ w) (h : ∀ a ∈ bPl b, w ≤ (a : Nat)) : bE types b names m w = w := by
  unfold bE
  split
  · have h1 : eN names false b.name w = w := ite_keep h0 (h b.name.2 (by simp [bPl]))
    rw [h1]
    exact vsE_keep (e := (w, [])) h0 (fun a ha => h a (by simp only [bPl, List.mem_cons, List.mem_append]; exact .inr (.inr ha)))
  · have h1 : eN names (decide (6 ≤ m)) b.name w = w := ite_keep h0 (h b.name.2 (by simp [bPl]))
    rw [h1]
    exact psE_keep (e := ⟨w, [], []⟩) h0 (fun a ha => h a (by simp only [bPl, List.mem_cons, List.mem_append]; exact .inr (.inl ha)))
theorem bsE_keep {types : List ByteArray} : ∀ {bs : List BlockR} {names : List ByteArray} {m : Nat} {w : Int}, 0 ≤ w → (∀ a ∈ bs.flatMap bPl, w ≤ (a : Nat)) → bsE types bs names m w = w
  | [], _, _, _, _, _ => rfl
  | b :: bs, names, m, w, h0, h => by
    have h1 := bE_keep (types := types) (b := b) (names := names) (m := m) h0 (fun a ha => h a (by simp only [List.flatMap_cons, List.mem_append]; exact .inl ha))
    show bsE types bs _ _ (bE types b names m w) = w
    rw [h1]
    exact bsE_keep h0 (fun a ha => h a (by simp only [List.flatMap_cons, List.mem_append]; exact .inr ha))

theorem wrongI_new {w : Int} {a : Nat} (h : w < 0) : wrongI w a = a := by
  unfold wrongI
  rw [if_pos (.inl h)]

/-- The looks' state, on both sides. -/
structure StOK (e : ES) (names : List ByteArray) (nums : List Nat) : Prop where
  ename : e.names = names
  enum_ : e.nums = nums.map fun n : Nat => (n : Int)
  few : ∀ n ∈ nums, n ≤ 536870911
theorem memI_map (n : Nat) : ∀ nums : List Nat, memI (nums.map fun n : Nat => (n : Int)) n = memN nums n
  | [] => rfl
  | a :: l => by
    have ih := memI_map n l
    unfold memI memN at *
    simp only [List.map_cons, List.any_cons]
    rw [ih]
    congr 1
    rw [Bool.eq_iff_iff]
    simp
    omega
theorem numW_eq {e : ES} {names : List ByteArray} {nums : List Nat} (h : StOK e names nums) {s : ByteArray} (hs : numEq s) : numW e.nums (valI s) = numBad nums (numV s) := by
  unfold numW numBad
  rw [hs, h.enum_]
  by_cases h1 : numV s ≤ 536870911
  · have e1 : min (numV s) 1099511627776 = numV s := by omega
    rw [e1, memI_map, Bool.or_assoc]
    congr 1
    · rw [Bool.eq_iff_iff]; simp; omega
    · congr 1
      rw [Bool.eq_iff_iff]; simp; omega
  · have e1 : decide (536870911 < ((min (numV s) 1099511627776 : Nat) : Int)) = true := by simp; omega
    have e2 : decide (536870911 < numV s) = true := by simp; omega
    rw [e1, e2]
    simp
def FormOK (f : FieldR) : Prop := (f.key = none ∧ (f.form == 4) = false) ∨ (∃ k, f.key = some k ∧ (f.form == 4) = true)
structure FldOK (f : FieldR) : Prop where
  form : FormOK f
  num : numEq f.num.1
theorem eN_bad {names : List ByteArray} {full : Bool} {x : W} {w : Int} (hw : w < 0) (h : (nameBad names x.1 || full) = true) : eN names full x w = x.2 := by
  unfold eN
  rw [if_pos h, wrongI_new hw]
theorem eN_good {names : List ByteArray} {full : Bool} {x : W} {w : Int} (h : (nameBad names x.1 || full) = false) : eN names full x w = w := by
  unfold eN
  rw [if_neg (by rw [h]; decide)]

/-- A look at a field, on both sides. -/
theorem fld_ck {types : List ByteArray} {e : ES} {names : List ByteArray} {nums : List Nat} {f : FieldR} {lo hi : Nat} (hw : e.wr < 0) (hs : StOK e names nums) (hf : FldOK f) (hr : Rise lo (fPl f) hi) :
    match fieldCk types names nums f with
    | .error p => (fE types f e).wr = p ∧ p ∈ fPl f
    | .ok (names', nums') => (fE types f e).wr < 0 ∧ StOK (fE types f e) names' nums' := by
  have hnw := numW_eq hs hf.num
  have hE : (fE types f e).wr = eV e.nums f.num (eN e.names (decide (12 ≤ e.nums.length)) f.name (eT types f.type (eK f.key e.wr))) := rfl
  have hlen : e.nums.length = nums.length := by rw [hs.enum_]; simp
  rw [hs.ename, hlen] at hE
  have ht : f.type.2 ∈ fPl f := by simp [fPl]
  have hn : f.name.2 ∈ fPl f := by simp [fPl]
  have hm : f.num.2 ∈ fPl f := by simp [fPl]
  have hr2 : Rise lo [f.type.2, f.name.2, f.num.2] hi := Rise.tail (l1 := keyPl f.key) hr
  obtain ⟨_, r2, r3, _⟩ := hr2
  unfold fieldCk fldCk
  -- the key
  have hkey : (∃ k, f.key = some k ∧ (f.form == 4) = true ∧ keyGood (kindW k.1) k.1 = false) ∨ ((f.form == 4 && !keyGood (pkK f.key) (pkS f.key)) = false ∧ eK f.key e.wr = e.wr) := by
    rcases hf.form with ⟨h1, h2⟩ | ⟨k, h1, h2⟩
    · right
      rw [h1, h2]
      exact ⟨rfl, rfl⟩
    · cases hk : keyGood (kindW k.1) k.1
      · exact .inl ⟨k, h1, h2, hk⟩
      · right
        rw [h1, h2]
        have : keyGood (pkK (some k)) (pkS (some k)) = true := hk
        rw [this]
        refine ⟨rfl, ?_⟩
        show (if keyGood (kindW k.1) k.1 then e.wr else wrongI e.wr k.2) = e.wr
        rw [hk]
        rfl
  rcases hkey with ⟨k, h1, h2, h3⟩ | ⟨h1, h2⟩
  · have hkm : k.2 ∈ keyPl f.key := by rw [h1]; simp [keyPl]
    have hle := Rise.split (l1 := keyPl f.key) (l2 := [f.type.2, f.name.2, f.num.2]) hr k.2 hkm
    have l1 := hle f.type.2 (by simp)
    have l2 := hle f.name.2 (by simp)
    have l3 := hle f.num.2 (by simp)
    have hg : (f.form == 4 && !keyGood (pkK f.key) (pkS f.key)) = true := by
      rw [h1, h2]
      have : keyGood (pkK (some k)) (pkS (some k)) = false := h3
      rw [this]
      rfl
    rw [if_pos hg]
    have hpk : pkA f.key = k.2 := by rw [h1]; rfl
    rw [hpk]
    refine ⟨?_, by simp only [fPl, List.mem_append]; exact .inl hkm⟩
    have e1 : eK f.key e.wr = k.2 := by
      rw [h1]
      show (if keyGood (kindW k.1) k.1 then e.wr else wrongI e.wr k.2) = k.2
      rw [h3]
      exact wrongI_new hw
    rw [hE, e1]
    have e2 : eT types f.type (k.2 : Int) = k.2 := ite_keep (by omega) (by omega)
    have e3 : eN names (decide (12 ≤ nums.length)) f.name (k.2 : Int) = k.2 := ite_keep (by omega) (by omega)
    rw [e2, e3]
    exact ite_keep (by omega) (by omega)
  · rw [if_neg (by rw [h1]; decide)]
    rw [h2] at hE
    unfold fldTail
    cases ht1 : typeBad types (kindW f.type.1) f.type.1
    rotate_left
    · simp only [if_true]
      refine ⟨?_, ht⟩
      have e2 : eT types f.type e.wr = f.type.2 := by unfold eT; rw [ht1, if_pos rfl, wrongI_new hw]
      have e3 : eN names (decide (12 ≤ nums.length)) f.name (f.type.2 : Int) = f.type.2 := ite_keep (by omega) (by omega)
      rw [hE, e2, e3]
      exact ite_keep (by omega) (by omega)
    simp only [Bool.false_eq_true, if_false]
    have e2 : eT types f.type e.wr = e.wr := by unfold eT; rw [ht1]; rfl
    rw [e2] at hE
    cases hn1 : nameBad names f.name.1
    rotate_left
    · simp only [if_true]
      refine ⟨?_, hn⟩
      have e3 : eN names (decide (12 ≤ nums.length)) f.name e.wr = f.name.2 := eN_bad hw (by rw [hn1]; rfl)
      rw [hE, e3]
      exact ite_keep (by omega) (by omega)
    simp only [Bool.false_eq_true, if_false]
    cases hn2 : decide (12 ≤ nums.length)
    rotate_left
    · simp only [if_true]
      refine ⟨?_, hn⟩
      have e3 : eN names (decide (12 ≤ nums.length)) f.name e.wr = f.name.2 := eN_bad hw (by rw [hn1, hn2]; rfl)
      rw [hE, e3]
      exact ite_keep (by omega) (by omega)
    simp only [Bool.false_eq_true, if_false]
    have e3 : eN names (decide (12 ≤ nums.length)) f.name e.wr = e.wr := eN_good (by rw [hn1, hn2]; rfl)
    rw [e3] at hE
    cases hb : numBad nums (numV f.num.1)
    rotate_left
    · simp only [if_true]
      refine ⟨?_, hm⟩
      rw [hE]
      unfold eV
      rw [hnw, hb, if_pos rfl, wrongI_new hw]
    simp only [Bool.false_eq_true, if_false]
    have e4 : eV e.nums f.num e.wr = e.wr := by unfold eV; rw [hnw, hb]; rfl
    rw [e4] at hE
    refine ⟨by rw [hE]; exact hw, ?_, ?_, ?_⟩
    · show e.names ++ [f.name.1] = _
      rw [hs.ename]
    · show e.nums ++ [valI f.num.1] = _
      have hv : numV f.num.1 ≤ 536870911 := by
        unfold numBad at hb
        simp at hb
        omega
      have hval : valI f.num.1 = ((numV f.num.1 : Nat) : Int) := by
        have := hf.num
        unfold numEq at this
        rw [this]
        omega
      rw [hs.enum_, hval]
      simp
    · intro n hn3
      rcases List.mem_append.1 hn3 with hn3 | hn3
      · exact hs.few n hn3
      · simp at hn3
        subst hn3
        unfold numBad at hb
        simp at hb
        omega

end Go.Proofs.YtbbbegjedmicpaaGreatDoor

/-
  THE FIRST WRONG WORD (plain terms): the looks on both sides; what is so of a tree that was read.
-/
namespace Go.Proofs.YtbbbegjedmicpaaGreatDoor
open Go.RowKit

theorem Rise.ends : ∀ {l : List Nat} {lo hi : Nat}, Rise lo l hi → lo ≤ hi
  | [], _, _, h => h
  | _ :: _, _, _, h => Nat.le_trans h.1 (Rise.ends h.2)
theorem Rise.head : ∀ {l1 l2 : List Nat} {lo hi : Nat}, Rise lo (l1 ++ l2) hi → Rise lo l1 hi
  | [], _, _, _, h => Rise.ends h
  | _ :: _, _, _, _, h => ⟨h.1, Rise.head h.2⟩

section
variable {types : List ByteArray}
theorem fields_ck : ∀ {fs : List FieldR} {e : ES} {names : List ByteArray} {nums : List Nat} {lo hi : Nat}, e.wr < 0 → StOK e names nums → (∀ f ∈ fs, FldOK f) → Rise lo (fs.flatMap fPl) hi →
    match fieldsCk types names nums fs with
    | .error p => (fsE types fs e).wr = p ∧ p ∈ fs.flatMap fPl
    | .ok (names', nums') => (fsE types fs e).wr < 0 ∧ StOK (fsE types fs e) names' nums'
  | [], e, names, nums, lo, hi, hw, hs, _, _ => ⟨hw, hs⟩
  | f :: fs, e, names, nums, lo, hi, hw, hs, hf, hr => by
    rw [List.flatMap_cons] at hr
    have h1 := fld_ck (types := types) hw hs (hf f (by simp)) hr.head
    unfold fieldsCk
    show match (match fieldCk types names nums f with
      | .error p => Except.error p
      | .ok (n, m) => fieldsCk types n m fs) with
      | .error p => (fsE types fs (fE types f e)).wr = p ∧ p ∈ (f :: fs).flatMap fPl
      | .ok (names', nums') => (fsE types fs (fE types f e)).wr < 0 ∧ StOK (fsE types fs (fE types f e)) names' nums'
    cases hc : fieldCk types names nums f with
    | error p =>
      rw [hc] at h1
      obtain ⟨h2, h3⟩ := h1
      simp only
      refine ⟨?_, by rw [List.flatMap_cons]; exact List.mem_append.2 (.inl h3)⟩
      rw [fsE_keep (by rw [h2]; omega) (fun a ha => by rw [h2]; have := Rise.split hr p h3 a ha; omega), h2]
    | ok v =>
      obtain ⟨n, m⟩ := v
      rw [hc] at h1
      obtain ⟨h2, h3⟩ := h1
      simp only
      have ih := fields_ck h2 h3 (fun g hg => hf g (by simp [hg])) hr.tail
      cases hd : fieldsCk types n m fs with
      | error p =>
        rw [hd] at ih
        obtain ⟨i1, i2⟩ := ih
        exact ⟨i1, by rw [List.flatMap_cons]; exact List.mem_append.2 (.inr i2)⟩
      | ok v =>
        obtain ⟨n2, m2⟩ := v
        rw [hd] at ih
        exact ih
structure PrtOK (p : PartR) : Prop where
  one : ∀ o, p.oneof = some o → kindW o.1 = 1
  fields : ∀ f ∈ p.fields, FldOK f
theorem part_ck {p : PartR} {e : ES} {names : List ByteArray} {nums : List Nat} {lo hi : Nat} (hw : e.wr < 0) (hs : StOK e names nums) (hp : PrtOK p) (hr : Rise lo (pPl p) hi) :
    match partCk types names nums p with
    | .error q => (pE types p e).wr = q ∧ q ∈ pPl p
    | .ok (names', nums') => (pE types p e).wr < 0 ∧ StOK (pE types p e) names' nums' := by
  unfold partCk pE
  have hr2 : Rise lo (p.fields.flatMap fPl) hi := Rise.tail (l1 := keyPl p.oneof) hr
  cases ho : p.oneof with
  | none =>
    have hk : (pkK none == 1) = false := rfl
    rw [hk]
    simp only [Bool.false_eq_true, if_false]
    have ih := fields_ck (types := types) hw hs hp.fields hr2
    cases hd : fieldsCk types names nums p.fields with
    | error q =>
      rw [hd] at ih
      exact ⟨ih.1, by unfold pPl; exact List.mem_append.2 (.inr ih.2)⟩
    | ok v =>
      rw [hd] at ih
      exact ih
  | some o =>
    have hk : (pkK (some o) == 1) = true := by
      show (kindW o.1 == 1) = true
      rw [hp.one o ho]
      rfl
    rw [hk]
    simp only [if_true]
    have hpk : pkS (some o) = o.1 ∧ pkA (some o) = o.2 := ⟨rfl, rfl⟩
    rw [hpk.1, hpk.2]
    have hom : o.2 ∈ keyPl p.oneof := by rw [ho]; simp [keyPl]
    cases hn : nameBad names o.1
    · simp only [Bool.false_eq_true, if_false]
      have e1 : eN e.names false o e.wr = e.wr := eN_good (by rw [hs.ename, hn]; rfl)
      have ih := fields_ck (types := types) (fs := p.fields) (e := ⟨eN e.names false o e.wr, e.nums, e.names ++ [o.1]⟩) (names := names ++ [o.1]) (nums := nums) (by rw [e1]; exact hw) ⟨by rw [hs.ename], hs.enum_, hs.few⟩ hp.fields hr2
      cases hd : fieldsCk types (names ++ [o.1]) nums p.fields with
      | error q =>
        rw [hd] at ih
        exact ⟨ih.1, by unfold pPl; exact List.mem_append.2 (.inr ih.2)⟩
      | ok v =>
        rw [hd] at ih
        exact ih
    · simp only [if_true]
      have e1 : eN e.names false o e.wr = o.2 := eN_bad hw (by rw [hs.ename, hn]; rfl)
      refine ⟨?_, by unfold pPl; exact List.mem_append.2 (.inl hom)⟩
      rw [fsE_keep (e := ⟨eN e.names false o e.wr, e.nums, e.names ++ [o.1]⟩) (by show 0 ≤ eN e.names false o e.wr; rw [e1]; omega) (fun a ha => by show eN e.names false o e.wr ≤ _; rw [e1]; have := Rise.split (l1 := keyPl p.oneof) hr o.2 hom a ha; omega)]
      exact e1
theorem parts_ck : ∀ {ps : List PartR} {e : ES} {names : List ByteArray} {nums : List Nat} {lo hi : Nat}, e.wr < 0 → StOK e names nums → (∀ p ∈ ps, PrtOK p) → Rise lo (ps.flatMap pPl) hi →
    match partsCk types names nums ps with
    | .error q => (psE types ps e).wr = q ∧ q ∈ ps.flatMap pPl
    | .ok _ => (psE types ps e).wr < 0
  | [], e, names, nums, lo, hi, hw, hs, _, _ => hw
  | p :: ps, e, names, nums, lo, hi, hw, hs, hp, hr => by
    rw [List.flatMap_cons] at hr
    have h1 := part_ck (types := types) hw hs (hp p (by simp)) hr.head
    unfold partsCk
    show match (match partCk types names nums p with
      | .error q => Except.error q
      | .ok (n, m) => partsCk types n m ps) with
      | .error q => (psE types ps (pE types p e)).wr = q ∧ q ∈ (p :: ps).flatMap pPl
      | .ok _ => (psE types ps (pE types p e)).wr < 0
    cases hc : partCk types names nums p with
    | error q =>
      rw [hc] at h1
      obtain ⟨h2, h3⟩ := h1
      simp only
      refine ⟨?_, by rw [List.flatMap_cons]; exact List.mem_append.2 (.inl h3)⟩
      rw [psE_keep (by rw [h2]; omega) (fun a ha => by rw [h2]; have := Rise.split hr q h3 a ha; omega), h2]
    | ok v =>
      obtain ⟨n, m⟩ := v
      rw [hc] at h1
      obtain ⟨h2, h3⟩ := h1
      simp only
      have ih := parts_ck h2 h3 (fun g hg => hp g (by simp [hg])) hr.tail
      cases hd : partsCk types n m ps with
      | error p =>
        rw [hd] at ih
        obtain ⟨i1, i2⟩ := ih
        exact ⟨i1, by rw [List.flatMap_cons]; exact List.mem_append.2 (.inr i2)⟩
      | ok v =>
        rw [hd] at ih
        exact ih
theorem vals_ck : ∀ {vs : List (W × W)} {e : Int × List ByteArray} {names : List ByteArray} {lo hi : Nat}, e.1 < 0 → e.2 = names → (∀ v ∈ vs, numEq v.2.1) → Rise lo (vs.flatMap vPl) hi →
    match enumCk names vs with
    | .error q => (vsE vs e).1 = q ∧ q ∈ vs.flatMap vPl
    | .ok _ => (vsE vs e).1 < 0
  | [], e, names, lo, hi, hw, hs, _, _ => hw
  | v :: vs, e, names, lo, hi, hw, hs, hv, hr => by
    rw [List.flatMap_cons] at hr
    unfold enumCk
    have hval : (2147483647 < valI v.2.1) ↔ (2147483647 < numV v.2.1) := by
      have := hv v (by simp)
      unfold numEq at this
      rw [this]
      omega
    have hm1 : v.1.2 ∈ vPl v := by simp [vPl]
    have hm2 : v.2.2 ∈ vPl v := by simp [vPl]
    have hle : v.1.2 ≤ v.2.2 := hr.2.1
    have hE : (vE v e).1 = if 2147483647 < valI v.2.1 then wrongI (eN e.2 false v.1 e.1) v.2.2 else eN e.2 false v.1 e.1 := rfl
    cases hn : nameBad names v.1.1
    · simp only [Bool.false_eq_true, if_false]
      have e1 : eN e.2 false v.1 e.1 = e.1 := eN_good (by rw [hs, hn]; rfl)
      rw [e1] at hE
      by_cases hc : 2147483647 < numV v.2.1
      · have hd : decide (2147483647 < numV v.2.1) = true := by simp [hc]
        rw [hd]
        simp only [if_true]
        rw [if_pos (hval.2 hc), wrongI_new hw] at hE
        refine ⟨?_, by rw [List.flatMap_cons]; exact List.mem_append.2 (.inl hm2)⟩
        show (vsE vs (vE v e)).1 = v.2.2
        rw [vsE_keep (by rw [hE]; omega) (fun a ha => by rw [hE]; have := Rise.split hr v.2.2 hm2 a ha; omega), hE]
      · have hd : decide (2147483647 < numV v.2.1) = false := by simp [hc]
        rw [hd]
        simp only [Bool.false_eq_true, if_false]
        rw [if_neg (fun h => hc (hval.1 h))] at hE
        have ih := vals_ck (vs := vs) (e := vE v e) (names := names ++ [v.1.1]) (by rw [hE]; exact hw) (by show e.2 ++ [v.1.1] = _; rw [hs]) (fun u hu => hv u (by simp [hu])) hr.tail
        cases hd : enumCk (names ++ [v.1.1]) vs with
        | error q =>
          rw [hd] at ih
          exact ⟨ih.1, by rw [List.flatMap_cons]; exact List.mem_append.2 (.inr ih.2)⟩
        | ok u =>
          rw [hd] at ih
          exact ih
    · simp only [if_true]
      have e1 : eN e.2 false v.1 e.1 = v.1.2 := eN_bad hw (by rw [hs, hn]; rfl)
      rw [e1] at hE
      have hE2 : (vE v e).1 = v.1.2 := by
        rw [hE]
        split
        · exact wrongI_keep (by omega) (by omega)
        · rfl
      refine ⟨?_, by rw [List.flatMap_cons]; exact List.mem_append.2 (.inl hm1)⟩
      show (vsE vs (vE v e)).1 = v.1.2
      rw [vsE_keep (by rw [hE2]; omega) (fun a ha => by rw [hE2]; have := Rise.split hr v.1.2 hm1 a ha; omega), hE2]
structure BlkOK (b : BlockR) : Prop where
  parts : ∀ p ∈ b.parts, PrtOK p
  vals : ∀ v ∈ b.values, numEq v.2.1
theorem blocks_ck : ∀ {bs : List BlockR} {names : List ByteArray} {m : Nat} {wr : Int} {lo hi : Nat}, wr < 0 → (∀ b ∈ bs, BlkOK b) → Rise lo (bs.flatMap bPl) hi →
    match blocksCk types names m bs with
    | .error q => bsE types bs names m wr = q
    | .ok _ => bsE types bs names m wr < 0
  | [], names, m, wr, lo, hi, hw, _, _ => hw
  | b :: bs, names, m, wr, lo, hi, hw, hb, hr => by
    rw [List.flatMap_cons] at hr
    have hbok := hb b (by simp)
    have hk : ∀ (q : Nat) (n2 : List ByteArray) (m2 : Nat), q ∈ bPl b → bE types b names m wr = q → bsE types bs n2 m2 (bE types b names m wr) = q := fun q n2 m2 h1 h2 => by
      rw [h2]
      exact bsE_keep (by omega) (fun a ha => by have := Rise.split hr q h1 a ha; omega)
    have hnm : b.name.2 ∈ bPl b := by simp [bPl]
    have hrb : Rise b.name.2 (b.parts.flatMap pPl ++ b.values.flatMap vPl) hi := (hr.head).2
    unfold blocksCk
    show match (if nameBad names b.name.1 then Except.error b.name.2 else if b.enum then
        match enumCk [] b.values with
        | .error p => .error p
        | .ok _ => blocksCk types (names ++ [b.name.1]) m bs
      else if decide (6 < m + 1) then .error b.name.2
      else
        match partsCk types [] [] b.parts with
        | .error p => .error p
        | .ok _ => blocksCk types (names ++ [b.name.1]) (m + 1) bs) with
      | .error q => bsE types bs (names ++ [b.name.1]) (m + (if b.enum then 0 else 1)) (bE types b names m wr) = q
      | .ok _ => bsE types bs (names ++ [b.name.1]) (m + (if b.enum then 0 else 1)) (bE types b names m wr) < 0
    cases hn : nameBad names b.name.1
    rotate_left
    · simp only [if_true]
      refine hk _ _ _ hnm ?_
      unfold bE
      split
      · have e1 : eN names false b.name wr = b.name.2 := eN_bad hw (by rw [hn]; rfl)
        rw [e1]
        exact vsE_keep (e := ((b.name.2 : Int), [])) (by simp) (fun a ha => by have := hrb.le a (List.mem_append.2 (.inr ha)); simp only; omega)
      · have e1 : eN names (decide (6 ≤ m)) b.name wr = b.name.2 := eN_bad hw (by rw [hn]; rfl)
        rw [e1]
        exact psE_keep (e := ⟨(b.name.2 : Int), [], []⟩) (by simp) (fun a ha => by have := hrb.le a (List.mem_append.2 (.inl ha)); simp only; omega)
    simp only [Bool.false_eq_true, if_false]
    cases he : b.enum
    · simp only [Bool.false_eq_true, if_false]
      cases h6 : decide (6 < m + 1)
      · simp only [Bool.false_eq_true, if_false]
        have h6' : decide (6 ≤ m) = false := by have := of_decide_eq_false h6; simp; omega
        have e1 : eN names (decide (6 ≤ m)) b.name wr = wr := eN_good (by rw [hn, h6']; rfl)
        have hbE : bE types b names m wr = (psE types b.parts ⟨wr, [], []⟩).wr := by
          unfold bE
          rw [he, e1]
          rfl
        have ih := parts_ck (types := types) (ps := b.parts) (e := ⟨wr, [], []⟩) (names := []) (nums := []) hw ⟨rfl, rfl, fun n hn => by simp at hn⟩ hbok.parts hrb.head
        cases hd : partsCk types [] [] b.parts with
        | error q =>
          rw [hd] at ih
          simp only
          refine hk _ _ _ ?_ (by rw [hbE]; exact ih.1)
          simp only [bPl, List.mem_cons, List.mem_append]
          exact .inr (.inl ih.2)
        | ok v =>
          rw [hd] at ih
          simp only
          exact blocks_ck (by rw [hbE]; exact ih) (fun c hc => hb c (by simp [hc])) hr.tail
      · simp only [if_true]
        have h6' : decide (6 ≤ m) = true := by have := of_decide_eq_true h6; simp; omega
        refine hk _ _ _ hnm ?_
        have e1 : eN names (decide (6 ≤ m)) b.name wr = b.name.2 := eN_bad hw (by rw [hn, h6']; rfl)
        unfold bE
        rw [he, e1]
        exact psE_keep (e := ⟨(b.name.2 : Int), [], []⟩) (by simp) (fun a ha => by have := hrb.le a (List.mem_append.2 (.inl ha)); simp only; omega)
    · simp only [if_true]
      have e1 : eN names false b.name wr = wr := eN_good (by rw [hn]; rfl)
      have hbE : bE types b names m wr = (vsE b.values (wr, [])).1 := by
        unfold bE
        rw [he, e1]
        rfl
      have ih := vals_ck (vs := b.values) (e := (wr, [])) (names := []) hw rfl hbok.vals hrb.tail
      cases hd : enumCk [] b.values with
      | error q =>
        rw [hd] at ih
        simp only
        refine hk _ _ _ ?_ (by rw [hbE]; exact ih.1)
        simp only [bPl, List.mem_cons, List.mem_append]
        exact .inr (.inr ih.2)
      | ok v =>
        rw [hd] at ih
        simp only
        exact blocks_ck (by rw [hbE]; exact ih) (fun c hc => hb c (by simp [hc])) hr.tail
end

end Go.Proofs.YtbbbegjedmicpaaGreatDoor

/-
  BOTH ANSWERS (plain terms): what is so of a tree that was read; the reference's answer is the program's.
-/
namespace Go.Proofs.YtbbbegjedmicpaaGreatDoor
open Go.RowKit

/-- The places of words rise. -/
structure WsP (ws : List W) (B : Nat) : Prop where
  mon : ∀ (i j : Nat) (x y : W), i ≤ j → ws[i]? = some x → ws[j]? = some y → x.2 ≤ y.2
  top : ∀ (i : Nat) (x : W), ws[i]? = some x → x.2 ≤ B
  num : ∀ (k : Nat) (x : W), ws[k]? = some x → kindW x.1 = 2 → numEq x.1
def Pl (ws : List W) (B i : Nat) : Nat := match ws[i]? with | some x => x.2 | none => B
section
variable {ws : List W} {B : Nat}
theorem Pl_at {i : Nat} {x : W} (h : ws[i]? = some x) : Pl ws B i = x.2 := by unfold Pl; rw [h]
theorem Pl_le (H : WsP ws B) {i j : Nat} (h : i ≤ j) : Pl ws B i ≤ Pl ws B j := by
  unfold Pl
  cases hi : ws[i]? with
  | none =>
    have : ws[j]? = none := by
      rw [List.getElem?_eq_none_iff] at hi ⊢
      omega
    rw [this]
    exact Nat.le_refl _
  | some x =>
    cases hj : ws[j]? with
    | none => exact H.top i x hi
    | some y => exact H.mon i j x y h hi hj
theorem numP_pl (H : WsP ws B) {i j : Nat} {v : W × W} (h : numP ws i = .ok (v, j)) : Rise (Pl ws B i) (vPl v) (Pl ws B j) ∧ numEq v.2.1 ∧ i ≤ j := by
  unfold numP at h
  obtain ⟨n, i1, h1, h⟩ := andP_ok h
  obtain ⟨_, i2, h2, h⟩ := andP_ok h
  obtain ⟨m, i3, h3, h⟩ := andP_ok h
  obtain ⟨_, i4, h4, h⟩ := andP_ok h
  have a1 := kindP_on _ _ _ _ _ h1
  have a2 := (skipP_on _ _ _ _ _ h2).1
  have a3 := kindP_on _ _ _ _ _ h3
  have a4 := (skipP_on _ _ _ _ _ h4).1
  simp at h
  obtain ⟨rfl, rfl⟩ := h
  have p1 := Pl_at (B := B) a1.2.1
  have p3 := Pl_at (B := B) a3.2.1
  have l1 := Pl_le H (show i ≤ i2 by omega)
  have l2 := Pl_le H (show i2 ≤ i4 by omega)
  refine ⟨⟨?_, ?_, ?_⟩, H.num _ _ a3.2.1 a3.2.2, by omega⟩
  · show Pl ws B i ≤ n.2; omega
  · show n.2 ≤ m.2; omega
  · show m.2 ≤ Pl ws B i4; omega
theorem type_pl (H : WsP ws B) {i j : Nat} {x : W} (h : typeP ws i = .ok (x, j)) : Rise (Pl ws B i) [x.2] (Pl ws B j) ∧ j = i + 1 := by
  have a := typeP_on _ _ _ _ h
  have p1 := Pl_at (B := B) a.2.1
  have l := Pl_le H (show i ≤ j by omega)
  exact ⟨⟨by omega, by show x.2 ≤ _; omega⟩, a.1⟩
theorem fieldP_pl (H : WsP ws B) {i j : Nat} {form : Int} (hform : (form == 4) = false) {f : FieldR} (h : fieldP ws form i = .ok (f, j)) : Rise (Pl ws B i) (fPl f) (Pl ws B j) ∧ FldOK f := by
  unfold fieldP at h
  obtain ⟨x, i1, h1, h⟩ := andP_ok h
  obtain ⟨nm, i2, h2, h⟩ := andP_ok h
  simp at h
  obtain ⟨rfl, rfl⟩ := h
  obtain ⟨r2, n2, _⟩ := numP_pl H h2
  exact ⟨(type_pl H h1).1.app r2, .inl ⟨rfl, hform⟩, n2⟩
theorem mapP_pl (H : WsP ws B) {i j : Nat} {f : FieldR} (h : mapP ws i = .ok (f, j)) : Rise (Pl ws B i) (fPl f) (Pl ws B j) ∧ FldOK f := by
  unfold mapP at h
  obtain ⟨_, i1, h1, h⟩ := andP_ok h
  obtain ⟨_, i2, h2, h⟩ := andP_ok h
  obtain ⟨k, i3, h3, h⟩ := andP_ok h
  obtain ⟨_, i4, h4, h⟩ := andP_ok h
  obtain ⟨x, i5, h5, h⟩ := andP_ok h
  obtain ⟨_, i6, h6, h⟩ := andP_ok h
  obtain ⟨nm, i7, h7, h⟩ := andP_ok h
  simp at h
  obtain ⟨rfl, rfl⟩ := h
  have a1 := (skipP_on _ _ _ _ _ h1).1
  have a2 := (skipP_on _ _ _ _ _ h2).1
  have a4 := (skipP_on _ _ _ _ _ h4).1
  have a6 := (skipP_on _ _ _ _ _ h6).1
  obtain ⟨r7, n7, _⟩ := numP_pl H h7
  have r5 := (type_pl H h5).1
  have r3 := (type_pl H h3).1
  have l2 := Pl_le H (show i ≤ i2 by omega)
  have l4 := Pl_le H (show i3 ≤ i4 by omega)
  have l6 := Pl_le H (show i5 ≤ i6 by omega)
  refine ⟨?_, .inr ⟨k, rfl, rfl⟩, n7⟩
  exact ((r3.low l2).app (r5.low l4)).app (r7.low l6)
theorem many_pl {α : Type} {stop : Nat → Bool} {p : Nat → Res α} {pl : α → List Nat} {Q : α → Prop} (hp : ∀ i a j, p i = .ok (a, j) → Rise (Pl ws B i) (pl a) (Pl ws B j) ∧ Q a) :
    ∀ (n i : Nat) (l : List α) (j : Nat), manyP stop p n i = .ok (l, j) → Rise (Pl ws B i) (l.flatMap pl) (Pl ws B j) ∧ ∀ a ∈ l, Q a
  | 0, i, l, j, h => by
    simp [manyP] at h
    obtain ⟨rfl, rfl⟩ := h
    exact ⟨Nat.le_refl _, fun a ha => by simp at ha⟩
  | n + 1, i, l, j, h => by
    unfold manyP at h
    split at h
    · simp at h
      obtain ⟨rfl, rfl⟩ := h
      exact ⟨Nat.le_refl _, fun a ha => by simp at ha⟩
    · obtain ⟨a, i1, h1, h⟩ := andP_ok h
      obtain ⟨l2, i2, h2, h⟩ := andP_ok h
      simp at h
      obtain ⟨rfl, rfl⟩ := h
      obtain ⟨r1, q1⟩ := hp _ _ _ h1
      obtain ⟨r2, q2⟩ := many_pl hp n i1 l2 i2 h2
      rw [List.flatMap_cons]
      refine ⟨r1.app r2, fun b hb => ?_⟩
      rcases List.mem_cons.1 hb with rfl | hb
      · exact q1
      · exact q2 b hb
theorem oneofP_pl (H : WsP ws B) {i j : Nat} {p : PartR} (h : oneofP ws i = .ok (p, j)) : Rise (Pl ws B i) (pPl p) (Pl ws B j) ∧ PrtOK p := by
  unfold oneofP at h
  obtain ⟨_, i1, h1, h⟩ := andP_ok h
  obtain ⟨o, i2, h2, h⟩ := andP_ok h
  obtain ⟨_, i3, h3, h⟩ := andP_ok h
  obtain ⟨f, i4, h4, h⟩ := andP_ok h
  obtain ⟨l, i5, h5, h⟩ := andP_ok h
  obtain ⟨_, i6, h6, h⟩ := andP_ok h
  obtain ⟨l', i7, h7, h8⟩ := andP_ok h5
  simp at h h8
  obtain ⟨rfl, rfl⟩ := h
  obtain ⟨rfl, rfl⟩ := h8
  have a1 := (skipP_on _ _ _ _ _ h1).1
  have a2 := kindP_on _ _ _ _ _ h2
  have a3 := (skipP_on _ _ _ _ _ h3).1
  have a6 := (skipP_on _ _ _ _ _ h6).1
  have p2 := Pl_at (B := B) a2.2.1
  have l1 := Pl_le H (show i ≤ i1 by omega)
  have l3 := Pl_le H (show i1 ≤ i3 by omega)
  have l6 := Pl_le H (show i7 ≤ i6 by omega)
  obtain ⟨r4, q4⟩ := fieldP_pl H (by decide) h4
  obtain ⟨r7, q7⟩ := many_pl (pl := fPl) (Q := FldOK) (fun i a j h => fieldP_pl H (by decide) h) _ _ _ _ h7
  have r0 : Rise (Pl ws B i) [o.2] (Pl ws B i3) := ⟨by omega, by show o.2 ≤ _; omega⟩
  have rl : Rise (Pl ws B i3) ((f :: l').flatMap fPl) (Pl ws B i7) := by rw [List.flatMap_cons]; exact r4.app r7
  have re : Rise (Pl ws B i7) [] (Pl ws B i6) := l6
  refine ⟨?_, ⟨fun o' ho => by cases ho; exact a2.2.2, fun g hg => ?_⟩⟩
  · have := (r0.app rl).app re
    simpa [pPl, keyPl] using this
  · rcases List.mem_cons.1 hg with rfl | hg
    · exact q4
    · exact q7 g hg
theorem alone_pl {i j k : Nat} (hik : Pl ws B i ≤ Pl ws B k) {r : Res FieldR} (hr : ∀ f j, r = .ok (f, j) → Rise (Pl ws B k) (fPl f) (Pl ws B j) ∧ FldOK f) {p : PartR} (h : aloneP r = .ok (p, j)) : Rise (Pl ws B i) (pPl p) (Pl ws B j) ∧ PrtOK p := by
  obtain ⟨f, i1, h1, h⟩ := andP_ok h
  obtain ⟨r1, q1⟩ := hr _ _ h1
  simp at h
  obtain ⟨rfl, rfl⟩ := h
  refine ⟨?_, ⟨fun o ho => (by cases ho), fun g hg => ?_⟩⟩
  · have := r1.low hik
    simpa [pPl, keyPl] using this
  · simp at hg
    subst hg
    exact q1
theorem partP_pl (H : WsP ws B) {i j : Nat} {p : PartR} (h : partP ws i = .ok (p, j)) : Rise (Pl ws B i) (pPl p) (Pl ws B j) ∧ PrtOK p := by
  unfold partP at h
  split at h
  · exact oneofP_pl H h
  · split at h
    · exact alone_pl (Nat.le_refl _) (fun f j h => mapP_pl H h) h
    · split at h
      · exact alone_pl (Pl_le H (Nat.le_succ i)) (fun f j h => fieldP_pl H (by decide) h) h
      · split at h
        · exact alone_pl (Pl_le H (Nat.le_succ i)) (fun f j h => fieldP_pl H (by decide) h) h
        · exact alone_pl (Nat.le_refl _) (fun f j h => fieldP_pl H (by decide) h) h
theorem blockP_pl (H : WsP ws B) {i j : Nat} {b : BlockR} (h : blockP ws i = .ok (b, j)) : Rise (Pl ws B i) (bPl b) (Pl ws B j) ∧ BlkOK b := by
  unfold blockP at h
  split at h
  · unfold enumP at h
    obtain ⟨_, i1, h1, h⟩ := andP_ok h
    obtain ⟨nm, i2, h2, h⟩ := andP_ok h
    obtain ⟨_, i3, h3, h⟩ := andP_ok h
    obtain ⟨l, i4, h4, h⟩ := andP_ok h
    obtain ⟨_, i5, h5, h⟩ := andP_ok h
    simp at h
    obtain ⟨rfl, rfl⟩ := h
    have a1 := (skipP_on _ _ _ _ _ h1).1
    have a2 := kindP_on _ _ _ _ _ h2
    have a3 := (skipP_on _ _ _ _ _ h3).1
    have a5 := (skipP_on _ _ _ _ _ h5).1
    have p2 := Pl_at (B := B) a2.2.1
    have l1 := Pl_le H (show i ≤ i1 by omega)
    have l3 := Pl_le H (show i1 ≤ i3 by omega)
    have l5 := Pl_le H (show i4 ≤ i5 by omega)
    obtain ⟨r4, q4⟩ := many_pl (pl := vPl) (Q := fun v : W × W => numEq v.2.1) (fun i a j h => by have := numP_pl H h; exact ⟨this.1, this.2.1⟩) _ _ _ _ h4
    have r0 : Rise (Pl ws B i) [nm.2] (Pl ws B i3) := ⟨by omega, by show nm.2 ≤ _; omega⟩
    have re : Rise (Pl ws B i4) [] (Pl ws B i5) := l5
    refine ⟨?_, ⟨fun p hp => by simp at hp, q4⟩⟩
    have := (r0.app r4).app re
    simpa [bPl] using this
  · unfold messageP at h
    obtain ⟨_, i1, h1, h⟩ := andP_ok h
    obtain ⟨nm, i2, h2, h⟩ := andP_ok h
    obtain ⟨_, i3, h3, h⟩ := andP_ok h
    obtain ⟨l, i4, h4, h⟩ := andP_ok h
    obtain ⟨_, i5, h5, h⟩ := andP_ok h
    simp at h
    obtain ⟨rfl, rfl⟩ := h
    have a1 := (skipP_on _ _ _ _ _ h1).1
    have a2 := kindP_on _ _ _ _ _ h2
    have a3 := (skipP_on _ _ _ _ _ h3).1
    have a5 := (skipP_on _ _ _ _ _ h5).1
    have p2 := Pl_at (B := B) a2.2.1
    have l1 := Pl_le H (show i ≤ i1 by omega)
    have l3 := Pl_le H (show i1 ≤ i3 by omega)
    have l5 := Pl_le H (show i4 ≤ i5 by omega)
    obtain ⟨r4, q4⟩ := many_pl (pl := pPl) (Q := PrtOK) (fun i a j h => partP_pl H h) _ _ _ _ h4
    have r0 : Rise (Pl ws B i) [nm.2] (Pl ws B i3) := ⟨by omega, by show nm.2 ≤ _; omega⟩
    have re : Rise (Pl ws B i4) [] (Pl ws B i5) := l5
    refine ⟨?_, ⟨q4, fun v hv => by simp at hv⟩⟩
    have := (r0.app r4).app re
    simpa [bPl] using this
theorem treeP_pl (H : WsP ws B) {j : Nat} {bs : List BlockR} (h : treeP ws = .ok (bs, j)) : Rise (Pl ws B 0) (bs.flatMap bPl) (Pl ws B j) ∧ ∀ b ∈ bs, BlkOK b :=
  many_pl (pl := bPl) (Q := BlkOK) (fun _ _ _ h => blockP_pl H h) _ _ _ _ h
end

theorem lexF_rise (t : ByteArray) : ∀ (n a : Nat), ∀ (i j : Nat) (x y : W), i ≤ j → (lexF t n a)[i]? = some x → (lexF t n a)[j]? = some y → x.2 ≤ y.2
  | 0, a, i, j, x, y, _, hx, _ => by simp [lexF] at hx
  | n + 1, a, i, j, x, y, hij, hx, hy => by
    unfold lexF at hx hy
    by_cases ha : a < t.size
    · rw [if_pos ha] at hx hy
      by_cases hg : isG (bAt t a) = true
      · rw [if_pos hg] at hx hy
        exact lexF_rise t n (a + 1) i j x y hij hx hy
      · rw [if_neg hg] at hx hy
        have he := wEnd_le t a ha
        cases i with
        | zero =>
          simp at hx
          subst hx
          cases j with
          | zero =>
            simp at hy
            subst hy
            exact Nat.le_refl _
          | succ j =>
            rw [List.getElem?_cons_succ] at hy
            have := lexF_mem t n (wEnd t a) y (List.mem_of_getElem? hy)
            simp only
            omega
        | succ i =>
          cases j with
          | zero => omega
          | succ j =>
            rw [List.getElem?_cons_succ] at hx hy
            exact lexF_rise t n (wEnd t a) i j x y (by omega) hx hy
    · rw [if_neg ha] at hx
      simp at hx
theorem allWords_P (t : ByteArray) (ht : t.size ≤ 2000) : WsP (allWords t) t.size := by
  refine ⟨fun i j x y hij hx hy => ?_, fun i x hx => ?_, allWords_num t ht⟩
  · rcases allWords_get hy with ⟨h1, h2⟩ | ⟨h1, rfl⟩
    · have hjl : (lex t)[j]? = some y := by
        unfold allWords at hy
        rw [List.getElem?_append_left h1] at hy
        exact hy
      have hil : (lex t)[i]? = some x := by
        unfold allWords at hx
        rw [List.getElem?_append_left (by omega)] at hx
        exact hx
      exact lexF_rise t _ _ i j x y hij hil hjl
    · rcases allWords_get hx with ⟨_, h⟩ | ⟨_, rfl⟩
      · have := lexF_mem t t.size 0 x h
        simp only
        omega
      · exact Nat.le_refl _
  · rcases allWords_get hx with ⟨_, h⟩ | ⟨_, rfl⟩
    · have := lexF_mem t t.size 0 x h; omega
    · exact Nat.le_refl _
theorem allWords_ne (t : ByteArray) : ∀ (k : Nat) (x : W), (allWords t)[k]? = some x → k + 1 < (allWords t).length → 0 < x.1.size := by
  intro k x hx hk
  rw [allWords_len] at hk
  rcases allWords_get hx with ⟨_, h⟩ | ⟨h1, _⟩
  · have := lexF_mem t t.size 0 x h; omega
  · omega

/-- The reference's answer, told by the program's. -/
def refOf : Except (Int × Nat) (List BlockR) → Except (Int × Int) Sch
  | .error (k, p) => .error (k, p)
  | .ok bs => .ok (schD bs)
theorem ref_is (t : ByteArray) : refI t = refOf (readI t) := by
  unfold refI readI
  by_cases hl : 2000 < t.size
  · rw [if_pos hl, if_pos hl]
    rfl
  · rw [if_neg hl, if_neg hl]
    have ht : t.size ≤ 2000 := by omega
    have H := allWords_R t ht
    have HP := allWords_P t ht
    have hlen : 0 < (allWords t).length := by rw [allWords_len]; omega
    have ho : OKP (allWords t) p00 := ⟨hlen, Nat.le_refl _⟩
    have hb : p00.bad < 0 := by decide
    have hm : measP (allWords t) p00 ≤ (allWords t).length := by unfold measP; rw [if_pos hb]; omega
    cases hT : treeP (allWords t) with
    | error q =>
      have h := tree_sim (types := []) H (allWords_ne t) (allWords t).length (allWords t).length p00 ho hb hm (by omega)
      have hT2 : manyP (isEnd (allWords t)) (blockP (allWords t)) (allWords t).length p00.i = .error q := hT
      rw [hT2] at h
      have hq : (refR t).bad = q := h
      rw [if_pos (by rw [hq]; omega), hq]
      rfl
    | ok v =>
      obtain ⟨bs, j⟩ := v
      have h := tree_sim (types := nameList bs) H (allWords_ne t) (allWords t).length (allWords t).length p00 ho hb hm (by omega)
      have hT2 : manyP (isEnd (allWords t)) (blockP (allWords t)) (allWords t).length p00.i = .ok (bs, j) := hT
      rw [hT2] at h
      obtain ⟨h1, h2, h3, h4, h5⟩ := h
      have e1 : (refR t).bad = -1 := h1
      have e3 : (refR t).names = nameList bs := h3
      have e4 : (refR t).msgs = (schD bs).ms := h4
      have e5 : (refR t).enums = (schD bs).es := h5
      have e2 : usL (nameList bs) (refR t).used (refR t).wrong = bsE (nameList bs) bs [] 0 (-1) := h2
      rw [if_neg (by rw [e1]; decide), e3, e2, e4, e5]
      obtain ⟨hr, hok⟩ := treeP_pl HP hT
      have hck := blocks_ck (types := nameList bs) (names := []) (m := 0) (wr := -1) (by decide) hok hr
      simp only
      cases hc : blocksCk (nameList bs) [] 0 bs with
      | error q =>
        rw [hc] at hck
        have hq : bsE (nameList bs) bs [] 0 (-1) = q := hck
        rw [hq, if_pos (by omega)]
        rfl
      | ok u =>
        rw [hc] at hck
        have hq : bsE (nameList bs) bs [] 0 (-1) < 0 := hck
        rw [if_neg (by omega)]
        rfl

end Go.Proofs.YtbbbegjedmicpaaGreatDoor
