import Derived.Test.YtbbbegjedmicpaaGreatDoorRefQ
import Derived.Test.YtbbbegjedmicpaaGreatDoorReadB
import Derived.Test.YtbbbegjedmicpaaGreatDoorPmA

/-
  BOTH SIDES' NUMBERS (plain terms): the reference's value is the program's, cut off at 2^40.
-/
namespace Go.Proofs.YtbbbegjedmicpaaGreatDoor
open Go.RowKit

def dv : List UInt8 → Nat → Nat
  | [], a => a
  | c :: l, a => dv l (a * 10 + (c.toNat - 48))
theorem dv_ge : ∀ (l : List UInt8) (a : Nat), a ≤ dv l a
  | [], a => Nat.le_refl _
  | c :: l, a => by
    have := dv_ge l (a * 10 + (c.toNat - 48))
    unfold dv
    omega
theorem parse_ok : ∀ (l : List UInt8) (a u : Nat), Lib.parseUintM (2 ^ 64 - 1) a l = .ok u → u = dv l a
  | [], a, u, h => by
    unfold Lib.parseUintM at h
    injection h with h
    exact h.symm
  | c :: l, a, u, h => by
    unfold Lib.parseUintM at h
    split at h
    · split at h
      · cases h
      · split at h
        · cases h
        · exact parse_ok l _ u h
    · cases h
theorem parse_range : ∀ (l : List UInt8) (a : Nat), Lib.parseUintM (2 ^ 64 - 1) a l = .range → 1099511627776 < dv l a
  | [], a, h => by
    unfold Lib.parseUintM at h
    cases h
  | c :: l, a, h => by
    unfold Lib.parseUintM at h
    have hge := dv_ge l (a * 10 + (c.toNat - 48))
    unfold dv
    split at h
    · split at h
      · omega
      · split at h
        · omega
        · exact parse_range l _ h
    · cases h
theorem numV_dv {s : ByteArray} (h : numOK s) : min (numV s) 1099511627776 = min (dv s.data.toList 0) 1099511627776 := by
  unfold numV
  have hB : Lib.parseUintB 64 s.data.toList = if s.data.toList = [] then .syntax else Lib.parseUintM (2 ^ 64 - 1) 0 s.data.toList := rfl
  rcases h.2 with ⟨u, hu⟩ | hu
  · rw [hu]
    rw [hB] at hu
    split at hu
    · cases hu
    · rw [parse_ok _ _ _ hu]
  · rw [hu]
    rw [hB] at hu
    split at hu
    · cases hu
    · have := parse_range _ _ hu
      simp only
      omega
theorem valF_dv (s : ByteArray) (hd : ∀ i, i < s.size → isD (bAt s i) = true) : ∀ (f k : Nat) (n : Nat), s.size - k ≤ f → n ≤ 1099511627776 → valF s f k n = ((min (dv (s.data.toList.drop k) n) 1099511627776 : Nat) : Int)
  | 0, k, n, hf, hn => by
    have : s.data.toList.drop k = [] := by rw [List.drop_eq_nil_iff]; simp; omega
    rw [this]
    unfold valF dv
    omega
  | f + 1, k, n, hf, hn => by
    by_cases hlt : k < s.size
    · have hl : k < s.data.toList.length := by simpa using hlt
      have hdrop : s.data.toList.drop k = s[k] :: s.data.toList.drop (k + 1) := by
        rw [List.drop_eq_getElem_cons hl]; rfl
      have hb := bAt_eq hlt
      have h2 := isD_iff.1 (hd k hlt)
      rw [hdrop, valF, if_pos hlt, dv]
      have e1 : (10 * (n : Int) + (bAt s k - 48) % 256) = ((n * 10 + (s[k].toNat - 48) : Nat) : Int) := by
        rw [← hb] at h2 ⊢
        omega
      rw [e1]
      by_cases hc : 1099511627776 < n * 10 + (s[k].toNat - 48)
      · rw [if_pos (by omega)]
        have := dv_ge (s.data.toList.drop (k + 1)) (n * 10 + (s[k].toNat - 48))
        omega
      · rw [if_neg (by omega)]
        exact valF_dv s hd f (k + 1) _ (by omega) (by omega)
    · have : s.data.toList.drop k = [] := by rw [List.drop_eq_nil_iff]; simp; omega
      rw [this, valF, if_neg hlt]
      unfold dv
      omega
/-- A word's number, on both sides. -/
def numEq (s : ByteArray) : Prop := valI s = ((min (numV s) 1099511627776 : Nat) : Int)
theorem numEq_of {s : ByteArray} (h : numOK s) (hd : ∀ i, i < s.size → isD (bAt s i) = true) : numEq s := by
  unfold numEq valI
  rw [numV_dv h]
  have := valF_dv s hd s.size 0 0 (by omega) (by omega)
  simpa using this
theorem allWords_num (t : ByteArray) (ht : t.size ≤ 2000) : ∀ (k : Nat) (x : W), (allWords t)[k]? = some x → kindW x.1 = 2 → numEq x.1 := by
  intro k x hx hk
  rcases allWords_get hx with ⟨_, h⟩ | ⟨_, rfl⟩
  · exact numEq_of ((allWords_ok t ht).num k x hx hk) (word_digits h (kind_two hk))
  · have : kindW (ByteArray.mk #[]) = 4 := rfl
    rw [this] at hk
    omega

end Go.Proofs.YtbbbegjedmicpaaGreatDoor

/-
  THE REFERENCE'S READING AND THE GRAMMAR (plain terms): words, fields.
-/
namespace Go.Proofs.YtbbbegjedmicpaaGreatDoor
open Go.RowKit

theorem wrongI_idem (w : Int) (a : Nat) : wrongI (wrongI w a) a = wrongI w a := by
  unfold wrongI
  by_cases h : w < 0 ∨ (a : Int) < w
  · rw [if_pos h, if_neg (by omega)]
  · rw [if_neg h, if_neg h]
theorem wrongI_comm (w : Int) (a b : Nat) : wrongI (wrongI w a) b = wrongI (wrongI w b) a := by
  unfold wrongI
  by_cases h1 : w < 0 ∨ (a : Int) < w
  · by_cases h2 : w < 0 ∨ (b : Int) < w
    · rw [if_pos h1, if_pos h2]
      by_cases h3 : (b : Int) < a
      · rw [if_pos (by omega), if_neg (by omega)]
      · by_cases h4 : (a : Int) < b
        · rw [if_neg (by omega), if_pos (by omega)]
        · rw [if_neg (by omega), if_neg (by omega)]; omega
    · rw [if_pos h1, if_neg h2, if_neg (by omega), if_pos (by omega)]
  · by_cases h2 : w < 0 ∨ (b : Int) < w
    · rw [if_neg h1, if_pos h2, if_neg (by omega)]
    · rw [if_neg h1, if_neg h2, if_neg h1]
theorem usL_wr (names : List ByteArray) : ∀ (us : List W) (w : Int) (a : Nat), usL names us (wrongI w a) = wrongI (usL names us w) a
  | [], _, _ => rfl
  | u :: us, w, a => by
    unfold usL
    split
    · exact usL_wr names us w a
    · rw [wrongI_comm, usL_wr names us]
theorem usL_snoc (names : List ByteArray) : ∀ (us : List W) (x : W) (w : Int), usL names (us ++ [x]) w = if memS names x.1 then usL names us w else wrongI (usL names us w) x.2
  | [], x, w => by
    show usL names [x] w = _
    unfold usL
    split <;> rfl
  | u :: us, x, w => by
    rw [List.cons_append, usL, usL_snoc names us, usL]

/-- The place of the first wrong word, types that there are not among them. -/
def fin (types : List ByteArray) (p : PS) : Int := usL types p.used p.wrong
theorem fin_wr (types : List ByteArray) (x : W) (p : PS) : fin types (wrP x p) = wrongI (fin types p) x.2 := usL_wr types p.used p.wrong x.2
theorem fin_lg (types : List ByteArray) (x : W) (p : PS) : fin types (lgP x p) = longI (fin types p) x := by
  show usL types p.used (longI p.wrong x) = longI (usL types p.used p.wrong) x
  unfold longI
  split
  · exact usL_wr types p.used p.wrong x.2
  · rfl

def eT (types : List ByteArray) (x : W) (wr : Int) : Int := if typeBad types (kindW x.1) x.1 then wrongI wr x.2 else wr
def eN (names : List ByteArray) (full : Bool) (x : W) (wr : Int) : Int := if nameBad names x.1 || full then wrongI wr x.2 else wr
def eV (nums : List Int) (y : W) (wr : Int) : Int := if numW nums (valI y.1) then wrongI wr y.2 else wr
def eK : Option W → Int → Int
  | some k, wr => if keyGood (kindW k.1) k.1 then wr else wrongI wr k.2
  | none, wr => wr
theorem eN_of (names : List ByteArray) (full : Bool) (x : W) (wr : Int) : (if memS names x.1 || full then wrongI (longI wr x) x.2 else longI wr x) = eN names full x wr := by
  unfold eN nameBad longI
  by_cases h : 20 < x.1.size
  · rw [if_pos h]
    simp only [h, decide_true, Bool.true_or, if_true, wrongI_idem]
    split <;> rfl
  · rw [if_neg h]
    simp only [h, decide_false, Bool.false_or]
theorem eT_of (types : List ByteArray) (x : W) (wr : Int) : (if kindW x.1 == 1 then (if memS types x.1 then longI wr x else wrongI (longI wr x) x.2) else wr) = eT types x wr := by
  unfold eT typeBad longI
  cases hk : (kindW x.1 == 1)
  · rfl
  · simp only [Bool.true_and, if_true]
    by_cases h : 20 < x.1.size
    · simp only [h, decide_true, Bool.true_or, if_true, wrongI_idem]
      split <;> rfl
    · simp only [h, decide_false, Bool.false_or, if_false]
      cases memS types x.1 <;> rfl

section
variable {ws : List W} {p : PS}
theorem nx_ok {so : Int} {s : ByteArray} {x : W} (hx : hand ws p = x) (h : sortOK so s x.1 = true) : nxW ws so s p = x ∧ nxP ws so s p = { p with i := p.i + 1 } := by
  unfold nxW nxP nextW nextI nextB
  rw [hx, h]
  exact ⟨rfl, rfl⟩
theorem nx_err {so : Int} {s : ByteArray} {x : W} (hx : hand ws p = x) (h : sortOK so s x.1 = false) (hb : p.bad < 0) : (nxP ws so s p).bad = x.2 := by
  show nextB so s (hand ws p) p.bad = x.2
  unfold nextB
  rw [hx, h]
  simp only [Bool.false_eq_true, if_false]
  rw [if_pos hb]
theorem nx_kind {so : Int} (hso : so = 1 ∨ so = 2) (hi : p.i < ws.length) (hb : p.bad < 0) :
    (∃ x, kindP ws so p.i = .ok (x, p.i + 1) ∧ nxW ws so ⟨#[]⟩ p = x ∧ nxP ws so ⟨#[]⟩ p = { p with i := p.i + 1 } ∧ ws[p.i]? = some x ∧ kindW x.1 = so) ∨ (∃ q : Nat, kindP ws so p.i = .error q ∧ (nxP ws so ⟨#[]⟩ p).bad = q) := by
  have hg := hand_get hi
  have hs : sortOK so ⟨#[]⟩ (hand ws p).1 = (kindW (hand ws p).1 == so) := by
    unfold sortOK
    rcases hso with rfl | rfl <;> rfl
  unfold kindP
  rw [hg]
  simp only
  cases hk : (kindW (hand ws p).1 == so)
  · right
    exact ⟨_, rfl, nx_err rfl (by rw [hs, hk]) hb⟩
  · left
    obtain ⟨h1, h2⟩ := nx_ok (ws := ws) (p := p) (so := so) (s := ⟨#[]⟩) rfl (by rw [hs, hk])
    exact ⟨_, rfl, h1, h2, rfl, by simpa using hk⟩
theorem nx_type (hi : p.i < ws.length) (hb : p.bad < 0) :
    (∃ x, typeP ws p.i = .ok (x, p.i + 1) ∧ nxW ws 3 ⟨#[]⟩ p = x ∧ nxP ws 3 ⟨#[]⟩ p = { p with i := p.i + 1 } ∧ ws[p.i]? = some x ∧ (kindW x.1 == 3 || kindW x.1 == 1) = true) ∨ (∃ q : Nat, typeP ws p.i = .error q ∧ (nxP ws 3 ⟨#[]⟩ p).bad = q) := by
  have hg := hand_get hi
  have hs : sortOK 3 ⟨#[]⟩ (hand ws p).1 = (kindW (hand ws p).1 == 3 || kindW (hand ws p).1 == 1) := rfl
  unfold typeP
  rw [hg]
  simp only
  cases hk : (kindW (hand ws p).1 == 3 || kindW (hand ws p).1 == 1)
  · right
    exact ⟨_, rfl, nx_err rfl (by rw [hs, hk]) hb⟩
  · left
    obtain ⟨h1, h2⟩ := nx_ok (ws := ws) (p := p) (so := 3) (s := ⟨#[]⟩) rfl (by rw [hs, hk])
    exact ⟨_, rfl, h1, h2, rfl, hk⟩
theorem nx_skip (c : UInt8) (hi : p.i < ws.length) (hb : p.bad < 0) :
    (skipP ws [c] p.i = .ok ((), p.i + 1) ∧ nxP ws 0 ⟨#[c]⟩ p = { p with i := p.i + 1 }) ∨ (∃ q : Nat, skipP ws [c] p.i = .error q ∧ (nxP ws 0 ⟨#[c]⟩ p).bad = q) := by
  have hg := hand_get hi
  have hc : (⟨#[c]⟩ : ByteArray).toList = [c] := by rw [ByteArray.toList_eq]
  have hs : sortOK 0 ⟨#[c]⟩ (hand ws p).1 = ((hand ws p).1.toList == [c]) := by
    show ((hand ws p).1.toList == (⟨#[c]⟩ : ByteArray).toList && !((⟨#[c]⟩ : ByteArray).toList == [])) = _
    rw [hc]
    have : ([c] == ([] : List UInt8)) = false := rfl
    rw [this]
    simp
  unfold skipP
  rw [hg]
  simp only
  cases hk : ((hand ws p).1.toList == [c])
  · right
    exact ⟨_, rfl, nx_err rfl (by rw [hs, hk]) hb⟩
  · left
    obtain ⟨h1, h2⟩ := nx_ok (ws := ws) (p := p) (so := 0) (s := ⟨#[c]⟩) rfl (by rw [hs, hk])
    exact ⟨rfl, h2⟩
end

theorem f5_bad {ws : List W} {s : FD} (h : 0 ≤ (f2 ws s).bad) : (f5 ws s).bad = (f2 ws s).bad := by
  have h3 : (f3 ws s).bad = (f2 ws s).bad := nxP_bad h
  have h4 : (nxP ws 2 ⟨#[]⟩ (f3 ws s)).bad = (f2 ws s).bad := (nxP_bad (by rw [h3]; exact h)).trans h3
  exact (nxP_bad (by rw [h4]; exact h)).trans h4
theorem f2_fin (types : List ByteArray) (ws : List W) (s : FD) : fin types (f2 ws s) = eN s.names (decide (12 ≤ s.nums.length)) (nxW ws 1 ⟨#[]⟩ s.p) (fin types s.p) := by
  rw [← eN_of]
  unfold f2 f1
  split
  · rw [fin_wr, fin_lg]; rfl
  · rw [fin_lg]; rfl

/-- A field's name and number: both ways of reading. -/
theorem fd_sim (types : List ByteArray) {ws : List W} (H : WsR ws) {t : T3} {s : FD} (hi : s.p.i < ws.length) (hb : s.p.bad < 0) :
    match numP ws s.p.i with
    | .ok (nm, j) => (fdP ws t s).p.i = j ∧ (fdP ws t s).p.bad = s.p.bad ∧ fin types (fdP ws t s).p = eV (s.nums.map Fld.num) nm.2 (eN s.names (decide (12 ≤ s.nums.length)) nm.1 (fin types s.p)) ∧ (fdP ws t s).nums = s.nums ++ [⟨nm.1.1, t.1, t.2.1, t.2.2, valI nm.2.1⟩] ∧ (fdP ws t s).names = s.names ++ [nm.1.1]
    | .error q => (fdP ws t s).p.bad = q := by
  obtain ⟨s2i, s2b, _⟩ := f2_same ws s
  obtain ⟨fi, fb, _⟩ := fdP_same ws t s
  have hi1 := nxP_lt H hi 1 ⟨#[]⟩
  unfold numP
  rcases nx_kind (so := 1) (.inl rfl) hi hb with ⟨x, e1, e2, e3, _, _⟩ | ⟨q, e1, e2⟩
  · rw [andP_go e1]
    have hp2i : (f2 ws s).i = s.p.i + 1 := by rw [s2i, e3]
    have hp2b : (f2 ws s).bad = s.p.bad := by rw [s2b, e3]
    have hi2 : (f2 ws s).i < ws.length := by rw [s2i]; exact hi1
    rcases nx_skip 61 (p := f2 ws s) hi2 (by rw [hp2b]; exact hb) with ⟨g1, g2⟩ | ⟨q, g1, g2⟩
    · rw [hp2i] at g1
      rw [andP_go g1]
      have h3 : f3 ws s = { f2 ws s with i := (f2 ws s).i + 1 } := g2
      have hp3i : (f3 ws s).i = s.p.i + 1 + 1 := by rw [h3]; show (f2 ws s).i + 1 = _; rw [hp2i]
      have hp3b : (f3 ws s).bad = s.p.bad := by rw [h3]; exact hp2b
      have hi3 : (f3 ws s).i < ws.length := nxP_lt H hi2 0 ⟨#[61]⟩
      rcases nx_kind (so := 2) (.inr rfl) (p := f3 ws s) hi3 (by rw [hp3b]; exact hb) with ⟨y, k1, k2, k3, _, _⟩ | ⟨q, k1, k2⟩
      · rw [hp3i] at k1
        rw [andP_go k1]
        have hp4i : (nxP ws 2 ⟨#[]⟩ (f3 ws s)).i = s.p.i + 1 + 1 + 1 := by rw [k3]; show (f3 ws s).i + 1 = _; rw [hp3i]
        have hp4b : (nxP ws 2 ⟨#[]⟩ (f3 ws s)).bad = s.p.bad := by rw [k3]; exact hp3b
        have hi4 := nxP_lt H hi3 2 ⟨#[]⟩
        rcases nx_skip 59 (p := nxP ws 2 ⟨#[]⟩ (f3 ws s)) hi4 (by rw [hp4b]; exact hb) with ⟨l1, l2⟩ | ⟨q, l1, l2⟩
        · rw [hp4i] at l1
          rw [andP_go l1]
          simp only
          have h5 : f5 ws s = { nxP ws 2 ⟨#[]⟩ (f3 ws s) with i := (nxP ws 2 ⟨#[]⟩ (f3 ws s)).i + 1 } := l2
          have h5i : (f5 ws s).i = s.p.i + 1 + 1 + 1 + 1 := by rw [h5]; show (nxP ws 2 ⟨#[]⟩ (f3 ws s)).i + 1 = _; rw [hp4i]
          have h5b : (f5 ws s).bad = s.p.bad := by rw [h5]; exact hp4b
          have h5f : fin types (f5 ws s) = fin types (f2 ws s) := rfl
          refine ⟨by rw [fi, h5i], by rw [fb, h5b], ?_, ?_, ?_⟩
          · have hf := f2_fin types ws s
            rw [e2] at hf
            rw [← hf, ← h5f]
            unfold fdP eV
            rw [k2]
            simp only
            split
            · exact fin_wr types y (f5 ws s)
            · rfl
          · show s.nums ++ [⟨(nxW ws 1 ⟨#[]⟩ s.p).1, t.1, t.2.1, t.2.2, valI (nxW ws 2 ⟨#[]⟩ (f3 ws s)).1⟩] = _
            rw [k2, e2]
          · show s.names ++ [(nxW ws 1 ⟨#[]⟩ s.p).1] = _
            rw [e2]
        · rw [hp4i] at l1
          rw [andP_err l1]
          show (fdP ws t s).p.bad = q
          rw [fb]
          exact l2
      · rw [hp3i] at k1
        rw [andP_err k1]
        show (fdP ws t s).p.bad = q
        rw [fb]
        exact (nxP_bad (by rw [k2]; omega)).trans k2
    · rw [hp2i] at g1
      rw [andP_err g1]
      show (fdP ws t s).p.bad = q
      have h3 : (f3 ws s).bad = q := g2
      rw [fb]
      have h4 : (nxP ws 2 ⟨#[]⟩ (f3 ws s)).bad = q := (nxP_bad (by rw [h3]; omega)).trans h3
      exact (nxP_bad (by rw [h4]; omega)).trans h4
  · rw [andP_err e1]
    show (fdP ws t s).p.bad = q
    have h2 : (f2 ws s).bad = q := by rw [s2b, e2]
    rw [fb, f5_bad (by rw [h2]; omega), h2]

/-- A type: both ways of reading. -/
theorem kd_sim (types : List ByteArray) {ws : List W} {p : PS} (hi : p.i < ws.length) (hb : p.bad < 0) :
    (∃ x, typeP ws p.i = .ok (x, p.i + 1) ∧ (kdP ws p).i = p.i + 1 ∧ (kdP ws p).bad = p.bad ∧ fin types (kdP ws p) = eT types x (fin types p) ∧ (kdW ws p).1 = x.1) ∨ (∃ q : Nat, typeP ws p.i = .error q ∧ (kdP ws p).bad = q) := by
  rcases nx_type hi hb with ⟨x, e1, e2, e3, _, _⟩ | ⟨q, e1, e2⟩
  · left
    have hk : kdW ws p = x := e2
    refine ⟨x, e1, by rw [(kdP_i ws p).1, e3], by rw [(kdP_i ws p).2, e3], ?_, by rw [hk]⟩
    rw [← eT_of]
    unfold kdP
    rw [hk]
    split
    · show usL types (p.used ++ [x]) (longI p.wrong x) = _
      rw [usL_snoc]
      have hl : usL types p.used (longI p.wrong x) = longI (fin types p) x := fin_lg types x p
      rw [hl]
    · rfl
  · right
    exact ⟨q, e1, by rw [(kdP_i ws p).2, e2]⟩

end Go.Proofs.YtbbbegjedmicpaaGreatDoor

/-
  THE REFERENCE'S READING AND THE GRAMMAR (plain terms): parts, messages.
-/
namespace Go.Proofs.YtbbbegjedmicpaaGreatDoor
open Go.RowKit

structure ES where
  wr : Int
  nums : List Int
  names : List ByteArray
def absF (types : List ByteArray) (s : FD) : ES := ⟨fin types s.p, s.nums.map Fld.num, s.names⟩
/-- A field, as the reference has it. -/
def fdD (o : Option W) (f : FieldR) : Fld := ⟨f.name.1, f.type.1, pkS f.key, howR o f.form, valI f.num.1⟩
def ptD (p : PartR) : List Fld := p.fields.map (fdD p.oneof)
def fE (types : List ByteArray) (f : FieldR) (e : ES) : ES :=
  ⟨eV e.nums f.num (eN e.names (decide (12 ≤ e.nums.length)) f.name (eT types f.type (eK f.key e.wr))), e.nums ++ [valI f.num.1], e.names ++ [f.name.1]⟩
def fsE (types : List ByteArray) : List FieldR → ES → ES
  | [], e => e
  | f :: fs, e => fsE types fs (fE types f e)
def pE (types : List ByteArray) (p : PartR) (e : ES) : ES :=
  match p.oneof with
  | some o => fsE types p.fields ⟨eN e.names false o e.wr, e.nums, e.names ++ [o.1]⟩
  | none => fsE types p.fields e
def psE (types : List ByteArray) : List PartR → ES → ES
  | [], e => e
  | p :: ps, e => psE types ps (pE types p e)

/-- Both ways of reading, from one state on. -/
def SimF {α : Type} (types : List ByteArray) (s s' : FD) (r : Res α) (eff : α → ES → ES) (fl : α → List Fld) : Prop :=
  match r with
  | .ok (a, j) => s'.p.i = j ∧ s'.p.bad = s.p.bad ∧ absF types s' = eff a (absF types s) ∧ s'.nums = s.nums ++ fl a
  | .error q => s'.p.bad = q

theorem nb {p : PS} {q : Nat} (h : p.bad = q) : decide (p.bad < 0) = false := by
  rw [h]
  simp
section
variable {types : List ByteArray} {ws : List W}
theorem st_sim (H : WsR ws) {s : FD} (ho : OKP ws s.p) (hb : s.p.bad < 0) (form : Int) (o : Option W) : SimF types s (stF ws (howR o form) s) (fieldP ws form s.p.i) (fE types) (fun f => [fdD o f]) := by
  unfold fieldP
  rcases kd_sim types ho.lt hb with ⟨x, e1, e2, e3, e4, e6⟩ | ⟨q, e1, e2⟩
  · rw [andP_go e1]
    have h := fd_sim types H (t := ((kdW ws s.p).1, eS, howR o form)) (s := { s with p := kdP ws s.p }) (kdP_ok H ho).lt (by rw [e3]; exact hb)
    have e5 := e2
    rw [e5] at h
    cases hn : numP ws (s.p.i + 1) with
    | error q =>
      rw [hn] at h
      rw [andP_err rfl]
      exact h
    | ok v =>
      obtain ⟨nm, j⟩ := v
      rw [hn] at h
      rw [andP_go rfl]
      obtain ⟨h1, h2, h3, h4, h5⟩ := h
      have h3' : fin types (stF ws (howR o form) s).p = eV (s.nums.map Fld.num) nm.2 (eN s.names (decide (12 ≤ s.nums.length)) nm.1 (fin types (kdP ws s.p))) := h3
      have h4' : (stF ws (howR o form) s).nums = s.nums ++ [⟨nm.1.1, (kdW ws s.p).1, eS, howR o form, valI nm.2.1⟩] := h4
      have h5' : (stF ws (howR o form) s).names = s.names ++ [nm.1.1] := h5
      refine ⟨h1, h2.trans e3, ?_, by rw [h4', e6]; rfl⟩
      unfold absF fE
      rw [h3', h4', h5', e4]
      simp only [List.map_append, List.length_map]
      rfl
  · rw [andP_err e1]
    show (stF ws (howR o form) s).p.bad = q
    have h1 := e2
    have := fdP_bad (ws := ws) (t := ((kdW ws s.p).1, eS, howR o form)) (s := { s with p := kdP ws s.p }) (by rw [h1]; omega)
    exact this.trans h1

theorem isTxt_hand {l : List UInt8} {p : PS} (hi : p.i < ws.length) : isTxt ws l p.i = ((hand ws p).1.toList == l) := by
  unfold isTxt
  rw [hand_get hi]
theorem skip_hand {l : List UInt8} {p : PS} (hi : p.i < ws.length) (h : ((hand ws p).1.toList == l) = true) : skipP ws l p.i = .ok ((), p.i + 1) := by
  unfold skipP
  rw [hand_get hi]
  simp only
  rw [h]
  rfl
theorem at_hand {p : PS} (hi : p.i < ws.length) (hb : p.bad < 0) : atP ws ⟨#[125]⟩ p = isTxt ws [125] p.i := by
  rw [isTxt_hand hi]
  unfold atP
  have hc : (⟨#[125]⟩ : ByteArray).toList = [125] := by rw [ByteArray.toList_eq]
  rw [hc]
  simp [hb]

theorem mp_sim (H : WsR ws) {s : FD} (ho : OKP ws s.p) (hb : s.p.bad < 0) (ht : ((hand ws s.p).1.toList == [109, 97, 112]) = true) : SimF types s (mpP ws (incF s)) (mapP ws s.p.i) (fE types) (fun f => [fdD none f]) := by
  have hin : OKP ws (incF s).p := incP_ok ho (H.last _ _ (hand_get ho.lt) (txt_pos ht))
  unfold mapP
  rw [andP_go (skip_hand ho.lt ht)]
  have hE : ∀ q : Nat, (mp6 ws (incF s).p).bad = q → (mpP ws (incF s)).p.bad = q := fun q h => (fdP_bad (ws := ws) (s := { incF s with p := mp6 ws (incF s).p }) (by show 0 ≤ (mp6 ws (incF s).p).bad; rw [h]; omega)).trans h
  have hnb : ∀ (so : Int) (t : ByteArray) (p : PS) (q : Nat), p.bad = q → (nxP ws so t p).bad = q := fun so t p q h => (nxP_bad (by rw [h]; omega)).trans h
  have hkb : ∀ (p : PS) (q : Nat), p.bad = q → (kdP ws p).bad = q := fun p q h => (kdP_bad (by rw [h]; omega)).trans h
  have hm3 : ∀ (p : PS) (q : Nat), p.bad = q → (mp3 ws p).bad = q := fun p q h => by rw [(mp3_same ws p).2.1]; exact hnb _ _ _ _ h
  have hb0 : (incF s).p.bad < 0 := hb
  have i0 : (incF s).p.i = s.p.i + 1 := rfl
  rcases nx_skip 60 (p := (incF s).p) hin.lt hb0 with ⟨g1, g2⟩ | ⟨q, g1, g2⟩
  rotate_left
  · rw [i0] at g1
    rw [andP_err g1]
    exact hE q (hnb _ _ _ _ (hkb _ _ (hnb _ _ _ _ (hm3 _ _ g2))))
  rw [i0] at g1
  rw [andP_go g1]
  have o1 : OKP ws (nxP ws 0 ⟨#[60]⟩ (incF s).p) := nxP_ok H hin _ _
  obtain ⟨p1, hp1⟩ : ∃ p1, nxP ws 0 ⟨#[60]⟩ (incF s).p = p1 := ⟨_, rfl⟩
  have p1i : p1.i = s.p.i + 1 + 1 := by rw [← hp1, g2]; rfl
  have p1b : p1.bad = s.p.bad := by rw [← hp1, g2]; rfl
  have p1f : fin types p1 = fin types s.p := by rw [← hp1]; rfl
  have m6 : mp6 ws (incF s).p = nxP ws 0 ⟨#[62]⟩ (kdP ws (nxP ws 0 ⟨#[44]⟩ (mp3 ws p1))) := by unfold mp6; rw [hp1]
  rw [hp1] at o1
  have hi1 : s.p.i + 1 + 1 = p1.i := p1i.symm
  rw [hi1]
  rcases nx_type (p := p1) o1.lt (by rw [p1b]; exact hb) with ⟨k, e1, e2, e3, e4, _⟩ | ⟨q, e1, e2⟩
  rotate_left
  · rw [andP_err e1]
    refine hE q ?_
    rw [m6]
    exact hnb _ _ _ _ (hkb _ _ (hnb _ _ _ _ (by rw [(mp3_same ws p1).2.1]; exact e2)))
  rw [andP_go e1]
  have hh : hand ws p1 = k := by
    have := hand_get o1.lt
    rw [this] at e4
    exact Option.some.inj e4
  obtain ⟨m3i, m3b, _⟩ := mp3_same ws p1
  have q3i : (mp3 ws p1).i = p1.i + 1 := by rw [m3i, e3]
  have q3b : (mp3 ws p1).bad = s.p.bad := by rw [m3b, e3]; exact p1b
  have q3f : fin types (mp3 ws p1) = eK (some k) (fin types s.p) := by
    unfold mp3
    rw [e2, hh, ← p1f]
    show _ = if keyGood (kindW k.1) k.1 then fin types p1 else wrongI (fin types p1) k.2
    split
    · rfl
    · rw [fin_wr]; rfl
  have o3 := mp3_ok H o1
  rcases nx_skip 44 (p := mp3 ws p1) o3.lt (by rw [q3b]; exact hb) with ⟨g3, g4⟩ | ⟨q, g3, g4⟩
  rotate_left
  · rw [q3i] at g3
    rw [andP_err g3]
    refine hE q ?_
    rw [m6]
    exact hnb _ _ _ _ (hkb _ _ g4)
  rw [q3i] at g3
  rw [andP_go g3]
  have o4 := nxP_ok H o3 0 ⟨#[44]⟩
  have q4i : (nxP ws 0 ⟨#[44]⟩ (mp3 ws p1)).i = p1.i + 1 + 1 := by rw [g4]; show (mp3 ws p1).i + 1 = _; rw [q3i]
  have q4b : (nxP ws 0 ⟨#[44]⟩ (mp3 ws p1)).bad = s.p.bad := by rw [g4]; exact q3b
  have q4f : fin types (nxP ws 0 ⟨#[44]⟩ (mp3 ws p1)) = eK (some k) (fin types s.p) := q3f
  rcases kd_sim types o4.lt (by rw [q4b]; exact hb) with ⟨x, l1, l2, l3, l4, l6⟩ | ⟨q, l1, l2⟩
  rotate_left
  · rw [q4i] at l1
    rw [andP_err l1]
    refine hE q ?_
    rw [m6]
    exact hnb _ _ _ _ l2
  rw [q4i] at l1 l2
  rw [andP_go l1]
  have o5 := kdP_ok H o4
  rcases nx_skip 62 (p := kdP ws (nxP ws 0 ⟨#[44]⟩ (mp3 ws p1))) o5.lt (by rw [l3, q4b]; exact hb) with ⟨g5, g6⟩ | ⟨q, g5, g6⟩
  rotate_left
  · rw [l2] at g5
    rw [andP_err g5]
    refine hE q ?_
    rw [m6]
    exact g6
  rw [l2] at g5
  rw [andP_go g5]
  have o6 : OKP ws (mp6 ws (incF s).p) := mp6_ok H hin
  have q6i : (mp6 ws (incF s).p).i = p1.i + 1 + 1 + 1 + 1 := by rw [m6, g6]; show (kdP ws (nxP ws 0 ⟨#[44]⟩ (mp3 ws p1))).i + 1 = _; rw [l2]
  have q6b : (mp6 ws (incF s).p).bad = s.p.bad := by rw [m6, g6]; exact l3.trans q4b
  have q6f : fin types (mp6 ws (incF s).p) = eT types x (eK (some k) (fin types s.p)) := by rw [m6, ← q4f, ← l4]; rfl
  have h := fd_sim types H (t := mpT ws (incF s).p) (s := { incF s with p := mp6 ws (incF s).p }) o6.lt (by show (mp6 ws (incF s).p).bad < 0; rw [q6b]; exact hb)
  have e5 : ({ incF s with p := mp6 ws (incF s).p } : FD).p.i = p1.i + 1 + 1 + 1 + 1 := q6i
  rw [e5] at h
  cases hn : numP ws (p1.i + 1 + 1 + 1 + 1) with
  | error q =>
    rw [hn] at h
    rw [andP_err rfl]
    exact h
  | ok v =>
    obtain ⟨nm, j⟩ := v
    rw [hn] at h
    rw [andP_go rfl]
    obtain ⟨h1, h2, h3, h4, h5⟩ := h
    have hT : mpT ws (incF s).p = (x.1, k.1, sMap) := by unfold mpT; rw [hp1, e2, l6]
    have h3' : fin types (mpP ws (incF s)).p = eV (s.nums.map Fld.num) nm.2 (eN s.names (decide (12 ≤ s.nums.length)) nm.1 (fin types (mp6 ws (incF s).p))) := h3
    have h4' : (mpP ws (incF s)).nums = s.nums ++ [⟨nm.1.1, (mpT ws (incF s).p).1, (mpT ws (incF s).p).2.1, (mpT ws (incF s).p).2.2, valI nm.2.1⟩] := h4
    have h5' : (mpP ws (incF s)).names = s.names ++ [nm.1.1] := h5
    refine ⟨h1, h2.trans q6b, ?_, by rw [h4', hT]; rfl⟩
    unfold absF fE
    rw [h3', h4', h5', q6f]
    simp only [List.map_append, List.length_map]
    rfl

theorem stF_ok (H : WsR ws) {how : ByteArray} {s : FD} (h : OKP ws s.p) : OKP ws (stF ws how s).p := fdP_ok H (s := { s with p := kdP ws s.p }) (kdP_ok H h)

theorem onL_okp (H : WsR ws) {how : ByteArray} : ∀ (n : Nat) (b : Bool) (s : FD), OKP ws s.p → OKP ws (onL ws how n b s).p
  | 0, _, _, h => h
  | n + 1, b, s, h => by
    rw [onL]
    split
    · exact onL_okp H n false _ (stF_ok H h)
    · exact h
theorem onL_sim (H : WsR ws) (o : Option W) : ∀ (m n : Nat) (s : FD), OKP ws s.p → s.p.bad < 0 → measP ws s.p ≤ n → ws.length - s.p.i ≤ m →
    SimF types s (onL ws (howR o 3) n false s) (manyP (isTxt ws [125]) (fieldP ws 3) m s.p.i) (fsE types) (fun l => l.map (fdD o))
  | 0, n, s, ho, hb, hn, hm => by have := ho.lt; omega
  | m + 1, n, s, ho, hb, hn, hm => by
    have hat := at_hand (ws := ws) ho.lt hb
    have hpos : 0 < measP ws s.p := by unfold measP; rw [if_pos hb]; have := ho.lt; omega
    unfold manyP
    cases hs : isTxt ws [125] s.p.i
    · rw [hs] at hat
      simp only [Bool.false_eq_true, if_false]
      have hgo : (decide (s.p.bad < 0) && !(atP ws ⟨#[125]⟩ s.p && !false)) = true := by rw [hat]; simp [hb]
      rw [onL_go hgo (by omega)]
      have hst := st_sim (types := types) H ho hb 3 o
      have hmd := stF_meas (how := howR o 3) H ho hb
      have ho2 := stF_ok (how := howR o 3) H ho
      cases hf : fieldP ws 3 s.p.i with
      | error q =>
        rw [hf] at hst
        rw [andP_err rfl]
        have hq := hst
        rw [onL_stop (by rw [nb hq]; rfl)]
        exact hq
      | ok v =>
        obtain ⟨f, j⟩ := v
        rw [hf] at hst
        obtain ⟨h1, h2, h3, h4⟩ := hst
        rw [andP_go rfl]
        have hlt := fieldP_on ws 3 s.p.i f j hf
        have ih := onL_sim H o m (n - 1) (stF ws (howR o 3) s) ho2 (by rw [h2]; exact hb) (by omega) (by omega)
        rw [h1] at ih
        cases hr : manyP (isTxt ws [125]) (fieldP ws 3) m j with
        | error q =>
          rw [hr] at ih
          rw [andP_err rfl]
          exact ih
        | ok v =>
          obtain ⟨l, k⟩ := v
          rw [hr] at ih
          obtain ⟨i1, i2, i3, i4⟩ := ih
          rw [andP_go rfl]
          refine ⟨i1, i2.trans h2, ?_, ?_⟩
          · rw [i3, h3]
            rfl
          · rw [i4, h4, List.append_assoc]
            rfl
    · rw [hs] at hat
      simp only [if_true]
      rw [onL_stop (by rw [hat]; simp)]
      exact ⟨rfl, rfl, rfl, (List.append_nil _).symm⟩

theorem on2_fin (s : FD) : fin types (on2 ws s) = eN s.names false (nxW ws 1 ⟨#[]⟩ s.p) (fin types s.p) := by
  rw [← eN_of]
  simp only [Bool.or_false]
  unfold on2 f1
  split
  · rw [fin_wr, fin_lg]; rfl
  · rw [fin_lg]; rfl

theorem on_sim (H : WsR ws) {s : FD} (ho : OKP ws s.p) (hb : s.p.bad < 0) (ht : ((hand ws s.p).1.toList == [111, 110, 101, 111, 102]) = true) : SimF types s (onP ws (incF s)) (oneofP ws s.p.i) (pE types) ptD := by
  have hin : OKP ws (incF s).p := incP_ok ho (H.last _ _ (hand_get ho.lt) (txt_pos ht))
  have hb0 : (incF s).p.bad < 0 := hb
  obtain ⟨s2i, s2b, _⟩ := on2_same ws (incF s)
  have o2 := on2_ok H hin
  have oS : OKP ws (onS ws (incF s)).p := nxP_ok H o2 0 ⟨#[123]⟩
  have hE : ∀ q : Nat, (onS ws (incF s)).p.bad = q → (onP ws (incF s)).p.bad = q := fun q h => by
    have h1 : onL ws (onH ws (incF s)) ws.length true (onS ws (incF s)) = onS ws (incF s) := onL_stop (by rw [nb h]; rfl)
    show (nxP ws 0 ⟨#[125]⟩ (onL ws (onH ws (incF s)) ws.length true (onS ws (incF s))).p).bad = q
    rw [h1, nxP_bad (by rw [h]; omega), h]
  unfold oneofP
  rw [andP_go (skip_hand ho.lt ht)]
  rcases nx_kind (so := 1) (.inl rfl) hin.lt hb0 with ⟨x, e1, e2, e3, _, _⟩ | ⟨q, e1, e2⟩
  rotate_left
  · have i1 : (incF s).p.i = s.p.i + 1 := rfl
    rw [i1] at e1
    rw [andP_err e1]
    exact hE q ((nxP_bad (by rw [s2b, e2]; omega)).trans (s2b.trans e2))
  have i1 : (incF s).p.i = s.p.i + 1 := rfl
  rw [i1] at e1
  rw [andP_go e1]
  have q2i : (on2 ws (incF s)).i = s.p.i + 1 + 1 := by rw [s2i, e3]; rfl
  have q2b : (on2 ws (incF s)).bad = s.p.bad := by rw [s2b, e3]; rfl
  rcases nx_skip 123 (p := on2 ws (incF s)) o2.lt (by rw [q2b]; exact hb) with ⟨g1, g2⟩ | ⟨q, g1, g2⟩
  rotate_left
  · rw [q2i] at g1
    rw [andP_err g1]
    exact hE q g2
  rw [q2i] at g1
  rw [andP_go g1]
  have qSi : (onS ws (incF s)).p.i = s.p.i + 1 + 1 + 1 := by
    have : (onS ws (incF s)).p = { on2 ws (incF s) with i := (on2 ws (incF s)).i + 1 } := g2
    rw [this]
    show (on2 ws (incF s)).i + 1 = _
    rw [q2i]
  have qSb : (onS ws (incF s)).p.bad = s.p.bad := by
    have : (onS ws (incF s)).p = { on2 ws (incF s) with i := (on2 ws (incF s)).i + 1 } := g2
    rw [this]
    exact q2b
  have qSa : absF types (onS ws (incF s)) = ⟨eN s.names false x (fin types s.p), s.nums.map Fld.num, s.names ++ [x.1]⟩ := by
    have h1 : fin types (onS ws (incF s)).p = fin types (on2 ws (incF s)) := rfl
    have h2 := on2_fin (types := types) (ws := ws) (incF s)
    rw [e2] at h2
    unfold absF
    rw [h1, h2]
    show (⟨_, s.nums.map Fld.num, s.names ++ [(nxW ws 1 ⟨#[]⟩ (incF s).p).1]⟩ : ES) = _
    rw [e2]
    rfl
  have hbS : (onS ws (incF s)).p.bad < 0 := by rw [qSb]; exact hb
  have hpos : 0 < ws.length := by have := ho.lt; omega
  have hgo : (decide ((onS ws (incF s)).p.bad < 0) && !(atP ws ⟨#[125]⟩ (onS ws (incF s)).p && !true)) = true := by simp [hbS]
  have hstep : onL ws (onH ws (incF s)) ws.length true (onS ws (incF s)) = onL ws (onH ws (incF s)) (ws.length - 1) false (stF ws (onH ws (incF s)) (onS ws (incF s))) := onL_go hgo hpos
  have hH : onH ws (incF s) = howR (some x) 3 := by unfold onH; rw [e2]; rfl
  have hst := st_sim (types := types) H oS hbS 3 (some x)
  rw [← hH] at hst
  rw [qSi] at hst
  cases hf : fieldP ws 3 (s.p.i + 1 + 1 + 1) with
  | error q =>
    rw [hf] at hst
    rw [andP_err rfl]
    have hq : (stF ws (onH ws (incF s)) (onS ws (incF s))).p.bad = q := hst
    show (nxP ws 0 ⟨#[125]⟩ (onL ws (onH ws (incF s)) ws.length true (onS ws (incF s))).p).bad = q
    rw [hstep, onL_stop (by rw [nb hq]; rfl), nxP_bad (by rw [hq]; omega), hq]
  | ok v =>
    obtain ⟨f, j⟩ := v
    rw [hf] at hst
    obtain ⟨h1, h2, h3, h4⟩ := hst
    rw [andP_go rfl]
    have oT := stF_ok (how := onH ws (incF s)) H oS
    have hlt := fieldP_on ws 3 _ f j hf
    have hbT : (stF ws (onH ws (incF s)) (onS ws (incF s))).p.bad < 0 := by rw [h2]; exact hbS
    have ih := onL_sim (types := types) H (some x) ws.length (ws.length - 1) (stF ws (onH ws (incF s)) (onS ws (incF s))) oT hbT (by unfold measP; rw [if_pos hbT]; omega) (by omega)
    rw [h1, ← hH] at ih
    have hP : (onP ws (incF s)).p = nxP ws 0 ⟨#[125]⟩ (onL ws (onH ws (incF s)) (ws.length - 1) false (stF ws (onH ws (incF s)) (onS ws (incF s)))).p := by
      show nxP ws 0 ⟨#[125]⟩ (onL ws (onH ws (incF s)) ws.length true (onS ws (incF s))).p = _
      rw [hstep]
    have hPn : (onP ws (incF s)).nums = (onL ws (onH ws (incF s)) (ws.length - 1) false (stF ws (onH ws (incF s)) (onS ws (incF s)))).nums ∧ (onP ws (incF s)).names = (onL ws (onH ws (incF s)) (ws.length - 1) false (stF ws (onH ws (incF s)) (onS ws (incF s)))).names := by
      constructor
      · show (onL ws (onH ws (incF s)) ws.length true (onS ws (incF s))).nums = _
        rw [hstep]
      · show (onL ws (onH ws (incF s)) ws.length true (onS ws (incF s))).names = _
        rw [hstep]
    cases hr : manyP (isTxt ws [125]) (fieldP ws 3) ws.length j with
    | error q =>
      rw [hr] at ih
      have hq : (onL ws (onH ws (incF s)) (ws.length - 1) false (stF ws (onH ws (incF s)) (onS ws (incF s)))).p.bad = q := ih
      show (onP ws (incF s)).p.bad = q
      rw [hP, nxP_bad (by rw [hq]; omega), hq]
    | ok v =>
      obtain ⟨l, k⟩ := v
      rw [hr] at ih
      obtain ⟨i1, i2, i3, i4⟩ := ih
      have hpre : preP [f] (.ok (l, k)) = .ok ([f] ++ l, k) := rfl
      rw [hpre, andP_go rfl]
      have hbL : (onL ws (onH ws (incF s)) (ws.length - 1) false (stF ws (onH ws (incF s)) (onS ws (incF s)))).p.bad = s.p.bad := i2.trans (h2.trans qSb)
      have oL : (onL ws (onH ws (incF s)) (ws.length - 1) false (stF ws (onH ws (incF s)) (onS ws (incF s)))).p.i < ws.length := by
        exact (onL_okp H _ _ _ oT).lt
      rcases nx_skip 125 (p := (onL ws (onH ws (incF s)) (ws.length - 1) false (stF ws (onH ws (incF s)) (onS ws (incF s)))).p) oL (by rw [hbL]; exact hb) with ⟨g3, g4⟩ | ⟨q, g3, g4⟩
      · rw [i1] at g3
        rw [andP_go g3]
        refine ⟨?_, ?_, ?_, ?_⟩
        · rw [hP, g4]; show (onL ws (onH ws (incF s)) (ws.length - 1) false (stF ws (onH ws (incF s)) (onS ws (incF s)))).p.i + 1 = _; rw [i1]
        · rw [hP, g4]; exact hbL
        · have e5 : absF types (onP ws (incF s)) = absF types (onL ws (onH ws (incF s)) (ws.length - 1) false (stF ws (onH ws (incF s)) (onS ws (incF s)))) := by
            unfold absF
            rw [hP, hPn.1, hPn.2]
            rfl
          rw [e5, i3, h3, qSa]
          rfl
        · rw [hPn.1, i4, h4, List.append_assoc]
          rfl
      · rw [i1] at g3
        rw [andP_err g3]
        show (onP ws (incF s)).p.bad = q
        rw [hP]
        exact g4
end

end Go.Proofs.YtbbbegjedmicpaaGreatDoor
