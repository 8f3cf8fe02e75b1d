import Derived.Test.YtbbbegjedmicpaaGreatDoorEqA

/-
  THE REFERENCE'S READING AND THE GRAMMAR (plain terms): messages, enums, the whole.
-/
namespace Go.Proofs.YtbbbegjedmicpaaGreatDoor
open Go.RowKit

section
variable {types : List ByteArray} {ws : List W}
theorem ba_of {x : ByteArray} {l : List UInt8} (h : (x.toList == l) = true) : x = ⟨l.toArray⟩ := by
  have h1 : x.toList = l := by simpa using h
  rw [ByteArray.toList_eq] at h1
  obtain ⟨d⟩ := x
  simp only at h1
  rw [← h1]
theorem alone_sim {s s' : FD} {r : Res FieldR} (h : SimF types s s' r (fE types) (fun f => [fdD none f])) : SimF types s s' (aloneP r) (pE types) ptD := by
  cases r with
  | error q => exact h
  | ok v =>
    obtain ⟨f, j⟩ := v
    exact h
theorem incF_ok (H : WsR ws) {s : FD} (ho : OKP ws s.p) (hs : 0 < (hand ws s.p).1.size) : OKP ws (incF s).p := incP_ok ho (H.last _ _ (hand_get ho.lt) hs)
theorem inc_sim {s s' : FD} {α : Type} {r : Res α} {eff : α → ES → ES} {fl : α → List Fld} (h : SimF types (incF s) s' r eff fl) : SimF types s s' r eff fl := h
theorem pt_sim (H : WsR ws) {s : FD} (ho : OKP ws s.p) (hb : s.p.bad < 0) : SimF types s (ptF ws s) (partP ws s.p.i) (pE types) ptD := by
  unfold ptF partP
  rw [isTxt_hand ho.lt, isTxt_hand ho.lt, isTxt_hand ho.lt, isTxt_hand ho.lt]
  split
  · next ht => exact on_sim H ho hb ht
  · split
    · next ht => exact alone_sim (mp_sim H ho hb ht)
    · cases h3 : ((hand ws s.p).1.toList == [114, 101, 112, 101, 97, 116, 101, 100])
      · cases h4 : ((hand ws s.p).1.toList == [111, 112, 116, 105, 111, 110, 97, 108])
        · simp only [Bool.or_self, Bool.false_eq_true, if_false]
          exact alone_sim (st_sim H ho hb 0 none)
        · simp only [Bool.false_or, Bool.false_eq_true, if_false, if_true]
          have q := alone_sim (inc_sim (st_sim (types := types) H (incF_ok H ho (txt_pos h4)) hb 1 none))
          rw [show howR none 1 = (hand ws s.p).1 from (ba_of h4).symm] at q
          exact q
      · simp only [Bool.true_or, if_true]
        have q := alone_sim (inc_sim (st_sim (types := types) H (incF_ok H ho (txt_pos h3)) hb 2 none))
        rw [show howR none 2 = (hand ws s.p).1 from (ba_of h3).symm] at q
        exact q
theorem onP_ok (H : WsR ws) {s : FD} (h : OKP ws s.p) : OKP ws (onP ws s).p := nxP_ok H (onL_okp H _ _ _ (nxP_ok H (on2_ok H h) 0 ⟨#[123]⟩)) 0 ⟨#[125]⟩
theorem mpP_ok (H : WsR ws) {s : FD} (h : OKP ws s.p) : OKP ws (mpP ws s).p := fdP_ok H (s := { s with p := mp6 ws s.p }) (mp6_ok H h)
theorem ptF_ok (H : WsR ws) {s : FD} (h : OKP ws s.p) : OKP ws (ptF ws s).p := by
  unfold ptF
  split
  · next ht => exact onP_ok H (incF_ok H h (txt_pos ht))
  · split
    · next ht => exact mpP_ok H (incF_ok H h (txt_pos ht))
    · split
      · next ht =>
        rcases (Bool.or_eq_true _ _).mp ht with ht | ht
        · exact stF_ok H (incF_ok H h (txt_pos ht))
        · exact stF_ok H (incF_ok H h (txt_pos ht))
      · exact stF_ok H h
theorem ptF_meas' (H : WsR ws) {s : FD} (h : OKP ws s.p) (hb : s.p.bad < 0) : measP ws (ptF ws s).p < measP ws s.p := by
  have hx : ∀ t : FD, s.p.i + 1 ≤ t.p.i → measP ws t.p < measP ws s.p := fun t ht => by
    have := h.lt
    unfold measP
    rw [if_pos hb]
    split <;> omega
  unfold ptF
  split
  · exact hx _ (onP_le ws (incF s))
  · split
    · exact hx _ (mpP_le ws (incF s))
    · split
      · exact hx _ (stF_le ws _ (incF s))
      · exact stF_meas H h hb
theorem msL_okp (H : WsR ws) : ∀ (n : Nat) (s : FD), OKP ws s.p → OKP ws (msL ws n s).p
  | 0, _, h => h
  | n + 1, s, h => by
    rw [msL]
    split
    · exact msL_okp H n _ (ptF_ok H h)
    · exact h
theorem msL_sim (H : WsR ws) : ∀ (m n : Nat) (s : FD), OKP ws s.p → s.p.bad < 0 → measP ws s.p ≤ n → ws.length - s.p.i ≤ m →
    SimF types s (msL ws n s) (manyP (isTxt ws [125]) (partP ws) m s.p.i) (psE types) (fun l => l.flatMap ptD)
  | 0, n, s, ho, hb, hn, hm => by have := ho.lt; omega
  | m + 1, n, s, ho, hb, hn, hm => by
    have hat := at_hand (ws := ws) ho.lt hb
    have hpos : 0 < measP ws s.p := by unfold measP; rw [if_pos hb]; have := ho.lt; omega
    unfold manyP
    cases hs : isTxt ws [125] s.p.i
    · rw [hs] at hat
      simp only [Bool.false_eq_true, if_false]
      have hgo : (decide (s.p.bad < 0) && !atP ws ⟨#[125]⟩ s.p) = true := by rw [hat]; simp [hb]
      rw [msL_go hgo (by omega)]
      have hst := pt_sim (types := types) H ho hb
      have hmd := ptF_meas' H ho hb
      have ho2 := ptF_ok H ho
      cases hf : partP ws s.p.i with
      | error q =>
        rw [hf] at hst
        rw [andP_err rfl]
        have hq : (ptF ws s).p.bad = q := hst
        rw [msL_stop (by rw [nb hq]; rfl)]
        exact hq
      | ok v =>
        obtain ⟨f, j⟩ := v
        rw [hf] at hst
        obtain ⟨h1, h2, h3, h4⟩ := hst
        rw [andP_go rfl]
        have hlt := partP_on ws s.p.i f j hf
        have ih := msL_sim H m (n - 1) (ptF ws s) ho2 (by rw [h2]; exact hb) (by omega) (by omega)
        rw [h1] at ih
        cases hr : manyP (isTxt ws [125]) (partP ws) m j with
        | error q =>
          rw [hr] at ih
          rw [andP_err rfl]
          exact ih
        | ok v =>
          obtain ⟨l, k⟩ := v
          rw [hr] at ih
          obtain ⟨i1, i2, i3, i4⟩ := ih
          rw [andP_go rfl]
          refine ⟨i1, i2.trans h2, ?_, ?_⟩
          · rw [i3, h3]
            rfl
          · rw [i4, h4, List.append_assoc]
            rfl
    · rw [hs] at hat
      simp only [if_true]
      rw [msL_stop (by rw [hat]; simp)]
      exact ⟨rfl, rfl, rfl, (List.append_nil _).symm⟩

/-- What a block does to the place of the first wrong word. -/
def vE (v : W × W) (e : Int × List ByteArray) : Int × List ByteArray :=
  (let w1 := eN e.2 false v.1 e.1
   if 2147483647 < valI v.2.1 then wrongI w1 v.2.2 else w1, e.2 ++ [v.1.1])
def vsE : List (W × W) → Int × List ByteArray → Int × List ByteArray
  | [], e => e
  | v :: vs, e => vsE vs (vE v e)
def bE (types : List ByteArray) (b : BlockR) (names : List ByteArray) (m : Nat) (wr : Int) : Int :=
  if b.enum then (vsE b.values (eN names false b.name wr, [])).1 else (psE types b.parts ⟨eN names (decide (6 ≤ m)) b.name wr, [], []⟩).wr

theorem ms2_fin (p : PS) : fin types (ms2 ws p) = eN p.names (decide (6 ≤ p.msgs.length)) (nxW ws 1 ⟨#[]⟩ p) (fin types p) := by
  rw [← eN_of]
  unfold ms2
  split
  · rw [fin_wr, fin_lg]; rfl
  · rw [fin_lg]; rfl
theorem en0_fin (p : PS) : fin types (en0 ws p) = eN p.names false (nxW ws 1 ⟨#[]⟩ p) (fin types p) := by
  rw [← eN_of]
  simp only [Bool.or_false]
  unfold en0
  split
  · rw [fin_wr, fin_lg]; rfl
  · rw [fin_lg]; rfl
theorem en1_fin (p : PS) (l : List ByteArray) : fin types (en1 ws p l) = eN l false (nxW ws 1 ⟨#[]⟩ p) (fin types p) := by
  rw [← eN_of]
  simp only [Bool.or_false]
  unfold en1
  split
  · rw [fin_wr, fin_lg]; rfl
  · rw [fin_lg]; rfl

/-- A message, as the reference has it. -/
def mtD (b : BlockR) : MT := ⟨b.name.1, b.parts.flatMap ptD⟩
/-- Both ways of reading a block. -/
def SimB (types : List ByteArray) (p p' : PS) (r : Res BlockR) : Prop :=
  match r with
  | .ok (b, j) => p'.i = j ∧ p'.bad = p.bad ∧ fin types p' = bE types b p.names p.msgs.length (fin types p) ∧ p'.names = p.names ++ [b.name.1] ∧ p'.msgs = p.msgs ++ (if b.enum then [] else [mtD b]) ∧ p'.enums = p.enums ++ (if b.enum then [b.name.1] else [])
  | .error q => p'.bad = q

theorem ms_sim (H : WsR ws) {p : PS} (ho : OKP ws p) (hb : p.bad < 0) (ht : ((hand ws p).1.toList == [109, 101, 115, 115, 97, 103, 101]) = true) : SimB types p (msP ws (incP p)) (messageP ws p.i) := by
  have hin : OKP ws (incP p) := incP_ok ho (H.last _ _ (hand_get ho.lt) (txt_pos ht))
  have hb0 : (incP p).bad < 0 := hb
  obtain ⟨s2i, s2b, _⟩ := ms2_same ws (incP p)
  have h1 := nxP_ok H hin 1 ⟨#[]⟩
  have i0 : (incP p).i = p.i + 1 := rfl
  have oS : OKP ws (msS ws (incP p)).p := (msS_bnd H hin).ok
  have o3 : (ms3 ws (incP p)).i < ws.length := by show (ms2 ws (incP p)).i < _; rw [s2i]; exact h1.lt
  have htop := msP_top ws (incP p)
  have hn1 : (msP ws (incP p)).names = p.names ++ [(nxW ws 1 ⟨#[]⟩ (incP p)).1] := congrArg (fun t => t.1) htop
  have hn2 : (msP ws (incP p)).msgs = p.msgs ++ [⟨(nxW ws 1 ⟨#[]⟩ (incP p)).1, (msE ws (incP p)).nums⟩] := congrArg (fun t => t.2.1) htop
  have hn3 : (msP ws (incP p)).enums = p.enums := congrArg (fun t => t.2.2) htop
  have hE : ∀ q : Nat, (msS ws (incP p)).p.bad = q → (msP ws (incP p)).bad = q := fun q h => by
    have h1 : msE ws (incP p) = msS ws (incP p) := msL_stop (by rw [nb h]; rfl)
    show (nxP ws 0 ⟨#[125]⟩ (msE ws (incP p)).p).bad = q
    rw [h1, nxP_bad (by rw [h]; omega), h]
  unfold messageP
  rw [andP_go (skip_hand ho.lt ht)]
  rcases nx_kind (so := 1) (.inl rfl) hin.lt hb0 with ⟨x, e1, e2, e3, _, _⟩ | ⟨q, e1, e2⟩
  rotate_left
  · rw [i0] at e1
    rw [andP_err e1]
    exact hE q ((nxP_bad (p := ms3 ws (incP p)) (by show 0 ≤ (ms2 ws (incP p)).bad; rw [s2b, e2]; omega)).trans (s2b.trans e2))
  rw [i0] at e1
  rw [andP_go e1]
  have q2i : (ms3 ws (incP p)).i = p.i + 1 + 1 := by show (ms2 ws (incP p)).i = _; rw [s2i, e3]; rfl
  have q2b : (ms3 ws (incP p)).bad = p.bad := by show (ms2 ws (incP p)).bad = _; rw [s2b, e3]; rfl
  rcases nx_skip 123 (p := ms3 ws (incP p)) o3 (by rw [q2b]; exact hb) with ⟨g1, g2⟩ | ⟨q, g1, g2⟩
  rotate_left
  · rw [q2i] at g1
    rw [andP_err g1]
    exact hE q g2
  rw [q2i] at g1
  rw [andP_go g1]
  have hS : (msS ws (incP p)).p = { ms3 ws (incP p) with i := (ms3 ws (incP p)).i + 1 } := g2
  have qSi : (msS ws (incP p)).p.i = p.i + 1 + 1 + 1 := by rw [hS]; show (ms3 ws (incP p)).i + 1 = _; rw [q2i]
  have qSb : (msS ws (incP p)).p.bad = p.bad := by rw [hS]; exact q2b
  have qSa : absF types (msS ws (incP p)) = ⟨eN p.names (decide (6 ≤ p.msgs.length)) x (fin types p), [], []⟩ := by
    have h2 := ms2_fin (types := types) (ws := ws) (incP p)
    rw [e2] at h2
    have h1 : fin types (msS ws (incP p)).p = fin types (ms2 ws (incP p)) := rfl
    unfold absF
    rw [h1, h2]
    rfl
  have hbS : (msS ws (incP p)).p.bad < 0 := by rw [qSb]; exact hb
  have ih := msL_sim (types := types) H ws.length ws.length (msS ws (incP p)) oS hbS (by unfold measP; rw [if_pos hbS]; omega) (by omega)
  rw [qSi] at ih
  have oE : (msE ws (incP p)).p.i < ws.length := (msL_okp H _ _ oS).lt
  cases hr : manyP (isTxt ws [125]) (partP ws) ws.length (p.i + 1 + 1 + 1) with
  | error q =>
    rw [hr] at ih
    rw [andP_err rfl]
    have hq : (msE ws (incP p)).p.bad = q := ih
    show (nxP ws 0 ⟨#[125]⟩ (msE ws (incP p)).p).bad = q
    rw [nxP_bad (by rw [hq]; omega), hq]
  | ok v =>
    obtain ⟨l, k⟩ := v
    rw [hr] at ih
    obtain ⟨i1, i2, i3, i4⟩ := ih
    have i1' : (msE ws (incP p)).p.i = k := i1
    have i2' : (msE ws (incP p)).p.bad = p.bad := i2.trans qSb
    rw [andP_go rfl]
    rcases nx_skip 125 (p := (msE ws (incP p)).p) oE (by rw [i2']; exact hb) with ⟨g3, g4⟩ | ⟨q, g3, g4⟩
    · rw [i1'] at g3
      rw [andP_go g3]
      refine ⟨?_, ?_, ?_, ?_, ?_, ?_⟩
      · show (nxP ws 0 ⟨#[125]⟩ (msE ws (incP p)).p).i = _
        rw [g4]
        show (msE ws (incP p)).p.i + 1 = _
        rw [i1']
      · show (nxP ws 0 ⟨#[125]⟩ (msE ws (incP p)).p).bad = _
        rw [g4]
        exact i2'
      · have e5 : fin types (msP ws (incP p)) = (absF types (msL ws ws.length (msS ws (incP p)))).wr := rfl
        rw [e5, i3, qSa]
        rfl
      · rw [hn1, e2]
      · have i5 : (msE ws (incP p)).nums = l.flatMap ptD := i4
        rw [hn2, e2, i5]
        rfl
      · rw [hn3]
        exact (List.append_nil _).symm
    · rw [i1'] at g3
      rw [andP_err g3]
      exact g4
end

end Go.Proofs.YtbbbegjedmicpaaGreatDoor

/-
  THE REFERENCE'S READING AND THE GRAMMAR (plain terms): enums, the whole text.
-/
namespace Go.Proofs.YtbbbegjedmicpaaGreatDoor
open Go.RowKit

section
variable {types : List ByteArray} {ws : List W}
theorem enV_sim (H : WsR ws) {p : PS} (ho : OKP ws p) (hb : p.bad < 0) (l : List ByteArray) :
    match numP ws p.i with
    | .ok (v, j) => (enV ws p l).i = j ∧ (enV ws p l).bad = p.bad ∧ (fin types (enV ws p l), l ++ [(nxW ws 1 ⟨#[]⟩ p).1]) = vE v (fin types p, l)
    | .error q => (enV ws p l).bad = q := by
  obtain ⟨s2i, s2b, _⟩ := en1_same ws p l
  have o1 := en1_ok H ho l
  have o2 : OKP ws (en2 ws p l) := nxP_ok H o1 0 ⟨#[61]⟩
  obtain ⟨t3i, t3b, _⟩ := en3_same ws p l (nxP ws 2 ⟨#[]⟩ (en2 ws p l)) (nxW ws 2 ⟨#[]⟩ (en2 ws p l))
  have o3 := en3_ok H ho l
  have hE3 : ∀ q : Nat, (nxP ws 2 ⟨#[]⟩ (en2 ws p l)).bad = q → (enV ws p l).bad = q := fun q h => by
    unfold enV
    rw [nxP_bad (by rw [t3b, h]; omega), t3b, h]
  have hE2 : ∀ q : Nat, (en2 ws p l).bad = q → (enV ws p l).bad = q := fun q h => hE3 q ((nxP_bad (by rw [h]; omega)).trans h)
  have hE1 : ∀ q : Nat, (en1 ws p l).bad = q → (enV ws p l).bad = q := fun q h => hE2 q ((nxP_bad (p := en1 ws p l) (by rw [h]; omega)).trans h)
  unfold numP
  rcases nx_kind (so := 1) (.inl rfl) ho.lt hb with ⟨x, e1, e2, e3, _, _⟩ | ⟨q, e1, e2⟩
  rotate_left
  · rw [andP_err e1]
    exact hE1 q (s2b.trans e2)
  rw [andP_go e1]
  have q1i : (en1 ws p l).i = p.i + 1 := by rw [s2i, e3]
  have q1b : (en1 ws p l).bad = p.bad := by rw [s2b, e3]
  rcases nx_skip 61 (p := en1 ws p l) o1.lt (by rw [q1b]; exact hb) with ⟨g1, g2⟩ | ⟨q, g1, g2⟩
  rotate_left
  · rw [q1i] at g1
    rw [andP_err g1]
    exact hE2 q g2
  rw [q1i] at g1
  rw [andP_go g1]
  have h2 : en2 ws p l = { en1 ws p l with i := (en1 ws p l).i + 1 } := g2
  have q2i : (en2 ws p l).i = p.i + 1 + 1 := by rw [h2]; show (en1 ws p l).i + 1 = _; rw [q1i]
  have q2b : (en2 ws p l).bad = p.bad := by rw [h2]; exact q1b
  rcases nx_kind (so := 2) (.inr rfl) o2.lt (by rw [q2b]; exact hb) with ⟨y, k1, k2, k3, _, _⟩ | ⟨q, k1, k2⟩
  rotate_left
  · rw [q2i] at k1
    rw [andP_err k1]
    exact hE3 q k2
  rw [q2i] at k1
  rw [andP_go k1]
  have q3i : (if 2147483647 < valI (nxW ws 2 ⟨#[]⟩ (en2 ws p l)).1 then wrP (nxW ws 2 ⟨#[]⟩ (en2 ws p l)) (nxP ws 2 ⟨#[]⟩ (en2 ws p l)) else nxP ws 2 ⟨#[]⟩ (en2 ws p l)).i = p.i + 1 + 1 + 1 := by rw [t3i, k3]; show (en2 ws p l).i + 1 = _; rw [q2i]
  have q3b : (if 2147483647 < valI (nxW ws 2 ⟨#[]⟩ (en2 ws p l)).1 then wrP (nxW ws 2 ⟨#[]⟩ (en2 ws p l)) (nxP ws 2 ⟨#[]⟩ (en2 ws p l)) else nxP ws 2 ⟨#[]⟩ (en2 ws p l)).bad = p.bad := by rw [t3b, k3]; exact q2b
  rcases nx_skip 59 o3.lt (by rw [q3b]; exact hb) with ⟨l1, l2⟩ | ⟨q, l1, l2⟩
  rotate_left
  · rw [q3i] at l1
    rw [andP_err l1]
    exact l2
  rw [q3i] at l1
  rw [andP_go l1]
  have h4 : enV ws p l = _ := l2
  refine ⟨?_, ?_, ?_⟩
  · rw [h4]
    show (if 2147483647 < valI (nxW ws 2 ⟨#[]⟩ (en2 ws p l)).1 then wrP (nxW ws 2 ⟨#[]⟩ (en2 ws p l)) (nxP ws 2 ⟨#[]⟩ (en2 ws p l)) else nxP ws 2 ⟨#[]⟩ (en2 ws p l)).i + 1 = _
    rw [q3i]
  · rw [h4]
    exact q3b
  · have hf : fin types (enV ws p l) = fin types (if 2147483647 < valI (nxW ws 2 ⟨#[]⟩ (en2 ws p l)).1 then wrP (nxW ws 2 ⟨#[]⟩ (en2 ws p l)) (nxP ws 2 ⟨#[]⟩ (en2 ws p l)) else nxP ws 2 ⟨#[]⟩ (en2 ws p l)) := rfl
    have hf2 : fin types (nxP ws 2 ⟨#[]⟩ (en2 ws p l)) = fin types (en1 ws p l) := rfl
    have hf1 := en1_fin (types := types) (ws := ws) p l
    rw [e2] at hf1
    rw [hf, k2, e2]
    unfold vE
    simp only
    rw [← hf1, ← hf2]
    split
    · rw [fin_wr]
    · rfl
theorem enL_sim (H : WsR ws) : ∀ (m n : Nat) (p : PS) (l : List ByteArray), OKP ws p → p.bad < 0 → measP ws p ≤ n → ws.length - p.i ≤ m →
    match manyP (isTxt ws [125]) (numP ws) m p.i with
    | .ok (vs, j) => (enL ws n p l).i = j ∧ (enL ws n p l).bad = p.bad ∧ fin types (enL ws n p l) = (vsE vs (fin types p, l)).1
    | .error q => (enL ws n p l).bad = q
  | 0, n, p, l, ho, hb, hn, hm => by have := ho.lt; omega
  | m + 1, n, p, l, ho, hb, hn, hm => by
    have hat := at_hand (ws := ws) ho.lt hb
    have hpos : 0 < measP ws p := by unfold measP; rw [if_pos hb]; have := ho.lt; omega
    unfold manyP
    cases hs : isTxt ws [125] p.i
    · rw [hs] at hat
      simp only [Bool.false_eq_true, if_false]
      have hgo : (decide (p.bad < 0) && !atP ws ⟨#[125]⟩ p) = true := by rw [hat]; simp [hb]
      rw [enL_go hgo (by omega)]
      have hst := enV_sim (types := types) H ho hb l
      have hmd := enV_meas l ho hb
      have ho2 := enV_ok H ho l
      cases hf : numP ws p.i with
      | error q =>
        rw [hf] at hst
        rw [andP_err rfl]
        have hq : (enV ws p l).bad = q := hst
        rw [enL_stop (by rw [nb hq]; rfl)]
        exact hq
      | ok v =>
        obtain ⟨f, j⟩ := v
        rw [hf] at hst
        obtain ⟨h1, h2, h3⟩ := hst
        rw [andP_go rfl]
        have hlt := numP_on ws p.i f j hf
        have ih := enL_sim H m (n - 1) (enV ws p l) (l ++ [(nxW ws 1 ⟨#[]⟩ p).1]) ho2 (by rw [h2]; exact hb) (by omega) (by omega)
        rw [h1] at ih
        cases hr : manyP (isTxt ws [125]) (numP ws) m j with
        | error q =>
          rw [hr] at ih
          rw [andP_err rfl]
          exact ih
        | ok v =>
          obtain ⟨vs, k⟩ := v
          rw [hr] at ih
          obtain ⟨i1, i2, i3⟩ := ih
          rw [andP_go rfl]
          refine ⟨i1, i2.trans h2, ?_⟩
          rw [i3, h3]
          rfl
    · rw [hs] at hat
      simp only [if_true]
      rw [enL_stop (by rw [hat]; simp)]
      exact ⟨rfl, rfl, rfl⟩
theorem en_sim (H : WsR ws) {p : PS} (ho : OKP ws p) (hb : p.bad < 0) (ht : ((hand ws p).1.toList == [101, 110, 117, 109]) = true) : SimB types p (enP ws (incP p)) (enumP ws p.i) := by
  have hin : OKP ws (incP p) := incP_ok ho (H.last _ _ (hand_get ho.lt) (txt_pos ht))
  have hb0 : (incP p).bad < 0 := hb
  obtain ⟨s2i, s2b, _⟩ := en0_same ws (incP p)
  have h1 := nxP_ok H hin 1 ⟨#[]⟩
  have i0 : (incP p).i = p.i + 1 := rfl
  have oS : OKP ws (enS ws (incP p)) := enS_ok H hin
  obtain ⟨p3, hp3⟩ : ∃ p3 : PS, { en0 ws (incP p) with names := (incP p).names ++ [(nxW ws 1 ⟨#[]⟩ (incP p)).1], enums := (incP p).enums ++ [(nxW ws 1 ⟨#[]⟩ (incP p)).1] } = p3 := ⟨_, rfl⟩
  have hS3 : enS ws (incP p) = nxP ws 0 ⟨#[123]⟩ p3 := by unfold enS; rw [hp3]
  have p3i : p3.i = (en0 ws (incP p)).i := by rw [← hp3]
  have p3b : p3.bad = (en0 ws (incP p)).bad := by rw [← hp3]
  have p3f : fin types p3 = fin types (en0 ws (incP p)) := by rw [← hp3]; rfl
  have o3 : p3.i < ws.length := by rw [p3i, s2i]; exact h1.lt
  have htop := enP_top ws (incP p)
  have hn1 : (enP ws (incP p)).names = p.names ++ [(nxW ws 1 ⟨#[]⟩ (incP p)).1] := congrArg (fun t => t.1) htop
  have hn2 : (enP ws (incP p)).msgs = p.msgs := congrArg (fun t => t.2.1) htop
  have hn3 : (enP ws (incP p)).enums = p.enums ++ [(nxW ws 1 ⟨#[]⟩ (incP p)).1] := congrArg (fun t => t.2.2) htop
  have hE : ∀ q : Nat, (enS ws (incP p)).bad = q → (enP ws (incP p)).bad = q := fun q h => by
    have h1 : enL ws ws.length (enS ws (incP p)) [] = enS ws (incP p) := enL_stop (by rw [nb h]; rfl)
    show (nxP ws 0 ⟨#[125]⟩ (enL ws ws.length (enS ws (incP p)) [])).bad = q
    rw [h1, nxP_bad (by rw [h]; omega), h]
  unfold enumP
  rw [andP_go (skip_hand ho.lt ht)]
  rcases nx_kind (so := 1) (.inl rfl) hin.lt hb0 with ⟨x, e1, e2, e3, _, _⟩ | ⟨q, e1, e2⟩
  rotate_left
  · rw [i0] at e1
    rw [andP_err e1]
    refine hE q ?_
    rw [hS3, nxP_bad (by rw [p3b, s2b, e2]; omega), p3b, s2b, e2]
  rw [i0] at e1
  rw [andP_go e1]
  have q2i : p3.i = p.i + 1 + 1 := by rw [p3i, s2i, e3]; rfl
  have q2b : p3.bad = p.bad := by rw [p3b, s2b, e3]; rfl
  rcases nx_skip 123 (p := p3) o3 (by rw [q2b]; exact hb) with ⟨g1, g2⟩ | ⟨q, g1, g2⟩
  rotate_left
  · rw [q2i] at g1
    rw [andP_err g1]
    exact hE q (by rw [hS3]; exact g2)
  rw [q2i] at g1
  rw [andP_go g1]
  rw [← hS3] at g2
  have qSi : (enS ws (incP p)).i = p.i + 1 + 1 + 1 := by rw [g2]; show p3.i + 1 = _; rw [q2i]
  have qSb : (enS ws (incP p)).bad = p.bad := by rw [g2]; exact q2b
  have qSf : fin types (enS ws (incP p)) = eN p.names false x (fin types p) := by
    have h2 := en0_fin (types := types) (ws := ws) (incP p)
    rw [e2] at h2
    have h1 : fin types (enS ws (incP p)) = fin types p3 := by rw [hS3]; rfl
    rw [h1, p3f, h2]
    rfl
  have hbS : (enS ws (incP p)).bad < 0 := by rw [qSb]; exact hb
  have ih := enL_sim (types := types) H ws.length ws.length (enS ws (incP p)) [] oS hbS (by unfold measP; rw [if_pos hbS]; omega) (by omega)
  rw [qSi] at ih
  have oE := (enL_ok H ws.length (enS ws (incP p)) [] oS).lt
  cases hr : manyP (isTxt ws [125]) (numP ws) ws.length (p.i + 1 + 1 + 1) with
  | error q =>
    rw [hr] at ih
    rw [andP_err rfl]
    have hq : (enL ws ws.length (enS ws (incP p)) []).bad = q := ih
    show (nxP ws 0 ⟨#[125]⟩ (enL ws ws.length (enS ws (incP p)) [])).bad = q
    rw [nxP_bad (by rw [hq]; omega), hq]
  | ok v =>
    obtain ⟨l, k⟩ := v
    rw [hr] at ih
    obtain ⟨i1, i2, i3⟩ := ih
    have i2' : (enL ws ws.length (enS ws (incP p)) []).bad = p.bad := i2.trans qSb
    rw [andP_go rfl]
    rcases nx_skip 125 (p := enL ws ws.length (enS ws (incP p)) []) oE (by rw [i2']; exact hb) with ⟨g3, g4⟩ | ⟨q, g3, g4⟩
    · rw [i1] at g3
      rw [andP_go g3]
      refine ⟨?_, ?_, ?_, ?_, ?_, ?_⟩
      · show (nxP ws 0 ⟨#[125]⟩ (enL ws ws.length (enS ws (incP p)) [])).i = _
        rw [g4]
        show (enL ws ws.length (enS ws (incP p)) []).i + 1 = _
        rw [i1]
      · show (nxP ws 0 ⟨#[125]⟩ (enL ws ws.length (enS ws (incP p)) [])).bad = _
        rw [g4]
        exact i2'
      · have e5 : fin types (enP ws (incP p)) = fin types (enL ws ws.length (enS ws (incP p)) []) := rfl
        rw [e5, i3, qSf]
        rfl
      · rw [hn1, e2]
      · rw [hn2]
        exact (List.append_nil _).symm
      · rw [hn3, e2]
        rfl
    · rw [i1] at g3
      rw [andP_err g3]
      exact g4

theorem blk_sim (H : WsR ws) {p : PS} (ho : OKP ws p) (hb : p.bad < 0) : SimB types p (prS ws p) (blockP ws p.i) := by
  unfold prS blockP
  rw [isTxt_hand ho.lt]
  cases h2 : ((hand ws p).1.toList == [101, 110, 117, 109])
  · simp only [Bool.false_eq_true, if_false]
    cases h1 : ((hand ws p).1.toList == [109, 101, 115, 115, 97, 103, 101])
    · simp only [Bool.false_eq_true, if_false]
      unfold messageP
      have hsk : skipP ws [109, 101, 115, 115, 97, 103, 101] p.i = .error (hand ws p).2 := by
        unfold skipP
        rw [hand_get ho.lt]
        simp only
        rw [h1]
        rfl
      rw [andP_err hsk]
      rfl
    · simp only [if_true]
      exact ms_sim H ho hb h1
  · have h1 : ((hand ws p).1.toList == [109, 101, 115, 115, 97, 103, 101]) = false := by
      have e : (hand ws p).1.toList = [101, 110, 117, 109] := by simpa using h2
      rw [e]
      rfl
    rw [h1]
    simp only [Bool.false_eq_true, if_false, if_true]
    exact en_sim H ho hb h2

def bsE (types : List ByteArray) : List BlockR → List ByteArray → Nat → Int → Int
  | [], _, _, wr => wr
  | b :: bs, names, m, wr => bsE types bs (names ++ [b.name.1]) (m + (if b.enum then 0 else 1)) (bE types b names m wr)

theorem kindW_end (s : ByteArray) : (kindW s == 4) = decide (s.size = 0) := by
  unfold kindW kindOf
  by_cases h0 : s.size = 0
  · simp [h0]
  · rw [if_neg h0]
    split
    · simp [h0]
    · split
      · simp [h0]
      · split <;> simp [h0]
theorem isEnd_hand (H : WsR ws) (hne : ∀ (k : Nat) (x : W), ws[k]? = some x → k + 1 < ws.length → 0 < x.1.size) {p : PS} (hi : p.i < ws.length) : isEnd ws p.i = !decide (p.i + 1 < ws.length) := by
  unfold isEnd
  rw [hand_get hi]
  simp only
  rw [kindW_end]
  by_cases h : p.i + 1 < ws.length
  · have := hne _ _ (hand_get hi) h
    simp [h]
    intro h0
    rw [h0] at this
    exact absurd this (by decide)
  · have : (hand ws p).1.size = 0 := by
      rcases Nat.eq_zero_or_pos (hand ws p).1.size with h0 | h0
      · exact h0
      · exact absurd (H.last _ _ (hand_get hi) h0) h
    simp [h, this]

theorem prS_ok (H : WsR ws) {p : PS} (h : OKP ws p) (hl : p.i + 1 < ws.length) : OKP ws (prS ws p) := by
  have hi := incP_ok h hl
  unfold prS
  split
  · exact msP_ok H hi
  · split
    · exact enP_ok H hi
    · exact ⟨h.lt, h.used⟩
/-- The schema, as the reference has it. -/
def schD (bs : List BlockR) : Sch := ⟨(bs.filter fun b => !b.enum).map mtD, (bs.filter fun b => b.enum).map fun b => b.name.1⟩
theorem tree_sim (H : WsR ws) (hne : ∀ (k : Nat) (x : W), ws[k]? = some x → k + 1 < ws.length → 0 < x.1.size) : ∀ (m n : Nat) (p : PS), OKP ws p → p.bad < 0 → measP ws p ≤ n → ws.length - p.i ≤ m →
    match manyP (isEnd ws) (blockP ws) m p.i with
    | .ok (bs, _) => (prL ws n p).bad = p.bad ∧ fin types (prL ws n p) = bsE types bs p.names p.msgs.length (fin types p) ∧ (prL ws n p).names = p.names ++ nameList bs ∧ (prL ws n p).msgs = p.msgs ++ (schD bs).ms ∧ (prL ws n p).enums = p.enums ++ (schD bs).es
    | .error q => (prL ws n p).bad = q
  | 0, n, p, ho, hb, hn, hm => by have := ho.lt; omega
  | m + 1, n, p, ho, hb, hn, hm => by
    have hend := isEnd_hand H hne ho.lt
    have hpos : 0 < measP ws p := by unfold measP; rw [if_pos hb]; have := ho.lt; omega
    unfold manyP
    cases hs : isEnd ws p.i
    · rw [hs] at hend
      have hl : p.i + 1 < ws.length := by simpa using hend
      simp only [Bool.false_eq_true, if_false]
      have hgo : (decide (p.bad < 0) && decide (p.i + 1 < ws.length)) = true := by simp [hb, hl]
      rw [prL_go hgo (by omega)]
      have hst := blk_sim (types := types) H ho hb
      have hmd := prS_meas (ws := ws) hb hl
      have ho2 := prS_ok H ho hl
      cases hf : blockP ws p.i with
      | error q =>
        rw [hf] at hst
        rw [andP_err rfl]
        have hq : (prS ws p).bad = q := hst
        rw [prL_stop (by rw [nb hq]; rfl)]
        exact hq
      | ok v =>
        obtain ⟨b, j⟩ := v
        rw [hf] at hst
        obtain ⟨h1, h2, h3, h4, h5, h6⟩ := hst
        rw [andP_go rfl]
        have hlt : p.i < (prS ws p).i := by
          have : measP ws (prS ws p) = ws.length - (prS ws p).i := by unfold measP; rw [if_pos (by rw [h2]; exact hb)]
          have h7 : measP ws p = ws.length - p.i := by unfold measP; rw [if_pos hb]
          omega
        have ih := tree_sim H hne m (n - 1) (prS ws p) ho2 (by rw [h2]; exact hb) (by omega) (by omega)
        rw [h1] at ih
        cases hr : manyP (isEnd ws) (blockP ws) m j with
        | error q =>
          rw [hr] at ih
          rw [andP_err rfl]
          exact ih
        | ok v =>
          obtain ⟨bs, k⟩ := v
          rw [hr] at ih
          obtain ⟨i1, i2, i3, i4, i5⟩ := ih
          rw [andP_go rfl]
          refine ⟨i1.trans h2, ?_, ?_, ?_, ?_⟩
          · rw [i2, h3, h4, h5]
            show _ = bsE types bs (p.names ++ [b.name.1]) (p.msgs.length + (if b.enum then 0 else 1)) (bE types b p.names p.msgs.length (fin types p))
            cases he : b.enum <;> simp
          · rw [i3, h4]
            unfold nameList
            simp
          · rw [i4, h5]
            unfold schD
            cases he : b.enum <;> simp [he]
          · rw [i5, h6]
            unfold schD
            cases he : b.enum <;> simp [he]
    · rw [hs] at hend
      have hl : ¬ p.i + 1 < ws.length := by simpa using hend
      simp only [if_true]
      rw [prL_stop (by simp [hl])]
      refine ⟨rfl, rfl, ?_, ?_, ?_⟩
      · exact (List.append_nil _).symm
      · exact (List.append_nil _).symm
      · exact (List.append_nil _).symm
end

end Go.Proofs.YtbbbegjedmicpaaGreatDoor
