import Derived.Test.YtbbbegjedmicpaaGreatDoorRdH
import Derived.Deep.Draws

/-
  CONTRACT: part.
-/
namespace Go.Proofs.YtbbbegjedmicpaaGreatDoor
open Go.RowKit
attribute [local go_sem] f91_0 f91_1 f91_2

def pkK : Option W → Int
  | some x => kindW x.1
  | none => 0
def pkS : Option W → ByteArray
  | some x => x.1
  | none => ⟨#[]⟩
def pkA : Option W → Nat
  | some x => x.2
  | none => 0
/-- A field's thirteen cells. -/
abbrev FC (f : FieldR) : Array Value := #[.int .i64 f.form, .int .i64 (pkK f.key), .string (pkS f.key), .int .i64 (pkA f.key), .int .i64 (kindW f.type.1), .string f.type.1, .int .i64 f.type.2, .int .i64 (kindW f.name.1), .string f.name.1, .int .i64 f.name.2, .int .i64 (kindW f.num.1), .string f.num.1, .int .i64 f.num.2]
abbrev FO (f : FieldR) : Obj := Obj.cells (FC f) 167
theorem keyV_eq (o : Option W) : keyV o = [.int .i64 (pkK o), .string (pkS o), .int .i64 (pkA o)] := by cases o <;> rfl

/-- What a part answers. -/
def PartRet (w : World) (p : PartR) (w' : World) (e : Ending) : Prop :=
  ∃ fa fn fc, e = .returned (.agg #[.int .i64 (pkK p.oneof), .string (pkS p.oneof), .int .i64 (pkA p.oneof), .slice fa fn fc]) ∧ w'.ownsRow w.heap.size 167 13 (.slice fa fn fc) p.fields.length (p.fields.flatMap fcI)

theorem c77l (w : World) (rb wb : Nat) (ws : List W) (i : Nat) (R : Rd w rb wb ws i) :
    Calls Tryz.prog 240 #[.pointer (some ⟨rb, 0, none⟩)] w (Post w rb wb ws (oneofP ws i) (PartRet w)) := by
  refine (c77 w rb wb ws i R).mono fun e w' h => ?_
  cases hf : oneofP ws i with
  | error p => rw [hf] at h; exact h
  | ok q =>
    obtain ⟨p, j⟩ := q
    rw [hf] at h
    obtain ⟨⟨fv, h1, h3⟩, h2⟩ := h
    obtain ⟨fa, fn, fc, rfl⟩ := ownsRow_form h3
    exact ⟨⟨fa, fn, fc, by rw [h1, keyV_eq]; rfl, h3⟩, h2⟩

theorem isTxt_eq {ws : List W} {i : Nat} {x : W} (s : List UInt8) (h : ws[i]? = some x) : isTxt ws s i = (x.1.toList == s) := by unfold isTxt; simp only [h]

abbrev PZ : Array Value := #[.int .i64 0, .string ⟨#[]⟩, .int .i64 0, .slice none 0 0]
set_option maxRecDepth 100000 in
set_option maxHeartbeats 8000000 in
theorem c70 (w : World) (rb wb : Nat) (ws : List W) (i : Nat) (R : Rd w rb wb ws i) :
    Calls Tryz.prog 187 #[.pointer (some ⟨rb, 0, none⟩)] w (Post w rb wb ws (partP ws i) (PartRet w)) := by
  obtain ⟨x, hx⟩ := R.word
  have HX : Hid (ws[i]? = some x) := hx
  have A0 : Adv w.heap.size rb w (w.alloc (Obj.cells PZ 164)) i := Adv.of_below R.next ((Below.refl w.heap.size w).alloc (Nat.le_refl _) _)
  have R0 := R.alloc (Obj.cells PZ 164)
  have K0 := Blk.new w PZ 164
  have n1 : ¬ w.heap.size = rb := by have := R.blocks; omega
  have n3 : ¬ rb = w.heap.size := by omega
  have z0 : w.heap.size < (w.alloc (Obj.cells PZ 164)).heap.size := by simp
  obtain ⟨r, HR⟩ : ∃ r, Hid (partP ws i = r) := ⟨_, rfl⟩
  rw [HR.out]
  have hp : partP ws i = r := HR.out
  unfold partP at hp
  simp only [isTxt_eq _ hx] at hp
  have HP : Hid _ := hp
  have hz : ∀ s : List UInt8, (x.1.toList == s) = true → 0 < s.length → 0 < x.1.size := fun s h hl => size_of_text h hl
  have HZ : Hid _ := hz
  clear hx hp hz
  go_enter Tryz.func187, Tryz.ntmps187
  go_wp2_with fail
  refine (c43 _ rb wb ws i x R0 HX.out).mono ?_
  rintro e w1 ⟨rfl, hw1⟩
  have R1 := R0.below hw1 R0.blocks.1 R0.blocks.2
  have A1 := A0.below hw1 (Nat.le_of_lt z0)
  have K1 := K0.below hw1 z0
  have z1 : w.heap.size < w1.heap.size := Nat.lt_of_lt_of_le z0 hw1.size
  clear R0 A0 K0 z0 hw1
  cases t0 : (x.1.toList == [111, 110, 101, 111, 102]) with
  | true =>
    have HO : Hid (oneofP ws i = r) := by have := HP.out; rw [t0] at this; exact this
    go_wp2_with fail
    refine (c77l _ rb wb ws i R1).mono ?_
    cases h1 : oneofP ws i with
    | error p =>
      rintro e w2 ⟨rfl, j, A⟩
      obtain rfl : r = .error p := HO.out.symm.trans h1
      unfold fault
      go_wp2
      exact ⟨rfl, rfl, j, A1.trans A (by omega)⟩
    | ok q =>
      obtain ⟨p, i1⟩ := q
      rintro e w2 ⟨⟨fa, fn, fc, rfl, hown⟩, R2, A⟩
      obtain rfl : r = .ok (p, i1) := HO.out.symm.trans h1
      have K9 := K1.adv_ A z1 n1
      have A9 := A1.trans A (by omega)
      obtain ⟨k1, k2⟩ := K9.rules
      go_wp2
      have A10 := A9.sets (b := w.heap.size) (Nat.le_refl _) [.int .i64 (pkK p.oneof), .string (pkS p.oneof), .int .i64 (pkA p.oneof), .slice fa fn fc] 0
      have K10 := K9.sets_all [.int .i64 (pkK p.oneof), .string (pkS p.oneof), .int .i64 (pkA p.oneof), .slice fa fn fc] rfl
      refine bodyPost_ret (ret_cell Tryz.results187 _ _ rfl K10 Tryz.underlying164 (by kernel_rfl)) rfl ⟨⟨fa, fn, fc, rfl, ?_⟩, ?_, A10⟩
      · exact ownsRow_sets (lo := w.heap.size) hown (b := w.heap.size) z1 (Nat.le_of_lt z1) [.int .i64 (pkK p.oneof), .string (pkS p.oneof), .int .i64 (pkA p.oneof), .slice fa fn fc] 0
      · exact A10.rd R R.blocks.1 R.blocks.2 R2.lt
  | false =>
    rw [t0] at HP
    have hc : (x.1.toList == [109, 97, 112]) = true ∨ ((x.1.toList == [109, 97, 112]) = false ∧ (x.1.toList == [114, 101, 112, 101, 97, 116, 101, 100]) = true) ∨ ((x.1.toList == [109, 97, 112]) = false ∧ (x.1.toList == [114, 101, 112, 101, 97, 116, 101, 100]) = false ∧ (x.1.toList == [111, 112, 116, 105, 111, 110, 97, 108]) = true) ∨ ((x.1.toList == [109, 97, 112]) = false ∧ (x.1.toList == [114, 101, 112, 101, 97, 116, 101, 100]) = false ∧ (x.1.toList == [111, 112, 116, 105, 111, 110, 97, 108]) = false) := by
      generalize (x.1.toList == [109, 97, 112]) = a
      generalize (x.1.toList == [114, 101, 112, 101, 97, 116, 101, 100]) = b
      generalize (x.1.toList == [111, 112, 116, 105, 111, 110, 97, 108]) = c
      revert a b c
      decide
    rcases hc with t1 | ⟨t1, t2⟩ | ⟨t1, t2, t3⟩ | ⟨t1, t2, t3⟩
    have HA : Hid (aloneP (mapP ws i) = r) := by have := HP.out; rw [t1] at this; exact this
    have H := c79 _ rb wb ws i R1
    generalize mapP ws i = X at *
    go_wp2_with fail
    refine H.mono ?_
    rotate_left
    have HA : Hid (aloneP (fieldP ws 2 (i + 1)) = r) := by have := HP.out; rw [t1, t2] at this; exact this
    go_wp2_with fail
    refine (c76 _ rb wb ws i x R1 HX.out (HZ.out _ t2 (by decide))).mono ?_
    rintro e w2 ⟨rfl, R2, A⟩
    replace K1 := K1.adv_ A z1 n1
    replace A1 := A1.trans A (by omega)
    replace z1 : w.heap.size < w2.heap.size := Nat.lt_of_lt_of_le z1 A.size
    clear A R1
    have H := c80 _ rb wb ws (i + 1) 2 R2
    generalize fieldP ws 2 (i + 1) = X at *
    go_wp2_with fail
    refine H.mono ?_
    rotate_left
    have HA : Hid (aloneP (fieldP ws 1 (i + 1)) = r) := by have := HP.out; rw [t1, t2, t3] at this; exact this
    go_wp2_with fail
    refine (c76 _ rb wb ws i x R1 HX.out (HZ.out _ t3 (by decide))).mono ?_
    rintro e w2 ⟨rfl, R2, A⟩
    replace K1 := K1.adv_ A z1 n1
    replace A1 := A1.trans A (by omega)
    replace z1 : w.heap.size < w2.heap.size := Nat.lt_of_lt_of_le z1 A.size
    clear A R1
    have H := c80 _ rb wb ws (i + 1) 1 R2
    generalize fieldP ws 1 (i + 1) = X at *
    go_wp2_with fail
    refine H.mono ?_
    rotate_left
    have HA : Hid (aloneP (fieldP ws 0 i) = r) := by have := HP.out; rw [t1, t2, t3] at this; exact this
    have H := c80 _ rb wb ws i 0 R1
    generalize fieldP ws 0 i = X at *
    go_wp2_with fail
    refine H.mono ?_
    all_goals
      clear H
      rcases X with p | ⟨f, i1⟩
      · rintro e w3 ⟨rfl, j, A⟩
        obtain rfl : r = .error p := HA.out.symm
        unfold fault
        go_wp2
        exact ⟨rfl, rfl, j, A1.trans A (by omega)⟩
      · rintro e w3 ⟨rfl, R3, A⟩
        obtain rfl : r = .ok (⟨none, [f]⟩, i1) := HA.out.symm
        have K3 := K1.adv_ A z1 n1
        have A3 := A1.trans A (by omega)
        have z3 : w.heap.size < w3.heap.size := Nat.lt_of_lt_of_le z1 A.size
        clear A
        go_wp2_with fail
        refine (c78 _ f).mono ?_
        rintro e w4 ⟨fv, rfl, hown, hw4⟩
        obtain ⟨fa, fn, fc, rfl⟩ := ownsRow_form hown
        have hown2 : w4.ownsRow w3.heap.size 167 13 (.slice fa fn fc) [f].length ([f].flatMap fcI) := by simpa using hown
        have K9 := K3.below hw4 z3
        have A9 := A3.below hw4 (Nat.le_of_lt z3)
        obtain ⟨k1, k2⟩ := K9.rules
        go_wp2
        have A10 := A9.sets (b := w.heap.size) (Nat.le_refl _) [.int .i64 0, .string ⟨#[]⟩, .int .i64 0, .slice fa fn fc] 0
        have K10 := K9.sets_all [.int .i64 0, .string ⟨#[]⟩, .int .i64 0, .slice fa fn fc] rfl
        refine bodyPost_ret (ret_cell Tryz.results187 _ _ rfl K10 Tryz.underlying164 (by kernel_rfl)) rfl ⟨⟨fa, fn, fc, rfl, ?_⟩, ?_, A10⟩
        · exact ownsRow_sets (lo := w.heap.size) hown2 (b := w.heap.size) z3 (Nat.le_of_lt z3) [.int .i64 0, .string ⟨#[]⟩, .int .i64 0, .slice fa fn fc] 0
        · exact A10.rd R R.blocks.1 R.blocks.2 R3.lt
end Go.Proofs.YtbbbegjedmicpaaGreatDoor

/-
  A TREE IN MEMORY: rows within rows, in blocks of a set.
-/
namespace Go.Proofs.YtbbbegjedmicpaaGreatDoor
open Go.RowKit

def vcI (x : W × W) : List Value := wcI x.1 ++ wcI x.2

def RowIn (w : World) (S : Nat → Prop) (T : TypeId) (k : Nat) (v : Value) (n : Nat) (xs : List Value) : Prop :=
  w.ownsRow 0 T k v n xs ∧ ∀ b, v.ownBlock = some b → S b
theorem ownsRow_keep {w w' : World} {base : Nat} {T : TypeId} {k n : Nat} {v : Value} {xs : List Value} (h : w.ownsRow base T k v n xs) (hk : ∀ b, v.ownBlock = some b → w'.heap[b]? = w.heap[b]?) : w'.ownsRow base T k v n xs := by
  refine ⟨h.1, ?_⟩
  rcases h.2 with h2 | ⟨g, cap, cur, rfl, h3, h4, h5⟩
  · exact .inl h2
  · exact .inr ⟨g, cap, cur, rfl, h3, (hk g rfl).trans h4, h5⟩
theorem RowIn.keep {w w' : World} {S : Nat → Prop} {T : TypeId} {k n : Nat} {v : Value} {xs : List Value} (h : RowIn w S T k v n xs) (hk : ∀ b, S b → b < w.heap.size → w'.heap[b]? = w.heap[b]?) : RowIn w' S T k v n xs :=
  ⟨ownsRow_keep h.1 fun b hb => hk b (h.2 b hb) (h.1.lt b hb).2, h.2⟩
theorem RowIn.mono {w : World} {S S' : Nat → Prop} {T : TypeId} {k n : Nat} {v : Value} {xs : List Value} (h : RowIn w S T k v n xs) (hs : ∀ b, S b → b < w.heap.size → S' b) : RowIn w S' T k v n xs :=
  ⟨h.1, fun b hb => hs b (h.2 b hb) (h.1.lt b hb).2⟩
theorem RowIn.of {w : World} {base : Nat} {T : TypeId} {k n : Nat} {v : Value} {xs : List Value} (h : w.ownsRow base T k v n xs) : RowIn w (fun b => base ≤ b) T k v n xs :=
  ⟨ownsRow_base h (Nat.zero_le _), fun b hb => (h.lt b hb).1⟩

def PartsIn (w : World) (S : Nat → Prop) : List Value → List PartR → Prop
  | cs, [] => cs = []
  | cs, p :: ps => ∃ fa fn fc rest, cs = .int .i64 (pkK p.oneof) :: .string (pkS p.oneof) :: .int .i64 (pkA p.oneof) :: .slice fa fn fc :: rest ∧
      RowIn w S 167 13 (.slice fa fn fc) p.fields.length (p.fields.flatMap fcI) ∧ PartsIn w S rest ps
theorem PartsIn.keep {w w' : World} {S : Nat → Prop} (hk : ∀ b, S b → b < w.heap.size → w'.heap[b]? = w.heap[b]?) : ∀ {ps : List PartR} {cs : List Value}, PartsIn w S cs ps → PartsIn w' S cs ps
  | [], _, h => h
  | _ :: _, _, ⟨fa, fn, fc, rest, h1, h2, h3⟩ => ⟨fa, fn, fc, rest, h1, h2.keep hk, PartsIn.keep hk h3⟩
theorem PartsIn.mono {w : World} {S S' : Nat → Prop} (hs : ∀ b, S b → b < w.heap.size → S' b) : ∀ {ps : List PartR} {cs : List Value}, PartsIn w S cs ps → PartsIn w S' cs ps
  | [], _, h => h
  | _ :: _, _, ⟨fa, fn, fc, rest, h1, h2, h3⟩ => ⟨fa, fn, fc, rest, h1, h2.mono hs, PartsIn.mono hs h3⟩
theorem PartsIn.snoc {w : World} {S : Nat → Prop} {p : PartR} {fa : Option Addr} {fn fc : Nat} (h2 : RowIn w S 167 13 (.slice fa fn fc) p.fields.length (p.fields.flatMap fcI)) : ∀ {ps : List PartR} {cs : List Value}, PartsIn w S cs ps →
      PartsIn w S (cs ++ [.int .i64 (pkK p.oneof), .string (pkS p.oneof), .int .i64 (pkA p.oneof), .slice fa fn fc]) (ps ++ [p])
  | [], cs, h => by
    obtain rfl : cs = [] := h
    exact ⟨fa, fn, fc, [], rfl, h2, rfl⟩
  | _ :: _, cs, ⟨ga, gn, gc, rest, h1, h3, h4⟩ => by
    subst h1
    exact ⟨ga, gn, gc, _, rfl, h3, PartsIn.snoc h2 h4⟩

def BlockIn (w : World) (S : Nat → Prop) (b : BlockR) (pv vv : Value) : Prop :=
  ∃ pcs, RowIn w S 164 4 pv b.parts.length pcs ∧ PartsIn w S pcs b.parts ∧ RowIn w S 243 6 vv b.values.length (b.values.flatMap vcI)
theorem BlockIn.keep {w w' : World} {S : Nat → Prop} {b : BlockR} {pv vv : Value} (hk : ∀ b, S b → b < w.heap.size → w'.heap[b]? = w.heap[b]?) : BlockIn w S b pv vv → BlockIn w' S b pv vv
  | ⟨pcs, h1, h2, h3⟩ => ⟨pcs, h1.keep hk, h2.keep hk, h3.keep hk⟩
theorem BlockIn.mono {w : World} {S S' : Nat → Prop} {b : BlockR} {pv vv : Value} (hs : ∀ b, S b → b < w.heap.size → S' b) : BlockIn w S b pv vv → BlockIn w S' b pv vv
  | ⟨pcs, h1, h2, h3⟩ => ⟨pcs, h1.mono hs, h2.mono hs, h3.mono hs⟩
def BlocksIn (w : World) (S : Nat → Prop) : List Value → List BlockR → Prop
  | cs, [] => cs = []
  | cs, b :: bs => ∃ pa pn pc va vn vc rest, cs = .bool b.enum :: .int .i64 (kindW b.name.1) :: .string b.name.1 :: .int .i64 b.name.2 :: .slice pa pn pc :: .slice va vn vc :: rest ∧
      BlockIn w S b (.slice pa pn pc) (.slice va vn vc) ∧ BlocksIn w S rest bs
theorem BlocksIn.keep {w w' : World} {S : Nat → Prop} (hk : ∀ b, S b → b < w.heap.size → w'.heap[b]? = w.heap[b]?) : ∀ {bs : List BlockR} {cs : List Value}, BlocksIn w S cs bs → BlocksIn w' S cs bs
  | [], _, h => h
  | _ :: _, _, ⟨pa, pn, pc, va, vn, vc, rest, h1, h2, h3⟩ => ⟨pa, pn, pc, va, vn, vc, rest, h1, h2.keep hk, BlocksIn.keep hk h3⟩
theorem BlocksIn.mono {w : World} {S S' : Nat → Prop} (hs : ∀ b, S b → b < w.heap.size → S' b) : ∀ {bs : List BlockR} {cs : List Value}, BlocksIn w S cs bs → BlocksIn w S' cs bs
  | [], _, h => h
  | _ :: _, _, ⟨pa, pn, pc, va, vn, vc, rest, h1, h2, h3⟩ => ⟨pa, pn, pc, va, vn, vc, rest, h1, h2.mono hs, BlocksIn.mono hs h3⟩
theorem BlocksIn.snoc {w : World} {S : Nat → Prop} {b : BlockR} {pa va : Option Addr} {pn pc vn vc : Nat} (h2 : BlockIn w S b (.slice pa pn pc) (.slice va vn vc)) : ∀ {bs : List BlockR} {cs : List Value}, BlocksIn w S cs bs →
      BlocksIn w S (cs ++ [.bool b.enum, .int .i64 (kindW b.name.1), .string b.name.1, .int .i64 b.name.2, .slice pa pn pc, .slice va vn vc]) (bs ++ [b])
  | [], cs, h => by
    obtain rfl : cs = [] := h
    exact ⟨pa, pn, pc, va, vn, vc, [], rfl, h2, rfl⟩
  | _ :: _, cs, ⟨qa, qn, qc, ra, rn, rc, rest, h1, h3, h4⟩ => by
    subst h1
    exact ⟨qa, qn, qc, ra, rn, rc, _, rfl, h3, BlocksIn.snoc h2 h4⟩

/-- What a block's reader answers. -/
def BlockRet (w : World) (b : BlockR) (w' : World) (e : Ending) : Prop :=
  ∃ pa pn pc va vn vc, e = .returned (.agg #[.bool b.enum, .int .i64 (kindW b.name.1), .string b.name.1, .int .i64 b.name.2, .slice pa pn pc, .slice va vn vc]) ∧
    BlockIn w' (fun x => w.heap.size ≤ x) b (.slice pa pn pc) (.slice va vn vc)
def TreeRet (w : World) (bs : List BlockR) (w' : World) (e : Ending) : Prop :=
  ∃ a n c cs, e = .returned (.agg #[.slice a n c]) ∧ RowIn w' (fun x => w.heap.size ≤ x) 118 6 (.slice a n c) bs.length cs ∧ BlocksIn w' (fun x => w.heap.size ≤ x) cs bs

theorem Tryz.info243 : (Tryz.prog.info? 243).map (fun i => (i.zero, i.size, i.bytes)) = some (some (.agg #[.int .i64 0, .string ⟨#[]⟩, .int .i64 0, .int .i64 0, .string ⟨#[]⟩, .int .i64 0]), 6, 64) := by kernel_rfl
theorem Tryz.info164 : (Tryz.prog.info? 164).map (fun i => (i.zero, i.size, i.bytes)) = some (some (.agg #[.int .i64 0, .string ⟨#[]⟩, .int .i64 0, .slice none 0 0]), 4, 56) := by kernel_rfl
theorem Tryz.info118 : (Tryz.prog.info? 118).map (fun i => (i.zero, i.size, i.bytes)) = some (some (.agg #[.bool false, .int .i64 0, .string ⟨#[]⟩, .int .i64 0, .slice none 0 0, .slice none 0 0]), 6, 88) := by kernel_rfl

theorem ownsRow_len {w : World} {base : Nat} {T : TypeId} {k m : Nat} {a : Option Addr} {n c : Nat} {xs : List Value} (h : w.ownsRow base T k (.slice a n c) m xs) : n = m := by
  rcases h.2 with ⟨h1, h2⟩ | ⟨g, cap, cur, h1, h2⟩
  · cases h1; exact h2.symm
  · cases h1; rfl
/-- A row that is not empty lies in a block; its cells. -/
theorem row_v {w : World} {base : Nat} {T : TypeId} {k m : Nat} {v : Value} {xs : List Value} (h : w.ownsRow base T k v m xs) : ∃ a c, v = .slice a m c := by
  obtain ⟨a, n, c, rfl⟩ := ownsRow_form h
  rw [ownsRow_len h]
  exact ⟨a, c, rfl⟩
theorem ownsRow_at {w : World} {base : Nat} {T : TypeId} {k m : Nat} {a : Option Addr} {n c : Nat} {xs : List Value} (h : w.ownsRow base T k (.slice a n c) m xs) (hm : 0 < m) :
    ∃ g, a = some ⟨g, 0, none⟩ ∧ base ≤ g ∧ g < w.heap.size ∧ ∀ w' : World, w'.heap[g]? = w.heap[g]? → ∀ j u, xs[j]? = some u → w'.cell? ⟨g, j, none⟩ = some u := by
  rcases h.2 with ⟨h1, h2⟩ | ⟨g, cap, cur, h1, h2, h3, h4, h5, h6, h7⟩
  · omega
  · cases h1
    refine ⟨g, rfl, h2, Blk.lt h3, fun w' hw j u hj => ?_⟩
    have hb : Blk w' g cur T := hw.trans h3
    rw [hb.cell]
    rw [← h7, List.getElem?_take] at hj
    split at hj
    · rw [← Array.getElem?_toList]; exact hj
    · simp at hj
def strCells (l : List ByteArray) : List Value := l.map Value.string
theorem belowN {n : Nat} {a b : World} (h : Below n a b) (k : Nat) : Below n a (b.drewN k) := h.trans ⟨rfl, rfl, rfl, Nat.le_refl _, fun _ _ => rfl⟩
theorem Tryz.info9 : (Tryz.prog.info? 9).map (fun i => (i.zero, i.size, i.bytes)) = some (some (.string ⟨#[]⟩), 1, 16) := by kernel_rfl
theorem flat_get {α : Type} (f : α → List Value) (k : Nat) (hk : ∀ x, (f x).length = k) : ∀ (l : List α) (i : Nat) (x : α), l[i]? = some x → ∀ j, j < k → (l.flatMap f)[i * k + j]? = (f x)[j]?
  | [], i, x, h, j, hj => by simp at h
  | y :: l, 0, x, h, j, hj => by
    simp at h
    subst h
    rw [List.flatMap_cons, Nat.zero_mul, Nat.zero_add, List.getElem?_append_left (by rw [hk]; exact hj)]
  | y :: l, i + 1, x, h, j, hj => by
    rw [List.flatMap_cons, List.getElem?_append_right (by rw [hk, Nat.succ_mul]; omega), hk]
    have := flat_get f k hk l i x (by simpa using h) j hj
    rw [← this]
    congr 1
    rw [Nat.succ_mul]
    omega
def keyGood (k : Int) (s : ByteArray) : Bool := k == 3 && (!(s.toList == [102, 108, 111, 97, 116]) && (!(s.toList == [100, 111, 117, 98, 108, 101]) && !(s.toList == [98, 121, 116, 101, 115])))

end Go.Proofs.YtbbbegjedmicpaaGreatDoor
