import Derived.Test.YtbbbegjedmicpaaGreatDoorReadB
import Derived.Test.YtbbbegjedmicpaaGreatDoorBuI

/-
  WHAT IS SO OF A SCHEMA WHOSE NAMES, NUMBERS AND TYPES HAVE BEEN LOOKED AT.
-/
namespace Go.Proofs.YtbbbegjedmicpaaGreatDoor
open Go.RowKit

structure ChkF (types : List ByteArray) (f : FieldR) : Prop where
  key : f.form = 4 → pkK f.key = 3
  lo : 1 ≤ numV f.num.1
  hi : numV f.num.1 ≤ 536870911
  ty : kindW f.type.1 = 1 → memS types f.type.1 = true
  kg : f.form = 4 → keyGood (pkK f.key) (pkS f.key) = true
theorem fieldCk_good {types names : List ByteArray} {nums : List Nat} {f : FieldR} {n : List ByteArray} {m : List Nat} (h : fieldCk types names nums f = .ok (n, m)) : ChkF types f ∧ memN nums (numV f.num.1) = false ∧ m = nums ++ [numV f.num.1] ∧ n = names ++ [f.name.1] ∧ memS names f.name.1 = false := by
  unfold fieldCk fldCk fldTail at h
  split at h
  · grind
  · rename_i hk
    split at h
    · grind
    · rename_i ht
      split at h
      · grind
      · rename_i hn
        split at h
        · grind
        · split at h
          · grind
          · rename_i hb
            simp at h
            unfold numBad at hb
            unfold typeBad at ht
            unfold nameBad at hn
            simp at hb ht hk hn
            refine ⟨⟨fun h4 => ?_, by omega, by omega, fun h1 => ?_, hk⟩, hb.2.2, h.2.symm, h.1.symm, hn.2⟩
            · have := hk h4
              unfold keyGood at this
              simp_all
            simp_all
theorem fieldsCk_good {types : List ByteArray} : ∀ (fs : List FieldR) (names : List ByteArray) (nums : List Nat) (n : List ByteArray) (m : List Nat), fieldsCk types names nums fs = .ok (n, m) → nums.Nodup →
    (∀ f ∈ fs, ChkF types f) ∧ m = nums ++ fs.map (fun f => numV f.num.1) ∧ m.Nodup
  | [], names, nums, n, m, h, hd => by
    simp [fieldsCk] at h
    simp_all
  | f :: fs, names, nums, n, m, h, hd => by
    unfold fieldsCk at h
    split at h
    · cases h
    · rename_i n1 m1 h1
      have g1 := fieldCk_good h1
      have g2 := fieldCk_ok h1 hd
      have g3 := fieldsCk_good fs n1 m1 n m h g2.2.2
      grind
theorem partsCk_good {types : List ByteArray} : ∀ (ps : List PartR) (names : List ByteArray) (nums : List Nat) (n : List ByteArray) (m : List Nat), partsCk types names nums ps = .ok (n, m) → nums.Nodup →
    (∀ p ∈ ps, ∀ f ∈ p.fields, ChkF types f) ∧ m = nums ++ ps.flatMap (fun p => p.fields.map (fun f => numV f.num.1)) ∧ m.Nodup
  | [], names, nums, n, m, h, hd => by
    simp [partsCk] at h
    simp_all
  | p :: ps, names, nums, n, m, h, hd => by
    unfold partsCk at h
    split at h
    · cases h
    · rename_i n1 m1 h1
      have g1 : (∀ f ∈ p.fields, ChkF types f) ∧ m1 = nums ++ p.fields.map (fun f => numV f.num.1) ∧ m1.Nodup := by
        unfold partCk at h1
        split at h1
        · split at h1
          · cases h1
          · exact fieldsCk_good _ _ _ _ _ h1 hd
        · exact fieldsCk_good _ _ _ _ _ h1 hd
      have g3 := partsCk_good ps n1 m1 n m h g1.2.2
      grind
structure ChkB (types : List ByteArray) (b : BlockR) : Prop where
  flds : ∀ p ∈ b.parts, ∀ f ∈ p.fields, ChkF types f
  nums : (b.parts.flatMap (fun p => p.fields.map (fun f => numV f.num.1))).Nodup
theorem memS_append (l r : List ByteArray) (s : ByteArray) : memS (l ++ r) s = (memS l s || memS r s) := by simp [memS]
theorem blocksCk_good {types : List ByteArray} : ∀ (bs : List BlockR) (names : List ByteArray) (m : Nat), blocksCk types names m bs = .ok () →
    (∀ b ∈ bs, b.enum = false → ChkB types b) ∧ (nameList bs).Pairwise (fun x y => x.toList ≠ y.toList) ∧ (∀ b ∈ bs, memS names b.name.1 = false)
  | [], names, m, _ => ⟨by simp, List.Pairwise.nil, by simp⟩
  | b :: bs, names, m, h => by
    have key : ∀ m', blocksCk types (names ++ [b.name.1]) m' bs = .ok () → nameBad names b.name.1 = false → (b.enum = false → ChkB types b) →
        (∀ x ∈ b :: bs, x.enum = false → ChkB types x) ∧ (nameList (b :: bs)).Pairwise (fun x y => x.toList ≠ y.toList) ∧ (∀ x ∈ b :: bs, memS names x.name.1 = false) := by
      intro m' h2 h3 h4
      have g := blocksCk_good bs _ m' h2
      refine ⟨?_, ?_, ?_⟩
      · simp_all
      · refine List.Pairwise.cons ?_ g.2.1
        intro y hy
        obtain ⟨c, hc, rfl⟩ := List.mem_map.1 hy
        have := g.2.2 c hc
        rw [memS_append] at this
        simp [memS] at this
        simp_all
      · intro x hx
        rcases List.mem_cons.1 hx with rfl | hx
        · unfold nameBad at h3
          simp_all
        · have := g.2.2 x hx
          rw [memS_append] at this
          simp_all
    unfold blocksCk at h
    split at h
    · cases h
    · rename_i h3
      simp only [Bool.not_eq_true] at h3
      split at h
      · grind
      · split at h
        · cases h
        · split at h
          · cases h
          · rename_i n1 h5
            obtain ⟨a, c⟩ := n1
            have g := partsCk_good b.parts [] [] a c h5 List.nodup_nil
            exact key (m + 1) h h3 (fun _ => ⟨g.1, by grind⟩)

/-- What is so of the blocks of a schema that Read answers. -/
structure BsOK (bs : List BlockR) : Prop where
  ok : ∀ b ∈ bs, BlockOK b
  few : bs.length ≤ 2001
  shape : ∀ b ∈ bs, ShapeB b
  chk : ∀ b ∈ bs, b.enum = false → ChkB (nameList bs) b
  names : (nameList bs).Pairwise (fun x y => x.toList ≠ y.toList)
theorem readI_good {t : ByteArray} {bs : List BlockR} (h : readI t = .ok bs) : BsOK bs := by
  unfold readI at h
  split at h
  · cases h
  · split at h
    · cases h
    · rename_i h3
      split at h
      · cases h
      · rename_i h4
        cases h
        have hw := allWords_ok t (by omega)
        have g := blocksCk_good _ _ _ h4
        exact ⟨(treeP_ok hw h3).1, (treeP_ok hw h3).2, treeP_shape hw h3, g.1, g.2.1⟩
theorem BsOK.field {bs : List BlockR} (h : BsOK bs) {b : BlockR} (hb : b ∈ bs) (he : b.enum = false) {p : PartR} (hp : p ∈ b.parts) {f : FieldR} (hf : f ∈ p.fields) : FGood f := by
  have c := (h.chk b hb he).flds p hp f hf
  have s := (h.shape b hb p hp).1 f hf
  refine ⟨⟨(h.ok b hb).fnum p hp f hf, c.hi⟩, ⟨fun h4 => ?_, s.size⟩⟩
  have k3 := c.key h4
  obtain ⟨x, hx⟩ := Option.isSome_iff_exists.1 (s.key.1 h4)
  rw [hx] at k3 ⊢
  have hk : kindW x.1 = 3 := k3
  refine ⟨rfl, ?_⟩
  show x.1.size ≤ 2000
  have hm : x.1.toList ∈ bts := by have := kindW_is hk; simpa [isBt] using this
  have hl : ∀ l ∈ bts, l.length ≤ 2000 := by decide
  have := hl _ hm
  rw [ByteArray.toList_eq] at this
  simp_all

end Go.Proofs.YtbbbegjedmicpaaGreatDoor

/-
  CONTRACT: model.Build.
-/
namespace Go.Proofs.YtbbbegjedmicpaaGreatDoor
open Go.RowKit Go.Maps Go.ChangeMaps Go.WideMaps Go.WideElems
attribute [local go_sem ↓] Go.wp_at_zero Go.wp_at_succ

theorem Tryz.info84 : (Tryz.prog.info? 84).map (fun i => (i.zero, i.size, i.bytes)) = some (some (.pointer none), 1, 8) := by kernel_rfl
/-- Where messages are, by their names. -/
def mpL (z : List (ByteArray × Nat)) : ByteArray → Option Nat := z.foldl (fun mp x => mpPut mp x.1 x.2) (fun _ => none)
theorem mpL_snoc (z : List (ByteArray × Nat)) (s : ByteArray) (b : Nat) : mpL (z ++ [(s, b)]) = mpPut (mpL z) s b := by simp [mpL]
/-- Messages that are made, without their fields. -/
structure BInv (w0 wr : World) (kb : Nat) (v : Value) (z : List (ByteArray × Nat)) : Prop where
  row : wr.ownsRow w0.heap.size 84 1 v z.length (ptrCells (z.map (·.2)))
  map : PtrMap wr kb z.length (mpL z)
  msg : ∀ x ∈ z, Blk wr x.2 #[.string x.1, .slice none 0 0] 87 ∧ w0.heap.size ≤ x.2 ∧ v.ownBlock ≠ some x.2
  nd : (z.map (·.2)).Nodup
  kept : Kept [kb] w0 wr
theorem PtrMap.put {w w' : World} {kb n : Nat} {mp : ByteArray → Option Nat} {s : ByteArray} {b : Nat} {D : DataW Unit} (h1 : w.ownsMap Tryz.prog 9 ptrElem kb n D) (h2 : ∀ s : ByteArray, D.atKey (litS s) (ptrD none) = ptrD (mp s))
    (h : w'.ownsMap Tryz.prog 9 ptrElem kb (n + 1) (D.put (litS s) (ptrD (some b)))) : PtrMap w' kb (n + 1) (mpPut mp s b) := ⟨_, h, ptr_put (World.ownsMap.isMap h1) h2 s b⟩
/-- One more. -/
theorem BInv.snoc {w0 wr w2 w5 : World} {kb : Nat} {v v' : Value} {z : List (ByteArray × Nat)} {s : ByteArray} (h : BInv w0 wr kb v z) (hkb : kb < w0.heap.size)
    (hg2 : (wr.alloc (.cells #[.string s, .slice none 0 0] 87)).grownBy w2 (some kb)) (hm : PtrMap w2 kb (z.length + 1) (mpPut (mpL z) s wr.heap.size)) {o : Obj}
    (hg5 : (w2.alloc o).grownBy w5 v.ownBlock) (hown : w5.ownsRow w0.heap.size 84 1 v' (z.length + 1) (ptrCells (z.map (·.2)) ++ [ptrV (some wr.heap.size)])) (hloc : v'.ownBlock = v.ownBlock ∨ v'.ownBlock = some (w2.alloc o).heap.size) :
    BInv w0 w5 kb v' (z ++ [(s, wr.heap.size)]) := by
  have hob := h.row.lt
  have hsz := h.kept.size
  have hs2 : wr.heap.size + 1 ≤ w2.heap.size := by have := hg2.size; simpa using this
  have hvk : some kb ≠ v.ownBlock := fun e => by have := (hob _ e.symm).1; omega
  have kblk : ∀ {b : Nat} {cs : Array Value} {T : TypeId}, Blk (wr.alloc (.cells #[.string s, .slice none 0 0] 87)) b cs T → b ≠ kb → v.ownBlock ≠ some b → Blk w5 b cs T := fun hb h1 h2 =>
    ((hb.grown hg2 (fun e => h1 (Option.some.inj e))).alloc o).grown hg5 (fun e => h2 e.symm)
  have hv'ne : ∀ x, x < w2.heap.size + 1 → v.ownBlock ≠ some x → v'.ownBlock ≠ some x := fun x hx h1 e => by
    rcases hloc with h2 | h2
    · exact h1 (h2 ▸ e)
    · rw [h2] at e
      have := Option.some.inj e
      simp at this
      omega
  refine ⟨?_, ?_, ?_, ?_, ?_⟩
  · rw [List.map_append, List.length_append]
    simp only [List.map_cons, List.map_nil, List.length_cons, List.length_nil, ptrCells_snoc]
    exact hown
  · rw [mpL_snoc, List.length_append]
    exact hm.keep ((hg5.block kb (by have := hm.lt; simp; omega) hvk).trans (Below.heap_alloc _ _ _ hm.lt))
  · intro x hx
    rcases List.mem_append.1 hx with hx | hx
    · obtain ⟨m1, m2, m3⟩ := h.msg x hx
      have := m1.lt
      exact ⟨kblk (m1.alloc _) (by omega) m3, m2, hv'ne _ (by omega) m3⟩
    · simp at hx
      subst hx
      have m3 : v.ownBlock ≠ some wr.heap.size := fun e => by have := (hob _ e).2; omega
      exact ⟨kblk (Blk.new _ _ _) (by show wr.heap.size ≠ kb; omega) m3, hsz, hv'ne _ (by show wr.heap.size < w2.heap.size + 1; omega) m3⟩
  · rw [List.map_append, List.nodup_append]
    refine ⟨h.nd, by simp, ?_⟩
    intro a ha c hc
    obtain ⟨x, hx, rfl⟩ := List.mem_map.1 ha
    simp at hc
    have := (h.msg x hx).1.lt
    omega
  · refine ⟨?_, ?_, ?_, ?_, ?_⟩
    · rw [hg5.os]; exact hg2.os.trans h.kept.os
    · rw [hg5.tape]; exact hg2.tape.trans h.kept.tape
    · rw [hg5.output]; exact hg2.output.trans h.kept.output
    · have := hg5.size; simp at this; omega
    · intro k hk hn
      have h1 : (w2.alloc o).heap[k]? = w2.heap[k]? := Below.heap_alloc _ _ _ (by omega)
      have h2 : (wr.alloc (.cells #[.string s, .slice none 0 0] 87)).heap[k]? = wr.heap[k]? := Below.heap_alloc _ _ _ (by omega)
      rw [hg5.block k (by simp; omega) (fun e => by have := (hob _ e.symm).1; omega), h1, hg2.block k (by simp; omega) (fun e => hn (by simp at e; simp [e])), h2]
      exact h.kept.block k hk hn

end Go.Proofs.YtbbbegjedmicpaaGreatDoor

/-
  CONTRACT: model.Build: what its second loop keeps.
-/
namespace Go.Proofs.YtbbbegjedmicpaaGreatDoor
open Go.RowKit Go.Maps

def msgsOf (bs : List BlockR) : List BlockR := bs.filter fun b => !b.enum
theorem msgNames_eq (bs : List BlockR) : msgNames bs = (msgsOf bs).map fun b => b.name.1 := rfl
def GOf (b : BlockR) (gs : List GF) : Prop := gs.Perm (gfsOf b) ∧ gs.Pairwise (fun x y => x.f.num ≤ y.f.num)
def Qz (w0 : World) (z : List (ByteArray × Nat)) (v : Value) : Nat → Prop := fun b => w0.heap.size ≤ b ∧ b ∉ z.map (·.2) ∧ v.ownBlock ≠ some b
abbrev YM := (ByteArray × Nat) × List GF
def MI (w0 wr : World) (z : List (ByteArray × Nat)) (v : Value) (m : YM) : Prop :=
  ∃ fv fbs, Blk wr m.1.2 #[.string m.1.1, fv] 87 ∧ RowIn wr (Qz w0 z v) 168 1 fv fbs.length (ptrCells fbs) ∧ FldsAt wr (Qz w0 z v) (mpL z) m.2 fbs
structure CInv (w0 wr : World) (kb : Nat) (v : Value) (z : List (ByteArray × Nat)) (done : List BlockR) (y : List YM) : Prop where
  row : wr.ownsRow w0.heap.size 84 1 v z.length (ptrCells (z.map (·.2)))
  map : PtrMap wr kb z.length (mpL z)
  zy : y.map (·.1) = z
  mi : ∀ m ∈ y, MI w0 wr z v m
  at_ : ∀ x ∈ z, w0.heap.size ≤ x.2 ∧ v.ownBlock ≠ some x.2
  nd : (z.map (·.2)).Nodup
  g : ∀ (i : Nat) (b : BlockR), (msgsOf done)[i]? = some b → ∃ m : YM, y[i]? = some m ∧ GOf b m.2
  kept : Kept [kb] w0 wr

theorem CInv.start {w0 wr : World} {kb : Nat} {v : Value} {z : List (ByteArray × Nat)} (h : BInv w0 wr kb v z) : CInv w0 wr kb v z [] (z.map fun x => (x, [])) where
  row := h.row
  map := h.map
  zy := by rw [List.map_map]; exact List.map_id z
  mi := by
    intro m hm
    obtain ⟨x, hx, rfl⟩ := List.mem_map.1 hm
    exact ⟨_, [], (h.msg x hx).1, RowIn.nil0 _ _ _ _, rfl⟩
  at_ := fun x hx => ⟨(h.msg x hx).2.1, (h.msg x hx).2.2⟩
  nd := h.nd
  g := by intro i b hb; simp [msgsOf] at hb
  kept := h.kept
theorem CInv.on {w0 wr w2 : World} {kb : Nat} {v : Value} {z : List (ByteArray × Nat)} {done : List BlockR} {y : List YM} (h : CInv w0 wr kb v z done y) (hb : Below wr.heap.size wr w2) : CInv w0 w2 kb v z done y where
  row := ownsRow_below hb h.row
  map := h.map.keep (hb.block _ h.map.lt)
  zy := h.zy
  mi := fun m hm => by
    obtain ⟨fv, fbs, h1, h2, h3⟩ := h.mi m hm
    exact ⟨fv, fbs, h1.below hb h1.lt, h2.keep (fun b _ hl => hb.block b hl), h3.keep (fun b _ hl => hb.block b hl)⟩
  at_ := h.at_
  nd := h.nd
  g := h.g
  kept := h.kept.trans (Kept.of_below hb)
theorem CInv.enum {w0 wr : World} {kb : Nat} {v : Value} {z : List (ByteArray × Nat)} {done : List BlockR} {y : List YM} {b : BlockR} (h : CInv w0 wr kb v z done y) (he : b.enum = true) : CInv w0 wr kb v z (done ++ [b]) y where
  row := h.row
  map := h.map
  zy := h.zy
  mi := h.mi
  at_ := h.at_
  nd := h.nd
  g := by
    have : msgsOf (done ++ [b]) = msgsOf done := by simp [msgsOf, he]
    rw [this]
    exact h.g
  kept := h.kept
/-- A message's fields are laid. -/
theorem CInv.message {w0 w2 : World} {kb : Nat} {v fv2 : Value} {z : List (ByteArray × Nat)} {done : List BlockR} {y : List YM} {b : BlockR} {gs : List GF} {fbs : List Nat} {nm : ByteArray} {mbi lo : Nat} (h : CInv w0 w2 kb v z done y) (he : b.enum = false) (hkb : kb < w0.heap.size)
    (hz : z[(msgsOf done).length]? = some (nm, mbi)) (hG : GOf b gs) (hlo : ∀ x, lo ≤ x → Qz w0 z v x) (hr : RowIn w2 (fun x => lo ≤ x) 168 1 fv2 fbs.length (ptrCells fbs)) (hf : FldsAt w2 (fun x => lo ≤ x) (mpL z) gs fbs) :
    ∃ y', CInv w0 (w2.setCell ⟨mbi, 1, none⟩ fv2) kb v z (done ++ [b]) y' := by
  have hmem : (nm, mbi) ∈ z := List.mem_of_getElem? hz
  have hatm := h.at_ _ hmem
  have hnz : ∀ x, Qz w0 z v x → x ≠ mbi := fun x hx e => hx.2.1 (by rw [e]; exact List.mem_map.2 ⟨_, hmem, rfl⟩)
  have hset : ∀ x, x ≠ mbi → (w2.setCell ⟨mbi, 1, none⟩ fv2).heap[x]? = w2.heap[x]? := fun x hx => by rw [heap_setCell, if_neg (fun e => hx e.symm)]
  have hlen : y.length = z.length := by rw [← h.zy]; simp
  have hil : (msgsOf done).length < y.length := by
    rw [hlen]
    by_cases hq : (msgsOf done).length < z.length
    · exact hq
    · rw [List.getElem?_eq_none (by omega)] at hz; cases hz
  refine ⟨y.set (msgsOf done).length ((nm, mbi), gs), ?_⟩
  have hdone : msgsOf (done ++ [b]) = msgsOf done ++ [b] := by simp [msgsOf, he]
  refine ⟨?_, ?_, ?_, ?_, h.at_, h.nd, ?_, ?_⟩
  · exact ownsRow_keep h.row (fun x hx => hset x (fun e => hatm.2 (by rw [hx, e])))
  · exact h.map.keep (hset kb (by show kb ≠ mbi; have := hatm.1; simp only at this; omega))
  · rw [List.map_set, h.zy]
    apply List.ext_getElem?
    intro j
    rw [List.getElem?_set]
    split
    · rename_i e
      subst e
      rw [if_pos (by omega), hz]
    · rfl
  · intro m hm
    obtain ⟨j, hj⟩ := List.getElem?_of_mem hm
    rw [List.getElem?_set] at hj
    split at hj
    · obtain rfl := Option.some.inj hj
      obtain ⟨m0, hm0⟩ : ∃ m0, y[(msgsOf done).length]? = some m0 := ⟨_, List.getElem?_eq_getElem hil⟩
      obtain ⟨fv, l, h1, _, _⟩ := h.mi m0 (List.mem_of_getElem? hm0)
      have e0 : m0.1 = (nm, mbi) := by
        have : z[(msgsOf done).length]? = some m0.1 := by rw [← h.zy, List.getElem?_map, hm0]; rfl
        rw [hz] at this
        exact (Option.some.inj this).symm
      rw [e0] at h1
      refine ⟨fv2, fbs, h1.set 1 fv2, ?_, ?_⟩
      · exact (hr.mono (S' := Qz w0 z v) (fun x hx _ => hlo x hx)).keep (fun x hx _ => hset x (hnz x hx))
      · exact (hf.mono (Q := Qz w0 z v) (fun x hx _ => hlo x hx)).keep (fun x hx _ => hset x (hnz x hx))
    · rename_i hne
      have hm' : m ∈ y := List.mem_of_getElem? hj
      have hzj : z[j]? = some m.1 := by rw [← h.zy, List.getElem?_map, hj]; rfl
      have hmb : m.1.2 ≠ mbi := by
        intro e
        apply hne
        have e1 : (z.map (·.2))[(msgsOf done).length]? = some mbi := by rw [List.getElem?_map, hz]; rfl
        have e2 : (z.map (·.2))[j]? = some mbi := by rw [List.getElem?_map, hzj, ← e]; rfl
        exact (List.getElem?_inj (by rw [List.length_map]; omega) h.nd).1 (e1.trans e2.symm)
      obtain ⟨fv, l, h1, h2, h3⟩ := h.mi m hm'
      exact ⟨fv, l, (hset _ hmb).trans h1, h2.keep (fun x hx _ => hset x (hnz x hx)), h3.keep (fun x hx _ => hset x (hnz x hx))⟩
  · intro i c hc
    rw [hdone, List.getElem?_append] at hc
    split at hc
    · rename_i hi
      obtain ⟨m, h1, h2⟩ := h.g i c hc
      exact ⟨m, by rw [List.getElem?_set, if_neg (by omega)]; exact h1, h2⟩
    · rename_i hi
      have hi0 : i = (msgsOf done).length := by
        by_cases hq : i - (msgsOf done).length = 0
        · omega
        · rw [List.getElem?_eq_none (by simp; omega)] at hc; cases hc
      subst hi0
      simp at hc
      subst hc
      exact ⟨_, by rw [List.getElem?_set, if_pos rfl, if_pos hil], hG⟩
  · have hk := h.kept
    refine ⟨hk.os, hk.tape, hk.output, by simpa using hk.size, fun k hk1 hk2 => ?_⟩
    rw [hset k (by have := hatm.1; simp only at this; omega)]
    exact hk.block k hk1 hk2
theorem mpL_other {z : List (ByteArray × Nat)} {s : ByteArray} : ∀ {r : List (ByteArray × Nat)} {mp : ByteArray → Option Nat}, (∀ x ∈ r, x.1.toList ≠ s.toList) → r.foldl (fun mp x => mpPut mp x.1 x.2) mp s = mp s
  | [], _, _ => rfl
  | x :: r, mp, h => by
    rw [List.foldl_cons, mpL_other (z := z) (fun y hy => h y (List.mem_cons_of_mem _ hy))]
    unfold mpPut
    rw [if_neg]
    unfold eqS
    simp
    exact fun e => h x List.mem_cons_self e.symm
theorem mpL_mem : ∀ {r : List (ByteArray × Nat)} {mp : ByteArray → Option Nat} {s : ByteArray} {b : Nat}, (r.map (·.1)).Pairwise (fun x y => x.toList ≠ y.toList) → (s, b) ∈ r → r.foldl (fun mp x => mpPut mp x.1 x.2) mp s = some b
  | [], _, _, _, _, h => by simp at h
  | x :: r, mp, s, b, hp, h => by
    rw [List.foldl_cons]
    rw [List.map_cons, List.pairwise_cons] at hp
    rcases List.mem_cons.1 h with rfl | h
    · rw [mpL_other (z := r) (fun y hy e => hp.1 y.1 (List.mem_map.2 ⟨y, hy, rfl⟩) e.symm)]
      unfold mpPut
      rw [if_pos (by unfold eqS; simp)]
    · exact mpL_mem hp.2 h
theorem mpL_get {z : List (ByteArray × Nat)} {s : ByteArray} {b : Nat} (hp : (z.map (·.1)).Pairwise (fun x y => x.toList ≠ y.toList)) (h : (s, b) ∈ z) : mpL z s = some b := mpL_mem hp h

end Go.Proofs.YtbbbegjedmicpaaGreatDoor
