import Derived.Test.YtbbbegjedmicpaaGreatDoorCmpA
import Derived.Test.YtbbbegjedmicpaaGreatDoorBuH

/-
  CONTRACT: model.fields.
-/
namespace Go.Proofs.YtbbbegjedmicpaaGreatDoor
open Go.RowKit Go.Maps
attribute [local go_sem ↓] Go.wp_at_zero Go.wp_at_succ

theorem Tryz.info168 : (Tryz.prog.info? 168).map (fun i => (i.zero, i.size, i.bytes)) = some (some (.pointer none), 1, 8) := by kernel_rfl
structure FGood (f : FieldR) : Prop where
  num : numGood f
  ty : TyGood f
/-- Fields that are made, behind one another, in a list that grows. -/
def FInv (w wr : World) (mp : ByteArray → Option Nat) (v : Value) (gs : List GF) : Prop :=
  ∃ fbs : List Nat, wr.ownsRow w.heap.size 168 1 v gs.length (ptrCells fbs) ∧ FldsAt wr (fun b => w.heap.size ≤ b ∧ v.ownBlock ≠ some b) mp gs fbs ∧ Below w.heap.size w wr
theorem FInv.on {w wr w2 : World} {mp : ByteArray → Option Nat} {v : Value} {gs : List GF} (h : FInv w wr mp v gs) (hb : Below wr.heap.size wr w2) : FInv w w2 mp v gs := by
  obtain ⟨fbs, h1, h2, h3⟩ := h
  exact ⟨fbs, ownsRow_below hb h1, h2.keep (fun b _ hl => hb.block b hl), below_nx h3 hb⟩
theorem FInv.start (w wr : World) (mp : ByteArray → Option Nat) (h : Below w.heap.size w wr) : FInv w wr mp (.slice none 0 0) [] := ⟨[], World.ownsRow_nil _ _ _ _, rfl, h⟩
theorem ptrCells_snoc (l : List Nat) (b : Nat) : ptrCells (l ++ [b]) = ptrCells l ++ [ptrV (some b)] := by simp [ptrCells]
/-- One more. -/
theorem FInv.snoc {w W w5 : World} {mp : ByteArray → Option Nat} {v v' : Value} {gs : List GF} {g : GF} {fbs : List Nat} {fb : Nat} (h2 : FldsAt W (fun b => w.heap.size ≤ b ∧ v.ownBlock ≠ some b) mp gs fbs) (h3 : Below w.heap.size w W) (hbase : ∀ k, v.ownBlock = some k → w.heap.size ≤ k)
    (hf : FldAt W (fun b => w.heap.size ≤ b ∧ v.ownBlock ≠ some b) mp g fb) (hown : w5.ownsRow w.heap.size 168 1 v' (gs.length + 1) (ptrCells fbs ++ [ptrV (some fb)])) (hgrow : W.grownBy w5 v.ownBlock) (hloc : v.ownBlock = v'.ownBlock ∨ v'.ownBlock = some W.heap.size) : FInv w w5 mp v' (gs ++ [g]) := by
  have h4 := h2.snoc hf
  have hq : ∀ b, (w.heap.size ≤ b ∧ v.ownBlock ≠ some b) → b < W.heap.size → (w.heap.size ≤ b ∧ v.ownBlock ≠ some b) ∧ v'.ownBlock ≠ some b := by
    grind
  have h5 := (h4.mono hq).keep (w' := w5) (fun b hb hl => hgrow.block b hl (fun e => hb.1.2 e.symm))
  refine ⟨fbs ++ [fb], ?_, h5.mono (fun b hb _ => ⟨hb.1.1, hb.2⟩), h3.grown hgrow h3.size hbase⟩
  rw [ptrCells_snoc, List.length_append]
  omega
def gfsP (ps : List PartR) : List GF := ps.flatMap fun p => p.fields.map (gfOf p)
theorem gfsP_len : ∀ ps : List PartR, (gfsP ps).length ≤ cntP ps
  | [] => Nat.le_refl _
  | p :: ps => by
    have := gfsP_len ps
    unfold gfsP at this ⊢
    rw [List.flatMap_cons, List.length_append, List.length_map, cntP]
    omega
theorem cntP_take : ∀ (ps : List PartR) (k : Nat), cntP (ps.take k) ≤ cntP ps
  | [], k => by grind
  | p :: ps, 0 => by simp [cntP]
  | p :: ps, k + 1 => by have := cntP_take ps k; rw [List.take_succ_cons, cntP, cntP]; omega
theorem perm_lift {α β : Type} {h : α → β} {l' l : List β} (p : l'.Perm l) : ∀ z : List α, z.map h = l → ∃ z' : List α, z'.Perm z ∧ z'.map h = l' := by
  induction p with
  | nil => intro z hz; exact ⟨z, List.Perm.refl _, hz⟩
  | cons x _ ih =>
    intro z hz
    cases z with
    | nil => grind
    | cons a z =>
      simp at hz
      obtain ⟨z', h1, h2⟩ := ih z hz.2
      exact ⟨a :: z', h1.cons a, by grind⟩
  | swap x y l =>
    intro z hz
    match z, hz with
    | [], hz => grind
    | [_], hz => grind
    | a :: c :: z, hz =>
      simp at hz
      exact ⟨c :: a :: z, List.Perm.swap _ _ _, by grind⟩
  | trans _ _ ih1 ih2 =>
    intro z hz
    obtain ⟨z1, h1, h2⟩ := ih2 z hz
    obtain ⟨z2, h3, h4⟩ := ih1 z1 h2
    exact ⟨z2, h3.trans h1, h4⟩
/-- What fields answers. -/
def FieldsRet (w : World) (mp : ByteArray → Option Nat) (b : BlockR) (e : Ending) (w' : World) : Prop :=
  ∃ (v : Value) (gs : List GF) (fbs : List Nat), e = .returned v ∧ gs.Perm (gfsOf b) ∧ gs.Pairwise (fun x y => x.f.num ≤ y.f.num) ∧
    RowIn w' (fun x => w.heap.size ≤ x) 168 1 v fbs.length (ptrCells fbs) ∧ FldsAt w' (fun x => w.heap.size ≤ x) mp gs fbs ∧ Below w.heap.size w w'

set_option maxRecDepth 100000 in
set_option maxHeartbeats 268435456 in
theorem b_fields (w : World) (mb n : Nat) (mp : ByteArray → Option Nat) (b : BlockR) (pa va : Option Addr) (pc vn vc : Nat) (pcs : List Value) (S : Nat → Prop) (hrow : RowIn w S 164 4 (.slice pa b.parts.length pc) b.parts.length pcs) (hps : PartsIn w S pcs b.parts)
    (H : PtrMap w mb n mp) (hlen : cntP b.parts ≤ 2001) (hgood : ∀ p ∈ b.parts, ∀ f ∈ p.fields, FGood f) (hg : GOK w) (hb : BOK w) :
    Calls Tryz.prog 38 #[.map (some mb), .agg #[.bool b.enum, .int .i64 (kindW b.name.1), .string b.name.1, .int .i64 b.name.2, .slice pa b.parts.length pc, .slice va vn vc]] w (FieldsRet w mp b) := by
  obtain ⟨i0, hi0, hz0, hz1, hz2⟩ := info_parts Tryz.info168
  have hpl : b.parts.length ≤ 2001 := Nat.le_trans (cntP_len b.parts) hlen
  have C0 := (Below.refl w.heap.size w).alloc (Nat.le_refl _) (Obj.cells #[.bool b.enum, .int .i64 (kindW b.name.1), .string b.name.1, .int .i64 b.name.2, .slice pa b.parts.length pc, .slice va vn vc] 118)
  go_enter Tryz.func38, Tryz.ntmps38
  go_wp2
  go_loopw [5, 13] (fun v i wr => ∃ (k : Nat), k ≤ b.parts.length ∧ i = .int .i64 k ∧ FInv w wr mp v (gfsP (b.parts.take k))) (fun _ i _ => b.parts.length - (intOf i).toNat)
  case atStart => exact ⟨0, Nat.zero_le _, rfl, FInv.start _ _ _ C0⟩
  case round =>
    clear C0
    obtain ⟨k, hk, rfl, HI⟩ := hrel
    by_cases hlt : k < b.parts.length
    · obtain ⟨p, hp⟩ := gx hlt
      have hpm : p ∈ b.parts := List.mem_of_getElem? hp
      have htake : b.parts.take (k + 1) = b.parts.take k ++ [p] := by rw [List.take_add_one, hp]; rfl
      have hgp : gfsP (b.parts.take (k + 1)) = gfsP (b.parts.take k) ++ p.fields.map (gfOf p) := by rw [htake]; simp [gfsP]
      have hcnt : (gfsP (b.parts.take k)).length + p.fields.length ≤ 2001 := by
        have h1 := gfsP_len (b.parts.take (k + 1))
        have h2 := cntP_take b.parts (k + 1)
        grind
      have CW : Below w.heap.size w wr := by obtain ⟨_, _, _, h⟩ := HI; exact h
      have hob : ∀ j, u5.ownBlock = some j → w.heap.size ≤ j ∧ j < wr.heap.size := by obtain ⟨_, h, _, _⟩ := HI; exact h.lt
      obtain ⟨g, rfl, _, hgl, hcell⟩ := ownsRow_at hrow.1 (by omega)
      obtain ⟨fa, fn, fc, p0, p1, p2, p3, hfr⟩ := hps.get hp
      have hfn := ownsRow_len hfr.1
      subst hfn
      have hcg := hcell wr (CW.block g hgl)
      have q0 := hcg _ _ p0
      have q1 := hcg _ _ p1
      have q2 := hcg _ _ p2
      have q3 := hcg _ _ p3
      have KP := Blk.new wr #[.int .i64 (pkK p.oneof), .string (pkS p.oneof), .int .i64 (pkA p.oneof), .slice fa p.fields.length fc] 164
      have HI1 := HI.on ((Below.refl wr.heap.size wr).alloc (Nat.le_refl _) (Obj.cells #[.int .i64 (pkK p.oneof), .string (pkS p.oneof), .int .i64 (pkA p.oneof), .slice fa p.fields.length fc] 164))
      have hne : u5.ownBlock ≠ some wr.heap.size := fun e => by grind
      have hgoodp := hgood p hpm
      have hpb : w.heap.size ≤ wr.heap.size := CW.size
      generalize gfsP (b.parts.take k) = G at HI1 hgp hcnt
      clear hcell hcg p0 p1 p2 p3 hp hpm htake HI hob hgood
      go_wp2_with fail
      generalize wr.alloc (Obj.cells #[.int .i64 (pkK p.oneof), .string (pkS p.oneof), .int .i64 (pkA p.oneof), .slice fa p.fields.length fc] 164) = w1 at *
      generalize wr.heap.size = pb at *
      clear q0 q1 q2 q3
      go_loopw [5, 20] (fun v i wr => ∃ (j : Nat), j ≤ p.fields.length ∧ i = .int .i64 j ∧ FInv w wr mp v (G ++ (p.fields.take j).map (gfOf p)) ∧ Blk wr pb #[.int .i64 (pkK p.oneof), .string (pkS p.oneof), .int .i64 (pkA p.oneof), .slice fa p.fields.length fc] 164 ∧ v.ownBlock ≠ some pb) (fun _ i _ => p.fields.length - (intOf i).toNat)
      case atStart => exact ⟨0, Nat.zero_le _, rfl, by grind, KP, hne⟩
      case round =>
        clear HI1 KP hne CW
        obtain ⟨j, hj, rfl, HJ, KP, hne⟩ := hrel
        by_cases hlt2 : j < p.fields.length
        · obtain ⟨f, hf⟩ := gx hlt2
          have hfm : f ∈ p.fields := List.mem_of_getElem? hf
          have htake : G ++ (p.fields.take (j + 1)).map (gfOf p) = (G ++ (p.fields.take j).map (gfOf p)) ++ [gfOf p f] := by rw [List.take_add_one, hf]; simp
          obtain ⟨gf, rfl, _, hgfl, hcellf⟩ := ownsRow_at hfr.1 (by omega)
          have CW2 : Below w.heap.size w wr := by obtain ⟨_, _, _, h⟩ := HJ; exact h
          have hob2 : ∀ x, u5.ownBlock = some x → w.heap.size ≤ x ∧ x < wr.heap.size := by obtain ⟨_, h, _, _⟩ := HJ; exact h.lt
          have hcf := hcellf wr (CW2.block gf hgfl)
          obtain ⟨t0, t1, t2, t3, t4, t5, t6, t7, t8, t9, t10, t11, t12⟩ := fc_cells hf hcf
          have hgo := hgoodp f hfm
          have KF := Blk.new wr (FC f) 167
          have KP1 := KP.alloc (FO f)
          have HJ1 := HJ.on ((Below.refl wr.heap.size wr).alloc (Nat.le_refl _) (FO f))
          have hne1 : u5.ownBlock ≠ some wr.heap.size := fun e => by have := (hob2 _ e).2; omega
          have hob3 : Hid (∀ x, u5.ownBlock = some x → x < wr.heap.size) := fun x hx => (hob2 x hx).2
          have hGl : (G ++ (p.fields.take j).map (gfOf p)).length ≤ 2001 := by rw [List.length_append, List.length_map, List.length_take]; omega
          generalize (G ++ (p.fields.take j).map (gfOf p)) = G2 at HJ1 htake hGl
          have hzz : pb < wr.heap.size := KP.lt
          clear hcellf hcf hf hfm HJ KP hob2
          go_upto_region 8 with fail
          clear t0 t1 t2 t3 t4 t5 t6 t7 t8 t9 t10 t11 t12
          generalize hw1 : wr.alloc (FO f) = W1 at *
          have zc : wr.heap.size < W1.heap.size := KF.lt
          clear hw1
          generalize wr.heap.size = c9 at *
          obtain ⟨fbs, hown, hflds, CA⟩ := HJ1
          have CAd : Below w.heap.size w W1.drew := CA.drew
          have KFd := KF.drew
          have KPd := KP1.drew
          have hownd : W1.drew.ownsRow w.heap.size 168 1 u5 G2.length (ptrCells fbs) := hown
          have hfldsd : FldsAt W1.drew (fun b => w.heap.size ≤ b ∧ u5.ownBlock ≠ some b) mp G2 fbs := FldsAt.keep (w := W1) (w' := W1.drew) (fun _ _ _ => rfl) hflds
          have a0 := RS.of KFd KPd
          have HC1 : Hid (Calls Tryz.prog 67 #[.agg (FC f)] W1.drew (fun e w' => e = .returned (.int .i64 (numR f)) ∧ Below W1.drew.heap.size W1.drew w')) := b_number _ f hgo.num.1 hgo.num.2 (hg.keep (CAd.block _ hg.lt))
          have HC2 : Hid (∀ w2 : World, Below W1.drew.heap.size W1.drew w2 → Calls Tryz.prog 68 #[.map (some mb), .agg (FC f)] w2 (fun e w' => ∃ tb tv, e = .returned (.agg #[.int .i64 tb, tv]) ∧ FtOK w' (fun b => w2.heap.size ≤ b) mp f tb tv ∧ Below w2.heap.size w2 w')) :=
            fun w2 h2 => b_fieldType' w2 mb n mp f hgo.ty (H.keep ((below_nx CAd h2).block _ H.lt)) (hb.keep ((below_nx CAd h2).block _ hb.lt))
          have HC3 : Hid (∀ w3 : World, Below W1.drew.heap.size W1.drew w3 → Calls Tryz.prog 69 #[.agg #[.int .i64 (pkK p.oneof), .string (pkS p.oneof), .int .i64 (pkA p.oneof), .slice (some ⟨gf, 0, none⟩) p.fields.length fc], .agg (FC f)] w3 (fun e w' => ∃ v, e = .returned v ∧ w'.ownsRow w3.heap.size 3 1 v (rivR p f).length (intCells (rivR p f)) ∧ Below w3.heap.size w3 w')) :=
            fun w3 h3 => b_rivals w3 p f _ fc S (hfr.keep (fun x _ hl => (below_nx CAd h3).block x hl)) (by omega) hgo.num (fun o ho => (hgoodp o ho).num) (hg.keep ((below_nx CAd h3).block _ hg.lt))
          have HFM : Hid (∀ (W : World) (fb : Nat) (tb : Int) (tv rv : Value), Blk W fb #[.int .i64 (numR f), .int .i64 f.form, .int .i64 tb, tv, rv] 176 → (w.heap.size ≤ fb ∧ u5.ownBlock ≠ some fb) → RowIn W (fun b => w.heap.size ≤ b ∧ u5.ownBlock ≠ some b) 3 1 rv (rivR p f).length (intCells (rivR p f)) → FtOK W (fun b => w.heap.size ≤ b ∧ u5.ownBlock ≠ some b) mp f tb tv → FldAt W (fun b => w.heap.size ≤ b ∧ u5.ownBlock ≠ some b) mp (gfOf p f) fb) := fun W fb tb tv rv h1 h2 h3 h4 => fld_made h1 h2 h3 h4
          have HO1 : Hid (some c9 ≠ u5.ownBlock) := fun e => hne1 e.symm
          have HO2 : Hid (some pb ≠ u5.ownBlock) := fun e => hne e.symm
          clear hown hflds CA KF KP1
          go_region_held3 (fun w' => w'.cell? ⟨c9, 0, none⟩ = some (.int .i64 f.form) ∧ w'.cell? ⟨c9, 1, none⟩ = some (.int .i64 (pkK f.key)) ∧ w'.cell? ⟨c9, 2, none⟩ = some (.string (pkS f.key)) ∧ w'.cell? ⟨c9, 3, none⟩ = some (.int .i64 (pkA f.key)) ∧ w'.cell? ⟨c9, 4, none⟩ = some (.int .i64 (kindW f.type.1)) ∧ w'.cell? ⟨c9, 5, none⟩ = some (.string f.type.1) ∧ w'.cell? ⟨c9, 6, none⟩ = some (.int .i64 f.type.2) ∧ w'.cell? ⟨c9, 7, none⟩ = some (.int .i64 (kindW f.name.1)) ∧ w'.cell? ⟨c9, 8, none⟩ = some (.string f.name.1) ∧ w'.cell? ⟨c9, 9, none⟩ = some (.int .i64 f.name.2) ∧ w'.cell? ⟨c9, 10, none⟩ = some (.int .i64 (kindW f.num.1)) ∧ w'.cell? ⟨c9, 11, none⟩ = some (.string f.num.1) ∧ w'.cell? ⟨c9, 12, none⟩ = some (.int .i64 f.num.2) ∧ w'.cell? ⟨pb, 0, none⟩ = some (.int .i64 (pkK p.oneof)) ∧ w'.cell? ⟨pb, 1, none⟩ = some (.string (pkS p.oneof)) ∧ w'.cell? ⟨pb, 2, none⟩ = some (.int .i64 (pkA p.oneof)) ∧ w'.cell? ⟨pb, 3, none⟩ = some (.slice (some ⟨gf, 0, none⟩) p.fields.length fc))
            (first | exact a5 | exact RS.of ((KF4.alloc _).alloc _) ((KP4.alloc _).alloc _) | exact RS.of (KF4.alloc _) (KP4.alloc _) | exact RS.of KF4 KP4 | exact RS.of KF3 KP3 | exact RS.of KF2 KP2 | exact a0)
            (first | (refine step_append_lies _ (by rfl) _ _ _ (by rfl) w.heap.size 168 i0 _ 1 8 Tryz.underlying85 hi0 hz0 hz1 hz2 rfl (by omega) u5 G2.length (ptrCells fbs) (by rfl) ((hown4.alloc _).alloc _) ⟨w4.heap.size + 1, 0, none⟩ 1 1 [_] (by rfl) (by rfl) (World.news_of_block (Blk.newAt (by simp) _ _)) (by simp [Value.oneCell']) (by omega) (by unfold maxLen; omega) (by omega) (by have := C4.size; simp; omega) (w4.heap.size + 1 + 1) (by simp) ?_; intro gg cap w5 hown5 hgrow hat hlt5; have KF5 := ((KF4.alloc _).alloc _).grown hgrow HO1.out; have KP5 := ((KP4.alloc _).alloc _).grown hgrow HO2.out; have a5 := RS.of KF5 KP5) | (go_at_call 67; refine HC1.out.mono ?_; rintro e w2 ⟨rfl, b2⟩; have KF2 := KFd.below b2 KFd.lt; have KP2 := KPd.below b2 KPd.lt) | (go_at_call 68; refine (HC2.out w2 b2).mono ?_; rintro e w3 ⟨tb, tv, rfl, hft, b3⟩; have KF3 := KF2.below b3 KF2.lt; have KP3 := KP2.below b3 KP2.lt) | (go_at_call 69; refine (HC3.out w3 (below_nx b2 b3)).mono ?_; rintro e w4 ⟨rv, rfl, hrv, b4⟩; obtain ⟨ra, rn, rc, rfl⟩ := ownsRow_form hrv; have KF4 := KF3.below b4 KF3.lt; have KP4 := KP3.below b4 KP3.lt; have C4 := below_nx (below_nx (below_nx CAd b2) b3) b4; have hown4 := ownsRow_below (below_nx (below_nx b2 b3) b4) hownd))
          have Z2 := b2.size
          have Z3 := b3.size
          have Z4 := b4.size
          have zc2 : c9 < W1.drew.heap.size := zc
          have hobP : ∀ x, W1.drew.heap.size ≤ x → u5.ownBlock ≠ some x := fun x hx e => by have := hob3.out x e; omega
          have hsP : ∀ x, w3.heap.size ≤ x → w.heap.size ≤ x ∧ u5.ownBlock ≠ some x := fun x hx => ⟨by omega, hobP x (by omega)⟩
          have BW : Below w4.heap.size w4 ((w4.alloc (Obj.cells #[.int .i64 (numR f), .int .i64 f.form, .int .i64 tb, tv, .slice ra rn rc] 176)).alloc (Obj.cells #[.pointer (some ⟨w4.heap.size, 0, none⟩)] 168)) := ((Below.refl w4.heap.size w4).alloc (Nat.le_refl _) _).alloc (by simp) _
          have hfW := FldsAt.keep (w := W1.drew) (w' := ((w4.alloc (Obj.cells #[.int .i64 (numR f), .int .i64 f.form, .int .i64 tb, tv, .slice ra rn rc] 176)).alloc (Obj.cells #[.pointer (some ⟨w4.heap.size, 0, none⟩)] 168))) (fun x _ hl => (below_nx (below_nx (below_nx b2 b3) b4) BW).block x hl) hfldsd
          have hrow4 := ((RowIn.of hrv).mono (S' := fun b => w.heap.size ≤ b ∧ u5.ownBlock ≠ some b) (fun x hx _ => hsP x hx)).keep (w' := ((w4.alloc (Obj.cells #[.int .i64 (numR f), .int .i64 f.form, .int .i64 tb, tv, .slice ra rn rc] 176)).alloc (Obj.cells #[.pointer (some ⟨w4.heap.size, 0, none⟩)] 168))) (fun x _ hl => BW.block x hl)
          have hft4 := (FtOK.mono (Q := fun b => w.heap.size ≤ b ∧ u5.ownBlock ≠ some b) (fun x hx _ => ⟨by omega, hobP x (by omega)⟩) hft).keep (w' := ((w4.alloc (Obj.cells #[.int .i64 (numR f), .int .i64 f.form, .int .i64 tb, tv, .slice ra rn rc] 176)).alloc (Obj.cells #[.pointer (some ⟨w4.heap.size, 0, none⟩)] 168))) (fun x _ hl => (below_nx b4 BW).block x hl)
          have hFld := HFM.out _ w4.heap.size tb tv (.slice ra rn rc) ((Blk.new w4 _ _).alloc _) ⟨C4.size, hobP _ (by omega)⟩ hrow4 hft4
          have HI6 := FInv.snoc (v' := .slice (some ⟨gg, 0, none⟩) (G2.length + 1) cap) hfW (below_nx C4 BW) (fun x hx => (hownd.lt x hx).1) hFld hown5 hgrow (hat.imp (fun h => h) (fun h => by rw [h]; simp [Value.ownBlock]))
          have hne6 : (Value.slice (some ⟨gg, 0, none⟩) (G2.length + 1) cap).ownBlock ≠ some pb := fun e => by
            rcases hat with h | h
            · exact hne (h.trans e)
            · have e2 := Option.some.inj e
              simp only at e2
              omega
          clear a5 hfW hrow4 hft4 hFld hown5 hgrow BW hobP hsP
          go_wp2
          go_roundw
          case rel => exact ⟨j + 1, by omega, rfl, by grind, KP5, hne6⟩
          case measure => simp [intOf]; omega
        · have hli2 : decide ((j : Int) < (p.fields.length : Int)) = false := by grind
          obtain rfl : j = p.fields.length := by omega
          rw [List.take_length] at HJ
          go_wp2
          go_roundw
          case rel => exact ⟨k + 1, by omega, rfl, by rw [hgp]; exact HJ⟩
          case measure => simp [intOf]; omega
    · have hli : decide ((k : Int) < (b.parts.length : Int)) = false := by grind
      obtain rfl : k = b.parts.length := by omega
      rw [List.take_length] at HI
      go_wp2_with fail
      obtain ⟨fbs, hown, hflds, CW⟩ := HI
      obtain ⟨z, rfl2, hz2, hz3⟩ := hflds.zip
      have hgl : z.length = (gfsP b.parts).length := by rw [← rfl2]; simp
      have hgl2 : z.length ≤ 2001 := by have := gfsP_len b.parts; omega
      have hsrt := b_sort wr w.heap.size u5 (z.map fun x => (x.1.f.num, x.2)) (by rw [List.length_map, hgl, List.map_map, show ((fun x : Int × Nat => x.2) ∘ fun x : GF × Nat => (x.1.f.num, x.2)) = (fun x => x.2) from rfl, hz2]; omega)
        (fun x hx => by obtain ⟨y, hy, rfl⟩ := List.mem_map.1 hx; exact (hz3 y hy).cell0.1) (fun x hx => by obtain ⟨y, hy, rfl⟩ := List.mem_map.1 hx; exact (hz3 y hy).cell0.2.2) (by simpa using hgl2)
      refine hsrt.mono ?_
      rintro e w' ⟨rfl, l', hperm, hsort, hown', hgrow⟩
      obtain ⟨z', hz4, rfl⟩ := perm_lift hperm z rfl
      go_wp2
      go_ret
      refine ⟨u5, z'.map (·.1), z'.map (·.2), rfl, ?_, ?_, ?_, ?_, ?_⟩
      · rw [show gfsOf b = gfsP b.parts from rfl, ← rfl2]
        exact hz4.map _
      · rw [List.pairwise_map] at hsort ⊢
        omega
      · have hl2 : (z'.map (·.2)).length = (z.map fun x : GF × Nat => (x.1.f.num, x.2)).length := by simp [hz4.length_eq]
        rw [hl2]
        have := RowIn.of hown'
        rw [List.map_map] at this
        exact this
      · have h5 : ∀ x ∈ z', FldAt w' (fun x => w.heap.size ≤ x) mp x.1 x.2 := fun x hx => by
          have h6 := hz3 x (hz4.mem_iff.1 hx)
          exact (h6.keep (w' := w') (fun c hc hl => hgrow.block c hl (fun e => hc.2 e.symm))).mono (fun c hc _ => hc.1)
        exact FldsAt.of_zip h5
      · exact CW.grown hgrow CW.size (fun x hx => (hown.lt x hx).1)

end Go.Proofs.YtbbbegjedmicpaaGreatDoor
