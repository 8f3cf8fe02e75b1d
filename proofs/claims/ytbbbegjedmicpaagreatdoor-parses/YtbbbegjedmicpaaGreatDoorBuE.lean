import Derived.Test.YtbbbegjedmicpaaGreatDoorPmA
import Derived.Test.YtbbbegjedmicpaaGreatDoorCkF
import Derived.Deep.RegionHeld3

/-
  CONTRACTS: model.entry, fieldType.
-/
namespace Go.Proofs.YtbbbegjedmicpaaGreatDoor
open Go.RowKit Go.Maps
attribute [local go_sem ↓] Go.wp_at_zero Go.wp_at_succ

theorem row_of_blk {w : World} {P : Nat → Prop} {g n k : Nat} {T : TypeId} {cs : Array Value} (h : Blk w g cs T) (hp : P g) (hs : cs.size = n * k) (hm : n ≤ maxLen) : RowIn w P T k (.slice (some ⟨g, 0, none⟩) n n) n cs.toList := by
  refine ⟨⟨by simpa using hs, .inr ⟨g, n, cs, rfl, Nat.zero_le _, h, Nat.le_refl _, hm, hs, ?_⟩⟩, fun b hb => ?_⟩
  · rw [List.take_of_length_le]
    simp [hs]
  · cases hb
    exact hp

/-- Blocks that were there stay, and stay on. -/
theorem below_nx {a b c : World} (h : Below a.heap.size a b) (k : Below b.heap.size b c) : Below a.heap.size a c :=
  h.trans ⟨k.os, k.tape, k.output, k.size, fun i hi => k.block i (Nat.lt_of_lt_of_le hi h.size)⟩
theorem RowIn.nil0 (w : World) (Z : Nat → Prop) (T : TypeId) (k : Nat) : RowIn w Z T k (.slice none 0 0) 0 [] := ⟨World.ownsRow_nil _ _ _ _, fun b hb => by cases hb⟩
theorem Blk.newAt {w : World} {n : Nat} (h : n = w.heap.size) (cs : Array Value) (T : TypeId) : Blk (w.alloc (.cells cs T)) n cs T := h ▸ Blk.new w cs T
/-- The entry that is made. -/
def EntRaw (w : World) (P : Nat → Prop) (kb vb : Int) (kp vp : Value) (eb : Nat) : Prop :=
  ∃ fv b1 b2, Blk w eb #[.string eS, fv] 87 ∧ P eb ∧ RowIn w P 168 1 fv 2 (ptrCells [b1, b2]) ∧
    (Blk w b1 #[.int .i64 1, .int .i64 1, .int .i64 kb, kp, .slice none 0 0] 176 ∧ P b1) ∧ (Blk w b2 #[.int .i64 2, .int .i64 1, .int .i64 vb, vp, .slice none 0 0] 176 ∧ P b2)
theorem EntRaw.ent {w : World} {P : Nat → Prop} {mp : ByteArray → Option Nat} {k v : ByteArray} {eb : Nat} (h : EntRaw w P (tyB mp k) (tyB mp v) (ptrV (tyP mp k)) (ptrV (tyP mp v)) eb) : EntAt w P mp k v eb := by
  obtain ⟨fv, b1, b2, h1, h2, h3, h4, h5⟩ := h
  exact ⟨fv, b1, b2, h1, h2, h3, ⟨_, h4.1, h4.2, RowIn.nil0 _ _ _ _⟩, ⟨_, h5.1, h5.2, RowIn.nil0 _ _ _ _⟩⟩
theorem EntRaw.keep {w w' : World} {P : Nat → Prop} (hk : ∀ b, P b → b < w.heap.size → w'.heap[b]? = w.heap[b]?) {kb vb : Int} {kp vp : Value} {eb : Nat} (h : EntRaw w P kb vb kp vp eb) : EntRaw w' P kb vb kp vp eb := by
  obtain ⟨fv, b1, b2, h1, h2, h3, h4, h5⟩ := h
  exact ⟨fv, b1, b2, (hk _ h2 h1.lt).trans h1, h2, h3.keep hk, ⟨(hk _ h4.2 h4.1.lt).trans h4.1, h4.2⟩, ⟨(hk _ h5.2 h5.1.lt).trans h5.1, h5.2⟩⟩

theorem EntRaw.mono {w : World} {P Q : Nat → Prop} (hs : ∀ b, P b → Q b) {kb vb : Int} {kp vp : Value} {eb : Nat} (h : EntRaw w P kb vb kp vp eb) : EntRaw w Q kb vb kp vp eb := by
  obtain ⟨fv, b1, b2, h1, h2, h3, h4, h5⟩ := h
  exact ⟨fv, b1, b2, h1, hs _ h2, h3.mono (fun b hb _ => hs b hb), ⟨h4.1, hs _ h4.2⟩, ⟨h5.1, hs _ h5.2⟩⟩
theorem heap_two {w : World} {c o1 o2 : Nat} {v1 v2 : Value} {b : Nat} (h : c ≠ b) : ((w.setCell ⟨c, o1, none⟩ v1).setCell ⟨c, o2, none⟩ v2).heap[b]? = w.heap[b]? := by
  rw [heap_setCell, if_neg h, heap_setCell, if_neg h]

set_option maxRecDepth 100000 in
set_option maxHeartbeats 1000000 in
theorem b_entry (w : World) (kb vb : Int) (kp vp : Value) :
    Calls Tryz.prog 113 #[.agg #[.int .i64 kb, kp], .agg #[.int .i64 vb, vp]] w fun e w' => ∃ eb, e = .returned (.pointer (some ⟨eb, 0, none⟩)) ∧ EntRaw w' (fun b => w.heap.size ≤ b) kb vb kp vp eb ∧ Below w.heap.size w w' := by
  go_enter Tryz.func113, Tryz.ntmps113
  go_wp2
  go_ret
  have z : ∀ (u : World) (o : Obj), (u.alloc o).heap.size = u.heap.size + 1 := fun u o => by simp
  refine ⟨_, rfl, ⟨_, w.heap.size + 1 + 1, w.heap.size + 1 + 1 + 1, Blk.newAt (by simp only [z]) _ _, by omega, row_of_blk ((Blk.newAt (by simp only [z]) _ _).alloc _) (by omega) rfl (by unfold maxLen; omega),
    ⟨(((Blk.newAt (by simp only [z]) _ _).alloc _).alloc _).alloc _, by omega⟩, ⟨((Blk.newAt (by simp only [z]) _ _).alloc _).alloc _, by omega⟩⟩, ?_⟩
  exact ((((((Below.refl w.heap.size w).alloc (Nat.le_refl _) _).alloc (by simp only [z]; omega) _).alloc (by simp only [z]; omega) _).alloc (by simp only [z]; omega) _).alloc (by simp only [z]; omega) _).alloc (by simp only [z]; omega) _

/-- What a field's type is. -/
def FtRet (w : World) (mp : ByteArray → Option Nat) (f : FieldR) (e : Ending) (w' : World) : Prop :=
  if f.form = 4 then ∃ eb, e = .returned (.agg #[.int .i64 16, .pointer (some ⟨eb, 0, none⟩)]) ∧ EntAt w' (fun b => w.heap.size ≤ b) mp (pkS f.key) f.type.1 eb
  else e = .returned (TyRet mp f.type.1)

set_option maxRecDepth 100000 in
set_option maxHeartbeats 1000000 in
theorem b_fieldType_map (w : World) (b n : Nat) (mp : ByteArray → Option Nat) (f : FieldR) (hf : f.form = 4) (H : PtrMap w b n mp) (hk : pkK f.key = kindW (pkS f.key)) (hks : (pkS f.key).size ≤ 2000) (hts : f.type.1.size ≤ 2000) (hb : BOK w) :
    Calls Tryz.prog 68 #[.map (some b), .agg (FC f)] w fun e w' => (∃ eb, e = .returned (.agg #[.int .i64 16, .pointer (some ⟨eb, 0, none⟩)]) ∧ EntAt w' (fun b => w.heap.size ≤ b) mp (pkS f.key) f.type.1 eb) ∧ Below w.heap.size w w' := by
  obtain ⟨form, key, ty, nm, nu⟩ := f
  dsimp only [FC] at hf hk hks hts ⊢
  subst hf
  rw [hk]
  generalize hks' : pkS key = ks at *
  obtain ⟨ts, tp⟩ := ty
  have B0 := ((Below.refl w.heap.size w).alloc (Nat.le_refl _) (Obj.cells #[.int .i64 4, .int .i64 (kindW ks), .string ks, .int .i64 (pkA key), .int .i64 (kindW ts), .string ts, .int .i64 tp, .int .i64 (kindW nm.1), .string nm.1, .int .i64 nm.2, .int .i64 (kindW nu.1), .string nu.1, .int .i64 nu.2] 167)).alloc (by simp) (Obj.cells #[.int .i64 0, .pointer none] 172)
  have K0 := (Blk.new w #[.int .i64 4, .int .i64 (kindW ks), .string ks, .int .i64 (pkA key), .int .i64 (kindW ts), .string ts, .int .i64 tp, .int .i64 (kindW nm.1), .string nm.1, .int .i64 nm.2, .int .i64 (kindW nu.1), .string nu.1, .int .i64 nu.2] 167).alloc (Obj.cells #[.int .i64 0, .pointer none] 172)
  have K1 : Blk ((w.alloc (Obj.cells #[.int .i64 4, .int .i64 (kindW ks), .string ks, .int .i64 (pkA key), .int .i64 (kindW ts), .string ts, .int .i64 tp, .int .i64 (kindW nm.1), .string nm.1, .int .i64 nm.2, .int .i64 (kindW nu.1), .string nu.1, .int .i64 nu.2] 167)).alloc (Obj.cells #[.int .i64 0, .pointer none] 172)) (w.heap.size + 1) #[.int .i64 0, .pointer none] 172 := Blk.newAt (by simp) _ _
  go_enter Tryz.func68, Tryz.ntmps68
  go_wp2_with fail
  generalize ((w.alloc (Obj.cells #[.int .i64 4, .int .i64 (kindW ks), .string ks, .int .i64 (pkA key), .int .i64 (kindW ts), .string ts, .int .i64 tp, .int .i64 (kindW nm.1), .string nm.1, .int .i64 nm.2, .int .i64 (kindW nu.1), .string nu.1, .int .i64 nu.2] 167)).alloc (Obj.cells #[.int .i64 0, .pointer none] 172)) = w1 at *
  have B1 : Below w.heap.size w w1.drew := B0.drew
  have KA := K0.drew
  have KB := K1.drew
  have z1 := K1.lt
  have HC1 : Hid (Calls Tryz.prog 114 #[.map (some b), .agg #[.int .i64 (kindW ks), .string ks, .int .i64 (pkA key)]] w1.drew (fun e w' => e = .returned (.agg #[.int .i64 (tyB mp ks), ptrV (tyP mp ks)]) ∧ Below w1.drew.heap.size w1.drew w')) :=
    b_typeOf _ b n mp ks (pkA key) (H.keep (B1.block _ H.lt)) hks (hb.keep (B1.block _ hb.lt))
  have HC2 : Hid (∀ w2 : World, Below w1.drew.heap.size w1.drew w2 → Calls Tryz.prog 114 #[.map (some b), .agg #[.int .i64 (kindW ts), .string ts, .int .i64 tp]] w2 (fun e w' => e = .returned (.agg #[.int .i64 (tyB mp ts), ptrV (tyP mp ts)]) ∧ Below w2.heap.size w2 w')) :=
    fun w2 h2 => b_typeOf w2 b n mp ts tp (H.keep ((below_nx B1 h2).block _ H.lt)) hts (hb.keep ((below_nx B1 h2).block _ hb.lt))
  have HE : Hid (∀ (w' : World) (eb : Nat), EntRaw w' (fun b => w.heap.size ≤ b) (tyB mp ks) (tyB mp ts) (ptrV (tyP mp ks)) (ptrV (tyP mp ts)) eb → EntAt w' (fun b => w.heap.size ≤ b) mp ks ts eb) := fun w' eb h => h.ent
  generalize (tyB mp ks : Int) = k1 at HC1 HC2 HE
  generalize (tyB mp ts : Int) = k2 at HC1 HC2 HE
  generalize ptrV (tyP mp ks) = p1 at HC1 HC2 HE
  generalize ptrV (tyP mp ts) = p2 at HC1 HC2 HE
  have HC3 : Hid (∀ w3 : World, Calls Tryz.prog 113 #[.agg #[.int .i64 k1, p1], .agg #[.int .i64 k2, p2]] w3 (fun e w' => ∃ eb, e = .returned (.pointer (some ⟨eb, 0, none⟩)) ∧ EntRaw w' (fun b => w3.heap.size ≤ b) k1 k2 p1 p2 eb ∧ Below w3.heap.size w3 w')) :=
    fun w3 => b_entry w3 k1 k2 p1 p2
  clear H hb hk hks hts B0
  generalize (kindW ks) = q1 at *
  generalize (kindW ts) = q2 at *
  generalize (pkA key : Int) = q3 at *
  generalize (tp : Int) = q4 at *
  clear hks'
  have a0 : w1.drew.cell? ⟨w.heap.size, 1, none⟩ = some (.int .i64 q1) ∧ w1.drew.cell? ⟨w.heap.size, 2, none⟩ = some (.string ks) ∧ w1.drew.cell? ⟨w.heap.size, 3, none⟩ = some (.int .i64 q3) ∧ w1.drew.cell? ⟨w.heap.size, 4, none⟩ = some (.int .i64 q2) ∧ w1.drew.cell? ⟨w.heap.size, 5, none⟩ = some (.string ts) ∧ w1.drew.cell? ⟨w.heap.size, 6, none⟩ = some (.int .i64 q4) := ⟨KA.cell 1, KA.cell 2, KA.cell 3, KA.cell 4, KA.cell 5, KA.cell 6⟩
  have HS : Hid (∀ (u v : World), Below u.heap.size u v → w.heap.size < u.heap.size → u.cell? ⟨w.heap.size, 1, none⟩ = some (.int .i64 q1) ∧ u.cell? ⟨w.heap.size, 2, none⟩ = some (.string ks) ∧ u.cell? ⟨w.heap.size, 3, none⟩ = some (.int .i64 q3) ∧ u.cell? ⟨w.heap.size, 4, none⟩ = some (.int .i64 q2) ∧ u.cell? ⟨w.heap.size, 5, none⟩ = some (.string ts) ∧ u.cell? ⟨w.heap.size, 6, none⟩ = some (.int .i64 q4) →
      v.cell? ⟨w.heap.size, 1, none⟩ = some (.int .i64 q1) ∧ v.cell? ⟨w.heap.size, 2, none⟩ = some (.string ks) ∧ v.cell? ⟨w.heap.size, 3, none⟩ = some (.int .i64 q3) ∧ v.cell? ⟨w.heap.size, 4, none⟩ = some (.int .i64 q2) ∧ v.cell? ⟨w.heap.size, 5, none⟩ = some (.string ts) ∧ v.cell? ⟨w.heap.size, 6, none⟩ = some (.int .i64 q4)) :=
    fun u v h hl ⟨h1, h2, h3, h4, h5, h6⟩ => ⟨(h.cell (p := ⟨w.heap.size, 1, none⟩) hl).trans h1, (h.cell (p := ⟨w.heap.size, 2, none⟩) hl).trans h2, (h.cell (p := ⟨w.heap.size, 3, none⟩) hl).trans h3, (h.cell (p := ⟨w.heap.size, 4, none⟩) hl).trans h4, (h.cell (p := ⟨w.heap.size, 5, none⟩) hl).trans h5, (h.cell (p := ⟨w.heap.size, 6, none⟩) hl).trans h6⟩
  clear KA K0 K1
  obtain ⟨i1, i2, i3, i4, i5, i6⟩ := a0
  have zd : w.heap.size < w1.drew.heap.size := Nat.lt_of_succ_lt KB.lt
  go_region_with (first | (go_at_call 114; refine (HC2.out w2 b2).mono ?_; rintro e w3 ⟨rfl, b3⟩; have J3 := J2.below b3 J2.lt) | (go_at_call 114; refine HC1.out.mono ?_; rintro e w2 ⟨rfl, b2⟩; have J2 := KB.below b2 KB.lt; obtain ⟨j1, j2, j3, j4, j5, j6⟩ := HS.out _ _ b2 zd ⟨i1, i2, i3, i4, i5, i6⟩) | (go_at_call 113; refine (HC3.out w3).mono ?_; rintro e w4 ⟨eb, rfl, hE, b4⟩; have J4 := J3.below b4 J3.lt; obtain ⟨y7, y8⟩ := J4.rules))
  all_goals
    go_wp2
    refine bodyPost_ret (ret_cell Tryz.results68 _ _ rfl ((J4.set 0 _).set 1 _) Tryz.underlying172 (by kernel_rfl)) rfl ⟨⟨eb, rfl, HE.out _ _ ?_⟩, ?_⟩
    · exact ((hE.keep (fun b hb _ => heap_two (by have := J3.lt; omega))).mono (fun b hb => by have := J3.lt; omega))
    · exact ((below_nx (below_nx (below_nx B1 b2) b3) b4).setCell (p := ⟨w.heap.size + 1, 0, none⟩) (Nat.le_succ _) _).setCell (p := ⟨w.heap.size + 1, 1, none⟩) (Nat.le_succ _) _

set_option maxRecDepth 100000 in
set_option maxHeartbeats 1000000 in
theorem b_fieldType_one (w : World) (b n : Nat) (mp : ByteArray → Option Nat) (f : FieldR) (hf : ¬ f.form = 4) (H : PtrMap w b n mp) (hts : f.type.1.size ≤ 2000) (hb : BOK w) :
    Calls Tryz.prog 68 #[.map (some b), .agg (FC f)] w fun e w' => e = .returned (TyRet mp f.type.1) ∧ Below w.heap.size w w' := by
  have hd : (f.form == 4) = false := by simp [hf]
  have B0 := ((Below.refl w.heap.size w).alloc (Nat.le_refl _) (FO f)).alloc (by simp) (Obj.cells #[.int .i64 0, .pointer none] 172)
  have K1 : Blk ((w.alloc (FO f)).alloc (Obj.cells #[.int .i64 0, .pointer none] 172)) (w.heap.size + 1) #[.int .i64 0, .pointer none] 172 := Blk.newAt (by simp) _ _
  have HC : Hid (∀ w1 : World, Below w.heap.size w w1 → Calls Tryz.prog 114 #[.map (some b), .agg #[.int .i64 (kindW f.type.1), .string f.type.1, .int .i64 f.type.2]] w1 (fun e w' => e = .returned (.agg #[.int .i64 (tyB mp f.type.1), ptrV (tyP mp f.type.1)]) ∧ Below w1.heap.size w1 w')) :=
    fun w1 h1 => b_typeOf w1 b n mp f.type.1 f.type.2 (H.keep (h1.block _ H.lt)) hts (hb.keep (h1.block _ hb.lt))
  unfold TyRet
  generalize tyP mp f.type.1 = o at HC ⊢
  generalize (tyB mp f.type.1 : Int) = q at HC ⊢
  cases o
  all_goals
    unfold ptrV at HC ⊢
    go_enter Tryz.func68, Tryz.ntmps68
    go_wp2_with fail
    generalize ((w.alloc (FO f)).alloc (Obj.cells #[.int .i64 0, .pointer none] 172)) = w1 at *
    refine (HC.out w1 B0).mono ?_
    rintro e w2 ⟨rfl, b2⟩
    have J2 := K1.below b2 K1.lt
    obtain ⟨y7, y8⟩ := J2.rules
    go_wp2
    refine bodyPost_ret (ret_cell Tryz.results68 _ _ rfl ((J2.set 0 _).set 1 _) Tryz.underlying172 (by kernel_rfl)) rfl ⟨rfl, ?_⟩
    exact ((below_nx B0 b2).setCell (p := ⟨w.heap.size + 1, 0, none⟩) (Nat.le_succ _) _).setCell (p := ⟨w.heap.size + 1, 1, none⟩) (Nat.le_succ _) _

/-- What the program asks of a field's type. -/
structure TyGood (f : FieldR) : Prop where
  key : f.form = 4 → pkK f.key = kindW (pkS f.key) ∧ (pkS f.key).size ≤ 2000
  ty : f.type.1.size ≤ 2000
theorem b_fieldType (w : World) (b n : Nat) (mp : ByteArray → Option Nat) (f : FieldR) (hg : TyGood f) (H : PtrMap w b n mp) (hb : BOK w) :
    Calls Tryz.prog 68 #[.map (some b), .agg (FC f)] w fun e w' => FtRet w mp f e w' ∧ Below w.heap.size w w' := by
  unfold FtRet
  by_cases hf : f.form = 4
  · refine (b_fieldType_map w b n mp f hf H (hg.key hf).1 (hg.key hf).2 hg.ty hb).mono fun e w' h => ?_
    rw [if_pos hf]
    exact h
  · refine (b_fieldType_one w b n mp f hf H hg.ty hb).mono fun e w' h => ?_
    rw [if_neg hf]
    exact h

end Go.Proofs.YtbbbegjedmicpaaGreatDoor
