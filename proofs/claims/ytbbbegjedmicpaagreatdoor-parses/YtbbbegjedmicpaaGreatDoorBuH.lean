import Derived.Test.YtbbbegjedmicpaaGreatDoorCmpA
import Derived.Deep.AppendLies

/-
  CONTRACT: model.fields: what one field is made to.
-/
namespace Go.Proofs.YtbbbegjedmicpaaGreatDoor
open Go.RowKit Go.Maps
attribute [local go_sem ↓] Go.wp_at_zero Go.wp_at_succ

/-- What stands in a field's box and a part's. -/
def RS (f : FieldR) (p : PartR) (fa : Option Addr) (fc c9 pb : Nat) (w' : World) : Prop := w'.cell? ⟨c9, 0, none⟩ = some (.int .i64 f.form) ∧ w'.cell? ⟨c9, 1, none⟩ = some (.int .i64 (pkK f.key)) ∧ w'.cell? ⟨c9, 2, none⟩ = some (.string (pkS f.key)) ∧ w'.cell? ⟨c9, 3, none⟩ = some (.int .i64 (pkA f.key)) ∧ w'.cell? ⟨c9, 4, none⟩ = some (.int .i64 (kindW f.type.1)) ∧ w'.cell? ⟨c9, 5, none⟩ = some (.string f.type.1) ∧ w'.cell? ⟨c9, 6, none⟩ = some (.int .i64 f.type.2) ∧ w'.cell? ⟨c9, 7, none⟩ = some (.int .i64 (kindW f.name.1)) ∧ w'.cell? ⟨c9, 8, none⟩ = some (.string f.name.1) ∧ w'.cell? ⟨c9, 9, none⟩ = some (.int .i64 f.name.2) ∧ w'.cell? ⟨c9, 10, none⟩ = some (.int .i64 (kindW f.num.1)) ∧ w'.cell? ⟨c9, 11, none⟩ = some (.string f.num.1) ∧ w'.cell? ⟨c9, 12, none⟩ = some (.int .i64 f.num.2) ∧ w'.cell? ⟨pb, 0, none⟩ = some (.int .i64 (pkK p.oneof)) ∧ w'.cell? ⟨pb, 1, none⟩ = some (.string (pkS p.oneof)) ∧ w'.cell? ⟨pb, 2, none⟩ = some (.int .i64 (pkA p.oneof)) ∧ w'.cell? ⟨pb, 3, none⟩ = some (.slice fa p.fields.length fc)
theorem RS.of {f : FieldR} {p : PartR} {fa : Option Addr} {fc c9 pb : Nat} {w' : World} (h : Blk w' c9 (FC f) 167) (k : Blk w' pb #[.int .i64 (pkK p.oneof), .string (pkS p.oneof), .int .i64 (pkA p.oneof), .slice fa p.fields.length fc] 164) : RS f p fa fc c9 pb w' :=
  ⟨h.cell 0, h.cell 1, h.cell 2, h.cell 3, h.cell 4, h.cell 5, h.cell 6, h.cell 7, h.cell 8, h.cell 9, h.cell 10, h.cell 11, h.cell 12, k.cell 0, k.cell 1, k.cell 2, k.cell 3⟩

/-- A field's type, as a value. -/
def FtOK (w' : World) (P : Nat → Prop) (mp : ByteArray → Option Nat) (f : FieldR) (tb : Int) (tv : Value) : Prop :=
  if f.form = 4 then tb = 16 ∧ ∃ eb, tv = ptrV (some eb) ∧ EntAt w' P mp (pkS f.key) f.type.1 eb else tb = tyB mp f.type.1 ∧ tv = ptrV (tyP mp f.type.1)
theorem FtOK.keep {w w' : World} {P : Nat → Prop} (hk : ∀ b, P b → b < w.heap.size → w'.heap[b]? = w.heap[b]?) {mp : ByteArray → Option Nat} {f : FieldR} {tb : Int} {tv : Value} (h : FtOK w P mp f tb tv) : FtOK w' P mp f tb tv := by
  unfold FtOK at h ⊢
  split at h
  · rename_i h0
    rw [if_pos h0]
    obtain ⟨h1, eb, h2, h3⟩ := h
    exact ⟨h1, eb, h2, h3.keep hk⟩
  · rename_i h0
    rw [if_neg h0]
    exact h
theorem FtOK.mono {w : World} {P Q : Nat → Prop} (hs : ∀ b, P b → b < w.heap.size → Q b) {mp : ByteArray → Option Nat} {f : FieldR} {tb : Int} {tv : Value} (h : FtOK w P mp f tb tv) : FtOK w Q mp f tb tv := by
  unfold FtOK at h ⊢
  split at h
  · rename_i h0
    rw [if_pos h0]
    obtain ⟨h1, eb, h2, h3⟩ := h
    exact ⟨h1, eb, h2, h3.mono hs⟩
  · rename_i h0
    rw [if_neg h0]
    exact h
theorem b_fieldType' (w : World) (b n : Nat) (mp : ByteArray → Option Nat) (f : FieldR) (hg : TyGood f) (H : PtrMap w b n mp) (hb : BOK w) :
    Calls Tryz.prog 68 #[.map (some b), .agg (FC f)] w fun e w' => ∃ tb tv, e = .returned (.agg #[.int .i64 tb, tv]) ∧ FtOK w' (fun b => w.heap.size ≤ b) mp f tb tv ∧ Below w.heap.size w w' := by
  refine (b_fieldType w b n mp f hg H hb).mono ?_
  rintro e w' ⟨h1, h2⟩
  unfold FtRet at h1
  by_cases h0 : f.form = 4
  · rw [if_pos h0] at h1
    obtain ⟨eb, rfl, h3⟩ := h1
    exact ⟨16, _, rfl, by unfold FtOK; rw [if_pos h0]; exact ⟨rfl, eb, rfl, h3⟩, h2⟩
  · rw [if_neg h0] at h1
    exact ⟨_, _, h1, by unfold FtOK; rw [if_neg h0]; exact ⟨rfl, rfl⟩, h2⟩
/-- The field that is made. -/
theorem fld_made {w : World} {P : Nat → Prop} {mp : ByteArray → Option Nat} {p : PartR} {f : FieldR} {fb : Nat} {tb : Int} {tv rv : Value} (hb : Blk w fb #[.int .i64 (numR f), .int .i64 f.form, .int .i64 tb, tv, rv] 176) (hp : P fb)
    (hr : RowIn w P 3 1 rv (rivR p f).length (intCells (rivR p f))) (ht : FtOK w P mp f tb tv) : FldAt w P mp (gfOf p f) fb := by
  unfold FtOK at ht
  unfold FldAt
  show if f.form = 4 then _ else _
  split at ht
  · rename_i h0
    rw [if_pos h0]
    obtain ⟨rfl, eb, rfl, h3⟩ := ht
    rw [h0] at hb
    exact ⟨rv, eb, hb, hp, hr, h3⟩
  · rename_i h0
    rw [if_neg h0]
    obtain ⟨rfl, rfl⟩ := ht
    exact ⟨rv, hb, hp, hr⟩

end Go.Proofs.YtbbbegjedmicpaaGreatDoor
