import Derived.Test.YtbbbegjedmicpaaGreatDoorBuE
import Derived.Test.YtbbbegjedmicpaaGreatDoorCkF
import Derived.Deep.AppendLies
import Derived.Deep.CutRange

/-
  CONTRACT: model.rivals.
-/
namespace Go.Proofs.YtbbbegjedmicpaaGreatDoor
open Go.RowKit Go.Maps
attribute [local go_sem ↓] Go.wp_at_zero Go.wp_at_succ

theorem Tryz.info3 : (Tryz.prog.info? 3).map (fun i => (i.zero, i.size, i.bytes)) = some (some (.int .i64 0), 1, 8) := by kernel_rfl
def numGood (f : FieldR) : Prop := numOK f.num.1 ∧ numV f.num.1 ≤ 536870911
def rivF (f : FieldR) (l : List FieldR) : List Int := (l.filter fun o => decide (numR o ≠ numR f)).map numR
theorem rivF_snoc (f o : FieldR) (l : List FieldR) : rivF f (l ++ [o]) = rivF f l ++ (if numR o = numR f then [] else [numR o]) := by
  unfold rivF
  by_cases h : numR o = numR f <;> simp [h]

set_option maxRecDepth 100000 in
set_option maxHeartbeats 268435456 in
theorem b_rivals (w : World) (p : PartR) (f : FieldR) (fa : Option Addr) (fc : Nat) (S : Nat → Prop) (hrow : RowIn w S 167 13 (.slice fa p.fields.length fc) p.fields.length (p.fields.flatMap fcI)) (hlen : p.fields.length ≤ 2001)
    (hf : numGood f) (hps : ∀ o ∈ p.fields, numGood o) (hg : GOK w) :
    Calls Tryz.prog 69 #[.agg #[.int .i64 (pkK p.oneof), .string (pkS p.oneof), .int .i64 (pkA p.oneof), .slice fa p.fields.length fc], .agg (FC f)] w fun e w' => ∃ v, e = .returned v ∧ w'.ownsRow w.heap.size 3 1 v (rivR p f).length (intCells (rivR p f)) ∧ Below w.heap.size w w' := by
  obtain ⟨i0, hi0, hz0, hz1, hz2⟩ := info_parts Tryz.info3
  have B0 := ((Below.refl w.heap.size w).alloc (Nat.le_refl _) (Obj.cells #[.int .i64 (pkK p.oneof), .string (pkS p.oneof), .int .i64 (pkA p.oneof), .slice fa p.fields.length fc] 164)).alloc (by simp) (FO f)
  have KF0 : Blk ((w.alloc (Obj.cells #[.int .i64 (pkK p.oneof), .string (pkS p.oneof), .int .i64 (pkA p.oneof), .slice fa p.fields.length fc] 164)).alloc (FO f)) (w.heap.size + 1) (FC f) 167 := by
    have := Blk.new (w.alloc (Obj.cells #[.int .i64 (pkK p.oneof), .string (pkS p.oneof), .int .i64 (pkA p.oneof), .slice fa p.fields.length fc] 164)) (FC f) 167
    simpa using this
  have e0 : rivR p f = rivF f p.fields := rfl
  rw [e0]
  go_enter Tryz.func69, Tryz.ntmps69
  go_wp2
  go_loopw [5, 11] (fun v i wr => ∃ (k : Nat), k ≤ p.fields.length ∧ i = .int .i64 k ∧ wr.ownsRow w.heap.size 3 1 v (rivF f (p.fields.take k)).length (intCells (rivF f (p.fields.take k))) ∧ Blk wr (w.heap.size + 1) (FC f) 167 ∧ v.ownBlock ≠ some (w.heap.size + 1) ∧ Below w.heap.size w wr) (fun _ i _ => p.fields.length - (intOf i).toNat)
  case atStart => exact ⟨0, Nat.zero_le _, rfl, World.ownsRow_nil _ _ _ _, KF0, (by intro h; cases h), B0⟩
  case round =>
    obtain ⟨k, hk, rfl, hown, KF, hne, CW⟩ := hrel
    by_cases hlt : k < p.fields.length
    · obtain ⟨o, ho⟩ := gx hlt
      have hom : o ∈ p.fields := List.mem_of_getElem? ho
      have htake : p.fields.take (k + 1) = p.fields.take k ++ [o] := by rw [List.take_add_one, ho]; rfl
      obtain ⟨gf, rfl, _, hgfl, hcellf⟩ := ownsRow_at hrow.1 (by omega)
      have hcf := hcellf wr (CW.block gf hgfl)
      obtain ⟨t0, t1, t2, t3, t4, t5, t6, t7, t8, t9, t10, t11, t12⟩ := fc_cells ho hcf
      have hgo := hps o hom
      have KO := Blk.new wr (FC o) 167
      have CA := CW.alloc CW.size (FO o)
      have KF1 := KF.alloc (FO o)
      have hown1 := hown.alloc (FO o)
      have hnum : Hid (rivF f (p.fields.take (k + 1)) = rivF f (p.fields.take k) ++ (if numR o = numR f then [] else [numR o])) := by rw [htake]; exact rivF_snoc f o _
      have hll : (rivF f (p.fields.take k)).length ≤ 2001 := by
        unfold rivF
        rw [List.length_map]
        exact Nat.le_trans (List.length_filter_le _ _) (by rw [List.length_take]; omega)
      generalize rivF f (p.fields.take k) = L at hown hown1 hnum hll
      clear hcellf hcf ho hom htake hown KF
      go_upto_region 5 with fail
      clear t0 t1 t2 t3 t4 t5 t6 t7 t8 t9 t10 t11 t12
      generalize hw1 : wr.alloc (FO o) = w1 at *
      have zo : wr.heap.size < w1.heap.size := KO.lt
      clear hw1
      have HC1 : Hid (Calls Tryz.prog 67 #[.agg (FC o)] w1.drew (fun e w' => e = .returned (.int .i64 (numR o)) ∧ Below w1.drew.heap.size w1.drew w')) := b_number _ o hgo.1 hgo.2 (hg.keep (CA.block _ hg.lt))
      have HC2 : Hid (∀ w2 : World, Below w1.drew.heap.size w1.drew w2 → Calls Tryz.prog 67 #[.agg (FC f)] w2 (fun e w' => e = .returned (.int .i64 (numR f)) ∧ Below w2.heap.size w2 w')) := fun w2 h2 => b_number w2 f hf.1 hf.2 (hg.keep ((below_nx CA.drew h2).block _ hg.lt))
      have HC3 : Hid (∀ w3 : World, Below w.heap.size w w3 → Calls Tryz.prog 67 #[.agg (FC o)] w3 (fun e w' => e = .returned (.int .i64 (numR o)) ∧ Below w3.heap.size w3 w')) := fun w3 h3 => b_number w3 o hgo.1 hgo.2 (hg.keep (h3.block _ hg.lt))
      have CAd : Below w.heap.size w w1.drew := CA.drew
      have KOd := KO.drew
      have KFd := KF1.drew
      have hownd : w1.drew.ownsRow w.heap.size 3 1 u5 L.length (intCells L) := hown1
      obtain ⟨o1, o2⟩ := KOd.rules
      obtain ⟨f1, f2⟩ := KFd.rules
      go_cut [11, 19] from 11 to 25 (fun i c wx => i = .int .i64 (k : Int) ∧ c = .bool (!(numR o == numR f)) ∧ Below w1.drew.heap.size w1.drew wx)
      case first =>
        go_region_with (first | (go_at_call 67; refine (HC2.out w2 b2).mono ?_; rintro e w3 ⟨rfl, b3⟩) | (go_at_call 67; refine HC1.out.mono ?_; rintro e w2 ⟨rfl, b2⟩; obtain ⟨q1, q2⟩ := (KFd.below b2 KFd.lt).rules))
        all_goals
          go_wp2
          go_meet
          case rel => exact ⟨rfl, rfl, below_nx b2 b3⟩
      case rest =>
        obtain ⟨rfl, rfl, bc⟩ := hcut
        have CC := below_nx CAd bc
        have hownc := ownsRow_below bc hownd
        have KOc := KOd.below bc KOd.lt
        have KFc := KFd.below bc KFd.lt
        clear o1 o2 f1 f2
        obtain ⟨o1, o2⟩ := KOc.rules
        cases hq : (numR o == numR f)
        · have hne2 : ¬ numR o = numR f := by simpa using hq
          have hn2 := hnum.out
          rw [if_neg hne2] at hn2
          go_wp2_with fail
          refine (HC3.out wc CC).mono ?_
          rintro e w4 ⟨rfl, b4⟩
          have C4 := below_nx CC b4
          have hown4 := ownsRow_below b4 hownc
          have KF4 := KFc.below b4 KFc.lt
          clear o1 o2
          go_wp2_with (first | (at_builtin; refine wpList_append_own_at _ rfl _ _ 35 rfl w.heap.size 3 i0 _ 1 8 Tryz.underlying35 hi0 hz0 hz1 hz2 rfl (by decide) u5 _ _ rfl (hown4.alloc _) _ 1 1 [_] rfl rfl (cell_one_new _ _ _) ?h1 ?h63 ?hby ?hba ?_; rotate_right; intro v' w5 hown5 hgrow hnil hloc))
          case h1 => intro u hu; simp at hu; subst hu; rfl
          case h63 => unfold maxLen; omega
          case hby => omega
          case hba => have := C4.size; simp; omega
          refine ⟨⟨k + 1, by omega, by go_num, ?_, ?_, ?_, ?_⟩, by simp [intOf]; omega⟩
          · rw [hn2]
            simpa [intCells] using hown5
          · exact (KF4.alloc _).grown hgrow (fun e => hne e.symm)
          · intro e
            rcases hloc with h | h
            · exact hne (h.symm.trans e)
            · rw [h] at e
              have e2 := Option.some.inj e
              have := KF4.lt
              simp at e2
              omega
          · exact (C4.alloc C4.size _).grown hgrow (by have := C4.size; simp; omega) (fun j hj => (hown4.lt j hj).1)
        · have hn2 := hnum.out
          rw [if_pos (by simpa using hq), List.append_nil] at hn2
          go_wp2
          go_roundw
          case rel => exact ⟨k + 1, by omega, rfl, by rw [hn2]; exact hownc, KFc, hne, CC⟩
          case measure => simp [intOf]; omega
    · have hli : decide ((k : Int) < (p.fields.length : Int)) = false := by simp; omega
      obtain rfl : k = p.fields.length := by omega
      rw [List.take_length] at hown
      go_wp2
      go_ret
      exact ⟨_, rfl, hown, CW⟩

end Go.Proofs.YtbbbegjedmicpaaGreatDoor
