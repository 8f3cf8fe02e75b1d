import Derived.Test.YtbbbegjedmicpaaGreatDoorRows
import Derived.Test.YtbbbegjedmicpaaGreatDoorLawF
import Derived.ProofKit
import Derived.LaidMore
import Derived.OpenShut
import Derived.SizedLaws
import Derived.Stop.Joined
import Derived.Stop.LaidErr

/-
  THE ROW, by the law's contract: what the condition gives the walk.
-/
namespace Go.Proofs.YtbbbegjedmicpaaGreatDoor
open Go.ChangeShapes Go.WideShapes Go.ChangeAt Go.RowKit

theorem own : ownKnob Tryz.prog.godebug = none := by kernel_rfl
theorem gRange : Tryz.prog.globalNamed "strconv.ErrRange" = some 4 := by kernel_rfl
theorem gRangeT : (Tryz.prog.globals[4]?).map (·.type) = some 288 := by kernel_rfl
theorem gWords : Tryz.prog.globalNamed "twinwire/model.baseWords" = some 0 := by kernel_rfl
theorem gWordsT : (Tryz.prog.globals[0]?).map (·.type) = some 340 := by kernel_rfl
theorem cellsE : Tryz.prog.cellsOf 402 = 1 := by kernel_rfl
theorem cellsS : Tryz.prog.cellsOf 9 = 1 := by kernel_rfl
theorem cellsW : Tryz.prog.cellsOf 340 = 15 := by kernel_rfl
theorem star : "*" ++ "errors.errorString" = "*errors.errorString" := by decide
theorem rowE (u : TypeId) (h : Tryz.prog.typeName? 3 u = some "*errors.errorString") : u = 400 :=
  typeName_ptr_named (nm := "errors.errorString") (by rw [star]; kernel_rfl) (by kernel_rfl) (by decide) u (by rw [star]; exact h)

theorem str_of_trod {H : Type} {enc : TypeId × Value → H} {P : Program} {w : World} {base : Nat} {sp : Nat → Bool} {held : Bool} {fuel : Nat} {t : TypeId} {c : Value} {y : DataW H × List MemPlace}
    (ht : P.underlying t = some .string) (h : DataW.trod enc P w base sp held fuel t [c] = some y) : ∃ s, c = .string s ∧ y = (.lit (.string s.data.toList), []) := by
  cases fuel with
  | zero => simp [DataW.trod] at h
  | succ fuel =>
    cases c <;> simp [DataW.trod, ht] at h
    rename_i s
    obtain ⟨_, rfl⟩ := h
    exact ⟨s, rfl, rfl⟩
theorem bytes_of {s : ByteArray} {l : List UInt8} (h : s.data.toList = l) : s = ⟨l.toArray⟩ := by
  cases s
  simp only at h
  subst h
  rfl

set_option maxHeartbeats 2000000 in
theorem words_of_laid {W : World} (h : laidMet Tryz.prog [("twinwire/model.baseWords", Rows.laid_twinwire_model_baseWords)] W) : W.var? Tryz.prog "twinwire/model.baseWords" = some (btl.map Value.string).toArray := by
  obtain ⟨ps, ⟨g, t, cs, fuel, p, q, hg, ht, hvar, hd, _, _⟩, _⟩ := h
  obtain rfl := Option.some.inj (gWords.symm.trans hg)
  obtain rfl := Option.some.inj (gWordsT.symm.trans ht)
  rw [hvar]
  congr 1
  obtain ⟨l⟩ := cs
  cases fuel with
  | zero => simp [DataW.trod] at hd
  | succ fuel =>
    simp only [DataW.trod, Tryz.underlying340, cellsW, cellsS] at hd
    split at hd
    · rename_i hl
      obtain ⟨c0, c1, c2, c3, c4, c5, c6, c7, c8, c9, c10, c11, c12, c13, c14, rfl⟩ : ∃ c0 c1 c2 c3 c4 c5 c6 c7 c8 c9 c10 c11 c12 c13 c14, l = [c0, c1, c2, c3, c4, c5, c6, c7, c8, c9, c10, c11, c12, c13, c14] := by
        match l, hl with
        | [a0, a1, a2, a3, a4, a5, a6, a7, a8, a9, a10, a11, a12, a13, a14], _ => exact ⟨a0, a1, a2, a3, a4, a5, a6, a7, a8, a9, a10, a11, a12, a13, a14, rfl⟩
      have e : List.range 15 = [0, 1, 2, 3, 4, 5, 6, 7, 8, 9, 10, 11, 12, 13, 14] := rfl
      rw [e] at hd
      simp only [Option.map_eq_some_iff, List.mapM_cons, List.mapM_nil, Option.bind_eq_bind, Option.bind_eq_some_iff, Option.pure_def, Option.some.injEq] at hd
      obtain ⟨xs, ⟨y0, h0, _, ⟨y1, h1, _, ⟨y2, h2, _, ⟨y3, h3, _, ⟨y4, h4, _, ⟨y5, h5, _, ⟨y6, h6, _, ⟨y7, h7, _, ⟨y8, h8, _, ⟨y9, h9, _, ⟨y10, h10, _, ⟨y11, h11, _, ⟨y12, h12, _, ⟨y13, h13, _, ⟨y14, h14, _, rfl, rfl⟩, rfl⟩, rfl⟩, rfl⟩, rfl⟩, rfl⟩, rfl⟩, rfl⟩, rfl⟩, rfl⟩, rfl⟩, rfl⟩, rfl⟩, rfl⟩, rfl⟩, hx⟩ := hd
      obtain ⟨n0, rfl, rfl⟩ := str_of_trod Tryz.underlying9 h0
      obtain ⟨n1, rfl, rfl⟩ := str_of_trod Tryz.underlying9 h1
      obtain ⟨n2, rfl, rfl⟩ := str_of_trod Tryz.underlying9 h2
      obtain ⟨n3, rfl, rfl⟩ := str_of_trod Tryz.underlying9 h3
      obtain ⟨n4, rfl, rfl⟩ := str_of_trod Tryz.underlying9 h4
      obtain ⟨n5, rfl, rfl⟩ := str_of_trod Tryz.underlying9 h5
      obtain ⟨n6, rfl, rfl⟩ := str_of_trod Tryz.underlying9 h6
      obtain ⟨n7, rfl, rfl⟩ := str_of_trod Tryz.underlying9 h7
      obtain ⟨n8, rfl, rfl⟩ := str_of_trod Tryz.underlying9 h8
      obtain ⟨n9, rfl, rfl⟩ := str_of_trod Tryz.underlying9 h9
      obtain ⟨n10, rfl, rfl⟩ := str_of_trod Tryz.underlying9 h10
      obtain ⟨n11, rfl, rfl⟩ := str_of_trod Tryz.underlying9 h11
      obtain ⟨n12, rfl, rfl⟩ := str_of_trod Tryz.underlying9 h12
      obtain ⟨n13, rfl, rfl⟩ := str_of_trod Tryz.underlying9 h13
      obtain ⟨n14, rfl, rfl⟩ := str_of_trod Tryz.underlying9 h14
      simp [Rows.laid_twinwire_model_baseWords] at hx
      obtain ⟨⟨x0, x1, x2, x3, x4, x5, x6, x7, x8, x9, x10, x11, x12, x13, x14⟩, _⟩ := hx
      have z0 := bytes_of x0
      have z1 := bytes_of x1
      have z2 := bytes_of x2
      have z3 := bytes_of x3
      have z4 := bytes_of x4
      have z5 := bytes_of x5
      have z6 := bytes_of x6
      have z7 := bytes_of x7
      have z8 := bytes_of x8
      have z9 := bytes_of x9
      have z10 := bytes_of x10
      have z11 := bytes_of x11
      have z12 := bytes_of x12
      have z13 := bytes_of x13
      have z14 := bytes_of x14
      subst z0 z1 z2 z3 z4 z5 z6 z7 z8 z9 z10 z11 z12 z13 z14
      rfl
    · cases hd

/-- What the condition gives the walk. -/
theorem gok_of_laid {W : World} (h : laidMetH Tryz.prog Rows.parsesRow.laid W) : GOK W ∧ BOK W := by
  rw [MakeChecks.laidMetH_plain _ _ _ (by kernel_rfl)] at h
  have h4 : laidMet Tryz.prog [("strconv.ErrRange", Rows.laid_strconv_ErrRange), ("strconv.ErrSyntax", Rows.laid_strconv_ErrSyntax), ("twinwire/model.baseWords", Rows.laid_twinwire_model_baseWords)] W := h.tail.tail.tail
  have h6 := words_of_laid h4.tail.tail
  obtain ⟨a, s, hv, _⟩ := laid_sentinel h4 gRange gRangeT Tryz.underlying288 rowE Tryz.underlying400 Tryz.underlying402 rfl rfl Tryz.underlying9 cellsE cellsS
  refine ⟨⟨_, by simpa using World.var?_cell gRange hv 0, .inr ⟨_, _, rfl⟩⟩, fun i v hi => ?_⟩
  have := World.var?_cell gWords h6 i
  rw [this]
  simpa using hi

set_option maxRecDepth 100000 in
/-- The door's own heap meets the condition. -/
theorem door_met (os : Os) (args : Array Value) : laidMetH Tryz.prog Rows.parsesRow.laid ((World.doorLaid Tryz.prog 400 os).forCall (fun _ _ => 0) ⟨#[], args, []⟩).memory :=
  laidMetH_of_parts3 (fuel := 8) (laidMet_of_run' 8 (by kernel_rfl) (by kernel_rfl)) (by kernel_rfl) (by kernel_rfl)

end Go.Proofs.YtbbbegjedmicpaaGreatDoor
