import Derived.Test.YtbbbegjedmicpaaGreatDoorRowF
import Derived.Test.YtbbbegjedmicpaaGreatDoorRowG
import Derived.Test.YtbbbegjedmicpaaGreatDoorRowH
import Derived.Test.YtbbbegjedmicpaaGreatDoorRowI
import Derived.Test.YtbbbegjedmicpaaGreatDoorTie
import Derived.Test.YtbbbegjedmicpaaGreatDoorCards
import Derived.SevenTiedAt
import Derived.Test.YtbbbegjedmicpaaGreatDoorRefS
import Derived.Test.YtbbbegjedmicpaaGreatDoorEqF

/-
  THE ROW AND ITS CARD, by the law's contract.
-/
namespace Go.Proofs.YtbbbegjedmicpaaGreatDoor
open Go.ChangeShapes Go.WideShapes Go.ChangeAt Go.RowKit

/-- What is asked of the law's walk. -/
def Walked : Prop := ∀ (w : World) (t : ByteArray) (again : Int), t.size ≤ 140737488355328 → -9223372036854775808 ≤ again → again ≤ 9223372036854775807 → GOK w → BOK w →
  Calls Tryz.prog 3 #[.string t, .int .i64 again] w fun e w' => e = .returned (.bool true) ∧ Below w.heap.size w w'

theorem shut_str {H : Type} {enc : TypeId × Value → H} {W : World} {b : Nat} {sp : Nat → Bool} {hd : Bool} (s : ByteArray) (hs : s.size ≤ maxLen) : DataW.Trod enc Tryz.prog W b sp hd 9 (.string s) (.lit (.string s.data.toList)) [] :=
  ⟨1, by simp [DataW.trod, Tryz.underlying9, hs, Value.cells]⟩

set_option maxRecDepth 100000 in
theorem lifted (hc : Walked) (os : Os) (started : os.Started) (H : Type) (enc : TypeId × Value → H) :
    ReturnsInHanded {} Tryz.checked os 3 .any (fun w args => (Rows.parsesSpec.pre enc Tryz.prog Tryz.f3 [] false w args ∧ laidMetH Tryz.prog Rows.parsesRow.laid w) ∧ sizedMet enc Tryz.prog Tryz.f3 (OpenSpec.ofChange Rows.parsesSpec) false w args)
      (Rows.parsesSpec.post enc Tryz.prog Tryz.f3 false true false false) := by
  refine returnsInHanded_of_change_and (C := Tryz.checked) (X := fun w _ => laidMetH Tryz.prog Rows.parsesRow.laid w) (fun _ _ _ hh h => h.of_heap hh) own started (by kernel_rfl) Tryz.func3
    (ChangeSpec.witness_shaped (enc := enc) (C := Tryz.checked) (os := os) (X := fun w _ => laidMetH Tryz.prog Rows.parsesRow.laid w) false (World.doorLaid Tryz.prog 400 os) #[.string ⟨#[]⟩, .int .i64 0] 8 rfl (World.shaped_of_RefB (by kernel_rfl) (by kernel_rfl)) (by kernel_rfl) (by kernel_rfl) (by kernel_rfl) (door_met os _)) ?_
  intro W base args ds gs before hval0 hW _ hsz hL _
  have hval : ∀ (j : Nat) t v, Tryz.f3.params[j]? = some t → args[j]? = some v → Value.okWide Tryz.prog W .any base t v := hval0
  have hW' := hW
  obtain ⟨p, q, hA0, hV, rfl, hfz, hnd⟩ := hW
  have hA : DataW.TrodAll enc Tryz.prog W 0 (fun _ => true) true Tryz.f3.params.toList args.toList ds p := hA0
  rw [Tryz.params3] at hA hval
  obtain ⟨v0, v1, d0, d1, p0, p1, rfl, rfl, rfl, h0, h1⟩ := trodAll_two hA
  obtain ⟨rfl, rfl⟩ := trodVars_none hV
  obtain ⟨s, rfl, rfl, rfl, hs⟩ := ChangeMaps.open_string Tryz.underlying9 (hval 0 9 v0 rfl rfl) h0
  obtain ⟨n, rfl, rfl, rfl, hwn⟩ := open_int Tryz.underlying3 (hval 1 3 v1 rfl rfl) h1
  obtain ⟨hg, hbo⟩ := gok_of_laid hL
  have hlen : s.data.toList.length ≤ reachBytes := sized_string hsz (j := 0) (t := 9) rfl rfl
  have hlen2 : s.size ≤ 140737488355328 := by
    have := reachBytes_lt
    have e : s.data.toList.length = s.size := by rw [Array.length_toList]; rfl
    omega
  have hn : -9223372036854775808 ≤ n ∧ n ≤ 9223372036854775807 := by
    have h2 : (decide (IntKind.i64.min ≤ n) && decide (n ≤ IntKind.i64.max)) = true := hwn
    simp only [Bool.and_eq_true, decide_eq_true_eq] at h2
    exact h2
  clear hA0 hval0
  simp only [List.append_nil] at hW'
  refine (hc W s n hlen2 hn.1 hn.2 hg hbo).mono fun e W' ⟨he, hb⟩ => ?_
  subst he
  have e1 : Rows.parsesSpec.fn H ([.lit (.string s.data.toList), .lit (.int .i64 n)] ++ []) = { results := [.lit (.bool true)], args := [.lit (.string s.data.toList), .lit (.int .i64 n)] } := by simp [Rows.parsesSpec]
  refine ⟨_, rfl, _, _, _, [], [], [], hW', ?_, ?_, ?_, hb.frame _, fun h => by cases h⟩
  · rw [e1]; exact trodAll_mk1 (shut_bool Tryz.underlying4 true)
  · rw [e1]; exact trodAll_mk2 (shut_str s hs) (shut_int Tryz.underlying3 hwn)
  · rw [e1]; rfl

set_option maxRecDepth 100000 in
theorem facts : joinedFacts Tryz.prog 3 Tryz.f3 Rows.parsesSpec Rows.parsesRow = true := by
  unfold joinedFacts
  rw [fa1, fa2, fa3, fa4, fa5, fa6, fa7, fa8]
  kernel_rfl

theorem parses_of (hc : Walked) : Rows.ParsesSaid :=
  OpenClaim.holds_of_wide 3 Tryz.f3 rfl rfl rfl rfl rfl rfl rfl ⟨rfl, rfl, rfl, rfl, rfl⟩ rfl rfl rfl rfl rfl (by kernel_rfl) Tryz.func3 facts
    (of_decide_eq_true (by kernel_rfl)) (by unfold Func.isWrapper; first | (rw [if_pos (by decide +kernel)]; kernel_rfl) | (rw [if_neg (by decide +kernel)]; exact ⟨rfl, rfl⟩))
    (fun os started H enc _ => lifted hc os started H enc)

/-- The card, by the builder. -/
theorem card_of (hc : Walked) : Rows.ParsesCardSaid :=
  Claim7.holds_tied_plain_at .later [] [.data, .data, .data, .sentinel, .sentinel, .data] true (true, "96af730142d50b0bbad8124077453336a9942b78e31cd7b352d86f0ed1aa55b8") true
    (parses_of hc) (fun _ h => by cases h) (by kernel_rfl) (fun _ h => by cases h) parses_row_tie rfl ⟨rfl, rfl⟩ (by kernel_rfl) rfl
    (fun f fn hf hfn => by
      obtain rfl : f = 3 := Option.some.inj ((show Tryz.prog.funcNamed "twinwire/twinwirelaw.Parses" = some 3 by kernel_rfl).symm.trans hf) |>.symm
      obtain rfl : fn = Tryz.f3 := (Option.some.inj (Tryz.func3.symm.trans hfn)).symm
      exact ⟨by kernel_rfl, fun j t ht => by
        rw [Tryz.params3] at ht
        have hm : t ∈ [9, 3] := by simpa using Array.mem_of_getElem? ht
        have hall : ([9, 3].all fun u => !Tryz.prog.wantsStandIn u) = true := by kernel_rfl
        exact (show Tryz.prog.wantsStandIn t = false by simpa using List.all_eq_true.1 hall t hm)⟩)
    fa9

end Go.Proofs.YtbbbegjedmicpaaGreatDoor

/-
  THE STATEMENT: Parses.
-/
namespace Go.Proofs.YtbbbegjedmicpaaGreatDoor
open Go.RowKit

theorem doc_ret (w : World) (t : ByteArray) (h : t.size ≤ 140737488355328) : Calls Tryz.prog 7 #[.string t] w (DocRet RefNm w (readI t)) := by
  refine (c6 w t h).mono ?_
  intro e w' hr
  rw [ref_is t] at hr
  cases hq : readI t with
  | error q =>
    rw [hq] at hr
    exact hr
  | ok bs =>
    rw [hq] at hr
    obtain ⟨⟨sb, h1, h2, _⟩, h3⟩ := hr
    refine ⟨⟨sb, h1, _, h2, ?_⟩, h3⟩
    unfold schD msgNames mtD
    simp

theorem walked : Walked := fun w t again h1 h2 h3 hg hbo =>
  c3_of RefNm (fun _ _ _ _ _ _ h hb hn => h.keep hb hn) (fun w sb lo l hl hr => c10 w sb lo l hl hr) doc_ret w t again h1 h2 h3 hg hbo

theorem parses_holds : Rows.ParsesCardSaid := card_of walked
#print axioms parses_holds

end Go.Proofs.YtbbbegjedmicpaaGreatDoor
