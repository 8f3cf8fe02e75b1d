import Derived.Test.YtbbbegjedmicpaaGreatDoorRdE
import Derived.Deep.RegionHeld3
import Derived.Deep.AppendLies
import Derived.Deep.DrawnRows
import Derived.Deep.RegionLaw
import Derived.Deep.CutRange
import Derived.Deep.Light

/-
  CONTRACT: oneof.
-/
namespace Go.Proofs.YtbbbegjedmicpaaGreatDoor
open Go.RowKit
attribute [local go_sem] f91_0 f91_1 f91_2
attribute [local go_sem ↓] Go.wp_at_zero Go.wp_at_succ
theorem tkO {P : Program} {ops : Array Oper} {Q : Exit → Act → World → Prop} {md : Region.Mode} {S : World → Prop} (i : Nat) (v : Value) {oi : Oper} {fuel : Nat} {listed : Array Bool} {a : Act} {w : World} (hi : ops[i]? = some oi)
    (hc : (Region.noSelect ops && (Region.free md ops listed i && (Region.ready md ops listed).contains i)) = true) (hQ : ∀ c a w, Q (.panic c) (a.put oi.dst v) w → Q (.panic c) a w) (hy : YieldsIf P ops S oi v a) (hS : S w)
    (h : wpAnyH P md ops Q S fuel (listed.setIfInBounds i true) (a.put oi.dst v) w) : wpAnyH P md ops Q S (fuel + 1) listed a w := by
  rw [Bool.and_eq_true, Bool.and_eq_true] at hc
  exact wpAnyH_take hi hc.1 hc.2.1 hc.2.2 hQ hy hS h

set_option maxRecDepth 100000 in
set_option maxHeartbeats 268435456 in
theorem c77 (w : World) (rb wb : Nat) (ws : List W) (i : Nat) (R : Rd w rb wb ws i) :
    Calls Tryz.prog 240 #[.pointer (some ⟨rb, 0, none⟩)] w (Post w rb wb ws (oneofP ws i) fun p w' e => ∃ fv, e = .returned (.agg ((keyV p.oneof ++ [fv]).toArray)) ∧ w'.ownsRow w.heap.size 167 13 fv p.fields.length (p.fields.flatMap fcI)) := by
  obtain ⟨i0, hi0, hz0, hz1, hz2⟩ := info_parts Tryz.info167
  have A0 : Adv w.heap.size rb w (w.alloc (Obj.cells #[.int .i64 0, .string ⟨#[]⟩, .int .i64 0, .slice none 0 0] 164)) i := Adv.of_below R.next ((Below.refl w.heap.size w).alloc (Nat.le_refl _) _)
  have R0 := R.alloc (Obj.cells #[.int .i64 0, .string ⟨#[]⟩, .int .i64 0, .slice none 0 0] 164)
  have K0 := Blk.new w #[.int .i64 0, .string ⟨#[]⟩, .int .i64 0, .slice none 0 0] 164
  have n1 : ¬ w.heap.size = rb := by have := R.blocks; omega
  have n3 : ¬ rb = w.heap.size := by omega
  have z0 : w.heap.size < (w.alloc (Obj.cells #[.int .i64 0, .string ⟨#[]⟩, .int .i64 0, .slice none 0 0] 164)).heap.size := by simp
  generalize hr : oneofP ws i = r
  have HR : Hid (oneofP ws i = r) := hr
  clear hr
  go_enter Tryz.func240, Tryz.ntmps240
  go_wp2_with fail
  refine (c67 _ rb wb ws i _ [111, 110, 101, 111, 102] R0 (by decide +kernel) (by decide)).mono ?_
  cases h1 : skipP ws [111, 110, 101, 111, 102] i with
  | error p =>
    rintro e w1 ⟨rfl, j, A⟩
    obtain rfl : r = .error p := by rw [← HR.out, oneofP, andP_err h1]
    unfold fault
    go_wp2
    exact ⟨rfl, rfl, j, A0.trans A (by omega)⟩
  | ok q =>
    obtain ⟨_, i1⟩ := q
    rintro e w1 ⟨rfl, R1, A⟩
    have z1 : w.heap.size < w1.heap.size := Nat.lt_of_lt_of_le z0 A.size
    have K1 := K0.adv_ A z0 n1
    have A1 := A0.trans A (by omega)
    clear A R0 K0 A0 z0
    go_wp2_with fail
    refine (c68 _ rb wb ws i1 1 R1 (by decide)).mono ?_
    cases h2 : kindP ws 1 i1 with
    | error p =>
      rintro e w2 ⟨rfl, j, A⟩
      obtain rfl : r = .error p := by rw [← HR.out, oneofP, andP_go h1, andP_err h2]
      unfold fault
      go_wp2
      exact ⟨rfl, rfl, j, A1.trans A (by omega)⟩
    | ok q =>
      obtain ⟨x, i2⟩ := q
      rintro e w2 ⟨rfl, R2, A⟩
      have z2 : w.heap.size < w2.heap.size := Nat.lt_of_lt_of_le z1 A.size
      have K2 := (K1.adv_ A z1 n1).alloc (Obj.cells #[.int .i64 (kindW x.1), .string x.1, .int .i64 x.2, .slice none 0 0] 164)
      have J2 := Blk.new w2 #[.int .i64 (kindW x.1), .string x.1, .int .i64 x.2, .slice none 0 0] 164
      have A2 := (A1.trans A (by omega)).alloc (Nat.le_refl _) (Obj.cells #[.int .i64 (kindW x.1), .string x.1, .int .i64 x.2, .slice none 0 0] 164)
      have R3 := R2.alloc (Obj.cells #[.int .i64 (kindW x.1), .string x.1, .int .i64 x.2, .slice none 0 0] 164)
      have z3 : w2.heap.size < (w2.alloc (Obj.cells #[.int .i64 (kindW x.1), .string x.1, .int .i64 x.2, .slice none 0 0] 164)).heap.size := by simp
      have n5 : ¬ w2.heap.size = rb := by have := R.blocks; omega
      have n6 : ¬ w2.heap.size = w.heap.size := by omega
      clear A R1 K1 A1 z1
      go_wp2_with fail
      refine (c67 _ rb wb ws i2 _ [123] R3 (by decide +kernel) (by decide)).mono ?_
      cases h3 : skipP ws [123] i2 with
      | error p =>
        rintro e w3 ⟨rfl, j, A⟩
        obtain rfl : r = .error p := by rw [← HR.out, oneofP, andP_go h1, andP_go h2, andP_err h3]
        unfold fault
        go_wp2
        exact ⟨rfl, rfl, j, A2.trans A (by omega)⟩
      | ok q =>
        obtain ⟨_, i3⟩ := q
        rintro e w3 ⟨rfl, R4, A⟩
        have z4 : w2.heap.size < w3.heap.size := Nat.lt_of_lt_of_le z3 A.size
        have K4 := K2.adv_ A (by omega) n1
        have J4 := J2.adv_ A z3 n5
        have A4 := A2.trans A (by omega)
        clear A R2 R3 K2 J2 A2 z3
        go_wp2_with fail
        have j3 := J4.cell 3
        cases h4 : fieldP ws 3 i3 with
        | error p =>
          obtain rfl : r = .error p := by rw [← HR.out, oneofP, andP_go h1, andP_go h2, andP_go h3, andP_err h4]
          refine wp_region_held_drew (S := fun w' => w'.cell? ⟨w2.heap.size, 3, none⟩ = some (.slice none 0 0)) (by kernel_rfl) (by simpa using j3) (fun hHeld => ?_)
          refine tkO 0 (.pointer (some ⟨w2.heap.size, 3, none⟩)) rfl (by kernel_rfl) (fun _ _ _ h => h) (Or.inl ⟨by rfl, fun w hSw => by dsimp only at hSw; go_simp⟩) hHeld ?_
          refine tkO 1 (.slice none 0 0) rfl (by kernel_rfl) (fun _ _ _ h => h) (Or.inl ⟨by rfl, fun w hSw => by dsimp only at hSw; go_simp⟩) hHeld ?_
          refine tkO 2 (.pointer (some ⟨rb, 0, none⟩)) rfl (by kernel_rfl) (fun _ _ _ h => h) (Or.inl ⟨by rfl, fun w hSw => by dsimp only at hSw; go_simp⟩) hHeld ?_
          simp only [Act.put, List.setIfInBounds_toArray, List.set_cons_zero, List.set_cons_succ, List.getElem_toArray, List.getElem_cons_zero, List.getElem_cons_succ]
          refine wpAnyH_ready (rs := [3]) (by kernel_rfl) (by simp) (AllReadyH.cons rfl (fun K hK => ?_) AllReadyH.nil)
          clear hK
          go_simp
          refine (c80l _ rb wb ws i3 3 R4.drew).mono ?_
          rw [h4]
          rintro e w4 ⟨rfl, j, A⟩
          exact ⟨rfl, rfl, j, A4.drew.trans A (by simp; omega)⟩
        | ok q =>
          obtain ⟨f, i4⟩ := q
          have HF : Hid (fcI f = _) := fieldP_lit h4
          obtain ⟨M, HM⟩ : ∃ M, Hid (preP [f] (manyP (isTxt ws [125]) (fieldP ws 3) ws.length i4) = M) := ⟨_, rfl⟩
          have HR2 : Hid ((andP M fun l i => andP (skipP ws [125] i) fun _ i => .ok (⟨some x, l⟩, i)) = r) := by
            have := HR.out
            rw [oneofP, andP_go h1, andP_go h2, andP_go h3, andP_go h4, HM.out] at this
            exact this
          clear HR h1 h2 h3
          go_cut [] from 11 to 17 (fun wr => ∃ (n k : Nat) (fs : List FieldR) (fv : Value), fs.length ≤ k ∧ ws.length - k ≤ n ∧ Hid (preP fs (manyP (isTxt ws [125]) (fieldP ws 3) n k) = M) ∧ Rd wr rb wb ws k ∧ Adv w.heap.size rb w wr k ∧ Blk wr w.heap.size #[.int .i64 0, .string ⟨#[]⟩, .int .i64 0, .slice none 0 0] 164 ∧ Blk wr w2.heap.size #[.int .i64 (kindW x.1), .string x.1, .int .i64 x.2, fv] 164 ∧ wr.ownsRow (w2.heap.size + 1) 167 13 fv fs.length (fs.flatMap fcI) ∧ w2.heap.size < wr.heap.size)
          case first =>
            have J := J4
            have RR := R4
            have HO : Hid (some w2.heap.size ≠ (Value.slice none 0 0).ownBlock) := by simp [Hid, Value.ownBlock]
            go_region_law (first | (refine step_append_lies _ (by rfl) _ _ _ (by rfl) (w2.heap.size + 1) 167 i0 _ 13 136 Tryz.underlying162 hi0 hz0 hz1 hz2 rfl (by omega) (.slice none 0 0) 0 [] (by rfl) (World.ownsRow_nil _ _ _ _) ⟨w4.heap.size, 0, none⟩ 1 1 [_, _, _, _, _, _, _, _, _, _, _, _, _] (by rfl) (by rfl) (World.news_of_block (t := 167) (fr := (0, 0)) (heap_alloc_new w4 _)) (by simp [Value.oneCell']) (by omega) (by unfold maxLen; omega) (by omega) (by have := A.size; simp at this ⊢; omega) (w4.heap.size + 1) (by simp) ?_; intro gg cap w5 hown1 hgrow hat hlt; obtain ⟨x1, x2⟩ := (((J.drew.adv_ A (by simp; omega) n5).alloc _).grown hgrow HO.out).rules) | (go_simp; go_at_call 243; refine (c80l _ rb wb ws i3 3 RR.drew).mono ?_; rw [h4]; rintro e w4 ⟨rfl, R5, A⟩; obtain ⟨y1, y2⟩ := (J.drew.adv_ A (by simp; omega) n5).rules; obtain ⟨y3, y4, y5, y6⟩ := old_alloc (w := w4) (b := w2.heap.size) (by have := A.size; simp at this; omega)))
            all_goals
              go_wp2
              go_meet
              case rel =>
                go_light
                have hz4 : w3.heap.size ≤ w4.heap.size := by have := A.size; simpa using this
                have A6 := ((((A4.drew.trans A (by simp; omega)).alloc (Nat.le_refl _) _).grown hgrow (Nat.le_refl _) (fun k hk => by simp [Value.ownBlock] at hk))).setCell (a := ⟨w2.heap.size, 3, none⟩) (by simp; omega) (.slice (some ⟨gg, 0, none⟩) (0 + 1) cap)
                have hlt2 : i3 < i4 := fieldP_on _ _ _ _ _ h4
                refine ⟨ws.length, i4, [f], .slice (some ⟨gg, 0, none⟩) (0 + 1) cap, by simp; omega, by omega, HM, A6.rd R R.blocks.1 R.blocks.2 R5.lt, A6, ?_, ?_, ?_, ?_⟩
                · exact (((K4.drew.adv_ A (by simp; omega) n1).alloc _).grown hgrow (by simp [Value.ownBlock])).other 3 _ n6
                · exact (((J4.drew.adv_ A (by simp; omega) n5).alloc _).grown hgrow (by simp [Value.ownBlock])).set 3 _
                · have := ownsRow_setCell_below hown1 (a := ⟨w2.heap.size, 3, none⟩) (by simp) (.slice (some ⟨gg, 0, none⟩) (0 + 1) cap)
                  simpa [HF.out] using this
                · have := hgrow.size; simp [World.setCell] at this ⊢; omega
          case rest =>
            clear J4 R4 K4 A4 z4 j3 h4 HF HM
            go_wp2_with fail
            go_loopw [20] (fun _ wr => ∃ (n k : Nat) (fs : List FieldR) (fv : Value), fs.length ≤ k ∧ ws.length - k ≤ n ∧ Hid (preP fs (manyP (isTxt ws [125]) (fieldP ws 3) n k) = M) ∧ Rd wr rb wb ws k ∧ Adv w.heap.size rb w wr k ∧ Blk wr w.heap.size #[.int .i64 0, .string ⟨#[]⟩, .int .i64 0, .slice none 0 0] 164 ∧ Blk wr w2.heap.size #[.int .i64 (kindW x.1), .string x.1, .int .i64 x.2, fv] 164 ∧ wr.ownsRow (w2.heap.size + 1) 167 13 fv fs.length (fs.flatMap fcI) ∧ w2.heap.size < wr.heap.size) (fun _ wr => ws.length - nextOf rb wr)
            case atStart => exact hcut
            case round =>
              clear hcut
              obtain ⟨n, k, fs, fv, hfl, hn, HP, RR, AA, KK, J, hown, hz⟩ := hrel
              have hk := RR.lt
              have hfew := RR.few
              have hnx := RR.nextOf
              have HN : Hid (nextOf rb wr = k) := hnx
              clear hnx
              obtain ⟨y, hy⟩ := RR.word
              cases hs : (y.1.toList == [125])
              · have hst : isTxt ws [125] k = false := by unfold isTxt; simp only [hy, hs]
                have HY : Hid (ws[k]? = some y) := hy
                clear hy
                go_wp2_with fail
                refine (c59 _ rb wb ws k y _ RR HY.out).mono ?_
                rintro e w3 ⟨rfl, hw3⟩
                rw [show (ByteArray.mk #[125]).toList = [125] from by decide +kernel]
                have R3 := RR.below hw3 RR.blocks.1 RR.blocks.2
                have A3 := AA.below hw3 AA.size
                have K3 := KK.below hw3 KK.lt
                have J3 := J.below hw3 J.lt
                have hown3 : w3.ownsRow (w2.heap.size + 1) 167 13 fv fs.length (fs.flatMap fcI) := ownsRow_below hw3 hown
                have hz3 : w2.heap.size < w3.heap.size := Nat.lt_of_lt_of_le hz hw3.size
                have HO : Hid (some w2.heap.size ≠ fv.ownBlock) := by
                  intro e
                  have := (hown3.lt _ e.symm).1
                  omega
                clear RR AA KK J hown hz hw3
                go_wp2_with fail
                have j3 := J3.cell 3
                cases h4 : fieldP ws 3 k with
                | error p =>
                  obtain rfl : r = .error p := by
                    rw [← HR2.out, ← HP.out, manyP_err hst (by omega) h4]; rfl
                  refine wp_region_held_drew (S := fun w' => w'.cell? ⟨w2.heap.size, 3, none⟩ = some fv) (by kernel_rfl) (by simpa using j3) (fun hHeld => ?_)
                  refine tkO 0 (.pointer (some ⟨w2.heap.size, 3, none⟩)) rfl (by kernel_rfl) (fun _ _ _ h => h) (Or.inl ⟨by rfl, fun w hSw => by dsimp only at hSw; go_simp⟩) hHeld ?_
                  refine tkO 1 fv rfl (by kernel_rfl) (fun _ _ _ h => h) (Or.inl ⟨by rfl, fun w hSw => by dsimp only at hSw; go_simp⟩) hHeld ?_
                  refine tkO 2 (.pointer (some ⟨rb, 0, none⟩)) rfl (by kernel_rfl) (fun _ _ _ h => h) (Or.inl ⟨by rfl, fun w hSw => by dsimp only at hSw; go_simp⟩) hHeld ?_
                  simp only [Act.put, List.setIfInBounds_toArray, List.set_cons_zero, List.set_cons_succ, List.getElem_toArray, List.getElem_cons_zero, List.getElem_cons_succ]
                  refine wpAnyH_ready (rs := [3]) (by kernel_rfl) (by simp) (AllReadyH.cons rfl (fun K hK => ?_) AllReadyH.nil)
                  clear hK
                  go_simp
                  refine (c80l _ rb wb ws k 3 R3.drew).mono ?_
                  rw [h4]
                  rintro e w4 ⟨rfl, j, A⟩
                  exact ⟨rfl, rfl, j, A3.drew.trans A (by have := A3.size; simp; omega)⟩
                | ok q =>
                  obtain ⟨f, k1⟩ := q
                  have HF : Hid (fcI f = _) := fieldP_lit h4
                  have hk1 : k < k1 := fieldP_on _ _ _ _ _ h4
                  have HP2 : Hid (preP (fs ++ [f]) (manyP (isTxt ws [125]) (fieldP ws 3) (n - 1) k1) = M) := by
                    rw [← HP.out, manyP_go fs hst (by omega) h4]; exact rfl
                  have J := J3
                  have RR := R3
                  go_region_law (first | (refine step_append_lies _ (by rfl) _ _ _ (by rfl) (w2.heap.size + 1) 167 i0 _ 13 136 Tryz.underlying162 hi0 hz0 hz1 hz2 rfl (by omega) fv fs.length (fs.flatMap fcI) (by rfl) ((ownsRow_adv A (Nat.le_refl _) (by have := R.blocks; omega) (ownsRow_drew hown3)).alloc _) ⟨w4.heap.size, 0, none⟩ 1 1 [_, _, _, _, _, _, _, _, _, _, _, _, _] (by rfl) (by rfl) (World.news_of_block (t := 167) (fr := (0, 0)) (heap_alloc_new w4 _)) (by simp [Value.oneCell']) (by omega) (by unfold maxLen; omega) (by omega) (by have := A.size; simp at this ⊢; omega) (w4.heap.size + 1) (by simp) ?_; intro gg cap w5 hown1 hgrow hat hlt; obtain ⟨x1, x2⟩ := (((J.drew.adv_ A (by simp; omega) n5).alloc _).grown hgrow HO.out).rules) | (go_simp; go_at_call 243; refine (c80l _ rb wb ws k 3 RR.drew).mono ?_; rw [h4]; rintro e w4 ⟨rfl, R5, A⟩; obtain ⟨y1, y2⟩ := (J.drew.adv_ A (by simp; omega) n5).rules; obtain ⟨y3, y4, y5, y6⟩ := old_alloc (w := w4) (b := w2.heap.size) (by have := A.size; simp at this; omega)))
                  all_goals
                    go_wp2
                    go_roundw
                    case rel =>
                      go_light
                      have hz4 : w3.heap.size ≤ w4.heap.size := by have := A.size; simpa using this
                      have hz5 := hgrow.size
                      have A6 := ((((A3.drew.trans A (by have := A3.size; simp; omega)).alloc (Nat.le_refl _) _).grown hgrow (Nat.le_refl _) (fun j hj => by have := (hown3.lt j hj).1; omega))).setCell (a := ⟨w2.heap.size, 3, none⟩) (by simp; omega) (.slice (some ⟨gg, 0, none⟩) (fs.length + 1) cap)
                      refine ⟨n - 1, k1, fs ++ [f], .slice (some ⟨gg, 0, none⟩) (fs.length + 1) cap, by simp; omega, by omega, HP2, A6.rd R R.blocks.1 R.blocks.2 R5.lt, A6, ?_, ?_, ?_, ?_⟩
                      · exact (((K3.drew.adv_ A (by simp; omega) n1).alloc _).grown hgrow (fun e => by have := (hown3.lt _ e.symm).1; omega)).other 3 _ n6
                      · exact (((J3.drew.adv_ A (by simp; omega) n5).alloc _).grown hgrow HO.out).set 3 _
                      · have := ownsRow_setCell_below hown1 (a := ⟨w2.heap.size, 3, none⟩) (by simp) (.slice (some ⟨gg, 0, none⟩) (fs.length + 1) cap)
                        simpa [HF.out] using this
                      · simp [World.setCell] at hz5 ⊢; omega
                    case measure =>
                      go_light
                      have A6 := ((((A3.drew.trans A (by have := A3.size; simp; omega)).alloc (Nat.le_refl _) _).grown hgrow (Nat.le_refl _) (fun j hj => by have := (hown3.lt j hj).1; omega))).setCell (a := ⟨w2.heap.size, 3, none⟩) (by simp; omega) (.slice (some ⟨gg, 0, none⟩) (fs.length + 1) cap)
                      have R6 := A6.rd R R.blocks.1 R.blocks.2 R5.lt
                      have h6 := R6.lt
                      rw [R6.nextOf, HN.out]
                      omega
              · have hst : isTxt ws [125] k = true := by unfold isTxt; simp only [hy, hs]
                have h5 : skipP ws [125] k = .ok ((), k + 1) := by unfold skipP; simp only [hy, hs]; rfl
                have HY : Hid (ws[k]? = some y) := hy
                clear hy
                obtain rfl : r = .ok (⟨some x, fs⟩, k + 1) := by
                  rw [← HR2.out, ← HP.out, manyP_stop hst]
                  simp only [preP, andP, h5, List.append_nil]
                go_wp2_with fail
                refine (c59 _ rb wb ws k y _ RR HY.out).mono ?_
                rintro e w3 ⟨rfl, hw3⟩
                rw [show (ByteArray.mk #[125]).toList = [125] from by decide +kernel]
                have R3 := RR.below hw3 RR.blocks.1 RR.blocks.2
                have A3 := AA.below hw3 AA.size
                have K3 := KK.below hw3 KK.lt
                have J3 := J.below hw3 J.lt
                have hown3 : w3.ownsRow (w2.heap.size + 1) 167 13 fv fs.length (fs.flatMap fcI) := ownsRow_below hw3 hown
                have hz3 : w2.heap.size < w3.heap.size := Nat.lt_of_lt_of_le hz hw3.size
                clear RR AA KK J hown hz hw3
                go_wp2_with fail
                refine (c67 _ rb wb ws k _ [125] R3 (by decide +kernel) (by decide)).mono ?_
                rw [h5]
                rintro e w4 ⟨rfl, R4, A⟩
                have K4 := K3.adv_ A (by omega) n1
                have J4 := J3.adv_ A (by omega) n5
                have A4 := A3.trans A A3.size
                have hown4 : w4.ownsRow (w2.heap.size + 1) 167 13 fv fs.length (fs.flatMap fcI) := ownsRow_adv A (Nat.le_refl _) (by have := R.blocks; omega) hown3
                obtain ⟨fa, fn, fc, rfl⟩ := ownsRow_form hown4
                obtain ⟨k1, k2⟩ := K4.rules
                obtain ⟨j1, j2⟩ := J4.rules
                go_wp2
                have A9 := A4.sets (b := w.heap.size) (Nat.le_refl _) [.int .i64 (kindW x.1), .string x.1, .int .i64 x.2, .slice fa fn fc] 0
                have K9 := K4.sets_all [.int .i64 (kindW x.1), .string x.1, .int .i64 x.2, .slice fa fn fc] rfl
                refine bodyPost_ret (ret_cell Tryz.results240 _ _ rfl K9 Tryz.underlying164 (by kernel_rfl)) rfl ⟨⟨_, rfl, ?_⟩, ?_, A9⟩
                · exact ownsRow_sets (lo := w.heap.size) hown4 (b := w.heap.size) (Nat.lt_succ_of_lt z2) (Nat.le_succ_of_le (Nat.le_of_lt z2)) [.int .i64 (kindW x.1), .string x.1, .int .i64 x.2, .slice fa fn fc] 0
                · exact A9.rd R R.blocks.1 R.blocks.2 R4.lt

end Go.Proofs.YtbbbegjedmicpaaGreatDoor
