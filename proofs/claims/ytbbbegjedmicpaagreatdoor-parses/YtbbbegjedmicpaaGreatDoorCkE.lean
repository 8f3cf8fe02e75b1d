import Derived.Test.YtbbbegjedmicpaaGreatDoorCkD

/-
  CONTRACT: field (of a message's looks).
-/
namespace Go.Proofs.YtbbbegjedmicpaaGreatDoor
open Go.RowKit Go.Maps
attribute [local go_sem] f91_0 f91_1 f91_2
attribute [local go_sem ↓] Go.wp_at_zero Go.wp_at_succ

/-- Numbers, each once, are so many as their set has. -/
theorem size_N (l : List Nat) (h : l.Nodup) : Maps.size (setOf (H := Unit) (.agg []) (l.map litN)) = l.length := by
  rw [size_setOf _ _ (by intro x hx; obtain ⟨y, _, rfl⟩ := List.mem_map.1 hx; exact trivial)]
  have key : ∀ (l acc : List Nat), (acc ++ l).Nodup → ((l.map litN).foldl addKey (acc.map litN)) = (acc ++ l).map litN := by
    intro l
    induction l with
    | nil => intro acc _; simp
    | cons x l ih =>
      intro acc hnd
      have hx : (acc.map litN).any (fun y => y.sameKey (litN x)) = false := by
        rw [List.any_map, List.any_eq_false]
        intro y hy
        have hne : y ≠ x := by
          rintro rfl
          have := List.nodup_append.1 hnd
          exact this.2.2 _ hy _ (by simp) rfl
        show ¬ decide (IntKind.u64 = IntKind.u64 ∧ (y : Int) = (x : Int)) = true
        simp
        omega
      have e : addKey (acc.map litN) (litN x) = (acc ++ [x]).map litN := by
        unfold addKey
        simp [hx]
      rw [List.map_cons, List.foldl_cons, e, ih (acc ++ [x]) (by simpa using hnd)]
      simp
  have := key l [] (by simpa using h)
  simp only [List.map_nil, List.nil_append] at this
  rw [this]
  simp

/-- The looks at one field: what stood ahead, with it; or the place of the word that may not be. -/
def fldTail (types names : List ByteArray) (nums : List Nat) (tk : Int) (ts : ByteArray) (tp : Nat) (ns : ByteArray) (np : Nat) (ms : ByteArray) (mp : Nat) : Except Nat (List ByteArray × List Nat) :=
  if typeBad types tk ts then .error tp
  else if nameBad names ns then .error np
  else if decide (12 ≤ nums.length) then .error np
  else if numBad nums (numV ms) then .error mp
  else .ok (names ++ [ns], nums ++ [numV ms])
def fldCk (types names : List ByteArray) (nums : List Nat) (form kk : Int) (ks : ByteArray) (kp : Nat) (tk : Int) (ts : ByteArray) (tp : Nat) (ns : ByteArray) (np : Nat) (ms : ByteArray) (mp : Nat) : Except Nat (List ByteArray × List Nat) :=
  if form == 4 && !keyGood kk ks then .error kp else fldTail types names nums tk ts tp ns np ms mp

/-- What a look at a message's parts leaves. -/
def CkRet (nb mb : Nat) (w : World) (r : Except Nat (List ByteArray × List Nat)) (e : Ending) (w' : World) : Prop :=
  match r with
  | .error p => e = fault 3 p ∧ Kept [nb, mb] w w'
  | .ok (names, nums) => e = .returned (.tuple #[]) ∧ StrSet w' nb names ∧ NumSet w' mb nums ∧ Kept [nb, mb] w w'

set_option maxRecDepth 100000 in
set_option maxHeartbeats 4000000 in
theorem c65 (w : World) (tb nb mb : Nat) (types names : List ByteArray) (nums : List Nat) (form kk : Int) (ks : ByteArray) (kp : Nat) (tk : Int) (ts : ByteArray) (tp : Nat) (nk : Int) (ns : ByteArray) (np : Nat) (mk : Int) (ms : ByteArray) (mp : Nat) (HT : StrSet w tb types) (HN : StrSet w nb names) (HM : NumSet w mb nums) (d3 : nb ≠ mb) (g1 : 4 ≠ nb) (hln : names.length < 5000) (hlm : nums.length < 5000) (hnd : nums.Nodup) (hok : numOK ms) (hg : GOK w) :
    Calls Tryz.prog 127 #[.agg #[.map (some tb), .map (some nb), .map (some mb)], .agg #[.int .i64 form, .int .i64 kk, .string ks, .int .i64 kp, .int .i64 tk, .string ts, .int .i64 tp, .int .i64 nk, .string ns, .int .i64 np, .int .i64 mk, .string ms, .int .i64 mp]] w (CkRet nb mb w (fldCk types names nums form kk ks kp tk ts tp ns np ms mp)) := by
  obtain ⟨r, HQ⟩ : ∃ r, Hid ((if form == 4 && !keyGood kk ks then .error kp else fldTail types names nums tk ts tp ns np ms mp) = r) := ⟨_, rfl⟩
  rw [show fldCk types names nums form kk ks kp tk ts tp ns np ms mp = r from HQ.out]
  have hf : (form == 4) = false ∨ ((form == 4) = true ∧ keyGood kk ks = true) ∨ ((form == 4) = true ∧ keyGood kk ks = false) := by
    generalize (form == 4) = x
    generalize keyGood kk ks = y
    revert x y
    decide
  obtain ⟨B0, KC0, KF0⟩ := two_new w #[.map (some tb), .map (some nb), .map (some mb)] #[.int .i64 form, .int .i64 kk, .string ks, .int .i64 kp, .int .i64 tk, .string ts, .int .i64 tp, .int .i64 nk, .string ns, .int .i64 np, .int .i64 mk, .string ms, .int .i64 mp] 247 167
  obtain ⟨r1, r2⟩ := KC0.rules
  obtain ⟨r3, r4⟩ := KF0.rules
  have hbt := HT.lt
  have hbn := HN.lt
  have hbm := HM.lt
  go_enter Tryz.func127, Tryz.ntmps127
  rcases hf with hf | ⟨hf, hkg⟩ | ⟨hf, hkg⟩
  have HR : Hid (fldTail types names nums tk ts tp ns np ms mp = r) := by have := HQ.out; rw [hf] at this; exact this
  have B2 := B0
  have KC := KC0
  have KF := KF0
  clear r1 r2 r3 r4
  rotate_left
  have HR : Hid (fldTail types names nums tk ts tp ns np ms mp = r) := by have := HQ.out; rw [hf, hkg] at this; exact this
  focus
    go_wp2_with fail
    go_region_held3 (fun w' => w'.cell? ⟨w.heap.size + 1, 1, none⟩ = some (.int .i64 kk) ∧ w'.cell? ⟨w.heap.size + 1, 2, none⟩ = some (.string ks) ∧ w'.cell? ⟨w.heap.size + 1, 3, none⟩ = some (.int .i64 kp))
      (first | exact ⟨K5.cell 1, K5.cell 2, K5.cell 3⟩ | exact ⟨K3.cell 1, K3.cell 2, K3.cell 3⟩ | exact ⟨KF0.cell 1, KF0.cell 2, KF0.cell 3⟩)
      (first | (go_at_call 188; refine (c72 _ kk ks kp).mono ?_; rw [hkg]; rintro e w3 ⟨rfl, hb3⟩; have K3 := KF0.drew.below hb3 KF0.lt) | (go_at_call 81; refine (c48_no _ kk ks kp).mono ?_; rintro e w2 ⟨rfl, hb4⟩; have K5 := K3.below hb4 K3.lt))
    have B2 : Below w.heap.size w w2 := (B0.drew.trans (hb3.mono (by simp; omega))).trans (hb4.mono (by have := hb3.size; simp at this; omega))
    have KC := (KC0.drew.below hb3 KC0.lt).below hb4 (by have := hb3.size; simp at this; omega)
    have KF := K5
    clear r1 r2 r3 r4 K3 K5 hb3 hb4 B0 KC0 KF0
  rotate_left
  · obtain rfl : r = .error kp := by rw [← HQ.out, hf, hkg]; rfl
    go_wp2_with fail
    refine wp_region_held_drew (S := fun w' => w'.cell? ⟨w.heap.size + 1, 1, none⟩ = some (.int .i64 kk) ∧ w'.cell? ⟨w.heap.size + 1, 2, none⟩ = some (.string ks) ∧ w'.cell? ⟨w.heap.size + 1, 3, none⟩ = some (.int .i64 kp)) (by kernel_rfl) ⟨KF0.cell 1, KF0.cell 2, KF0.cell 3⟩ (fun hHeld => ?_)
    refine tkO 0 (.pointer (some ⟨w.heap.size + 1, 1, none⟩)) rfl (by kernel_rfl) (fun _ _ _ h => h) (.inl ⟨rfl, fun w ⟨s0, s1, s2⟩ => by go_simp⟩) hHeld ?_
    simp only [Act.put, List.setIfInBounds_toArray, List.set_cons_zero, List.set_cons_succ, List.getElem_toArray, List.getElem_cons_zero]
    refine tkO 1 (.agg #[.int .i64 kk, .string ks, .int .i64 kp]) rfl (by kernel_rfl) (fun _ _ _ h => h) (.inl ⟨rfl, fun w ⟨s0, s1, s2⟩ => by go_simp⟩) hHeld ?_
    simp only [Act.put, List.setIfInBounds_toArray, List.set_cons_zero, List.set_cons_succ, List.getElem_toArray, List.getElem_cons_zero, List.getElem_cons_succ]
    refine tkO 4 (.pointer (some ⟨w.heap.size + 1, 1, none⟩)) rfl (by kernel_rfl) (fun _ _ _ h => h) (.inl ⟨rfl, fun w ⟨s0, s1, s2⟩ => by go_simp⟩) hHeld ?_
    simp only [Act.put, List.setIfInBounds_toArray, List.set_cons_zero, List.set_cons_succ, List.getElem_toArray, List.getElem_cons_zero, List.getElem_cons_succ]
    refine tkO 5 (.agg #[.int .i64 kk, .string ks, .int .i64 kp]) rfl (by kernel_rfl) (fun _ _ _ h => h) (.inl ⟨rfl, fun w ⟨s0, s1, s2⟩ => by go_simp⟩) hHeld ?_
    simp only [Act.put, List.setIfInBounds_toArray, List.set_cons_zero, List.set_cons_succ, List.getElem_toArray, List.getElem_cons_zero, List.getElem_cons_succ]
    refine wpAnyH_ready (rs := [2]) (by kernel_rfl) (by simp) (AllReadyH.cons rfl (fun K hK => ?_) AllReadyH.nil)
    clear r1 r2 r3 r4
    go_simp
    refine (c72 _ kk ks kp).mono ?_
    rw [hkg]
    rintro e w3 ⟨rfl, hb3⟩
    have K3 := KF0.drew.below hb3 KF0.lt
    clear hHeld
    refine hK.out _ _ ⟨K3.cell 1, K3.cell 2, K3.cell 3⟩ (fun hHeld => ?_)
    clear hK K
    refine tkO 3 (.bool true) rfl (by kernel_rfl) (fun _ _ _ h => h) (.inl ⟨rfl, fun w ⟨s0, s1, s2⟩ => by go_simp⟩) hHeld ?_
    simp only [Act.put, List.setIfInBounds_toArray, List.set_cons_zero, List.set_cons_succ, List.getElem_toArray, List.getElem_cons_zero, List.getElem_cons_succ]
    refine wpAnyH_ready (rs := [6]) (by kernel_rfl) (by simp) (AllReadyH.cons rfl (fun K hK => ?_) AllReadyH.nil)
    clear hK
    go_simp
    refine (c48_yes _ kk ks kp).mono ?_
    rintro e w4 ⟨rfl, hb⟩
    exact ⟨rfl, rfl, Kept.of_below ((B0.drew.trans (hb3.mono (by simp; omega))).trans (hb.mono (by have := hb3.size; simp at this; omega)))⟩
  all_goals
    have HT2 := HT.keep (B2.block _ hbt)
    have HN2 := HN.keep (B2.block _ hbn)
    have HM2 := HM.keep (B2.block _ hbm)
    have hg2 := hg.keep (B2.block _ hg.lt)
    have z2 := KF.lt
    obtain ⟨r1, r2⟩ := KC.rules
    obtain ⟨r3, r4⟩ := KF.rules
    go_wp2_with fail
    clear r1 r2 r3 r4
    refine (c73 _ tb nb mb types tk ts tp HT2).mono ?_
    cases h1 : typeBad types tk ts
    rotate_left
    · rintro e w3 ⟨he, hb3⟩
      obtain rfl : e = fault 3 tp := by simpa using he
      obtain rfl : r = .error tp := by rw [← HR.out, fldTail]; simp only [h1, if_true]
      unfold fault
      go_wp2
      exact ⟨rfl, rfl, Kept.of_below (B2.trans (hb3.mono B2.size))⟩
    rintro e w3 ⟨he, hb3⟩
    obtain rfl : e = .returned (.tuple #[]) := by simpa using he
    have B3 := B2.trans (hb3.mono B2.size)
    have KC3 := KC.below hb3 KC.lt
    have KF3 := KF.below hb3 KF.lt
    have HN3 : StrSet w3 nb names := HN.keep (B3.block _ hbn)
    have z3 := KF3.lt
    clear KC KF hb3 HT2 HN2 HM2 hg2
    obtain ⟨r1, r2⟩ := KC3.rules
    obtain ⟨r3, r4⟩ := KF3.rules
    go_wp2_with fail
    clear r1 r2 r3 r4
    refine (c46 _ nb names nk ns np HN3 hln).mono ?_
    cases h2 : nameBad names ns
    rotate_left
    · rintro e w4 ⟨rfl, hb4⟩
      obtain rfl : r = .error np := by rw [← HR.out, fldTail]; simp only [h1, h2, if_true, Bool.false_eq_true, if_false]
      unfold fault
      go_wp2
      exact ⟨rfl, rfl, Kept.of_below (B3.trans (hb4.mono B3.size))⟩
    rintro e w4 ⟨rfl, HN4, hk4⟩
    have e1 : w.heap.size ≠ nb := by omega
    have e2 : w.heap.size + 1 ≠ nb := by omega
    have C4 : Kept [nb, mb] w w4 := (Kept.of_below B3).trans (hk4.mono (by simp))
    have KC4 : Blk w4 w.heap.size #[.map (some tb), .map (some nb), .map (some mb)] 247 := (hk4.block _ KC3.lt (by simpa using e1)).trans KC3
    have KF4 : Blk w4 (w.heap.size + 1) #[.int .i64 form, .int .i64 kk, .string ks, .int .i64 kp, .int .i64 tk, .string ts, .int .i64 tp, .int .i64 nk, .string ns, .int .i64 np, .int .i64 mk, .string ms, .int .i64 mp] 167 := (hk4.block _ KF3.lt (by simpa using e2)).trans KF3
    have HM4 : NumSet w4 mb nums := HM.keep ((hk4.block _ (Nat.lt_of_lt_of_le hbm B3.size) (by simpa using fun e => d3 e.symm)).trans (B3.block _ hbm))
    have hg4 : GOK w4 := hg.keep ((hk4.block _ (Nat.lt_of_lt_of_le hg.lt B3.size) (by simpa using g1)).trans (B3.block _ hg.lt))
    have hown : w4.ownsMap Tryz.prog 53 (unitElem (H := Unit)) mb nums.length (setOf (.agg []) (nums.map litN)) := HM4
    have z4 := KF4.lt
    clear KC3 KF3 HN3
    obtain ⟨r1, r2⟩ := KC4.rules
    obtain ⟨r3, r4⟩ := KF4.rules
    cases h3 : decide (12 ≤ nums.length)
    rotate_left
    · have hd : (12 : Int) ≤ (nums.length : Int) := by have := of_decide_eq_true h3; omega
      obtain rfl : r = .error np := by rw [← HR.out, fldTail]; simp only [h1, h2, h3, if_true, Bool.false_eq_true, if_false]
      go_wp2_with (at_len; refine wpList_len_own _ rfl _ 245 rfl 53 128 Tryz.underlying245 _ mb _ _ rfl hown ?_; rw [size_N nums hnd])
      refine (c48_yes _ nk ns np).mono ?_
      rintro e w5 ⟨rfl, hb5⟩
      unfold fault
      go_wp2
      exact ⟨rfl, rfl, C4.trans (Kept.of_below hb5)⟩
    have hd : decide ((12 : Int) ≤ (nums.length : Int)) = false := by have := of_decide_eq_false h3; simp; omega
    go_wp2_with (at_len; refine wpList_len_own _ rfl _ 245 rfl 53 128 Tryz.underlying245 _ mb _ _ rfl hown ?_; rw [size_N nums hnd])
    refine (c48_no _ nk ns np).mono ?_
    rintro e w5 ⟨rfl, hb5⟩
    have C5 := C4.trans (Kept.of_below hb5)
    have KC5 := KC4.below hb5 KC4.lt
    have KF5 := KF4.below hb5 KF4.lt
    have HN5 := HN4.keep (hb5.block _ HN4.lt)
    have HM5 := HM4.keep (hb5.block _ HM4.lt)
    have hg5 := hg4.keep (hb5.block _ hg4.lt)
    clear KC4 KF4 r1 r2 r3 r4 hd
    obtain ⟨r1, r2⟩ := KC5.rules
    obtain ⟨r3, r4⟩ := KF5.rules
    go_wp2_with fail
    clear r1 r2 r3 r4
    refine (c74 _ tb nb mb mk ms mp hok hg5 nums HM5 hlm).mono ?_
    cases h4 : numBad nums (numV ms)
    rotate_left
    · rintro e w6 ⟨rfl, hb6⟩
      obtain rfl : r = .error mp := by rw [← HR.out, fldTail]; simp only [h1, h2, h3, h4, if_true, Bool.false_eq_true, if_false]
      unfold fault
      go_wp2
      exact ⟨rfl, rfl, C5.trans (Kept.of_below hb6)⟩
    rintro e w6 ⟨rfl, HM6, hk6⟩
    obtain rfl : r = .ok (names ++ [ns], nums ++ [numV ms]) := by rw [← HR.out, fldTail]; simp only [h1, h2, h3, h4, Bool.false_eq_true, if_false]
    go_wp2
    go_end0
    exact ⟨rfl, HN5.keep (hk6.block _ HN5.lt (by simpa using d3)), HM6, C5.trans (hk6.mono (by simp))⟩
end Go.Proofs.YtbbbegjedmicpaaGreatDoor
