import Derived.Test.YtbbbegjedmicpaaGreatDoorCkE

/-
  CONTRACT: checkEnum; rows, element by element.
-/
namespace Go.Proofs.YtbbbegjedmicpaaGreatDoor
open Go.RowKit Go.Maps
attribute [local go_sem] f91_0 f91_1 f91_2
attribute [local go_sem ↓] Go.wp_at_zero Go.wp_at_succ

theorem vcI_len (x : W × W) : (vcI x).length = 6 := rfl

def enumCk : List ByteArray → List (W × W) → Except Nat (List ByteArray)
  | names, [] => .ok names
  | names, v :: vs => if nameBad names v.1.1 then .error v.1.2 else if decide (2147483647 < numV v.2.1) then .error v.2.2 else enumCk (names ++ [v.1.1]) vs

/-- A look's end: nothing to tell, or the place of the word that may not be. -/
def LookRet {α : Type} (r : Except Nat α) (e : Ending) : Prop :=
  match r with
  | .error p => e = fault 3 p
  | .ok _ => e = .returned (.tuple #[])

set_option maxRecDepth 100000 in
set_option maxHeartbeats 2000000 in
theorem c47 (w : World) (eb : Bool) (bk : Int) (bs : ByteArray) (bp : Nat) (pa : Option Addr) (pn pc : Nat) (va : Option Addr) (vn vc : Nat) (vs : List (W × W)) (hrow : w.ownsRow 0 243 6 (.slice va vn vc) vs.length (vs.flatMap vcI)) (hlen : vs.length ≤ 2001) (hnum : ∀ v ∈ vs, numOK v.2.1) (hg : GOK w) :
    Calls Tryz.prog 80 #[.agg #[.bool eb, .int .i64 bk, .string bs, .int .i64 bp, .slice pa pn pc, .slice va vn vc]] w fun e w' => LookRet (enumCk [] vs) e ∧ Below w.heap.size w w' := by
  have hvn := ownsRow_len hrow
  subst hvn
  have hmm := @run_makeMap Tryz.prog
  have C0 : Below w.heap.size w ((w.alloc (Obj.cells #[.bool eb, .int .i64 bk, .string bs, .int .i64 bp, .slice pa pn pc, .slice va vs.length vc] 118)).alloc (Obj.map #[] 0)) := ((Below.refl w.heap.size w).alloc (Nat.le_refl _) _).alloc (by simp) _
  have M0 : StrSet ((w.alloc (Obj.cells #[.bool eb, .int .i64 bk, .string bs, .int .i64 bp, .slice pa pn pc, .slice va vs.length vc] 118)).alloc (Obj.map #[] 0)) (w.heap.size + 1) [] := by
    have := World.ownsMap_made (w.alloc (Obj.cells #[.bool eb, .int .i64 bk, .string bs, .int .i64 bp, .slice pa pn pc, .slice va vs.length vc] 118)) Tryz.prog 9 (unitElem (H := Unit))
    simpa [StrSet, setOf] using this
  have zz : ((w.alloc (Obj.cells #[.bool eb, .int .i64 bk, .string bs, .int .i64 bp, .slice pa pn pc, .slice va vs.length vc] 118)).alloc (Obj.map #[] 0)).heap.size = w.heap.size + 2 := by simp
  generalize hr : enumCk [] vs = r
  have HR : Hid (enumCk [] vs = r) := hr
  clear hr
  go_enter Tryz.func80, Tryz.ntmps80
  go_wp2
  go_loopw [9] (fun i wr => ∃ (k : Nat) (names : List ByteArray), k ≤ vs.length ∧ i = .int .i64 k ∧ names.length ≤ k ∧ Hid (enumCk names (vs.drop k) = r) ∧ StrSet wr (w.heap.size + 1) names ∧ Below w.heap.size w wr ∧ w.heap.size + 1 < wr.heap.size) (fun i _ => vs.length - (intOf i).toNat)
  case atStart => exact ⟨0, [], Nat.zero_le _, rfl, by simp, HR, M0, C0, by omega⟩
  case round =>
    clear M0 C0 zz
    obtain ⟨k, names, hk, rfl, hnl, HP, HS, CC, hz⟩ := hrel
    by_cases hlt : k < vs.length
    · obtain ⟨v, hv⟩ := gx hlt
      have hvm : v ∈ vs := List.mem_of_getElem? hv
      have hdrop : vs.drop k = v :: vs.drop (k + 1) := by
        rw [List.drop_eq_getElem_cons hlt]
        rw [List.getElem?_eq_getElem hlt] at hv
        rw [Option.some.inj hv]
      have HP2 : Hid (enumCk names (v :: vs.drop (k + 1)) = r) := by rw [← hdrop]; exact HP
      obtain ⟨g, rfl, _, hgl, hcell⟩ := ownsRow_at hrow (by omega)
      have hcg := hcell wr (CC.block g hgl)
      have q0 := hcg (k * 6) _ ((flat_get vcI 6 vcI_len vs k v hv 0 (by omega)).trans rfl)
      have q1 := hcg (k * 6 + 1) _ ((flat_get vcI 6 vcI_len vs k v hv 1 (by omega)).trans rfl)
      have q2 := hcg (k * 6 + 2) _ ((flat_get vcI 6 vcI_len vs k v hv 2 (by omega)).trans rfl)
      have q3 := hcg (k * 6 + 3) _ ((flat_get vcI 6 vcI_len vs k v hv 3 (by omega)).trans rfl)
      have q4 := hcg (k * 6 + 4) _ ((flat_get vcI 6 vcI_len vs k v hv 4 (by omega)).trans rfl)
      have q5 := hcg (k * 6 + 5) _ ((flat_get vcI 6 vcI_len vs k v hv 5 (by omega)).trans rfl)
      have hok := hnum v hvm
      have KV := Blk.new wr #[.int .i64 (kindW v.1.1), .string v.1.1, .int .i64 v.1.2, .int .i64 (kindW v.2.1), .string v.2.1, .int .i64 v.2.2] 243
      have CA := CC.alloc CC.size (Obj.cells #[.int .i64 (kindW v.1.1), .string v.1.1, .int .i64 v.1.2, .int .i64 (kindW v.2.1), .string v.2.1, .int .i64 v.2.2] 243)
      have HS1 : StrSet (wr.alloc (Obj.cells #[.int .i64 (kindW v.1.1), .string v.1.1, .int .i64 v.1.2, .int .i64 (kindW v.2.1), .string v.2.1, .int .i64 v.2.2] 243)) (w.heap.size + 1) names := HS.keep (Below.heap_alloc _ _ _ HS.lt)
      clear hcell hcg hv hdrop HP hvm
      go_wp2_with fail
      clear q0 q1 q2 q3 q4 q5
      refine (c46 _ (w.heap.size + 1) names _ v.1.1 v.1.2 HS1 (by omega)).mono ?_
      cases h1 : nameBad names v.1.1
      rotate_left
      · rintro e w4 ⟨rfl, hb4⟩
        obtain rfl : r = .error v.1.2 := by rw [← HP2.out, enumCk]; simp only [h1, if_true]
        unfold fault
        go_wp2
        exact ⟨rfl, rfl, CA.trans (hb4.mono CA.size)⟩
      rintro e w4 ⟨rfl, HS4, hk4⟩
      have C4 : Below w.heap.size w w4 := CA.trans (hk4.to_below CA.size (by intro x hx; simp at hx; omega))
      have KV4 : Blk w4 wr.heap.size #[.int .i64 (kindW v.1.1), .string v.1.1, .int .i64 v.1.2, .int .i64 (kindW v.2.1), .string v.2.1, .int .i64 v.2.2] 243 := (hk4.block _ KV.lt (by simp; omega)).trans KV
      have hg4 : GOK w4 := hg.keep (C4.block _ hg.lt)
      have z4 := KV4.lt
      clear KV CA HS1
      go_wp2_with fail
      cases h2 : decide (2147483647 < numV v.2.1)
      rotate_left
      · have hd : (2147483647 : Int) < ((numV v.2.1 : Nat) : Int) := by have := of_decide_eq_true h2; omega
        obtain rfl : r = .error v.2.2 := by rw [← HP2.out, enumCk]; simp only [h1, h2, if_true, Bool.false_eq_true, if_false]
        refine wp_region_held_drew (S := fun w' => w'.cell? ⟨wr.heap.size, 3, none⟩ = some (.int .i64 (kindW v.2.1)) ∧ w'.cell? ⟨wr.heap.size, 4, none⟩ = some (.string v.2.1) ∧ w'.cell? ⟨wr.heap.size, 5, none⟩ = some (.int .i64 v.2.2)) (by kernel_rfl) ⟨KV4.cell 3, KV4.cell 4, KV4.cell 5⟩ (fun hHeld => ?_)
        refine tkO 0 (.pointer (some ⟨wr.heap.size, 3, none⟩)) rfl (by kernel_rfl) (fun _ _ _ h => h) (.inl ⟨rfl, fun w ⟨s0, s1, s2⟩ => by go_simp⟩) hHeld ?_
        simp only [Act.put, List.setIfInBounds_toArray, List.set_cons_zero, List.set_cons_succ, List.getElem_toArray, List.getElem_cons_zero]
        refine tkO 1 (.agg #[.int .i64 (kindW v.2.1), .string v.2.1, .int .i64 v.2.2]) rfl (by kernel_rfl) (fun _ _ _ h => h) (.inl ⟨rfl, fun w ⟨s0, s1, s2⟩ => by go_simp⟩) hHeld ?_
        simp only [Act.put, List.setIfInBounds_toArray, List.set_cons_zero, List.set_cons_succ, List.getElem_toArray, List.getElem_cons_zero, List.getElem_cons_succ]
        refine tkO 4 (.pointer (some ⟨wr.heap.size, 3, none⟩)) rfl (by kernel_rfl) (fun _ _ _ h => h) (.inl ⟨rfl, fun w ⟨s0, s1, s2⟩ => by go_simp⟩) hHeld ?_
        simp only [Act.put, List.setIfInBounds_toArray, List.set_cons_zero, List.set_cons_succ, List.getElem_toArray, List.getElem_cons_zero, List.getElem_cons_succ]
        refine tkO 5 (.agg #[.int .i64 (kindW v.2.1), .string v.2.1, .int .i64 v.2.2]) rfl (by kernel_rfl) (fun _ _ _ h => h) (.inl ⟨rfl, fun w ⟨s0, s1, s2⟩ => by go_simp⟩) hHeld ?_
        simp only [Act.put, List.setIfInBounds_toArray, List.set_cons_zero, List.set_cons_succ, List.getElem_toArray, List.getElem_cons_zero, List.getElem_cons_succ]
        refine wpAnyH_ready (rs := [2]) (by kernel_rfl) (by simp) (AllReadyH.cons rfl (fun K hK => ?_) AllReadyH.nil)
        go_simp
        refine (c64 _ _ v.2.1 v.2.2 hok (hg4.keep (w' := w4.drew) rfl)).mono ?_
        rintro e w5 ⟨rfl, hb5⟩
        have K5 := KV4.drew.below hb5 KV4.lt
        clear hHeld
        refine hK.out _ _ ⟨K5.cell 3, K5.cell 4, K5.cell 5⟩ (fun hHeld => ?_)
        clear hK K
        refine tkO 3 (.bool true) rfl (by kernel_rfl) (fun _ _ _ h => h) (.inl ⟨rfl, fun w ⟨s0, s1, s2⟩ => by go_simp⟩) hHeld ?_
        simp only [Act.put, List.setIfInBounds_toArray, List.set_cons_zero, List.set_cons_succ, List.getElem_toArray, List.getElem_cons_zero, List.getElem_cons_succ]
        refine wpAnyH_ready (rs := [6]) (by kernel_rfl) (by simp) (AllReadyH.cons rfl (fun K hK => ?_) AllReadyH.nil)
        clear hK
        go_simp
        refine (c48_yes _ _ v.2.1 v.2.2).mono ?_
        rintro e w6 ⟨rfl, hb⟩
        exact ⟨rfl, rfl, (C4.drew.trans (hb5.mono C4.size)).trans (hb.mono (Nat.le_trans C4.size hb5.size))⟩
      have hd : decide ((2147483647 : Int) < ((numV v.2.1 : Nat) : Int)) = false := by have := of_decide_eq_false h2; simp; omega
      have HP3 : Hid (enumCk (names ++ [v.1.1]) (vs.drop (k + 1)) = r) := by
        have := HP2.out
        rw [enumCk] at this
        simp only [h1, h2, Bool.false_eq_true, if_false] at this
        exact this
      go_region_held3 (fun w' => w'.cell? ⟨wr.heap.size, 3, none⟩ = some (.int .i64 (kindW v.2.1)) ∧ w'.cell? ⟨wr.heap.size, 4, none⟩ = some (.string v.2.1) ∧ w'.cell? ⟨wr.heap.size, 5, none⟩ = some (.int .i64 v.2.2))
        (first | exact ⟨K6.cell 3, K6.cell 4, K6.cell 5⟩ | exact ⟨K5.cell 3, K5.cell 4, K5.cell 5⟩ | exact ⟨KV4.cell 3, KV4.cell 4, KV4.cell 5⟩)
        (first | (go_at_call 112; refine (c64 _ _ v.2.1 v.2.2 hok (hg4.keep (w' := w4.drew) rfl)).mono ?_; rintro e w5 ⟨rfl, hb5⟩; have K5 := KV4.drew.below hb5 KV4.lt) | (go_at_call 81; refine (c48_no _ _ v.2.1 v.2.2).mono ?_; rintro e w6 ⟨rfl, hb6⟩; have K6 := K5.below hb6 K5.lt))
      go_wp2
      go_roundw
      case rel =>
        go_light
        have hb5' : Below w4.heap.size w4 w5 := (Below.refl w4.heap.size w4).drew.trans hb5
        have hb6' : Below w4.heap.size w4 w6 := hb5'.trans (hb6.mono hb5'.size)
        refine ⟨k + 1, names ++ [v.1.1], by omega, by go_num, by simp; omega, HP3, HS4.keep (hb6'.block _ HS4.lt), C4.trans (hb6'.mono C4.size), ?_⟩
        have := hb6'.size
        omega
      case measure => go_light; simp [intOf]; omega
    · have hdone : vs.drop k = [] := by rw [List.drop_eq_nil_iff]; omega
      obtain rfl : r = .ok names := by rw [← HP.out, hdone]; rfl
      clear hdone
      go_wp2
      go_end0
      exact ⟨rfl, CC⟩

end Go.Proofs.YtbbbegjedmicpaaGreatDoor

/-
  CONTRACT: checkMessage.
-/
namespace Go.Proofs.YtbbbegjedmicpaaGreatDoor
open Go.RowKit Go.Maps
attribute [local go_sem] f91_0 f91_1 f91_2
attribute [local go_sem ↓] Go.wp_at_zero Go.wp_at_succ

theorem fcI_eq (f : FieldR) : fcI f = [.int .i64 f.form, .int .i64 (pkK f.key), .string (pkS f.key), .int .i64 (pkA f.key), .int .i64 (kindW f.type.1), .string f.type.1, .int .i64 f.type.2, .int .i64 (kindW f.name.1), .string f.name.1, .int .i64 f.name.2, .int .i64 (kindW f.num.1), .string f.num.1, .int .i64 f.num.2] := by
  obtain ⟨form, key, ty, nm, nu⟩ := f
  cases key <;> rfl
theorem fc_cells {w : World} {g : Nat} {fs : List FieldR} {j : Nat} {f : FieldR} (hf : fs[j]? = some f) (h : ∀ (i : Nat) v, (fs.flatMap fcI)[i]? = some v → w.cell? ⟨g, i, none⟩ = some v) :
    w.cell? ⟨g, j * 13, none⟩ = some (.int .i64 f.form) ∧ w.cell? ⟨g, j * 13 + 1, none⟩ = some (.int .i64 (pkK f.key)) ∧ w.cell? ⟨g, j * 13 + 2, none⟩ = some (.string (pkS f.key)) ∧ w.cell? ⟨g, j * 13 + 3, none⟩ = some (.int .i64 (pkA f.key)) ∧ w.cell? ⟨g, j * 13 + 4, none⟩ = some (.int .i64 (kindW f.type.1)) ∧ w.cell? ⟨g, j * 13 + 5, none⟩ = some (.string f.type.1) ∧ w.cell? ⟨g, j * 13 + 6, none⟩ = some (.int .i64 f.type.2) ∧ w.cell? ⟨g, j * 13 + 7, none⟩ = some (.int .i64 (kindW f.name.1)) ∧ w.cell? ⟨g, j * 13 + 8, none⟩ = some (.string f.name.1) ∧ w.cell? ⟨g, j * 13 + 9, none⟩ = some (.int .i64 f.name.2) ∧ w.cell? ⟨g, j * 13 + 10, none⟩ = some (.int .i64 (kindW f.num.1)) ∧ w.cell? ⟨g, j * 13 + 11, none⟩ = some (.string f.num.1) ∧ w.cell? ⟨g, j * 13 + 12, none⟩ = some (.int .i64 f.num.2) := by
  have hg := fun (i : Nat) hi => flat_get fcI 13 fcI_len fs j f hf i hi
  rw [fcI_eq] at hg
  refine ⟨h _ _ (hg 0 (by omega)), h _ _ (hg 1 (by omega)), h _ _ (hg 2 (by omega)), h _ _ (hg 3 (by omega)), h _ _ (hg 4 (by omega)), h _ _ (hg 5 (by omega)), h _ _ (hg 6 (by omega)), h _ _ (hg 7 (by omega)), h _ _ (hg 8 (by omega)), h _ _ (hg 9 (by omega)), h _ _ (hg 10 (by omega)), h _ _ (hg 11 (by omega)), h _ _ (hg 12 (by omega))⟩
theorem PartsIn.get {w : World} {S : Nat → Prop} : ∀ {ps : List PartR} {cs : List Value} {i : Nat} {p : PartR}, PartsIn w S cs ps → ps[i]? = some p → ∃ fa fn fc,
      cs[i * 4]? = some (.int .i64 (pkK p.oneof)) ∧ cs[i * 4 + 1]? = some (.string (pkS p.oneof)) ∧ cs[i * 4 + 2]? = some (.int .i64 (pkA p.oneof)) ∧ cs[i * 4 + 3]? = some (.slice fa fn fc) ∧
      RowIn w S 167 13 (.slice fa fn fc) p.fields.length (p.fields.flatMap fcI)
  | [], _, _, _, _, h => by simp at h
  | q :: ps, cs, 0, p, ⟨fa, fn, fc, rest, h1, h2, h3⟩, h => by
    simp at h
    subst h h1
    exact ⟨fa, fn, fc, rfl, rfl, rfl, rfl, h2⟩
  | q :: ps, cs, i + 1, p, ⟨fa, fn, fc, rest, h1, h2, h3⟩, h => by
    subst h1
    obtain ⟨ga, gn, gc, e0, e1, e2, e3, e4⟩ := PartsIn.get h3 (i := i) (by simpa using h)
    have e : (i + 1) * 4 = i * 4 + 1 + 1 + 1 + 1 := by omega
    refine ⟨ga, gn, gc, ?_, ?_, ?_, ?_, e4⟩
    · rw [e]; simpa using e0
    · rw [show (i + 1) * 4 + 1 = (i * 4 + 1) + 1 + 1 + 1 + 1 from by omega]; simpa using e1
    · rw [show (i + 1) * 4 + 2 = (i * 4 + 2) + 1 + 1 + 1 + 1 from by omega]; simpa using e2
    · rw [show (i + 1) * 4 + 3 = (i * 4 + 3) + 1 + 1 + 1 + 1 from by omega]; simpa using e3

def fieldCk (types names : List ByteArray) (nums : List Nat) (f : FieldR) : Except Nat (List ByteArray × List Nat) :=
  fldCk types names nums f.form (pkK f.key) (pkS f.key) (pkA f.key) (kindW f.type.1) f.type.1 f.type.2 f.name.1 f.name.2 f.num.1 f.num.2
def fieldsCk (types : List ByteArray) : List ByteArray → List Nat → List FieldR → Except Nat (List ByteArray × List Nat)
  | names, nums, [] => .ok (names, nums)
  | names, nums, f :: fs =>
    match fieldCk types names nums f with
    | .error p => .error p
    | .ok (n, m) => fieldsCk types n m fs
def partCk (types names : List ByteArray) (nums : List Nat) (p : PartR) : Except Nat (List ByteArray × List Nat) :=
  if pkK p.oneof == 1 then
    if nameBad names (pkS p.oneof) then .error (pkA p.oneof) else fieldsCk types (names ++ [pkS p.oneof]) nums p.fields
  else fieldsCk types names nums p.fields
def partsCk (types : List ByteArray) : List ByteArray → List Nat → List PartR → Except Nat (List ByteArray × List Nat)
  | names, nums, [] => .ok (names, nums)
  | names, nums, p :: ps =>
    match partCk types names nums p with
    | .error q => .error q
    | .ok (n, m) => partsCk types n m ps
/-- How many names a message's parts have, at most. -/
def cntP : List PartR → Nat
  | [] => 0
  | p :: ps => 1 + p.fields.length + cntP ps

theorem cntP_len : ∀ ps : List PartR, ps.length ≤ cntP ps
  | [] => Nat.le_refl _
  | p :: ps => by have := cntP_len ps; simp only [List.length_cons, cntP]; omega

theorem fieldCk_ok {types names : List ByteArray} {nums : List Nat} {f : FieldR} {n : List ByteArray} {m : List Nat} (h : fieldCk types names nums f = .ok (n, m)) (hnd : nums.Nodup) :
    n.length = names.length + 1 ∧ m.length = nums.length + 1 ∧ m.Nodup := by
  unfold fieldCk fldCk fldTail at h
  split at h
  · simp at h
  · split at h
    · simp at h
    · split at h
      · simp at h
      · split at h
        · simp at h
        · split at h
          · simp at h
          · rename_i hb
            simp at h
            obtain ⟨rfl, rfl⟩ := h
            refine ⟨by simp, by simp, ?_⟩
            have hm : memN nums (numV f.num.1) = false := by
              unfold numBad at hb
              simp at hb
              exact hb.2.2
            rw [List.nodup_append]
            refine ⟨hnd, by simp, fun a ha b hbb => ?_⟩
            simp at hbb
            subst hbb
            rintro rfl
            unfold memN at hm
            rw [List.any_eq_false] at hm
            exact hm _ ha (by simp)

theorem ck_new {w W : World} {a : Obj} {cs : Array Value} {T : TypeId} (h : (((w.alloc a).alloc (Obj.map #[] 0)).alloc (Obj.map #[] 0)).alloc (Obj.cells cs T) = W) : Below w.heap.size w W ∧ StrSet W (w.heap.size + 1) [] ∧ NumSet W (w.heap.size + 1 + 1) [] ∧ Blk W (w.heap.size + 1 + 1 + 1) cs T := by
  subst h
  refine ⟨((((Below.refl w.heap.size w).alloc (Nat.le_refl _) _).alloc (by simp) _).alloc (by simp; omega) _).alloc (by simp; omega) _, ?_, ?_, ?_⟩
  · have := ((World.ownsMap_made (w.alloc a) Tryz.prog 9 (unitElem (H := Unit))).alloc (Obj.map #[] 0)).alloc (Obj.cells cs T)
    simpa [StrSet, setOf] using this
  · have := (World.ownsMap_made ((w.alloc a).alloc (Obj.map #[] 0)) Tryz.prog 53 (unitElem (H := Unit))).alloc (Obj.cells cs T)
    simpa [NumSet, setOf] using this
  · have := Blk.new (((w.alloc a).alloc (Obj.map #[] 0)).alloc (Obj.map #[] 0)) cs T
    simpa using this
set_option maxRecDepth 100000 in
set_option maxHeartbeats 268435456 in
theorem c49 (w : World) (tb : Nat) (types : List ByteArray) (eb : Bool) (bk : Int) (bs : ByteArray) (bp : Nat) (pa : Option Addr) (pn pc : Nat) (va : Option Addr) (vn vc : Nat) (ps : List PartR) (pcs : List Value) (S : Nat → Prop)
    (hrow : RowIn w S 164 4 (.slice pa pn pc) ps.length pcs) (hps : PartsIn w S pcs ps) (HT : StrSet w tb types) (hlen : cntP ps ≤ 2001) (hnum : ∀ p ∈ ps, ∀ f ∈ p.fields, numOK f.num.1) (hg : GOK w) :
    Calls Tryz.prog 82 #[.agg #[.bool eb, .int .i64 bk, .string bs, .int .i64 bp, .slice pa pn pc, .slice va vn vc], .map (some tb)] w fun e w' => LookRet (partsCk types [] [] ps) e ∧ Below w.heap.size w w' := by
  have hvn := ownsRow_len hrow.1
  subst hvn
  have hmm := @run_makeMap Tryz.prog
  have hbt := HT.lt
  have hpl : ps.length ≤ 2001 := Nat.le_trans (cntP_len ps) hlen
  generalize hr : partsCk types [] [] ps = r
  have HR : Hid (partsCk types [] [] ps = r) := hr
  clear hr
  go_enter Tryz.func82, Tryz.ntmps82
  go_wp2
  generalize hW : World.alloc _ _ = w4
  obtain ⟨C0, M0, M1, K0⟩ := ck_new hW
  clear hW
  go_loopw [16] (fun i wr => ∃ (k : Nat) (names : List ByteArray) (nums : List Nat), k ≤ ps.length ∧ i = .int .i64 k ∧ names.length + cntP (ps.drop k) ≤ 2001 ∧ nums.length + cntP (ps.drop k) ≤ 2001 ∧ nums.Nodup ∧ Hid (partsCk types names nums (ps.drop k) = r) ∧ StrSet wr (w.heap.size + 1) names ∧ NumSet wr (w.heap.size + 1 + 1) nums ∧ Blk wr (w.heap.size + 1 + 1 + 1) #[.map (some tb), .map (some (w.heap.size + 1)), .map (some (w.heap.size + 1 + 1))] 247 ∧ Below w.heap.size w wr) (fun i _ => ps.length - (intOf i).toNat)
  case atStart => exact ⟨0, [], [], Nat.zero_le _, rfl, by simpa using hlen, by simpa using hlen, List.nodup_nil, HR, M0, M1, K0, C0⟩
  case round =>
    clear M0 M1 K0 C0
    obtain ⟨k, names, nums, hk, rfl, hln, hlm, hnd, HP, HS, HM, KC, CW⟩ := hrel
    by_cases hlt : k < ps.length
    · obtain ⟨p, hp⟩ := gx hlt
      have hpm : p ∈ ps := List.mem_of_getElem? hp
      have hdrop : ps.drop k = p :: ps.drop (k + 1) := by
        rw [List.drop_eq_getElem_cons hlt]
        rw [List.getElem?_eq_getElem hlt] at hp
        rw [Option.some.inj hp]
      rw [hdrop] at hln hlm
      simp only [cntP] at hln hlm
      have HP2 : Hid (partsCk types names nums (p :: ps.drop (k + 1)) = r) := by rw [← hdrop]; exact HP
      obtain ⟨g, rfl, _, hgl, hcell⟩ := ownsRow_at hrow.1 (by omega)
      obtain ⟨fa, fn, fc, p0, p1, p2, p3, hfr⟩ := hps.get hp
      have hfn := ownsRow_len hfr.1
      subst hfn
      have hcg := hcell wr (CW.block g hgl)
      have q0 := hcg _ _ p0
      have q1 := hcg _ _ p1
      have q2 := hcg _ _ p2
      have q3 := hcg _ _ p3
      have KP := Blk.new wr #[.int .i64 (pkK p.oneof), .string (pkS p.oneof), .int .i64 (pkA p.oneof), .slice fa p.fields.length fc] 164
      have CA := CW.alloc CW.size (Obj.cells #[.int .i64 (pkK p.oneof), .string (pkS p.oneof), .int .i64 (pkA p.oneof), .slice fa p.fields.length fc] 164)
      have HS1 : StrSet (wr.alloc (Obj.cells #[.int .i64 (pkK p.oneof), .string (pkS p.oneof), .int .i64 (pkA p.oneof), .slice fa p.fields.length fc] 164)) (w.heap.size + 1) names := HS.keep (Below.heap_alloc _ _ _ HS.lt)
      have HM1 : NumSet (wr.alloc (Obj.cells #[.int .i64 (pkK p.oneof), .string (pkS p.oneof), .int .i64 (pkA p.oneof), .slice fa p.fields.length fc] 164)) (w.heap.size + 1 + 1) nums := HM.keep (Below.heap_alloc _ _ _ HM.lt)
      have KC1 := KC.alloc (Obj.cells #[.int .i64 (pkK p.oneof), .string (pkS p.oneof), .int .i64 (pkA p.oneof), .slice fa p.fields.length fc] 164)
      have zc := KC.lt
      obtain ⟨c1, c2⟩ := KC1.rules
      have hnump := hnum p hpm
      clear hcell hcg hp hdrop HP hpm p0 p1 p2 p3 HS HM KC
      obtain ⟨rp, HRP⟩ : ∃ rp, Hid (partCk types names nums p = rp) := ⟨_, rfl⟩
      obtain ⟨nn, HNN⟩ : ∃ nn, Hid (nn = if pkK p.oneof == 1 then names ++ [pkS p.oneof] else names) := ⟨_, rfl⟩
      cases ho : (pkK p.oneof == 1)
      have HRP2 : Hid (fieldsCk types nn nums p.fields = rp) := by
        have := HRP.out
        unfold partCk at this
        simp only [ho, Bool.false_eq_true, if_false] at this
        rw [show nn = names by rw [HNN.out, ho]; rfl]
        exact this
      have HSa := HS1
      rw [show names = nn by rw [HNN.out, ho]; rfl] at HSa
      have hnl : nn.length ≤ names.length + 1 := by rw [show nn = names by rw [HNN.out, ho]; rfl]; omega
      have HMa := HM1
      have KCa := KC1
      have Ca := CA
      go_wp2_with fail
      clear HS1 HM1 KC1 CA c1 c2 q0 q1 q2 q3 KP
      rotate_left
      focus
        go_wp2_with fail
        refine (c46 _ (w.heap.size + 1) names _ _ _ HS1 (by omega)).mono ?_
        cases h1 : nameBad names (pkS p.oneof)
        rotate_left
        · rintro e w4 ⟨rfl, hb4⟩
          obtain rfl : r = .error (pkA p.oneof) := by
            rw [← HP2.out, partsCk, partCk]
            simp only [ho, h1, if_true]
          unfold fault
          go_wp2
          exact ⟨rfl, rfl, CA.trans (hb4.mono CA.size)⟩
        rintro e w4 ⟨rfl, HS4, hk4⟩
        have HRP2 : Hid (fieldsCk types nn nums p.fields = rp) := by
          have := HRP.out
          unfold partCk at this
          simp only [ho, h1, Bool.false_eq_true, if_true, if_false] at this
          rw [show nn = names ++ [pkS p.oneof] by rw [HNN.out, ho]; rfl]
          exact this
        have C4 : Below w.heap.size w w4 := CA.trans (hk4.to_below CA.size (by intro x hx; simp at hx; omega))
        have KC4 : Blk w4 (w.heap.size + 1 + 1 + 1) #[.map (some tb), .map (some (w.heap.size + 1)), .map (some (w.heap.size + 1 + 1))] 247 := (hk4.block _ KC1.lt (by simp; omega)).trans KC1
        have KP4 : Blk w4 wr.heap.size #[.int .i64 (pkK p.oneof), .string (pkS p.oneof), .int .i64 (pkA p.oneof), .slice fa p.fields.length fc] 164 := (hk4.block _ KP.lt (by simp; omega)).trans KP
        have HM4 : NumSet w4 (w.heap.size + 1 + 1) nums := HM1.keep (hk4.block _ HM1.lt (by simp))
        have HSa := HS4
        rw [show names ++ [pkS p.oneof] = nn by rw [HNN.out, ho]; rfl] at HSa
        have hnl : nn.length ≤ names.length + 1 := by rw [show nn = names ++ [pkS p.oneof] by rw [HNN.out, ho]; rfl]; simp
        have HMa := HM4
        have KCa := KC4
        have Ca := C4
        obtain ⟨y1, y2⟩ := KP4.rules
        clear c1 c2 q0 q1 q2 q3
        go_wp2_with fail
        clear HS1 HM1 KC1 CA y1 y2 KP4 KC4 HM4 HS4 C4 hk4 KP
      all_goals
        go_loopw [32] (fun i wr => ∃ (j : Nat) (names : List ByteArray) (nums : List Nat), j ≤ p.fields.length ∧ i = .int .i64 j ∧ names.length + (p.fields.length - j) + cntP (ps.drop (k + 1)) ≤ 2001 ∧ nums.length + (p.fields.length - j) + cntP (ps.drop (k + 1)) ≤ 2001 ∧ nums.Nodup ∧ Hid (fieldsCk types names nums (p.fields.drop j) = rp) ∧ StrSet wr (w.heap.size + 1) names ∧ NumSet wr (w.heap.size + 1 + 1) nums ∧ Blk wr (w.heap.size + 1 + 1 + 1) #[.map (some tb), .map (some (w.heap.size + 1)), .map (some (w.heap.size + 1 + 1))] 247 ∧ Below w.heap.size w wr) (fun i _ => p.fields.length - (intOf i).toNat)
        case atStart => exact ⟨0, nn, nums, Nat.zero_le _, rfl, by omega, by omega, hnd, HRP2, HSa, HMa, KCa, Ca⟩
        case round =>
          clear HSa HMa KCa Ca HRP2
          obtain ⟨j, names, nums, hj, rfl, hln, hlm, hnd, HQ, HS, HM, KC, CW⟩ := hrel
          by_cases hlt2 : j < p.fields.length
          · obtain ⟨f, hf⟩ := gx hlt2
            have hfm : f ∈ p.fields := List.mem_of_getElem? hf
            have hdrop : p.fields.drop j = f :: p.fields.drop (j + 1) := by
              rw [List.drop_eq_getElem_cons hlt2]
              rw [List.getElem?_eq_getElem hlt2] at hf
              rw [Option.some.inj hf]
            have HQ2 : Hid (fieldsCk types names nums (f :: p.fields.drop (j + 1)) = rp) := by rw [← hdrop]; exact HQ
            obtain ⟨gf, rfl, _, hgfl, hcellf⟩ := ownsRow_at hfr.1 (by omega)
            have hcf := hcellf wr (CW.block gf hgfl)
            obtain ⟨t0, t1, t2, t3, t4, t5, t6, t7, t8, t9, t10, t11, t12⟩ := fc_cells hf hcf
            have KF := Blk.new wr (FC f) 167
            have CA := CW.alloc CW.size (FO f)
            have HS1 : StrSet (wr.alloc (FO f)) (w.heap.size + 1) names := HS.keep (Below.heap_alloc _ _ _ HS.lt)
            have HM1 : NumSet (wr.alloc (FO f)) (w.heap.size + 1 + 1) nums := HM.keep (Below.heap_alloc _ _ _ HM.lt)
            have HT1 : StrSet (wr.alloc (FO f)) tb types := HT.keep (CA.block _ hbt)
            have hg1 : GOK (wr.alloc (FO f)) := hg.keep (CA.block _ hg.lt)
            have KC1 := KC.alloc (FO f)
            have zc := KC.lt
            obtain ⟨c1, c2⟩ := KC1.rules
            have hokf := hnump f hfm
            clear hcellf hcf hf hdrop HQ hfm HS HM KC
            go_wp2_with fail
            clear t0 t1 t2 t3 t4 t5 t6 t7 t8 t9 t10 t11 t12 c1 c2
            refine (c65 _ tb (w.heap.size + 1) (w.heap.size + 1 + 1) types names nums _ _ _ _ _ _ _ _ _ _ _ _ _ HT1 HS1 HM1 (by omega) (by have := hg.lt; omega) (by omega) (by omega) hnd hokf hg1).mono ?_
            cases h5 : fieldCk types names nums f with
            | error q =>
              have h6 : fldCk types names nums f.form (pkK f.key) (pkS f.key) (pkA f.key) (kindW f.type.1) f.type.1 f.type.2 f.name.1 f.name.2 f.num.1 f.num.2 = .error q := h5
              rw [h6]
              rintro e w5 ⟨rfl, hk5⟩
              obtain rfl : rp = .error q := by rw [← HQ2.out, fieldsCk, h5]
              obtain rfl : r = .error q := by rw [← HP2.out, partsCk, HRP.out]
              unfold fault
              go_wp2
              exact ⟨rfl, rfl, CA.trans (hk5.to_below CA.size (by intro x hx; simp at hx; omega))⟩
            | ok nm =>
              obtain ⟨names', nums'⟩ := nm
              have h6 : fldCk types names nums f.form (pkK f.key) (pkS f.key) (pkA f.key) (kindW f.type.1) f.type.1 f.type.2 f.name.1 f.name.2 f.num.1 f.num.2 = .ok (names', nums') := h5
              rw [h6]
              rintro e w5 ⟨rfl, HS5, HM5, hk5⟩
              obtain ⟨l1, l2, l3⟩ := fieldCk_ok h5 hnd
              have HQ3 : Hid (fieldsCk types names' nums' (p.fields.drop (j + 1)) = rp) := by
                have := HQ2.out
                rw [fieldsCk, h5] at this
                exact this
              have C5 : Below w.heap.size w w5 := CA.trans (hk5.to_below CA.size (by intro x hx; simp at hx; omega))
              have KC5 : Blk w5 (w.heap.size + 1 + 1 + 1) #[.map (some tb), .map (some (w.heap.size + 1)), .map (some (w.heap.size + 1 + 1))] 247 := (hk5.block _ KC1.lt (by simp; omega)).trans KC1
              go_wp2
              go_roundw
              case rel => exact ⟨j + 1, names', nums', by omega, by go_num, by omega, by omega, l3, HQ3, HS5, HM5, KC5, C5⟩
              case measure => simp [intOf]; omega
          · have hdone : p.fields.drop j = [] := by rw [List.drop_eq_nil_iff]; omega
            obtain rfl : rp = .ok (names, nums) := by rw [← HQ.out, hdone]; rfl
            have HP3 : Hid (partsCk types names nums (ps.drop (k + 1)) = r) := by
              have := HP2.out
              rw [partsCk, HRP.out] at this
              exact this
            clear hdone
            go_wp2
            go_roundw
            case rel => exact ⟨k + 1, names, nums, by omega, by go_num, by omega, by omega, hnd, HP3, HS, HM, KC, CW⟩
            case measure => simp [intOf]; omega
    · have hdone : ps.drop k = [] := by rw [List.drop_eq_nil_iff]; omega
      obtain rfl : r = .ok (names, nums) := by rw [← HP.out, hdone]; rfl
      clear hdone
      go_wp2
      go_end0
      exact ⟨rfl, CW⟩

end Go.Proofs.YtbbbegjedmicpaaGreatDoor
