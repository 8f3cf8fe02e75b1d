import Derived.Test.YtfebdimolnobaaaGreatDoorRefD

/-
  THE REFERENCE, CONTRACTS: wrong, long, at.
-/
namespace Go.Proofs.YtfebdimolnobaaaGreatDoor
open Go.RowKit

theorem Kept.below {bs : List Nat} {a b c : World} (h : Kept bs a b) (k : Below b.heap.size b c) : Kept bs a c := h.trans (Kept.of_below k)
theorem Kept.drewN {bs : List Nat} {a b : World} (h : Kept bs a b) (n : Nat) : Kept bs a (b.drewN n) := h.trans ⟨rfl, rfl, rfl, Nat.le_refl _, fun _ _ _ => rfl⟩
theorem Kept.set {bs : List Nat} {a b : World} (h : Kept bs a b) {c : Nat} (hp : c ∈ bs) (off : Nat) (u : Value) : Kept bs a (b.setCell ⟨c, off, none⟩ u) :=
  h.trans ⟨rfl, rfl, rfl, by simp [World.setCell], fun k _ hk2 => Below.heap_setCell _ _ _ _ (fun e => hk2 (e ▸ hp))⟩
theorem Blk.kept {w w1 : World} {bs : List Nat} {b : Nat} {cs : Array Value} {T : TypeId} (h : Blk w b cs T) (hk : Kept bs w w1) (hn : b ∉ bs) : Blk w1 b cs T := (hk.block b h.lt hn).trans h


/-- The place of the first word that may not be. -/
def wrongI (wr : Int) (at_ : Nat) : Int := if wr < 0 ∨ (at_ : Int) < wr then at_ else wr
def longI (wr : Int) (x : W) : Int := if 20 < x.1.size then wrongI wr x.2 else wr

set_option maxHeartbeats 1000000 in
set_option maxRecDepth 100000 in
theorem c21 (w : World) (rb : Nat) (c0 c1 c2 c4 c5 c6 c7 : Value) (wr : Int) (s : ByteArray) (p : Nat) (K : Blk w rb #[c0, c1, c2, .int .i64 wr, c4, c5, c6, c7] 100) :
    Calls Tryz.prog 42 #[.pointer (some ⟨rb, 0, none⟩), .agg #[.string s, .int .i64 p]] w fun e w' => e = .returned (.tuple #[]) ∧ Blk w' rb #[c0, c1, c2, .int .i64 (wrongI wr p), c4, c5, c6, c7] 100 ∧ Kept [rb] w w' := by
  have K1 := K.alloc (Obj.cells #[.string s, .int .i64 p] 102)
  obtain ⟨k1, k2⟩ := K1.rules
  have B0 : Kept [rb] w (w.alloc (Obj.cells #[.string s, .int .i64 p] 102)) := (Kept.refl _ _).alloc _
  have hne : rb ≠ w.heap.size := by have := K.lt; omega
  cases h1 : decide (wr < 0)
  · cases h2 : decide ((p : Int) < wr)
    · have HW : Hid (wrongI wr p = wr) := by unfold wrongI; rw [if_neg]; rfl; simp at h1 h2; omega
      go_enter Tryz.func42, Tryz.ntmps42
      go_wp2_with fail
      go_quiet (fail)
      go_wp2
      go_end0
      exact ⟨rfl, by rw [HW.out]; exact K1, B0.drewN _⟩
    · have HW : Hid (wrongI wr p = p) := by unfold wrongI; rw [if_pos]; rfl; simp at h1 h2; omega
      go_enter Tryz.func42, Tryz.ntmps42
      go_wp2_with fail
      go_quiet (fail)
      go_wp2
      go_end0
      refine ⟨rfl, by rw [HW.out]; exact K1.drew.set 3 _, ?_⟩
      exact (B0.drewN _).set (by simp) _ _
  · have HW : Hid (wrongI wr p = p) := by unfold wrongI; rw [if_pos]; rfl; simp at h1; omega
    go_enter Tryz.func42, Tryz.ntmps42
    go_wp2_with fail
    go_quiet (fail)
    go_wp2
    go_end0
    refine ⟨rfl, by rw [HW.out]; exact K1.drew.set 3 _, ?_⟩
    exact (B0.drewN _).set (by simp) _ _

set_option maxHeartbeats 1000000 in
set_option maxRecDepth 100000 in
theorem c33 (w : World) (rb : Nat) (c0 c1 c2 c4 c5 c6 c7 : Value) (wr : Int) (s : ByteArray) (p : Nat) (K : Blk w rb #[c0, c1, c2, .int .i64 wr, c4, c5, c6, c7] 100) :
    Calls Tryz.prog 75 #[.pointer (some ⟨rb, 0, none⟩), .agg #[.string s, .int .i64 p]] w fun e w' => e = .returned (.tuple #[]) ∧ Blk w' rb #[c0, c1, c2, .int .i64 (longI wr (s, p)), c4, c5, c6, c7] 100 ∧ Kept [rb] w w' := by
  have K1 := K.alloc (Obj.cells #[.string s, .int .i64 p] 102)
  have B0 : Kept [rb] w (w.alloc (Obj.cells #[.string s, .int .i64 p] 102)) := (Kept.refl _ _).alloc _
  by_cases h1 : 20 < s.size
  · have h2 : (20 : Int) < (s.size : Int) := by omega
    have HW : Hid (longI wr (s, p) = wrongI wr p) := by unfold longI; rw [if_pos h1]; rfl
    go_enter Tryz.func75, Tryz.ntmps75
    go_wp2_with fail
    refine (c21 _ rb c0 c1 c2 c4 c5 c6 c7 wr s p K1).mono ?_
    rintro e w2 ⟨rfl, K2, kk⟩
    go_wp2
    go_end0
    exact ⟨rfl, by rw [HW.out]; exact K2, B0.trans kk⟩
  · have h2 : decide ((20 : Int) < (s.size : Int)) = false := by simp; omega
    have HW : Hid (longI wr (s, p) = wr) := by unfold longI; rw [if_neg h1]; rfl
    go_enter Tryz.func75, Tryz.ntmps75
    go_wp2
    go_end0
    exact ⟨rfl, by rw [HW.out]; exact K1, B0⟩

/-- The reference's words in memory: the row, and the word that is at hand. -/
theorem row_word {w : World} {lo : Nat} {va : Option Addr} {vn vc : Nat} {ws : List W} (h : w.ownsRow lo 102 2 (.slice va vn vc) ws.length (ws.flatMap wcR)) {i : Nat} {x : W} (hx : ws[i]? = some x) :
    vn = ws.length ∧ i < ws.length ∧ ∃ g, va = some ⟨g, 0, none⟩ ∧ g < w.heap.size ∧ ∀ w' : World, w'.heap[g]? = w.heap[g]? → w'.cell? ⟨g, i * 2, none⟩ = some (.string x.1) ∧ w'.cell? ⟨g, i * 2 + 1, none⟩ = some (.int .i64 x.2) := by
  have hlt : i < ws.length := by
    by_cases h : i < ws.length
    · exact h
    · rw [List.getElem?_eq_none (by omega)] at hx; cases hx
  obtain ⟨g, rfl, _, hgl, hcell⟩ := ownsRow_at h (by omega)
  refine ⟨ownsRow_len h, hlt, g, rfl, hgl, fun w' hw => ⟨?_, ?_⟩⟩
  · exact hcell w' hw (i * 2) _ ((flat_get wcR 2 wcR_len ws i x hx 0 (by omega)).trans rfl)
  · exact hcell w' hw (i * 2 + 1) _ ((flat_get wcR 2 wcR_len ws i x hx 1 (by omega)).trans rfl)

set_option maxHeartbeats 1000000 in
set_option maxRecDepth 100000 in
theorem c34 (w : World) (rb lo : Nat) (wv c3 c4 c5 c6 c7 : Value) (i : Nat) (bad : Int) (ws : List W) (x : W) (s : ByteArray) (K : Blk w rb #[wv, .int .i64 i, .int .i64 bad, c3, c4, c5, c6, c7] 100) (hrow : w.ownsRow lo 102 2 wv ws.length (ws.flatMap wcR)) (hx : ws[i]? = some x) :
    Calls Tryz.prog 76 #[.pointer (some ⟨rb, 0, none⟩), .string s] w fun e w' => e = .returned (.bool (decide (bad < 0) && x.1.toList == s.toList)) ∧ Below w.heap.size w w' := by
  obtain ⟨va, vn, vc, rfl⟩ := ownsRow_form hrow
  obtain ⟨rfl, hlt, g, rfl, hgl, hcell⟩ := row_word hrow hx
  obtain ⟨q1, q2⟩ := hcell w rfl
  obtain ⟨k1, k2⟩ := K.rules
  have hi1 : (i : Int) < (ws.length : Int) := by omega
  clear hcell hx hrow
  cases h1 : decide (bad < 0)
  · go_enter Tryz.func76, Tryz.ntmps76
    go_wp2_with fail
    go_quiet (fail)
    go_wp2
    go_ret
    exact ⟨by simp, belowN (Below.refl _ _) _⟩
  · go_enter Tryz.func76, Tryz.ntmps76
    go_wp2_with fail
    go_quiet (fail)
    go_wp2
    go_ret
    exact ⟨by simp, belowN (Below.refl _ _) _⟩

end Go.Proofs.YtfebdimolnobaaaGreatDoor

/-
  THE REFERENCE, CONTRACT: next.
-/
namespace Go.Proofs.YtfebdimolnobaaaGreatDoor
open Go.RowKit

/-- Is a word of a sort? -/
def sortOK (so : Int) (s x : ByteArray) : Bool :=
  if so = 0 then x.toList == s.toList && !(s.toList == []) else if so = 1 then kindW x == 1 else if so = 2 then kindW x == 2 else kindW x == 3 || kindW x == 1
def nextW (so : Int) (s : ByteArray) (x : W) : W := if sortOK so s x.1 then x else (⟨#[]⟩, x.2)
def nextI (so : Int) (s : ByteArray) (x : W) (i : Nat) : Nat := if sortOK so s x.1 then i + 1 else i
def nextB (so : Int) (s : ByteArray) (x : W) (bad : Int) : Int := if sortOK so s x.1 then bad else if bad < 0 then x.2 else bad
def wv2 (x : W) : Value := .agg #[.string x.1, .int .i64 x.2]

theorem Blk.new1 (w : World) (o : Obj) (cs : Array Value) (T : TypeId) : Blk ((w.alloc o).alloc (.cells cs T)) (w.heap.size + 1) cs T := by
  have h := Blk.new (w.alloc o) cs T
  have e : (w.alloc o).heap.size = w.heap.size + 1 := by simp
  rw [e] at h
  exact h
theorem Kept.sets {bs : List Nat} {a : World} {c : Nat} (hp : c ∈ bs ∨ a.heap.size ≤ c) : ∀ (vs : List Value) (o : Nat) {b : World}, Kept bs a b → Kept bs a (b.setCells c o vs)
  | [], _, _, h => h
  | v :: vs, o, b, h => by
    have h1 : Kept bs a (b.setCell ⟨c, o, none⟩ v) := by
      refine ⟨h.os, h.tape, h.output, by simpa [World.setCell] using h.size, fun k hk hk2 => ?_⟩
      rw [Below.heap_setCell _ _ _ _ (fun e => ?_)]
      · exact h.block k hk hk2
      · rcases hp with hp | hp
        · exact hk2 (e ▸ hp)
        · simp at e; omega
    have := Kept.sets hp vs (o + 1) h1
    simpa [World.setCells] using this

set_option maxHeartbeats 4000000 in
set_option maxRecDepth 100000 in
theorem c32 (w : World) (rb lo : Nat) (wv c3 c4 c5 c6 c7 : Value) (i : Nat) (bad : Int) (ws : List W) (x : W) (so : Int) (hso : so = 0 ∨ so = 1 ∨ so = 2 ∨ so = 3) (s : ByteArray) (hlen : ws.length ≤ 2001)
    (K : Blk w rb #[wv, .int .i64 i, .int .i64 bad, c3, c4, c5, c6, c7] 100) (hrow : w.ownsRow lo 102 2 wv ws.length (ws.flatMap wcR)) (hx : ws[i]? = some x) :
    Calls Tryz.prog 74 #[.pointer (some ⟨rb, 0, none⟩), .int .i64 so, .string s] w fun e w' => e = .returned (wv2 (nextW so s x)) ∧
      Blk w' rb #[wv, .int .i64 (nextI so s x i), .int .i64 (nextB so s x bad), c3, c4, c5, c6, c7] 100 ∧ Kept [rb] w w' := by
  obtain ⟨va, vn, vc, rfl⟩ := ownsRow_form hrow
  obtain ⟨rfl, hlt, g, rfl, hgl, hcell⟩ := row_word hrow hx
  have hcw : (w.alloc (Obj.cells #[.string ⟨#[]⟩, .int .i64 0] 102)).heap[g]? = w.heap[g]? := Below.heap_alloc _ _ _ hgl
  obtain ⟨q1, q2⟩ := hcell _ hcw
  have hi1 : (i : Int) < (ws.length : Int) := by omega
  have K0 := Blk.new w #[.string ⟨#[]⟩, .int .i64 0] 102
  have K1 := K.alloc (Obj.cells #[.string ⟨#[]⟩, .int .i64 0] 102)
  have hz := K.lt
  obtain ⟨k1, k2⟩ := K1.rules
  have B0 : Kept [rb] w (w.alloc (Obj.cells #[.string ⟨#[]⟩, .int .i64 0] 102)) := (Kept.refl _ _).alloc _
  go_enter Tryz.func74, Tryz.ntmps74
  go_wp2_with fail
  go_region
  clear q1 q2 hcell hcw k1 k2 hi1
  have J0 : Blk ((w.alloc (Obj.cells #[.string ⟨#[]⟩, .int .i64 0] 102)).alloc (Obj.cells #[.string x.1, .int .i64 x.2] 102)).drew w.heap.size #[.string ⟨#[]⟩, .int .i64 0] 102 := (K0.alloc _).drew
  have JW : Blk ((w.alloc (Obj.cells #[.string ⟨#[]⟩, .int .i64 0] 102)).alloc (Obj.cells #[.string x.1, .int .i64 x.2] 102)).drew (w.heap.size + 1) #[.string x.1, .int .i64 x.2] 102 := (Blk.new1 w _ _ _).drew
  have J1 : Blk ((w.alloc (Obj.cells #[.string ⟨#[]⟩, .int .i64 0] 102)).alloc (Obj.cells #[.string x.1, .int .i64 x.2] 102)).drew rb _ 100 := (K1.alloc _).drew
  have C0 : Kept [rb] w ((w.alloc (Obj.cells #[.string ⟨#[]⟩, .int .i64 0] 102)).alloc (Obj.cells #[.string x.1, .int .i64 x.2] 102)).drew := (B0.alloc _).drew
  clear K0 K1 B0 K
  go_wp2_with fail
  refine (c51 _ x.1).mono ?_
  rintro e w3 ⟨rfl, hb3⟩
  replace J0 := J0.below hb3 J0.lt
  replace JW := JW.below hb3 JW.lt
  replace J1 := J1.below hb3 J1.lt
  replace C0 := C0.below hb3
  clear hb3
  obtain ⟨m1, m2⟩ := JW.rules
  go_wp2_with fail
  refine (c52 _ x.1).mono ?_
  rintro e _ ⟨rfl, rfl⟩
  go_wp2_with fail
  clear m1 m2
  refine (c53 _ x.1).mono ?_
  rintro e w5 ⟨rfl, hb3⟩
  replace J0 := J0.below hb3 J0.lt
  replace JW := JW.below hb3 JW.lt
  replace J1 := J1.below hb3 J1.lt
  replace C0 := C0.below hb3
  clear hb3
  obtain ⟨m1, m2⟩ := JW.rules
  obtain ⟨n1, n2⟩ := J1.rules
  obtain ⟨o1, o2⟩ := J0.rules
  have ne1 : rb ≠ w.heap.size := by omega
  have ne2 : rb ≠ w.heap.size + 1 := by omega
  cases hS : sortOK so s x.1
  · have HW : Hid (nextW so s x = (⟨#[]⟩, x.2)) := by unfold nextW; rw [hS]; rfl
    have HI : Hid (nextI so s x i = i) := by unfold nextI; rw [hS]; rfl
    have HB : Hid (nextB so s x bad = if bad < 0 then (x.2 : Int) else bad) := by unfold nextB; rw [hS]; rfl
    have HS : Hid (sortOK so s x.1 = false) := hS
    clear hS
    rcases hso with rfl | rfl | rfl | rfl
    · cases h1 : (x.1.toList == s.toList)
      · cases hb : decide (bad < 0)
        · have hb1 : ¬ bad < 0 := of_decide_eq_false hb
          go_wp2
          refine bodyPost_ret (ret_cell Tryz.results74 _ _ rfl (J0.sets_all [_, _] rfl) Tryz.underlying102 (by kernel_rfl)) rfl ⟨?_, ?_, ?_⟩
          · rw [HW.out]; rfl
          · rw [HI.out, HB.out, if_neg (by omega)]; exact J1.sets_other ne1.symm [_, _] 0
          · exact C0.sets (.inr (Nat.le_refl _)) [_, _] 0
        · have hb1 : bad < 0 := of_decide_eq_true hb
          go_wp2
          refine bodyPost_ret (ret_cell Tryz.results74 _ _ rfl ((J0.other 2 _ ne1).sets_all [_, _] rfl) Tryz.underlying102 (by kernel_rfl)) rfl ⟨?_, ?_, ?_⟩
          · rw [HW.out]; rfl
          · rw [HI.out, HB.out, if_pos hb1]; exact (J1.set 2 _).sets_other ne1.symm [_, _] 0
          · exact (C0.set (List.mem_singleton.2 rfl) _ _).sets (.inr (Nat.le_refl _)) [_, _] 0
      · have h2 : (s.toList == []) = true := by have := HS.out; rw [sortOK, if_pos rfl, h1] at this; simpa using this
        cases hb : decide (bad < 0)
        · have hb1 : ¬ bad < 0 := of_decide_eq_false hb
          go_wp2
          refine bodyPost_ret (ret_cell Tryz.results74 _ _ rfl (J0.sets_all [_, _] rfl) Tryz.underlying102 (by kernel_rfl)) rfl ⟨?_, ?_, ?_⟩
          · rw [HW.out]; rfl
          · rw [HI.out, HB.out, if_neg (by omega)]; exact J1.sets_other ne1.symm [_, _] 0
          · exact C0.sets (.inr (Nat.le_refl _)) [_, _] 0
        · have hb1 : bad < 0 := of_decide_eq_true hb
          go_wp2
          refine bodyPost_ret (ret_cell Tryz.results74 _ _ rfl ((J0.other 2 _ ne1).sets_all [_, _] rfl) Tryz.underlying102 (by kernel_rfl)) rfl ⟨?_, ?_, ?_⟩
          · rw [HW.out]; rfl
          · rw [HI.out, HB.out, if_pos hb1]; exact (J1.set 2 _).sets_other ne1.symm [_, _] 0
          · exact (C0.set (List.mem_singleton.2 rfl) _ _).sets (.inr (Nat.le_refl _)) [_, _] 0
    · have h1 : (kindW x.1 == 1) = false := by have := HS.out; simpa [sortOK] using this
      cases hb : decide (bad < 0)
      · have hb1 : ¬ bad < 0 := of_decide_eq_false hb
        go_wp2
        refine bodyPost_ret (ret_cell Tryz.results74 _ _ rfl (J0.sets_all [_, _] rfl) Tryz.underlying102 (by kernel_rfl)) rfl ⟨?_, ?_, ?_⟩
        · rw [HW.out]; rfl
        · rw [HI.out, HB.out, if_neg (by omega)]; exact J1.sets_other ne1.symm [_, _] 0
        · exact C0.sets (.inr (Nat.le_refl _)) [_, _] 0
      · have hb1 : bad < 0 := of_decide_eq_true hb
        go_wp2
        refine bodyPost_ret (ret_cell Tryz.results74 _ _ rfl ((J0.other 2 _ ne1).sets_all [_, _] rfl) Tryz.underlying102 (by kernel_rfl)) rfl ⟨?_, ?_, ?_⟩
        · rw [HW.out]; rfl
        · rw [HI.out, HB.out, if_pos hb1]; exact (J1.set 2 _).sets_other ne1.symm [_, _] 0
        · exact (C0.set (List.mem_singleton.2 rfl) _ _).sets (.inr (Nat.le_refl _)) [_, _] 0
    · have h1 : (kindW x.1 == 2) = false := by have := HS.out; simpa [sortOK] using this
      cases hb : decide (bad < 0)
      · have hb1 : ¬ bad < 0 := of_decide_eq_false hb
        go_wp2
        refine bodyPost_ret (ret_cell Tryz.results74 _ _ rfl (J0.sets_all [_, _] rfl) Tryz.underlying102 (by kernel_rfl)) rfl ⟨?_, ?_, ?_⟩
        · rw [HW.out]; rfl
        · rw [HI.out, HB.out, if_neg (by omega)]; exact J1.sets_other ne1.symm [_, _] 0
        · exact C0.sets (.inr (Nat.le_refl _)) [_, _] 0
      · have hb1 : bad < 0 := of_decide_eq_true hb
        go_wp2
        refine bodyPost_ret (ret_cell Tryz.results74 _ _ rfl ((J0.other 2 _ ne1).sets_all [_, _] rfl) Tryz.underlying102 (by kernel_rfl)) rfl ⟨?_, ?_, ?_⟩
        · rw [HW.out]; rfl
        · rw [HI.out, HB.out, if_pos hb1]; exact (J1.set 2 _).sets_other ne1.symm [_, _] 0
        · exact (C0.set (List.mem_singleton.2 rfl) _ _).sets (.inr (Nat.le_refl _)) [_, _] 0
    · have h1 : (kindW x.1 == 3 || kindW x.1 == 1) = false := by have := HS.out; simpa [sortOK] using this
      cases hb : decide (bad < 0)
      · have hb1 : ¬ bad < 0 := of_decide_eq_false hb
        go_wp2
        refine bodyPost_ret (ret_cell Tryz.results74 _ _ rfl (J0.sets_all [_, _] rfl) Tryz.underlying102 (by kernel_rfl)) rfl ⟨?_, ?_, ?_⟩
        · rw [HW.out]; rfl
        · rw [HI.out, HB.out, if_neg (by omega)]; exact J1.sets_other ne1.symm [_, _] 0
        · exact C0.sets (.inr (Nat.le_refl _)) [_, _] 0
      · have hb1 : bad < 0 := of_decide_eq_true hb
        go_wp2
        refine bodyPost_ret (ret_cell Tryz.results74 _ _ rfl ((J0.other 2 _ ne1).sets_all [_, _] rfl) Tryz.underlying102 (by kernel_rfl)) rfl ⟨?_, ?_, ?_⟩
        · rw [HW.out]; rfl
        · rw [HI.out, HB.out, if_pos hb1]; exact (J1.set 2 _).sets_other ne1.symm [_, _] 0
        · exact (C0.set (List.mem_singleton.2 rfl) _ _).sets (.inr (Nat.le_refl _)) [_, _] 0
  · have HW : Hid (nextW so s x = x) := by unfold nextW; rw [hS]; rfl
    have HI : Hid (nextI so s x i = i + 1) := by unfold nextI; rw [hS]; rfl
    have HB : Hid (nextB so s x bad = bad) := by unfold nextB; rw [hS]; rfl
    have HS : Hid (sortOK so s x.1 = true) := hS
    clear hS
    rcases hso with rfl | rfl | rfl | rfl
    · have h1 : (x.1.toList == s.toList) = true ∧ (s.toList == []) = false := by have := HS.out; simpa [sortOK] using this
      obtain ⟨h1, h2⟩ := h1
      go_wp2
      refine bodyPost_ret (ret_cell Tryz.results74 _ _ rfl ((J0.other 1 _ ne1).sets_all [_, _] rfl) Tryz.underlying102 (by kernel_rfl)) rfl ⟨?_, ?_, ?_⟩
      · rw [HW.out]; rfl
      · rw [HI.out, HB.out]; exact (J1.set 1 _).sets_other ne1.symm [_, _] 0
      · exact (C0.set (List.mem_singleton.2 rfl) _ _).sets (.inr (Nat.le_refl _)) [_, _] 0
    · have h1 : (kindW x.1 == 1) = true := by have := HS.out; simpa [sortOK] using this
      go_wp2
      refine bodyPost_ret (ret_cell Tryz.results74 _ _ rfl ((J0.other 1 _ ne1).sets_all [_, _] rfl) Tryz.underlying102 (by kernel_rfl)) rfl ⟨?_, ?_, ?_⟩
      · rw [HW.out]; rfl
      · rw [HI.out, HB.out]; exact (J1.set 1 _).sets_other ne1.symm [_, _] 0
      · exact (C0.set (List.mem_singleton.2 rfl) _ _).sets (.inr (Nat.le_refl _)) [_, _] 0
    · have h1 : (kindW x.1 == 2) = true := by have := HS.out; simpa [sortOK] using this
      go_wp2
      refine bodyPost_ret (ret_cell Tryz.results74 _ _ rfl ((J0.other 1 _ ne1).sets_all [_, _] rfl) Tryz.underlying102 (by kernel_rfl)) rfl ⟨?_, ?_, ?_⟩
      · rw [HW.out]; rfl
      · rw [HI.out, HB.out]; exact (J1.set 1 _).sets_other ne1.symm [_, _] 0
      · exact (C0.set (List.mem_singleton.2 rfl) _ _).sets (.inr (Nat.le_refl _)) [_, _] 0
    · have h1 : (kindW x.1 == 3 || kindW x.1 == 1) = true := by have := HS.out; simpa [sortOK] using this
      go_wp2
      refine bodyPost_ret (ret_cell Tryz.results74 _ _ rfl ((J0.other 1 _ ne1).sets_all [_, _] rfl) Tryz.underlying102 (by kernel_rfl)) rfl ⟨?_, ?_, ?_⟩
      · rw [HW.out]; rfl
      · rw [HI.out, HB.out]; exact (J1.set 1 _).sets_other ne1.symm [_, _] 0
      · exact (C0.set (List.mem_singleton.2 rfl) _ _).sets (.inr (Nat.le_refl _)) [_, _] 0

end Go.Proofs.YtfebdimolnobaaaGreatDoor
