import Derived.Test.YtbbbegjedmicpaaGreatDoorBuB
import Derived.Test.YtbbbegjedmicpaaGreatDoorShelfSrt
import Derived.Shelf.SlSortCmp.NoneTotal

/-
  CONTRACTS: cmp.Compare of two numbers.
-/
namespace Go.Proofs.YtbbbegjedmicpaaGreatDoor
open Go.RowKit
attribute [local go_sem ↓] Go.wp_at_zero Go.wp_at_succ

def cmpI (x y : Int) : Int := if x < y then -1 else if y < x then 1 else 0
theorem cmpI_lt (x y : Int) : cmpI x y < 0 ↔ x < y := by
  unfold cmpI
  by_cases h : x < y
  · simp [h]
  · by_cases h2 : y < x <;> simp [h, h2]

theorem b_isNaN (x : Int) (w : World) : Calls Tryz.prog 117 #[.int .i64 x] w fun e w' => e = .returned (.bool false) ∧ w' = w := by
  go_enter Tryz.func117, Tryz.ntmps117
  go_wp2
  go_ret
  exact ⟨rfl, rfl⟩
set_option maxHeartbeats 1000000 in
theorem b_compare (x y : Int) (w : World) : Calls Tryz.prog 72 #[.int .i64 x, .int .i64 y] w fun e w' => e = .returned (.int .i64 (cmpI x y)) ∧ w' = w := by
  unfold cmpI
  by_cases h : x < y
  · rw [if_pos h]
    go_enter Tryz.func72, Tryz.ntmps72
    go_wp2_with (first | (go_at_call 117; refine (b_isNaN _ _).mono ?_; rintro e w' ⟨rfl, rfl⟩))
    go_ret
    exact ⟨rfl, rfl⟩
  · have hd : decide (x < y) = false := by simp [h]
    rw [if_neg h]
    by_cases h2 : y < x
    · rw [if_pos h2]
      go_enter Tryz.func72, Tryz.ntmps72
      go_wp2_with (first | (go_at_call 117; refine (b_isNaN _ _).mono ?_; rintro e w' ⟨rfl, rfl⟩))
      go_ret
      exact ⟨rfl, rfl⟩
    · have hd2 : decide (y < x) = false := by simp [h2]
      rw [if_neg h2]
      go_enter Tryz.func72, Tryz.ntmps72
      go_wp2_with (first | (go_at_call 117; refine (b_isNaN _ _).mono ?_; rintro e w' ⟨rfl, rfl⟩))
      go_ret
      exact ⟨rfl, rfl⟩

theorem FldAt.cell0 {w : World} {P : Nat → Prop} {mp : ByteArray → Option Nat} {g : GF} {fb : Nat} (h : FldAt w P mp g fb) : w.cell? ⟨fb, 0, none⟩ = some (.int .i64 g.f.num) ∧ P fb := by
  unfold FldAt at h
  split at h
  · obtain ⟨rv, eb, h1, h2, _⟩ := h
    exact ⟨h1.cell 0, h2⟩
  · obtain ⟨rv, h1, h2, _⟩ := h
    exact ⟨h1.cell 0, h2⟩
theorem FldsAt.zip {w : World} {P : Nat → Prop} {mp : ByteArray → Option Nat} : ∀ {gs : List GF} {l : List Nat}, FldsAt w P mp gs l → ∃ z : List (GF × Nat), z.map (·.1) = gs ∧ z.map (·.2) = l ∧ ∀ x ∈ z, FldAt w P mp x.1 x.2
  | [], _, h => ⟨[], rfl, h.symm, by simp⟩
  | g :: gs, _, ⟨b, r, h1, h2, h3⟩ => by
    obtain ⟨z, e1, e2, e3⟩ := FldsAt.zip h3
    refine ⟨(g, b) :: z, by simp [e1], by simp [e2, h1], ?_⟩
    intro x hx
    rcases List.mem_cons.1 hx with rfl | hx
    · exact h2
    · exact e3 x hx
theorem FldsAt.of_zip {w : World} {P : Nat → Prop} {mp : ByteArray → Option Nat} : ∀ {z : List (GF × Nat)}, (∀ x ∈ z, FldAt w P mp x.1 x.2) → FldsAt w P mp (z.map (·.1)) (z.map (·.2))
  | [], _ => rfl
  | x :: z, h => ⟨x.2, z.map (·.2), rfl, h x List.mem_cons_self, FldsAt.of_zip (fun y hy => h y (List.mem_cons_of_mem _ hy))⟩

end Go.Proofs.YtbbbegjedmicpaaGreatDoor

/-
  CONTRACTS: cmp.Compare of two numbers; the order of a message's fields; slices.SortFunc of them.
-/
namespace Go.Proofs.YtbbbegjedmicpaaGreatDoor
open Go.RowKit Go.Maps Go.Sort
attribute [local go_sem ↓] Go.wp_at_zero Go.wp_at_succ

set_option maxHeartbeats 1000000 in
theorem b_fcmp (a b : Nat) (x y : Int) (w : World) (ha : w.cell? ⟨a, 0, none⟩ = some (.int .i64 x)) (hb : w.cell? ⟨b, 0, none⟩ = some (.int .i64 y)) :
    Calls Tryz.prog 71 #[.pointer (some ⟨a, 0, none⟩), .pointer (some ⟨b, 0, none⟩)] w fun e w' => e = .returned (.int .i64 (cmpI x y)) ∧ ∃ q, w' = w.drewN q := by
  have hC := b_compare x y
  generalize cmpI x y = c at hC ⊢
  have hda : w.drew.cell? ⟨a, 0, none⟩ = some (.int .i64 x) := ha
  have hdb : w.drew.cell? ⟨b, 0, none⟩ = some (.int .i64 y) := hb
  go_enter Tryz.func71, Tryz.ntmps71
  go_wp2_with fail
  go_region_with (first | (go_at_call 72; refine (hC _).mono ?_; rintro e w' ⟨rfl, rfl⟩))
  all_goals
    go_wp2
    go_ret
    exact ⟨rfl, 1, rfl⟩

end Go.Proofs.YtbbbegjedmicpaaGreatDoor

/-
  CONTRACT: slices.SortFunc of a message's fields, by their numbers.
-/
namespace Go.Proofs.YtbbbegjedmicpaaGreatDoor
open Go.RowKit Go.Maps Go.Sort

section
variable {α : Type} [Inhabited α] {enc : α → Value}
theorem heap_srt {w : World} {g n : Nat} {os : Array Obj} {cur : Array Value} {e : TypeId} {fr : Nat × Nat} (d : Array α) (hb : w.heap[g]? = some (.cells cur e fr)) :
    (sortWorld enc w g 0 n d os).heap[g]? = some (.cells (putCells enc 0 d cur) e fr) := by
  have hg : g < w.heap.size := (Array.getElem?_eq_some_iff.1 hb).1
  unfold sortWorld
  rw [heap_grow_old _ _ (by simpa using hg)]
  simp [putRow, mapBlock, Sort.ahead, Array.getElem?_modify, hb, onCells]
theorem grown_srt {w : World} {g n : Nat} {os : Array Obj} (d : Array α) : w.grownBy (sortWorld enc w g 0 n d os) (some g) := by
  refine ⟨rfl, rfl, rfl, by simp [sortWorld], fun k hk hne => ?_⟩
  unfold sortWorld
  rw [heap_grow_old _ _ (by simpa using hk)]
  have : g ≠ k := fun e => hne (by rw [e])
  simp [putRow, mapBlock, Sort.ahead, Array.getElem?_modify, this]
theorem take_put (cur : Array Value) (ts : List α) (h : ts.length ≤ cur.size) : (putCells enc 0 ts.toArray cur).toList.take ts.length = ts.map enc := by
  apply List.ext_getElem?
  intro j
  by_cases hj : j < ts.length
  · rw [List.getElem?_take_of_lt hj, Array.getElem?_toList]
    simp [putCells, hj, show j < cur.size by omega]
  · rw [List.getElem?_take_eq_none (by omega), List.getElem?_eq_none (by simp; omega)]
theorem ownsRow_srt {w : World} {base g cap n m : Nat} {e : TypeId} {os : Array Obj} {cur : Array Value} {ts : List α} (hl : ts.length = m) (hbase : base ≤ g) (hb : w.heap[g]? = some (.cells cur e (0, 0)))
    (h1 : m ≤ cap) (h2 : cap ≤ maxLen) (h3 : cur.size = cap * 1) :
    (sortWorld enc w g 0 n ts.toArray os).ownsRow base e 1 (.slice (some ⟨g, 0, none⟩) m cap) m (ts.map enc) :=
  ⟨by simp [hl], .inr ⟨g, cap, _, rfl, hbase, heap_srt _ hb, h1, h2, by simp [putCells, h3], by rw [Nat.mul_one, ← hl]; exact take_put cur ts (by omega)⟩⟩
theorem holds_own {w : World} {g : Nat} {cur : Array Value} {e : TypeId} {ss : List α} (hb : w.heap[g]? = some (.cells cur e (0, 0))) (ht : cur.toList.take ss.length = ss.map enc) : Holds enc w g 0 ss.toArray := by
  intro j hj
  have hj' : j < ss.length := by simpa using hj
  refine ⟨?_, by simp [World.frozen?, hb]⟩
  have h1 : (cur.toList.take ss.length)[j]? = (ss.map enc)[j]? := by rw [ht]
  rw [List.getElem?_take_of_lt hj'] at h1
  simp only [World.cell?, hb, Nat.zero_add]
  simp only [Option.isSome_none, Bool.false_eq_true, if_false]
  rw [← Array.getElem?_toList, h1]
  simp [hj']
end

theorem lift_list {β : Type} {p : β → Prop} : ∀ l : List β, (∀ x ∈ l, p x) → ∃ D : List { x : β // p x }, D.map (·.1) = l
  | [], _ => ⟨[], rfl⟩
  | x :: l, h => by
    obtain ⟨D, hD⟩ := lift_list l (fun y hy => h y (List.mem_cons_of_mem _ hy))
    exact ⟨⟨x, h x List.mem_cons_self⟩ :: D, by simp [hD]⟩
/-- A field by its number and its block. -/
def FKey (w : World) (g : Nat) : Type := { x : Int × Nat // w.cell? ⟨x.2, 0, none⟩ = some (.int .i64 x.1) ∧ x.2 ≠ g }
def FKey.enc {w : World} {g : Nat} (x : FKey w g) : Value := ptrV (some x.1.2)
def FKey.cf {w : World} {g : Nat} (x y : FKey w g) : Int := cmpI x.1.1 y.1.1
theorem FKey.lt {w : World} {g : Nat} (x y : FKey w g) : ltOf (FKey.cf (w := w) (g := g)) x y = decide (x.1.1 < y.1.1) := by
  unfold ltOf FKey.cf
  rw [Bool.eq_iff_iff]
  simp [cmpI_lt]
theorem FKey.swo (w : World) (g : Nat) : SWO (ltOf (FKey.cf (w := w) (g := g))) where
  irrefl x := by rw [FKey.lt]; simp
  trans x y z h1 h2 := by rw [FKey.lt] at *; simp at *; omega
  ntrans x y z h1 h2 := by rw [FKey.lt] at *; simp at *; omega

/-- What a sorted list of fields is. -/
def SrtRet (w : World) (lo : Nat) (v : Value) (l : List (Int × Nat)) (e : Ending) (w' : World) : Prop :=
  e = .returned (.tuple #[]) ∧ ∃ l' : List (Int × Nat), l'.Perm l ∧ l'.Pairwise (fun a b => a.1 ≤ b.1) ∧ w'.ownsRow lo 168 1 v l.length (ptrCells (l'.map (·.2))) ∧ w.grownBy w' v.ownBlock

set_option maxRecDepth 100000 in
set_option maxHeartbeats 1000000 in
theorem b_sort (w : World) (lo : Nat) (v : Value) (l : List (Int × Nat)) (hrow : w.ownsRow lo 168 1 v l.length (ptrCells (l.map (·.2)))) (hc : ∀ x ∈ l, w.cell? ⟨x.2, 0, none⟩ = some (.int .i64 x.1)) (hne : ∀ x ∈ l, v.ownBlock ≠ some x.2) (hl : l.length ≤ 2001) :
    Calls Tryz.prog 70 #[v, .func (.func 71) #[] #[]] w (SrtRet w lo v l) := by
  by_cases h0 : l = []
  · subst h0
    obtain ⟨a, c, rfl⟩ := row_v hrow
    refine (AnyF.slices_SortFunc_none (P := Tryz.prog) (ρ := Tryz.sortF_ren) { Tryz.sortF with } a c _ w).mono ?_
    rintro e w' ⟨rfl, rfl⟩
    exact ⟨rfl, [], List.Perm.refl _, List.Pairwise.nil, hrow, ⟨rfl, rfl, rfl, Nat.le_refl _, fun _ _ _ => rfl⟩⟩
  · rcases hrow.2 with ⟨rfl, h1⟩ | ⟨g, cap, cur, rfl, hg, hb, hn, hm, hs, ht⟩
    · exact absurd (List.eq_nil_of_length_eq_zero h1) h0
    · have hgl : g < w.heap.size := Blk.lt hb
      have hp : ∀ x ∈ l, w.cell? ⟨x.2, 0, none⟩ = some (.int .i64 x.1) ∧ x.2 ≠ g := fun x hx => ⟨hc x hx, fun e => hne x hx (by rw [e]; rfl)⟩
      obtain ⟨x0, hx0⟩ := List.exists_mem_of_ne_nil l h0
      haveI : Inhabited (FKey w g) := ⟨⟨x0, hp x0 hx0⟩⟩
      obtain ⟨D, hD⟩ : ∃ D : List (FKey w g), D.map (·.1) = l := lift_list l hp
      have hDl : D.length = l.length := by rw [← hD]; simp
      have hcells : ptrCells (l.map (·.2)) = D.map FKey.enc := by
        rw [← hD]
        unfold ptrCells
        rw [List.map_map, List.map_map]
        rfl
      have eg : ∀ args w, (callFunc 71 args).run Tryz.prog w = .ok (.enter 71 args) w := enters_of Tryz.func71 (by kernel_rfl) rfl
      have hcmp : CmpLays1 Tryz.prog 71 #[] (FKey.enc (w := w) (g := g)) FKey.cf g 0 D.toArray.size w := by
        intro m os dk hsz x y
        have hkeep : ∀ z : FKey w g, (sortWorld FKey.enc w g 0 m dk os).cell? ⟨z.1.2, 0, none⟩ = some (.int .i64 z.1.1) := fun z => by
          have hz := World.block_lt_of_cell? _ _ z.2.1
          have hbk := (grown_srt (enc := FKey.enc) (w := w) (g := g) (n := m) (os := os) dk).block z.1.2 hz (fun e => z.2.2 (Option.some.inj e))
          exact (World.cell?_of_block (a := ⟨z.1.2, 0, none⟩) hbk).trans z.2.1
        refine (b_fcmp x.1.2 y.1.2 x.1.1 y.1.1 _ (hkeep x) (hkeep y)).mono ?_
        rintro e w' ⟨rfl, q, rfl⟩
        exact ⟨rfl, q, #[], by rw [grow_empty]⟩
      have hH : Holds FKey.enc w g 0 D.toArray := holds_own hb (by rw [hDl, ← hcells]; simpa using ht)
      have hcon := Any.slices_SortFunc Tryz.sortF FKey.enc (fun _ => rfl) FKey.cf (FKey.swo w g) 71 #[] g 0 cap D.toArray w eg hcmp hH hgl (by simp; omega)
      have e1 : (D.toArray.size) = l.length := by simpa using hDl
      rw [e1] at hcon
      refine hcon.mono ?_
      rintro e w' ⟨rfl, d', n, os, hperm, hsort, rfl⟩
      have hsz : d'.size = l.length := by rw [hperm.1]; exact e1
      refine ⟨rfl, d'.toList.map (·.1), ?_, ?_, ?_, grown_srt d'⟩
      · have h2 := hperm.2.2
        rw [← e1] at h2
        rw [Array.extract_size, show D.toArray.size = d'.size from by rw [hsz]; exact e1, Array.extract_size] at h2
        rw [← hD]
        exact List.Perm.map _ (by simpa using h2)
      · rw [List.pairwise_map, List.pairwise_iff_getElem]
        intro i j hi hj hij
        have hi' : i < d'.size := by simpa using hi
        have hj' : j < d'.size := by simpa using hj
        have h2 := hsort i j (Nat.zero_le _) hij (by omega)
        rw [FKey.lt, getElem!_pos d' i hi', getElem!_pos d' j hj'] at h2
        simp at h2 ⊢
        exact h2
      · have e2 : ptrCells ((d'.toList.map (·.1)).map (·.2)) = d'.toList.map FKey.enc := by
          unfold ptrCells
          rw [List.map_map, List.map_map]
          rfl
        rw [e2]
        have := ownsRow_srt (enc := FKey.enc) (n := n) (os := os) (ts := d'.toList) (m := l.length) (by simpa using hsz) hg hb hn hm hs
        simpa using this

end Go.Proofs.YtbbbegjedmicpaaGreatDoor
