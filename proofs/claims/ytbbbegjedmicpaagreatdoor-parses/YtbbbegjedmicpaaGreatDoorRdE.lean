import Derived.Test.YtbbbegjedmicpaaGreatDoorRdA

/-
  CONTRACTS: field, mapField.
-/
namespace Go.Proofs.YtbbbegjedmicpaaGreatDoor
open Go.RowKit
attribute [local go_sem] f91_0 f91_1 f91_2

def keyV : Option W → List Value
  | some x => wcI x
  | none => [.int .i64 0, .string ⟨#[]⟩, .int .i64 0]
/-- A field's cells. -/
def fcI (f : FieldR) : List Value := .int .i64 f.form :: (keyV f.key ++ wcI f.type ++ wcI f.name ++ wcI f.num)

set_option maxHeartbeats 1000000 in
theorem c80 (w : World) (rb wb : Nat) (ws : List W) (i : Nat) (form : Int) (R : Rd w rb wb ws i) :
    Calls Tryz.prog 243 #[.pointer (some ⟨rb, 0, none⟩), .int .i64 form] w (Post w rb wb ws (fieldP ws form i) fun f _ e => e = .returned (.agg (fcI f).toArray)) := by
  obtain ⟨B0, K0⟩ := one_new w #[.int .i64 0, .int .i64 0, .string ⟨#[]⟩, .int .i64 0, .int .i64 0, .string ⟨#[]⟩, .int .i64 0, .int .i64 0, .string ⟨#[]⟩, .int .i64 0, .int .i64 0, .string ⟨#[]⟩, .int .i64 0] 167
  have R0 := R.alloc (Obj.cells #[.int .i64 0, .int .i64 0, .string ⟨#[]⟩, .int .i64 0, .int .i64 0, .string ⟨#[]⟩, .int .i64 0, .int .i64 0, .string ⟨#[]⟩, .int .i64 0, .int .i64 0, .string ⟨#[]⟩, .int .i64 0] 167)
  have n1 : ¬ w.heap.size = rb := by have := R.blocks; omega
  have n3 : ¬ rb = w.heap.size := by have := R.blocks; omega
  have A0 := Adv.of_below R.next B0
  generalize hr : fieldP ws form i = r
  have HR : Hid (fieldP ws form i = r) := hr
  clear hr
  go_enter Tryz.func243, Tryz.ntmps243
  go_wp2_with fail
  refine (c85 _ rb wb ws i R0).mono ?_
  cases h1 : typeP ws i with
  | error p =>
    rintro e w1 ⟨rfl, j, A1⟩
    obtain rfl : r = .error p := by rw [← HR.out, fieldP, andP_err h1]
    unfold fault
    go_wp2
    exact ⟨rfl, rfl, j, A0.trans A1 (by simp)⟩
  | ok q =>
    obtain ⟨x, i1⟩ := q
    rintro e w1 ⟨rfl, R1, A1⟩
    have z1 : w.heap.size < w1.heap.size := by have := A1.size; simp at this; omega
    have n5 : ¬ w1.heap.size = rb := by have := R.blocks; omega
    have n6 : ¬ rb = w1.heap.size := by omega
    have n7 : ¬ w1.heap.size = w.heap.size := by omega
    have n8 : ¬ w.heap.size = w1.heap.size := by omega
    have K1 := K0.adv_ A1 (by simp) n1
    have A2 := A0.trans A1 (by simp)
    clear A1 R0
    go_wp2_with fail
    refine (c69 _ rb wb ws i1 (R1.alloc _)).mono ?_
    cases h2 : numP ws i1 with
    | error p =>
      rintro e w2 ⟨rfl, j, A3⟩
      obtain rfl : r = .error p := by rw [← HR.out, fieldP, andP_go h1, andP_err h2]
      unfold fault
      go_wp2
      exact ⟨rfl, rfl, j, (A2.alloc (Nat.le_refl _) _).trans A3 (by simp; omega)⟩
    | ok q =>
      obtain ⟨y, i2⟩ := q
      rintro e w2 ⟨rfl, R3, A3⟩
      have z2 : w1.heap.size < w2.heap.size := by have := A3.size; simp at this; omega
      have K2 := (K1.alloc _).adv_ A3 (by simp; omega) n1
      have J2 := (Blk.new _ _ _).adv_ A3 (by simp) n5
      have A4 := (A2.alloc (Nat.le_refl _) _).trans A3 (by simp; omega)
      obtain ⟨k1, k2⟩ := K2.rules
      obtain ⟨j1, j2⟩ := J2.rules
      obtain rfl : r = .ok (⟨form, none, x, y.1, y.2⟩, i2) := by rw [← HR.out, fieldP, andP_go h1, andP_go h2]
      clear R1 K1 A3 A2
      go_wp2
      have A5 := (A4.sets (b := w1.heap.size) (by omega) (wcI y.1 ++ wcI y.2) 7).sets (b := w.heap.size) (Nat.le_refl _) (fcI ⟨form, none, x, y.1, y.2⟩) 0
      have K5 := (K2.sets_other (c := w1.heap.size) n7 (wcI y.1 ++ wcI y.2) 7).sets_all (fcI ⟨form, none, x, y.1, y.2⟩) rfl
      refine bodyPost_ret (ret_cell Tryz.results243 _ _ rfl K5 Tryz.underlying167 (by kernel_rfl)) rfl ⟨rfl, ?_, A5⟩
      exact A5.rd R R.blocks.1 R.blocks.2 R3.lt

end Go.Proofs.YtbbbegjedmicpaaGreatDoor

/-
  CONTRACT: mapField.
-/
namespace Go.Proofs.YtbbbegjedmicpaaGreatDoor
open Go.RowKit
attribute [local go_sem] f91_0 f91_1 f91_2

set_option maxHeartbeats 268435456 in
theorem c79 (w : World) (rb wb : Nat) (ws : List W) (i : Nat) (R : Rd w rb wb ws i) :
    Calls Tryz.prog 242 #[.pointer (some ⟨rb, 0, none⟩)] w (Post w rb wb ws (mapP ws i) fun f _ e => e = .returned (.agg (fcI f).toArray)) := by
  have A0 : Adv w.heap.size rb w ((w.alloc (Obj.cells #[.int .i64 0, .int .i64 0, .string ⟨#[]⟩, .int .i64 0, .int .i64 0, .string ⟨#[]⟩, .int .i64 0, .int .i64 0, .string ⟨#[]⟩, .int .i64 0, .int .i64 0, .string ⟨#[]⟩, .int .i64 0] 167)).alloc (Obj.cells #[.int .i64 4, .int .i64 0, .string ⟨#[]⟩, .int .i64 0, .int .i64 0, .string ⟨#[]⟩, .int .i64 0, .int .i64 0, .string ⟨#[]⟩, .int .i64 0, .int .i64 0, .string ⟨#[]⟩, .int .i64 0] 167)) i := Adv.of_below R.next (((Below.refl w.heap.size w).alloc (Nat.le_refl _) _).alloc (by simp) _)
  have R0 := (R.alloc (Obj.cells #[.int .i64 0, .int .i64 0, .string ⟨#[]⟩, .int .i64 0, .int .i64 0, .string ⟨#[]⟩, .int .i64 0, .int .i64 0, .string ⟨#[]⟩, .int .i64 0, .int .i64 0, .string ⟨#[]⟩, .int .i64 0] 167)).alloc (Obj.cells #[.int .i64 4, .int .i64 0, .string ⟨#[]⟩, .int .i64 0, .int .i64 0, .string ⟨#[]⟩, .int .i64 0, .int .i64 0, .string ⟨#[]⟩, .int .i64 0, .int .i64 0, .string ⟨#[]⟩, .int .i64 0] 167)
  have K0 := (Blk.new w #[.int .i64 0, .int .i64 0, .string ⟨#[]⟩, .int .i64 0, .int .i64 0, .string ⟨#[]⟩, .int .i64 0, .int .i64 0, .string ⟨#[]⟩, .int .i64 0, .int .i64 0, .string ⟨#[]⟩, .int .i64 0] 167).alloc (Obj.cells #[.int .i64 4, .int .i64 0, .string ⟨#[]⟩, .int .i64 0, .int .i64 0, .string ⟨#[]⟩, .int .i64 0, .int .i64 0, .string ⟨#[]⟩, .int .i64 0, .int .i64 0, .string ⟨#[]⟩, .int .i64 0] 167)
  have J0 : Blk ((w.alloc (Obj.cells #[.int .i64 0, .int .i64 0, .string ⟨#[]⟩, .int .i64 0, .int .i64 0, .string ⟨#[]⟩, .int .i64 0, .int .i64 0, .string ⟨#[]⟩, .int .i64 0, .int .i64 0, .string ⟨#[]⟩, .int .i64 0] 167)).alloc (Obj.cells #[.int .i64 4, .int .i64 0, .string ⟨#[]⟩, .int .i64 0, .int .i64 0, .string ⟨#[]⟩, .int .i64 0, .int .i64 0, .string ⟨#[]⟩, .int .i64 0, .int .i64 0, .string ⟨#[]⟩, .int .i64 0] 167)) (w.heap.size + 1) #[.int .i64 4, .int .i64 0, .string ⟨#[]⟩, .int .i64 0, .int .i64 0, .string ⟨#[]⟩, .int .i64 0, .int .i64 0, .string ⟨#[]⟩, .int .i64 0, .int .i64 0, .string ⟨#[]⟩, .int .i64 0] 167 := by
    have := Blk.new (w.alloc (Obj.cells #[.int .i64 0, .int .i64 0, .string ⟨#[]⟩, .int .i64 0, .int .i64 0, .string ⟨#[]⟩, .int .i64 0, .int .i64 0, .string ⟨#[]⟩, .int .i64 0, .int .i64 0, .string ⟨#[]⟩, .int .i64 0] 167)) #[.int .i64 4, .int .i64 0, .string ⟨#[]⟩, .int .i64 0, .int .i64 0, .string ⟨#[]⟩, .int .i64 0, .int .i64 0, .string ⟨#[]⟩, .int .i64 0, .int .i64 0, .string ⟨#[]⟩, .int .i64 0] 167
    simpa using this
  have n1 : ¬ w.heap.size = rb := by have := R.blocks; omega
  have n2 : ¬ w.heap.size + 1 = rb := by have := R.blocks; omega
  have n3 : ¬ rb = w.heap.size := by omega
  have n4 : ¬ rb = w.heap.size + 1 := by omega
  have z0 : w.heap.size + 1 < ((w.alloc (Obj.cells #[.int .i64 0, .int .i64 0, .string ⟨#[]⟩, .int .i64 0, .int .i64 0, .string ⟨#[]⟩, .int .i64 0, .int .i64 0, .string ⟨#[]⟩, .int .i64 0, .int .i64 0, .string ⟨#[]⟩, .int .i64 0] 167)).alloc (Obj.cells #[.int .i64 4, .int .i64 0, .string ⟨#[]⟩, .int .i64 0, .int .i64 0, .string ⟨#[]⟩, .int .i64 0, .int .i64 0, .string ⟨#[]⟩, .int .i64 0, .int .i64 0, .string ⟨#[]⟩, .int .i64 0] 167)).heap.size := by simp
  generalize hr : mapP ws i = r
  have HR : Hid (mapP ws i = r) := hr
  clear hr
  go_enter Tryz.func242, Tryz.ntmps242
  obtain ⟨k1, k2⟩ := K0.rules
  obtain ⟨j1, j2⟩ := J0.rules
  go_wp2_with fail
  clear k1 k2 j1 j2
  refine (c67 _ rb wb ws i _ [109, 97, 112] R0 (by decide +kernel) (by decide)).mono ?_
  cases h1 : skipP ws [109, 97, 112] i with
  | error p =>
    rintro e w1 ⟨rfl, j, A⟩
    obtain rfl : r = .error p := by rw [← HR.out, mapP, andP_err h1]
    unfold fault
    go_wp2
    exact ⟨rfl, rfl, j, A0.trans A (by omega)⟩
  | ok q =>
    obtain ⟨_, i1⟩ := q
    rintro e w1 ⟨rfl, R1, A⟩
    have z1 : w.heap.size + 1 < w1.heap.size := Nat.lt_of_lt_of_le z0 A.size
    have K1 := K0.adv_ A (by omega) n1
    have J1 := J0.adv_ A z0 n2
    have A1 := A0.trans A (by omega)
    clear A R0 K0 J0 A0 z0
    obtain ⟨k1, k2⟩ := K1.rules
    obtain ⟨j1, j2⟩ := J1.rules
    go_wp2_with fail
    clear k1 k2 j1 j2
    refine (c67 _ rb wb ws i1 _ [60] R1 (by decide +kernel) (by decide)).mono ?_
    cases h2 : skipP ws [60] i1 with
    | error p =>
      rintro e w2 ⟨rfl, j, A⟩
      obtain rfl : r = .error p := by rw [← HR.out, mapP, andP_go h1, andP_err h2]
      unfold fault
      go_wp2
      exact ⟨rfl, rfl, j, A1.trans A (by omega)⟩
    | ok q =>
      obtain ⟨_, i2⟩ := q
      rintro e w2 ⟨rfl, R2, A⟩
      have z2 : w.heap.size + 1 < w2.heap.size := Nat.lt_of_lt_of_le z1 A.size
      have K2 := K1.adv_ A (by omega) n1
      have J2 := J1.adv_ A z1 n2
      have A2 := A1.trans A (by omega)
      clear A R1 K1 J1 A1 z1
      obtain ⟨k1, k2⟩ := K2.rules
      obtain ⟨j1, j2⟩ := J2.rules
      go_wp2_with fail
      clear k1 k2 j1 j2
      refine (c85 _ rb wb ws i2 R2).mono ?_
      cases h3 : typeP ws i2 with
      | error p =>
        rintro e w3 ⟨rfl, j, A⟩
        obtain rfl : r = .error p := by rw [← HR.out, mapP, andP_go h1, andP_go h2, andP_err h3]
        unfold fault
        go_wp2
        exact ⟨rfl, rfl, j, A2.trans A (by omega)⟩
      | ok q =>
        obtain ⟨k, i3⟩ := q
        rintro e w3 ⟨rfl, R3, A⟩
        have z3 : w.heap.size + 1 < w3.heap.size := Nat.lt_of_lt_of_le z2 A.size
        have K3 := K2.adv_ A (by omega) n1
        have J3 := J2.adv_ A z2 n2
        have A3 := A2.trans A (by omega)
        clear A R2 K2 J2 A2 z2
        have A3s := A3.sets (b := w.heap.size + 1) (by omega) [.int .i64 (kindW k.1), .string k.1, .int .i64 k.2] 1
        have R3s := A3s.rd R R.blocks.1 R.blocks.2 R3.lt
        have K3s := K3.sets_other (c := w.heap.size + 1) (by omega) [.int .i64 (kindW k.1), .string k.1, .int .i64 k.2] 1
        have J3s : Blk (w3.setCells (w.heap.size + 1) 1 [.int .i64 (kindW k.1), .string k.1, .int .i64 k.2]) (w.heap.size + 1) #[.int .i64 4, .int .i64 (kindW k.1), .string k.1, .int .i64 k.2, .int .i64 0, .string ⟨#[]⟩, .int .i64 0, .int .i64 0, .string ⟨#[]⟩, .int .i64 0, .int .i64 0, .string ⟨#[]⟩, .int .i64 0] 167 := Blk.sets [.int .i64 (kindW k.1), .string k.1, .int .i64 k.2] [.int .i64 4] [.int .i64 0, .string ⟨#[]⟩, .int .i64 0] [.int .i64 0, .string ⟨#[]⟩, .int .i64 0, .int .i64 0, .string ⟨#[]⟩, .int .i64 0, .int .i64 0, .string ⟨#[]⟩, .int .i64 0] J3 rfl
        have z3s : w.heap.size + 1 < (w3.setCells (w.heap.size + 1) 1 [.int .i64 (kindW k.1), .string k.1, .int .i64 k.2]).heap.size := by simpa [World.setCells, World.setCell] using z3
        obtain ⟨k1, k2⟩ := K3.rules
        obtain ⟨j1, j2⟩ := J3.rules
        clear A3 R3 K3 z3
        go_wp2_with fail
        clear k1 k2 j1 j2 J3
        refine (c67 _ rb wb ws i3 _ [44] R3s (by decide +kernel) (by decide)).mono ?_
        cases h4 : skipP ws [44] i3 with
        | error p =>
          rintro e w4 ⟨rfl, j, A⟩
          obtain rfl : r = .error p := by rw [← HR.out, mapP, andP_go h1, andP_go h2, andP_go h3, andP_err h4]
          unfold fault
          go_wp2
          exact ⟨rfl, rfl, j, A3s.trans A (by omega)⟩
        | ok q =>
          obtain ⟨_, i4⟩ := q
          rintro e w4 ⟨rfl, R4, A⟩
          have z4 : w.heap.size + 1 < w4.heap.size := Nat.lt_of_lt_of_le z3s A.size
          have K4 := K3s.adv_ A (by omega) n1
          have J4 := J3s.adv_ A z3s n2
          have A4 := A3s.trans A (by omega)
          clear A R3s K3s J3s A3s z3s
          obtain ⟨k1, k2⟩ := K4.rules
          obtain ⟨j1, j2⟩ := J4.rules
          go_wp2_with fail
          clear k1 k2 j1 j2
          refine (c85 _ rb wb ws i4 R4).mono ?_
          cases h5 : typeP ws i4 with
          | error p =>
            rintro e w5 ⟨rfl, j, A⟩
            obtain rfl : r = .error p := by rw [← HR.out, mapP, andP_go h1, andP_go h2, andP_go h3, andP_go h4, andP_err h5]
            unfold fault
            go_wp2
            exact ⟨rfl, rfl, j, A4.trans A (by omega)⟩
          | ok q =>
            obtain ⟨t, i5⟩ := q
            rintro e w5 ⟨rfl, R5, A⟩
            have z5 : w.heap.size + 1 < w5.heap.size := Nat.lt_of_lt_of_le z4 A.size
            have K5 := K4.adv_ A (by omega) n1
            have J5 := J4.adv_ A z4 n2
            have A5 := A4.trans A (by omega)
            clear A R4 K4 J4 A4 z4
            have A5s := A5.sets (b := w.heap.size + 1) (by omega) [.int .i64 (kindW t.1), .string t.1, .int .i64 t.2] 4
            have R5s := A5s.rd R R.blocks.1 R.blocks.2 R5.lt
            have K5s := K5.sets_other (c := w.heap.size + 1) (by omega) [.int .i64 (kindW t.1), .string t.1, .int .i64 t.2] 4
            have J5s : Blk (w5.setCells (w.heap.size + 1) 4 [.int .i64 (kindW t.1), .string t.1, .int .i64 t.2]) (w.heap.size + 1) #[.int .i64 4, .int .i64 (kindW k.1), .string k.1, .int .i64 k.2, .int .i64 (kindW t.1), .string t.1, .int .i64 t.2, .int .i64 0, .string ⟨#[]⟩, .int .i64 0, .int .i64 0, .string ⟨#[]⟩, .int .i64 0] 167 := Blk.sets [.int .i64 (kindW t.1), .string t.1, .int .i64 t.2] [.int .i64 4, .int .i64 (kindW k.1), .string k.1, .int .i64 k.2] [.int .i64 0, .string ⟨#[]⟩, .int .i64 0] [.int .i64 0, .string ⟨#[]⟩, .int .i64 0, .int .i64 0, .string ⟨#[]⟩, .int .i64 0] J5 rfl
            have z5s : w.heap.size + 1 < (w5.setCells (w.heap.size + 1) 4 [.int .i64 (kindW t.1), .string t.1, .int .i64 t.2]).heap.size := by simpa [World.setCells, World.setCell] using z5
            obtain ⟨k1, k2⟩ := K5.rules
            obtain ⟨j1, j2⟩ := J5.rules
            clear A5 R5 K5 z5
            go_wp2_with fail
            clear k1 k2 j1 j2 J5
            refine (c67 _ rb wb ws i5 _ [62] R5s (by decide +kernel) (by decide)).mono ?_
            cases h6 : skipP ws [62] i5 with
            | error p =>
              rintro e w6 ⟨rfl, j, A⟩
              obtain rfl : r = .error p := by rw [← HR.out, mapP, andP_go h1, andP_go h2, andP_go h3, andP_go h4, andP_go h5, andP_err h6]
              unfold fault
              go_wp2
              exact ⟨rfl, rfl, j, A5s.trans A (by omega)⟩
            | ok q =>
              obtain ⟨_, i6⟩ := q
              rintro e w6 ⟨rfl, R6, A⟩
              have z6 : w.heap.size + 1 < w6.heap.size := Nat.lt_of_lt_of_le z5s A.size
              have K6 := K5s.adv_ A (by omega) n1
              have J6 := J5s.adv_ A z5s n2
              have A6 := A5s.trans A (by omega)
              clear A R5s K5s J5s A5s z5s
              obtain ⟨k1, k2⟩ := K6.rules
              obtain ⟨j1, j2⟩ := J6.rules
              go_wp2_with fail
              clear k1 k2 j1 j2
              refine (c69 _ rb wb ws i6 R6).mono ?_
              cases h7 : numP ws i6 with
              | error p =>
                rintro e w7 ⟨rfl, j, A⟩
                obtain rfl : r = .error p := by rw [← HR.out, mapP, andP_go h1, andP_go h2, andP_go h3, andP_go h4, andP_go h5, andP_go h6, andP_err h7]
                unfold fault
                go_wp2
                exact ⟨rfl, rfl, j, A6.trans A (by omega)⟩
              | ok q =>
                obtain ⟨y, i7⟩ := q
                rintro e w7 ⟨rfl, R7, A⟩
                have z7 : w.heap.size + 1 < w7.heap.size := Nat.lt_of_lt_of_le z6 A.size
                have K7 := K6.adv_ A (by omega) n1
                have J7 := J6.adv_ A z6 n2
                have A7 := A6.trans A (by omega)
                clear A R6 K6 J6 A6 z6
                have A7s := A7.sets (b := w.heap.size + 1) (by omega) [.int .i64 (kindW y.1.1), .string y.1.1, .int .i64 y.1.2, .int .i64 (kindW y.2.1), .string y.2.1, .int .i64 y.2.2] 7
                have R7s := A7s.rd R R.blocks.1 R.blocks.2 R7.lt
                have K7s := K7.sets_other (c := w.heap.size + 1) (by omega) [.int .i64 (kindW y.1.1), .string y.1.1, .int .i64 y.1.2, .int .i64 (kindW y.2.1), .string y.2.1, .int .i64 y.2.2] 7
                have J7s : Blk (w7.setCells (w.heap.size + 1) 7 [.int .i64 (kindW y.1.1), .string y.1.1, .int .i64 y.1.2, .int .i64 (kindW y.2.1), .string y.2.1, .int .i64 y.2.2]) (w.heap.size + 1) #[.int .i64 4, .int .i64 (kindW k.1), .string k.1, .int .i64 k.2, .int .i64 (kindW t.1), .string t.1, .int .i64 t.2, .int .i64 (kindW y.1.1), .string y.1.1, .int .i64 y.1.2, .int .i64 (kindW y.2.1), .string y.2.1, .int .i64 y.2.2] 167 := Blk.sets [.int .i64 (kindW y.1.1), .string y.1.1, .int .i64 y.1.2, .int .i64 (kindW y.2.1), .string y.2.1, .int .i64 y.2.2] [.int .i64 4, .int .i64 (kindW k.1), .string k.1, .int .i64 k.2, .int .i64 (kindW t.1), .string t.1, .int .i64 t.2] [.int .i64 0, .string ⟨#[]⟩, .int .i64 0, .int .i64 0, .string ⟨#[]⟩, .int .i64 0] [] J7 rfl
                have z7s : w.heap.size + 1 < (w7.setCells (w.heap.size + 1) 7 [.int .i64 (kindW y.1.1), .string y.1.1, .int .i64 y.1.2, .int .i64 (kindW y.2.1), .string y.2.1, .int .i64 y.2.2]).heap.size := by simpa [World.setCells, World.setCell] using z7
                obtain ⟨k1, k2⟩ := K7.rules
                obtain ⟨j1, j2⟩ := J7.rules
                obtain rfl : r = .ok (⟨4, some k, t, y.1, y.2⟩, i7) := by rw [← HR.out, mapP, andP_go h1, andP_go h2, andP_go h3, andP_go h4, andP_go h5, andP_go h6, andP_go h7]
                go_wp2
                have A9 := A7s.sets (b := w.heap.size) (Nat.le_refl _) (fcI ⟨4, some k, t, y.1, y.2⟩) 0
                have K9 := K7s.sets_all (fcI ⟨4, some k, t, y.1, y.2⟩) rfl
                refine bodyPost_ret (ret_cell Tryz.results242 _ _ rfl K9 Tryz.underlying167 (by kernel_rfl)) rfl ⟨rfl, ?_, A9⟩
                exact A9.rd R R.blocks.1 R.blocks.2 R7s.lt

end Go.Proofs.YtbbbegjedmicpaaGreatDoor

/-
  CONTRACT: alone; rows that lie in some blocks.
-/
namespace Go.Proofs.YtbbbegjedmicpaaGreatDoor
open Go.RowKit
attribute [local go_sem] f91_0 f91_1 f91_2

set_option maxHeartbeats 1000000 in
theorem c78v (w : World) (v0 v1 v2 v3 v4 v5 v6 v7 v8 v9 v10 v11 v12 : Value) :
    Calls Tryz.prog 241 #[.agg #[v0, v1, v2, v3, v4, v5, v6, v7, v8, v9, v10, v11, v12]] w fun e w' => ∃ fv, e = .returned (.agg #[.int .i64 0, .string ⟨#[]⟩, .int .i64 0, fv]) ∧ w'.ownsRow w.heap.size 167 13 fv 1 [v0, v1, v2, v3, v4, v5, v6, v7, v8, v9, v10, v11, v12] ∧ Below w.heap.size w w' := by
  go_enter Tryz.func241, Tryz.ntmps241
  go_wp2
  have K : Blk (((w.alloc (Obj.cells #[v0, v1, v2, v3, v4, v5, v6, v7, v8, v9, v10, v11, v12] 167)).alloc (Obj.cells #[.int .i64 0, .string ⟨#[]⟩, .int .i64 0, .slice (some ⟨w.heap.size + 1 + 1, 0, none⟩) 1 1] 164)).alloc (Obj.cells #[v0, v1, v2, v3, v4, v5, v6, v7, v8, v9, v10, v11, v12] 167)) (w.heap.size + 1) #[.int .i64 0, .string ⟨#[]⟩, .int .i64 0, .slice (some ⟨w.heap.size + 1 + 1, 0, none⟩) 1 1] 164 := by
    have := (Blk.new (w.alloc (Obj.cells #[v0, v1, v2, v3, v4, v5, v6, v7, v8, v9, v10, v11, v12] 167)) #[.int .i64 0, .string ⟨#[]⟩, .int .i64 0, .slice (some ⟨w.heap.size + 1 + 1, 0, none⟩) 1 1] 164).alloc (Obj.cells #[v0, v1, v2, v3, v4, v5, v6, v7, v8, v9, v10, v11, v12] 167)
    simpa using this
  refine bodyPost_ret (ret_cell Tryz.results241 _ _ rfl K Tryz.underlying164 (by kernel_rfl)) rfl ⟨_, rfl, ⟨rfl, .inr ⟨w.heap.size + 1 + 1, 1, #[v0, v1, v2, v3, v4, v5, v6, v7, v8, v9, v10, v11, v12], rfl, by omega, ?_, by omega, by unfold maxLen; omega, rfl, rfl⟩⟩, ?_⟩
  · have := Blk.new ((w.alloc (Obj.cells #[v0, v1, v2, v3, v4, v5, v6, v7, v8, v9, v10, v11, v12] 167)).alloc (Obj.cells #[.int .i64 0, .string ⟨#[]⟩, .int .i64 0, .slice (some ⟨w.heap.size + 1 + 1, 0, none⟩) 1 1] 164)) #[v0, v1, v2, v3, v4, v5, v6, v7, v8, v9, v10, v11, v12] 167
    simpa [Blk] using this
  · exact (((Below.refl _ _).alloc (Nat.le_refl _) _).alloc (by simp) _).alloc (by simp; omega) _

theorem c78 (w : World) (f : FieldR) :
    Calls Tryz.prog 241 #[.agg (fcI f).toArray] w fun e w' => ∃ fv, e = .returned (.agg #[.int .i64 0, .string ⟨#[]⟩, .int .i64 0, fv]) ∧ w'.ownsRow w.heap.size 167 13 fv 1 (fcI f) ∧ Below w.heap.size w w' := by
  obtain ⟨form, key, ty, nm, nu⟩ := f
  cases key <;> exact c78v w _ _ _ _ _ _ _ _ _ _ _ _ _

theorem Rd.drew {w : World} {rb wb i : Nat} {ws : List W} (R : Rd w rb wb ws i) : Rd w.drew rb wb ws i :=
  R.below (Below.refl w.heap.size w).drew R.blocks.1 R.blocks.2
def nextOf (rb : Nat) (w : World) : Nat :=
  match w.cell? ⟨rb, 1, none⟩ with
  | some v => (intOf v).toNat
  | none => 0
theorem Rd.nextOf {w : World} {rb wb i : Nat} {ws : List W} (R : Rd w rb wb ws i) : Go.Proofs.YtbbbegjedmicpaaGreatDoor.nextOf rb w = i := by
  simp [Go.Proofs.YtbbbegjedmicpaaGreatDoor.nextOf, R.next, intOf]

theorem ownsRow_below {w w1 : World} {base : Nat} {T : TypeId} {k m : Nat} {v : Value} {xs : List Value} (hb : Below w.heap.size w w1) (h : w.ownsRow base T k v m xs) : w1.ownsRow base T k v m xs := by
  refine ⟨h.1, ?_⟩
  rcases h.2 with h2 | ⟨g, cap, cur, h2, h3, h4, h5⟩
  · exact .inl h2
  · exact .inr ⟨g, cap, cur, h2, h3, (hb.block g (Blk.lt h4)).trans h4, h5⟩
theorem ownsRow_adv {w w1 : World} {n rb j base : Nat} {T : TypeId} {k m : Nat} {v : Value} {xs : List Value} (ha : Adv n rb w w1 j) (hn : w.heap.size ≤ n) (hrb : rb < base) (h : w.ownsRow base T k v m xs) : w1.ownsRow base T k v m xs := by
  refine ⟨h.1, ?_⟩
  rcases h.2 with h2 | ⟨g, cap, cur, h2, h3, h4, h5⟩
  · exact .inl h2
  · exact .inr ⟨g, cap, cur, h2, h3, Blk.adv_ h4 ha (Nat.lt_of_lt_of_le (Blk.lt h4) hn) (by omega), h5⟩

theorem ownsRow_drew {w : World} {base : Nat} {T : TypeId} {k m : Nat} {v : Value} {xs : List Value} (h : w.ownsRow base T k v m xs) : w.drew.ownsRow base T k v m xs := h
theorem ownsRow_base {w : World} {base lo : Nat} {T : TypeId} {k m : Nat} {v : Value} {xs : List Value} (h : w.ownsRow base T k v m xs) (hl : lo ≤ base) : w.ownsRow lo T k v m xs := by
  refine ⟨h.1, ?_⟩
  rcases h.2 with h2 | ⟨g, cap, cur, h2, h3, h4, h5⟩
  · exact .inl h2
  · exact .inr ⟨g, cap, cur, h2, Nat.le_trans hl h3, h4, h5⟩
theorem ownsRow_sets {w : World} {base lo : Nat} {T : TypeId} {k m : Nat} {v : Value} {xs : List Value} (h : w.ownsRow base T k v m xs) {b : Nat} (hb : b < base) (hl : lo ≤ base) (vs : List Value) (o : Nat) : (w.setCells b o vs).ownsRow lo T k v m xs := by
  refine ⟨h.1, ?_⟩
  rcases h.2 with h2 | ⟨g, cap, cur, h2, h3, h4, h5⟩
  · exact .inl h2
  · exact .inr ⟨g, cap, cur, h2, Nat.le_trans hl h3, Blk.sets_other (b := g) h4 (by omega) vs o, h5⟩

theorem ownsRow_form {w : World} {base : Nat} {T : TypeId} {k m : Nat} {v : Value} {xs : List Value} (h : w.ownsRow base T k v m xs) : ∃ a n c, v = .slice a n c := by
  rcases h.2 with ⟨h2, _⟩ | ⟨g, cap, cur, h2, h3⟩
  · exact ⟨_, _, _, h2⟩
  · exact ⟨_, _, _, h2⟩

theorem fcI_len (f : FieldR) : (fcI f).length = 13 := by
  obtain ⟨form, key, ty, nm, nu⟩ := f
  cases key <;> rfl
theorem fcI_one (f : FieldR) : ∀ u ∈ fcI f, u.oneCell' = true := by
  obtain ⟨form, key, ty, nm, nu⟩ := f
  cases key <;> (intro u hu; simp [fcI, keyV, wcI] at hu; rcases hu with rfl | rfl | rfl | rfl | rfl | rfl | rfl | rfl | rfl | rfl | rfl | rfl | rfl <;> rfl)
theorem Tryz.info167 : (Tryz.prog.info? 167).map (fun i => (i.zero, i.size, i.bytes)) = some (some (.agg #[.int .i64 0, .int .i64 0, .string ⟨#[]⟩, .int .i64 0, .int .i64 0, .string ⟨#[]⟩, .int .i64 0, .int .i64 0, .string ⟨#[]⟩, .int .i64 0, .int .i64 0, .string ⟨#[]⟩, .int .i64 0]), 13, 136) := by kernel_rfl

theorem fieldP_lit {ws : List W} {form : Int} {i : Nat} {f : FieldR} {j : Nat} (h : fieldP ws form i = .ok (f, j)) : fcI f = [.int .i64 form, .int .i64 0, .string ⟨#[]⟩, .int .i64 0, .int .i64 (kindW f.type.1), .string f.type.1, .int .i64 f.type.2, .int .i64 (kindW f.name.1), .string f.name.1, .int .i64 f.name.2, .int .i64 (kindW f.num.1), .string f.num.1, .int .i64 f.num.2] := by
  unfold fieldP at h
  obtain ⟨t, i1, h1, h⟩ := andP_ok h
  obtain ⟨nm, i2, h2, h⟩ := andP_ok h
  simp at h
  obtain ⟨rfl, rfl⟩ := h
  rfl
theorem c80l (w : World) (rb wb : Nat) (ws : List W) (i : Nat) (form : Int) (R : Rd w rb wb ws i) :
    Calls Tryz.prog 243 #[.pointer (some ⟨rb, 0, none⟩), .int .i64 form] w (Post w rb wb ws (fieldP ws form i) fun f _ e => e = .returned (.agg #[.int .i64 form, .int .i64 0, .string ⟨#[]⟩, .int .i64 0, .int .i64 (kindW f.type.1), .string f.type.1, .int .i64 f.type.2, .int .i64 (kindW f.name.1), .string f.name.1, .int .i64 f.name.2, .int .i64 (kindW f.num.1), .string f.num.1, .int .i64 f.num.2])) := by
  refine (c80 w rb wb ws i form R).mono fun e w' h => ?_
  cases hf : fieldP ws form i with
  | error p => rw [hf] at h; exact h
  | ok q =>
    obtain ⟨f, j⟩ := q
    rw [hf] at h
    obtain ⟨h1, h2⟩ := h
    exact ⟨by rw [h1, fieldP_lit hf], h2⟩

end Go.Proofs.YtbbbegjedmicpaaGreatDoor
