import Derived.Test.YtbbbegjedmicpaaGreatDoorLawA

/-
  THE LAW, CONTRACTS: still.
-/
namespace Go.Proofs.YtbbbegjedmicpaaGreatDoor
open Go.RowKit

theorem BkEnt.form {w : World} {base : Nat} {v : Value} {m : ByteArray} (h : BkEnt w base v m) : ∃ a k c, v = .slice a k c ∧ k ≤ 2010 ∧ ∀ j, j < k → ∃ g, a = some ⟨g, 0, none⟩ ∧ w.cell? ⟨g, j, none⟩ = some (.string m) := by
  rcases h with h | ⟨g, k, cap, cur, rfl, h2, h3, h4, h5⟩
  · exact ⟨none, 0, 0, h, by omega, fun j hj => by omega⟩
  · exact ⟨_, k, cap, rfl, h4, fun j hj => ⟨g, rfl, by rw [Blk.cell h3]; exact h5 j hj⟩⟩

set_option maxRecDepth 100000 in
set_option maxHeartbeats 2000000 in
theorem c12 (w : World) (bb n : Nat) (tv tn : Value) (ts : List Value) (ns : List ByteArray) (B : BkAt w bb n tv tn ts ns) (hl : ns.length = ts.length) (hts : ts.length ≤ 1000) :
    Calls Tryz.prog 13 #[.pointer (some ⟨bb, 0, none⟩)] w fun e w' => e = .returned (.bool true) ∧ Below w.heap.size w w' := by
  have HL : Hid (ns.length = ts.length) := hl
  clear hl
  obtain ⟨ta, tl, tc, rfl⟩ := ownsRow_form B.tr
  obtain ⟨na, nl, nc, rfl⟩ := ownsRow_form B.nr
  obtain rfl := ownsRow_len B.tr
  obtain rfl := ownsRow_len B.nr
  obtain ⟨k1, k2⟩ := B.blk.rules
  go_enter Tryz.func13, Tryz.ntmps13
  go_wp2
  go_loopw [3] (fun i wr => i = .int .i64 0 ∧ w = wr) (fun _ _ => 0)
  case atStart => exact ⟨rfl, rfl⟩
  case round =>
    obtain ⟨rfl, rfl⟩ := hrel
    go_wp2
    go_loopw [7] (fun i wr => i = .int .i64 0 ∧ w = wr) (fun _ _ => 0)
    case atStart => exact ⟨rfl, rfl⟩
    case round =>
      obtain ⟨rfl, rfl⟩ := hrel
      go_wp2
      go_loopw [9] (fun i wr => ∃ (k nq : Nat), k ≤ ts.length ∧ i = .int .i64 k ∧ wr = w.drewN nq) (fun i _ => ts.length - (intOf i).toNat)
      case atStart => exact ⟨0, 0, Nat.zero_le _, rfl, rfl⟩
      case round =>
        obtain ⟨k, nq, hk, rfl, rfl⟩ := hrel
        by_cases hlt : k < ts.length
        · have hli : (k : Int) < (ts.length : Int) := by omega
          have hln : (k : Int) < (ns.length : Int) := by rw [HL.out]; omega
          obtain ⟨x, hx⟩ := gx hlt
          obtain ⟨y, hy⟩ := gx (l := ns) (i := k) (by rw [HL.out]; exact hlt)
          obtain ⟨xa, xk, xc, rfl, hxk, hcells⟩ := (B.e k x y hx hy).form
          obtain ⟨g, rfl, _, hgl, hcell⟩ := ownsRow_at B.tr (by omega)
          obtain ⟨g', rfl, _, hgl', hcell'⟩ := ownsRow_at B.nr (by rw [HL.out]; omega)
          have q := hcell w rfl k _ hx
          have q' := hcell' w rfl k (.string y) (by simp [strCells, hy])
          have HC : Hid (∀ j, j < xk → ∃ g, xa = some ⟨g, 0, none⟩ ∧ w.cell? ⟨g, j, none⟩ = some (.string y)) := hcells
          clear hcell hcell' hcells hx hy
          go_wp2
          go_loopw [10] (fun i wr => ∃ (j nq : Nat), j ≤ xk ∧ i = .int .i64 j ∧ wr = w.drewN nq) (fun i _ => xk - (intOf i).toNat)
          case atStart => exact ⟨0, _, Nat.zero_le _, rfl, rfl⟩
          case round =>
            obtain ⟨j, nq2, hj, rfl, rfl⟩ := hrel
            by_cases hjl : j < xk
            · have hji : (j : Int) < (xk : Int) := by omega
              obtain ⟨g2, rfl, q2⟩ := HC.out j hjl
              have hxx : (y.toList == y.toList) = true := by simp
              go_wp2_with fail
              go_quiet (fail)
              go_wp2
              go_roundw
              case rel => exact ⟨j + 1, _, by omega, by go_num, rfl⟩
              case measure => simp [intOf]; omega
            · have hji : ¬ (j : Int) < (xk : Int) := by omega
              go_wp2
              go_roundw
              case rel => exact ⟨k + 1, _, by omega, by go_num, rfl⟩
              case measure => simp [intOf]; omega
        · have hli : ¬ (k : Int) < (ts.length : Int) := by omega
          go_wp2
          go_ret
          exact ⟨rfl, belowN (Below.refl _ _) _⟩

end Go.Proofs.YtbbbegjedmicpaaGreatDoor
