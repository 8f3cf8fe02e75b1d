import Derived.Test.YtbbbegjedmicpaaGreatDoorRefA
import Derived.Deep.CutBlock

/-
  THE REFERENCE, CONTRACT: words.
-/
namespace Go.Proofs.YtbbbegjedmicpaaGreatDoor
open Go.RowKit

/-- A word's cells, in the reference's lists. -/
def wcR (x : W) : List Value := [.string x.1, .int .i64 x.2]
theorem wcR_len (x : W) : (wcR x).length = 2 := rfl
theorem Tryz.info81 : (Tryz.prog.info? 81).map (fun i => (i.zero, i.size, i.bytes)) = some (some (.agg #[.string ⟨#[]⟩, .int .i64 0]), 2, 24) := by kernel_rfl
theorem cell_two_new (w : World) (a b : Value) (t : TypeId) : ∀ j u, [a, b][j]? = some u → (w.alloc (.cells #[a, b] t)).cell? ((⟨w.heap.size, 0, none⟩ : Addr).add j) = some u := by
  intro j u hj
  match j, hj with
  | 0, hj => simp at hj; subst hj; simp [Addr.add]
  | 1, hj => simp at hj; subst hj; simp [Addr.add]
  | j + 2, hj => simp at hj

set_option maxHeartbeats 1000000 in
set_option maxRecDepth 100000 in
theorem c17 (t : ByteArray) (w : World) (ht : t.size ≤ 2000) :
    Calls Tryz.prog 22 #[.string t] w fun e w' => ∃ v, e = .returned v ∧ w'.ownsRow w.heap.size 81 2 v (allWords t).length ((allWords t).flatMap wcR) ∧ Below w.heap.size w w' := by
  obtain ⟨i0, hi, hz0, hz1, hz2⟩ := info_parts Tryz.info81
  go_enter Tryz.func22, Tryz.ntmps22
  go_wp2
  go_loopw [3, 4] (fun v a wr => ∃ (n k : Nat) (pre : List W), k ≤ t.size ∧ t.size - k ≤ n ∧ pre.length ≤ k ∧ Hid (pre ++ lexF t n k = lex t) ∧ a = .int .i64 k ∧ wr.ownsRow w.heap.size 81 2 v pre.length (pre.flatMap wcR) ∧ Below w.heap.size w wr) (fun _ i _ => t.size - (intOf i).toNat)
  case atStart => exact ⟨t.size, 0, [], by omega, by omega, by simp, rfl, rfl, World.ownsRow_nil _ _ _ _, Below.refl _ _⟩
  case round =>
    obtain ⟨n, k, pre, hk, hn, hpl, HL, rfl, hown, hnx⟩ := hrel
    by_cases hlt : k < t.size
    · have hbk := bAt_eq hlt
      by_cases hg : bAt t k = 32
      · have hG : isG (bAt t k) = true := by simp [isG, hg]
        obtain ⟨m, hm, hlw⟩ := lexF_gap hn hlt hG
        have HF : Hid (pre ++ lexF t m (k + 1) = lex t) := by
          have := HL.out; rw [hlw] at this; simpa [Hid] using this
        clear hlw hG
        go_wp2
        go_roundw
        case rel => exact ⟨m, k + 1, pre, by omega, hm, by omega, HF, by go_num, hown, hnx⟩
        case measure => simp [intOf]; omega
      by_cases hg2 : bAt t k = 10
      · have hG : isG (bAt t k) = true := by simp [isG, hg2]
        obtain ⟨m, hm, hlw⟩ := lexF_gap hn hlt hG
        have HF : Hid (pre ++ lexF t m (k + 1) = lex t) := by
          have := HL.out; rw [hlw] at this; simpa [Hid] using this
        clear hlw hG
        go_wp2
        go_roundw
        case rel => exact ⟨m, k + 1, pre, by omega, hm, by omega, HF, by go_num, hown, hnx⟩
        case measure => simp [intOf]; omega
      have hG : isG (bAt t k) = false := by simp [isG, hg, hg2]
      have he := wEnd_le t k hlt
      obtain ⟨m, hm, hlw⟩ := lexF_word hn hlt hG
      have HF : Hid ((pre ++ [(t.extract k (wEnd t k), k)]) ++ lexF t m (wEnd t k) = lex t) := by
        have := HL.out; rw [hlw] at this; simpa [Hid] using this
      clear hlw hG
      have hgb : (bAt t k == 10) = false := by simp [hg2]
      obtain ⟨bL, h1⟩ : ∃ b, isL (bAt t k) = b := ⟨_, rfl⟩
      obtain ⟨bD, h2⟩ : ∃ b, isD (bAt t k) = b := ⟨_, rfl⟩
      go_upto_block 2 with (first | (go_at_call 43; refine (c30 _ _).mono ?_; rintro e w' ⟨rfl, rfl⟩) | (go_at_call 44; refine (c31 _ _).mono ?_; rintro e w' ⟨rfl, rfl⟩))
      go_cut [5, 8, 9] from 36 to 73 (fun x _ _ wc => x = .int .i64 (wEnd t k) ∧ wc = w')
      case first =>
        cases bL
        · cases bD
          · have HE : Hid (wEnd t k = k + 1) := by unfold wEnd; simp [h1, h2, Hid]
            go_wp2
            go_loop [5] (fun i => i = .int .i64 ((k : Int) + 1)) (fun _ => 0)
            case atStart => exact rfl
            case round =>
              obtain rfl := hrel
              by_cases hlt2 : k + 1 < t.size
              · have hlt3 : (k : Int) + 1 < t.size := by omega
                go_wp2_with (first | (go_at_call 43; refine (c30 _ _).mono ?_; rintro e w3 ⟨rfl, rfl⟩) | (go_at_call 44; refine (c31 _ _).mono ?_; rintro e w3 ⟨rfl, rfl⟩))
                go_meet
                case rel => exact ⟨vint (by rw [HE.out]; simp), rfl⟩
              · have hlt3 : ¬ (k : Int) + 1 < t.size := by omega
                go_wp2
                go_meet
                case rel => exact ⟨vint (by rw [HE.out]; simp), rfl⟩
          cases h3 : (bAt t k != 48)
          · have HE : Hid (wEnd t k = k + 1) := by unfold wEnd; simp only [h1, h2, h3, Hid]; simp
            go_wp2
            go_loop [5] (fun i => i = .int .i64 ((k : Int) + 1)) (fun _ => 0)
            case atStart => exact rfl
            case round =>
              obtain rfl := hrel
              by_cases hlt2 : k + 1 < t.size
              · have hlt3 : (k : Int) + 1 < t.size := by omega
                go_wp2_with (first | (go_at_call 43; refine (c30 _ _).mono ?_; rintro e w3 ⟨rfl, rfl⟩) | (go_at_call 44; refine (c31 _ _).mono ?_; rintro e w3 ⟨rfl, rfl⟩))
                all_goals
                  go_meet
                  case rel => exact ⟨vint (by rw [HE.out]; simp), rfl⟩
              · have hlt3 : ¬ (k : Int) + 1 < t.size := by omega
                go_wp2
                go_meet
                case rel => exact ⟨vint (by rw [HE.out]; simp), rfl⟩
          have HE : Hid (wEnd t k = scan isD t t.size (k + 1)) := by unfold wEnd; simp only [h1, h2, h3, Hid]; simp
          go_wp2
          go_loop [5] (fun i => ∃ n j : Nat, j ≤ t.size ∧ t.size - j ≤ n ∧ Hid (scan isD t n j = scan isD t t.size (k + 1)) ∧ i = .int .i64 j) (fun i => t.size - (intOf i).toNat)
          case atStart => exact ⟨t.size, k + 1, by omega, by omega, rfl, by simp⟩
          case round =>
            obtain ⟨n2, j, hj, hn2, HS, rfl⟩ := hrel
            by_cases hlt2 : j < t.size
            · have hbj := bAt_eq hlt2
              cases h4 : isD (bAt t j)
              · have HX : Hid (j = wEnd t k) := by rw [HE.out, ← HS.out, scan_stop (.inr h4)]; exact rfl
                go_wp2_with (first | (go_at_call 43; refine (c30 _ _).mono ?_; rintro e w3 ⟨rfl, rfl⟩) | (go_at_call 44; refine (c31 _ _).mono ?_; rintro e w3 ⟨rfl, rfl⟩))
                go_meet
                case rel => exact ⟨vint (by rw [← HX.out]), rfl⟩
              · obtain ⟨m2, hm2, hs⟩ := scan_go hn2 hlt2 h4
                have HX : Hid (scan isD t m2 (j + 1) = scan isD t t.size (k + 1)) := hs.symm.trans HS.out
                clear hs
                go_wp2_with (first | (go_at_call 43; refine (c30 _ _).mono ?_; rintro e w3 ⟨rfl, rfl⟩) | (go_at_call 44; refine (c31 _ _).mono ?_; rintro e w3 ⟨rfl, rfl⟩))
                go_round
                case rel => exact ⟨m2, j + 1, by omega, hm2, HX, by go_num⟩
                case measure => simp [intOf]; omega
            · have HX : Hid (j = wEnd t k) := by rw [HE.out, ← HS.out, scan_stop (.inl hlt2)]; exact rfl
              go_wp2
              go_meet
              case rel => exact ⟨vint (by rw [← HX.out]), rfl⟩
        · obtain rfl : bD = false := by rw [← h2, isL_isD h1]
          have HE : Hid (wEnd t k = scan isA t t.size (k + 1)) := by unfold wEnd; simp only [h1, Hid]; simp
          go_wp2
          go_loop [5] (fun i => ∃ n j : Nat, j ≤ t.size ∧ t.size - j ≤ n ∧ Hid (scan isA t n j = scan isA t t.size (k + 1)) ∧ i = .int .i64 j) (fun i => t.size - (intOf i).toNat)
          case atStart => exact ⟨t.size, k + 1, by omega, by omega, rfl, by simp⟩
          case round =>
            obtain ⟨n2, j, hj, hn2, HS, rfl⟩ := hrel
            by_cases hlt2 : j < t.size
            · have hbj := bAt_eq hlt2
              cases h4 : isA (bAt t j)
              · have HX : Hid (j = wEnd t k) := by rw [HE.out, ← HS.out, scan_stop (.inr h4)]; exact rfl
                have h5 : isL (bAt t j) = false ∧ isD (bAt t j) = false := by simpa [isA] using h4
                obtain ⟨h5, h6⟩ := h5
                clear h4
                go_wp2_with (first | (go_at_call 43; refine (c30 _ _).mono ?_; rintro e w3 ⟨rfl, rfl⟩) | (go_at_call 44; refine (c31 _ _).mono ?_; rintro e w3 ⟨rfl, rfl⟩))
                go_meet
                case rel => exact ⟨vint (by rw [← HX.out]), rfl⟩
              · obtain ⟨m2, hm2, hs⟩ := scan_go hn2 hlt2 h4
                have HX : Hid (scan isA t m2 (j + 1) = scan isA t t.size (k + 1)) := hs.symm.trans HS.out
                clear hs
                cases h5 : isL (bAt t j)
                · have h6 : isD (bAt t j) = true := by simpa [isA, h5] using h4
                  clear h4
                  go_wp2_with (first | (go_at_call 43; refine (c30 _ _).mono ?_; rintro e w3 ⟨rfl, rfl⟩) | (go_at_call 44; refine (c31 _ _).mono ?_; rintro e w3 ⟨rfl, rfl⟩))
                  go_round
                  case rel => exact ⟨m2, j + 1, by omega, hm2, HX, by go_num⟩
                  case measure => simp [intOf]; omega
                · clear h4
                  go_wp2_with (first | (go_at_call 43; refine (c30 _ _).mono ?_; rintro e w3 ⟨rfl, rfl⟩) | (go_at_call 44; refine (c31 _ _).mono ?_; rintro e w3 ⟨rfl, rfl⟩))
                  go_round
                  case rel => exact ⟨m2, j + 1, by omega, hm2, HX, by go_num⟩
                  case measure => simp [intOf]; omega
            · have HX : Hid (j = wEnd t k) := by rw [HE.out, ← HS.out, scan_stop (.inl hlt2)]; exact rfl
              go_wp2
              go_meet
              case rel => exact ⟨vint (by rw [← HX.out]), rfl⟩
      case rest =>
        obtain ⟨rfl, rfl⟩ := hcut
        go_wp2_with (first | (at_builtin; refine wpList_append_own_at _ rfl _ _ 73 rfl w.heap.size 81 i0 _ 2 24 Tryz.underlying73 hi hz0 hz1 hz2 rfl (by decide) u3 _ _ rfl (hown.alloc _) _ 1 1 [_, _] rfl rfl (cell_two_new _ _ _ _) ?h1 ?h63 ?hby ?hba ?_; rotate_right; intro v' w1 hown' hgrow hnil hloc))
        case h1 => intro u hu; simp at hu; rcases hu with rfl | rfl <;> rfl
        case h63 => unfold maxLen; omega
        case hby => omega
        case hba => have := hnx.size; simp; omega
        go_roundw
        case rel =>
          refine ⟨m, wEnd t k, pre ++ [(t.extract k (wEnd t k), k)], he.2, hm, by simp; omega, HF, rfl, ?_, ?_⟩
          · simpa [wcR] using hown'
          · exact (hnx.alloc hnx.size _).grown hgrow (by have := hnx.size; simp; omega) (fun j hj => (hown.lt j hj).1)
        case measure => simp [intOf]; omega
    · have HF : Hid (pre = lex t) := by
        have := HL.out; rw [lexF_end hlt] at this; simpa [Hid] using this
      go_wp2_with (first | (at_builtin; refine wpList_append_own_at _ rfl _ _ 73 rfl w.heap.size 81 i0 _ 2 24 Tryz.underlying73 hi hz0 hz1 hz2 rfl (by decide) u3 _ _ rfl (hown.alloc _) _ 1 1 [_, _] rfl rfl (cell_two_new _ _ _ _) ?h1 ?h63 ?hby ?hba ?_; rotate_right; intro v' w1 hown' hgrow hnil hloc))
      case h1 => intro u hu; simp at hu; rcases hu with rfl | rfl <;> rfl
      case h63 => unfold maxLen; omega
      case hby => omega
      case hba => have := hnx.size; simp; omega
      go_ret
      refine ⟨v', rfl, ?_, ?_⟩
      · have := HF.out
        subst this
        simpa [allWords, wcR] using hown'
      · exact (hnx.alloc hnx.size _).grown hgrow (by have := hnx.size; simp; omega) (fun j hj => (hown.lt j hj).1)

end Go.Proofs.YtbbbegjedmicpaaGreatDoor
