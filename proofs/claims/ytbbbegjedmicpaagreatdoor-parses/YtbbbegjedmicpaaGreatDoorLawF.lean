import Derived.Test.YtbbbegjedmicpaaGreatDoorLawC
import Derived.Test.YtbbbegjedmicpaaGreatDoorLawD
import Derived.Test.YtbbbegjedmicpaaGreatDoorLawE

/-
  THE LAW, CONTRACTS: Parses, by the contracts of the document's answer.
-/
namespace Go.Proofs.YtbbbegjedmicpaaGreatDoor
open Go.RowKit

/-- What the document's Parse answers. -/
def DocRet (RA : World → Nat → List ByteArray → Nat → Prop) (w : World) (r : Except (Int × Nat) (List BlockR)) (e : Ending) (w' : World) : Prop :=
  (match r with
  | .error (k, p) => e = .returned (.tuple #[.pointer none, .int .i64 k, .int .i64 p])
  | .ok bs => ∃ sb, e = .returned (.tuple #[.pointer (some ⟨sb, 0, none⟩), .int .i64 0, .int .i64 0]) ∧ RA w' sb (msgNames bs) w.heap.size) ∧ Below w.heap.size w w'

set_option maxRecDepth 100000 in
set_option maxHeartbeats 268435456 in
theorem c3_of (RA : World → Nat → List ByteArray → Nat → Prop)
    (hkeep : ∀ (w w' : World) (sb : Nat) (l : List ByteArray) (lo n : Nat), RA w sb l lo → Below n w w' → w.heap.size ≤ n → RA w' sb l lo)
    (h10 : ∀ (w : World) (sb lo : Nat) (l : List ByteArray), l.length ≤ 2001 → RA w sb l lo → Calls Tryz.prog 11 #[.pointer (some ⟨sb, 0, none⟩)] w fun e w' => ∃ v', e = .returned v' ∧ w'.ownsRow w.heap.size 9 1 v' l.length (strCells l) ∧ Below w.heap.size w w')
    (h6 : ∀ (w : World) (t : ByteArray), t.size ≤ 140737488355328 → Calls Tryz.prog 7 #[.string t] w (DocRet RA w (readI t)))
    (w : World) (t : ByteArray) (again : Int) (hmax : t.size ≤ 140737488355328) (ha1 : -9223372036854775808 ≤ again) (ha2 : again ≤ 9223372036854775807) (hg : GOK w) (hbo : BOK w) :
    Calls Tryz.prog 3 #[.string t, .int .i64 again] w fun e w' => e = .returned (.bool true) ∧ Below w.heap.size w w' := by
  have HK : Hid (∀ (w w' : World) (sb : Nat) (l : List ByteArray) (lo n : Nat), RA w sb l lo → Below n w w' → w.heap.size ≤ n → RA w' sb l lo) := hkeep
  clear hkeep
  generalize hr : readI t = r
  have H5 : ∀ w, GOK w → BOK w → Calls Tryz.prog 6 #[.string t] w (ParseRet w r) := fun w hg hbo => by rw [← hr]; exact c5 w t hmax hg hbo
  have H6 : ∀ w, Calls Tryz.prog 7 #[.string t] w (DocRet RA w r) := fun w => by rw [← hr]; exact h6 w t hmax
  have HR : Hid (readI t = r) := hr
  clear hr h6
  go_enter Tryz.func3, Tryz.ntmps3
  go_wp2_with fail
  refine (c4 _ hg hbo).mono ?_
  rintro e w1 ⟨⟨b1, rfl⟩, hb1⟩
  have hg1 : GOK w1 := hg.keep (hb1.block _ hg.lt)
  go_wp2_with fail
  refine (H5 _ hg1 (hbo.keep (hb1.block _ hbo.lt))).mono ?_
  cases r with
  | error q =>
    obtain ⟨k, p⟩ := q
    rintro e w2 ⟨rfl, hb2⟩
    go_wp2_with fail
    refine (H6 _).mono ?_
    rintro e w3 ⟨rfl, hb3⟩
    go_wp2_with fail
    refine (c7_nil _).mono ?_
    rintro e w4 ⟨rfl, rfl⟩
    have D0 : Below w.heap.size w w4 := hb1.trans ((hb2.mono hb1.size).trans (hb3.mono (Nat.le_trans hb1.size hb2.size)))
    have Z0 : w.heap.size ≤ w4.heap.size := D0.size
    clear hb1 hb2 hb3 H5 H6 h10 HK
    go_wp2
    go_loopw [16] (fun i wr => i = .int .i64 0 ∧ Below w.heap.size w wr) (fun _ _ => 0)
    case atStart => exact ⟨rfl, D0.alloc Z0 _⟩
    case round =>
      obtain ⟨rfl, D⟩ := hrel
      go_wp2_with fail
      refine (c8 _ again ha1 ha2).mono ?_
      rintro e w5 ⟨⟨q, rfl, hq1, hq2⟩, rfl⟩
      have hq : (0 : Int) < 2 + q := by omega
      go_wp2
      go_ret
      exact ⟨rfl, D⟩
  | ok bs =>
    have hlen := msgNames_len HR.out
    rintro e w2 ⟨⟨sb, _, _, rfl, hsB⟩, hb2⟩
    have hs := hsB.toAt
    go_wp2_with fail
    refine (H6 _).mono ?_
    rintro e w3 ⟨⟨rb, rfl, hra⟩, hb3⟩
    go_wp2_with fail
    refine (c7_nil _).mono ?_
    rintro e w4 ⟨rfl, rfl⟩
    have D0 : Below w.heap.size w w4 := hb1.trans ((hb2.mono hb1.size).trans (hb3.mono (Nat.le_trans hb1.size hb2.size)))
    have Z0 : w.heap.size ≤ w4.heap.size := D0.size
    have hs4 := hs.keep hb3 (Nat.le_refl _)
    have B0 := BkAt.new w4
    generalize msgNames bs = l at hlen hs4 hra
    clear hb1 hb2 hb3 H5 H6 hs hg hg1 HR
    go_wp2
    go_loopw [16] (fun i wr => ∃ (k : Nat) (tv tn : Value) (ts : List Value) (ns : List ByteArray), k ≤ 22 ∧ i = .int .i64 k ∧ BkAt wr w4.heap.size k tv tn ts ns ∧ ns.length = ts.length ∧ ts.length = 4 * k ∧ Below w4.heap.size w4 wr) (fun i _ => 22 - (intOf i).toNat)
    case atStart => exact ⟨0, _, _, [], [], by omega, rfl, B0, rfl, rfl, (Below.refl _ _).alloc (Nat.le_refl _) _⟩
    case round =>
      obtain ⟨k, tv, tn, ts, ns, hk, rfl, B, hl, hts, D⟩ := hrel
      have HL : Hid (ns.length = ts.length) := hl
      have HT : Hid (ts.length = 4 * k) := hts
      clear hl hts B0
      go_wp2_with fail
      refine (c8 _ again ha1 ha2).mono ?_
      rintro e w5 ⟨⟨q, rfl, hq1, hq2⟩, rfl⟩
      by_cases hlt : (k : Int) < 2 + q
      · go_wp2_with fail
        refine (c7 _ sb _ l hlen (hs4.keep D (Nat.le_refl _))).mono ?_
        rintro e w6 ⟨v6, rfl, ho6, hb6⟩
        obtain ⟨va, vn, vc, rfl⟩ := ownsRow_form ho6
        have B6 := B.below hb6
        have D6 : Below w4.heap.size w4 w6 := D.trans (hb6.mono D.size)
        go_wp2_with fail
        refine (h10 _ rb _ l hlen (HK.out _ _ _ _ _ _ hra D6 (Nat.le_refl _))).mono ?_
        rintro e w7 ⟨v7, rfl, ho7, hb7⟩
        obtain ⟨na, nn, nc, rfl⟩ := ownsRow_form ho7
        have B7 := B6.below hb7
        have D7 : Below w4.heap.size w4 w7 := D6.trans (hb7.mono D6.size)
        have hv7 := ownsRow_keep ho6 (fun b hb => hb7.block b (ho6.lt b hb).2)
        go_wp2_with fail
        refine (c9 _ _ _ _ _ l hlen hv7 ho7).mono ?_
        rintro e w8 ⟨rfl, hb8⟩
        have B8 := B7.below hb8
        have D8 : Below w4.heap.size w4 w8 := D7.trans (hb8.mono D7.size)
        have hv8 := ownsRow_keep hv7 (fun b hb => hb8.block b (hv7.lt b hb).2)
        have hbb := B.blk.lt
        go_wp2_with fail
        refine (c11 _ _ k _ _ ts ns B8 (by omega) HL.out (by have := HT.out; omega) _ l hlen (row_base hv8 (by omega)) ?_).mono ?_
        · intro b hb
          have h1 := (hv8.lt b hb).1
          refine ⟨fun e => ?_, fun e => ?_, fun x hx e => ?_⟩
          · have := (B.nr.lt b e).2; omega
          · have := (B.tr.lt b e).2; omega
          · have := (B.a x hx b e).2.1; omega
        rintro e w9 ⟨rfl, ⟨tv', tn', ts', ns', B9, hl9, hts9⟩, hb9⟩
        have D9 : Below w4.heap.size w4 w9 := D8.trans hb9
        clear B6 B7 B8 hb6 hb7 hb8 hb9 ho6 ho7 hv7 hv8 D6 D7 D8 B D
        have HL9 : Hid (ns'.length = ts'.length) := hl9
        have HT9 : Hid (ts'.length = ts.length + 4) := hts9
        clear hl9 hts9
        go_wp2_with fail
        refine (c12 _ _ _ _ _ ts' ns' B9 HL9.out (by have := HT.out; have := HT9.out; omega)).mono ?_
        rintro e w10 ⟨rfl, hb10⟩
        have D10 : Below w4.heap.size w4 w10 := D9.trans (hb10.mono D9.size)
        go_wp2
        go_roundw
        case rel => exact ⟨k + 1, _, _, ts', ns', by omega, by go_num, B9.below hb10, HL9.out, by have := HT.out; have := HT9.out; omega, D10⟩
        case measure => simp [intOf]; omega
      · have hli : decide ((k : Int) < 2 + q) = false := by simp; omega
        go_wp2
        go_ret
        exact ⟨rfl, D0.trans (D.mono Z0)⟩

end Go.Proofs.YtbbbegjedmicpaaGreatDoor
