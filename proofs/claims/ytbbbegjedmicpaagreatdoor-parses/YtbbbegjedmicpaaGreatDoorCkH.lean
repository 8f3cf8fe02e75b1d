import Derived.Test.YtbbbegjedmicpaaGreatDoorCkF

/-
  CONTRACTS: typeNames, check.
-/
namespace Go.Proofs.YtbbbegjedmicpaaGreatDoor
open Go.RowKit Go.Maps
attribute [local go_sem] f91_0 f91_1 f91_2
attribute [local go_sem ↓] Go.wp_at_zero Go.wp_at_succ

theorem BlocksIn.get {w : World} {S : Nat → Prop} : ∀ {bs : List BlockR} {cs : List Value} {i : Nat} {b : BlockR}, BlocksIn w S cs bs → bs[i]? = some b → ∃ pa pn pc va vn vc,
      cs[i * 6 + 0]? = some (.bool b.enum) ∧ cs[i * 6 + 1]? = some (.int .i64 (kindW b.name.1)) ∧ cs[i * 6 + 2]? = some (.string b.name.1) ∧ cs[i * 6 + 3]? = some (.int .i64 b.name.2) ∧ cs[i * 6 + 4]? = some (.slice pa pn pc) ∧ cs[i * 6 + 5]? = some (.slice va vn vc) ∧ BlockIn w S b (.slice pa pn pc) (.slice va vn vc)
  | [], _, _, _, _, h => by simp at h
  | q :: bs, cs, 0, b, ⟨pa, pn, pc, va, vn, vc, rest, h1, h2, h3⟩, h => by
    simp at h
    subst h h1
    exact ⟨pa, pn, pc, va, vn, vc, rfl, rfl, rfl, rfl, rfl, rfl, h2⟩
  | q :: bs, cs, i + 1, b, ⟨pa, pn, pc, va, vn, vc, rest, h1, h2, h3⟩, h => by
    subst h1
    obtain ⟨pa', pn', pc', va', vn', vc', e0, e1, e2, e3, e4, e5, e6⟩ := BlocksIn.get h3 (i := i) (by simpa using h)
    refine ⟨pa', pn', pc', va', vn', vc', ?_, ?_, ?_, ?_, ?_, ?_, e6⟩
    · rw [show (i + 1) * 6 + 0 = (i * 6 + 0) + 1 + 1 + 1 + 1 + 1 + 1 from by omega]; simpa using e0
    · rw [show (i + 1) * 6 + 1 = (i * 6 + 1) + 1 + 1 + 1 + 1 + 1 + 1 from by omega]; simpa using e1
    · rw [show (i + 1) * 6 + 2 = (i * 6 + 2) + 1 + 1 + 1 + 1 + 1 + 1 from by omega]; simpa using e2
    · rw [show (i + 1) * 6 + 3 = (i * 6 + 3) + 1 + 1 + 1 + 1 + 1 + 1 from by omega]; simpa using e3
    · rw [show (i + 1) * 6 + 4 = (i * 6 + 4) + 1 + 1 + 1 + 1 + 1 + 1 from by omega]; simpa using e4
    · rw [show (i + 1) * 6 + 5 = (i * 6 + 5) + 1 + 1 + 1 + 1 + 1 + 1 from by omega]; simpa using e5

/-- What is so of a tree that was read: enough for the looks. -/
structure BlockOK (b : BlockR) : Prop where
  name : b.name.1.size ≤ 2000
  vals : b.values.length ≤ 2001
  vnum : ∀ v ∈ b.values, numOK v.2.1
  parts : cntP b.parts ≤ 2001
  fnum : ∀ p ∈ b.parts, ∀ f ∈ p.fields, numOK f.num.1

def blocksCk (types : List ByteArray) : List ByteArray → Nat → List BlockR → Except Nat Unit
  | _, _, [] => .ok ()
  | names, m, b :: bs =>
    if nameBad names b.name.1 then .error b.name.2
    else if b.enum then
      match enumCk [] b.values with
      | .error p => .error p
      | .ok _ => blocksCk types (names ++ [b.name.1]) m bs
    else if decide (6 < m + 1) then .error b.name.2
    else
      match partsCk types [] [] b.parts with
      | .error p => .error p
      | .ok _ => blocksCk types (names ++ [b.name.1]) (m + 1) bs
def nameList (bs : List BlockR) : List ByteArray := bs.map fun b => b.name.1

set_option maxRecDepth 100000 in
set_option maxHeartbeats 2000000 in
theorem c45 (w : World) (ta : Option Addr) (tn tc : Nat) (bs : List BlockR) (cs : List Value) (S : Nat → Prop) (hrow : RowIn w S 118 6 (.slice ta tn tc) bs.length cs) (hbs : BlocksIn w S cs bs) (hlen : bs.length ≤ 2001) (hok : ∀ b ∈ bs, BlockOK b) :
    Calls Tryz.prog 78 #[.agg #[.slice ta tn tc]] w fun e w' => e = .returned (.map (some (w.heap.size + 1))) ∧ StrSet w' (w.heap.size + 1) (nameList bs) ∧ Below w.heap.size w w' := by
  have hvn := ownsRow_len hrow.1
  subst hvn
  have hmm := @run_makeMap Tryz.prog
  have C0 : Below w.heap.size w ((w.alloc (Obj.cells #[.slice ta bs.length tc] 66)).alloc (Obj.map #[] 0)) := ((Below.refl w.heap.size w).alloc (Nat.le_refl _) _).alloc (by simp) _
  have M0 : StrSet ((w.alloc (Obj.cells #[.slice ta bs.length tc] 66)).alloc (Obj.map #[] 0)) (w.heap.size + 1) [] := by
    have := World.ownsMap_made (w.alloc (Obj.cells #[.slice ta bs.length tc] 66)) Tryz.prog 9 (unitElem (H := Unit))
    simpa [StrSet, setOf] using this
  go_enter Tryz.func78, Tryz.ntmps78
  go_wp2
  go_loopw [10] (fun i wr => ∃ (k : Nat), k ≤ bs.length ∧ i = .int .i64 k ∧ StrSet wr (w.heap.size + 1) (nameList (bs.take k)) ∧ Below w.heap.size w wr) (fun i _ => bs.length - (intOf i).toNat)
  case atStart => exact ⟨0, Nat.zero_le _, rfl, M0, C0⟩
  case round =>
    clear M0 C0
    obtain ⟨k, hk, rfl, HS, CW⟩ := hrel
    by_cases hlt : k < bs.length
    · obtain ⟨b, hb⟩ := gx hlt
      have hbo := hok b (List.mem_of_getElem? hb)
      obtain ⟨g, rfl, _, hgl, hcell⟩ := ownsRow_at hrow.1 (by omega)
      obtain ⟨pa, pn, pc, va, vn, vc, p0, p1, p2, p3, p4, p5, hbi⟩ := hbs.get hb
      have hcg := hcell wr (CW.block g hgl)
      rw [Nat.add_zero] at p0
      have q0 := hcg _ _ p0
      have q1 := hcg _ _ p1
      have q2 := hcg _ _ p2
      have q3 := hcg _ _ p3
      have q4 := hcg _ _ p4
      have q5 := hcg _ _ p5
      have KB := Blk.new wr #[.bool b.enum, .int .i64 (kindW b.name.1), .string b.name.1, .int .i64 b.name.2, .slice pa pn pc, .slice va vn vc] 118
      have CA := CW.alloc CW.size (Obj.cells #[.bool b.enum, .int .i64 (kindW b.name.1), .string b.name.1, .int .i64 b.name.2, .slice pa pn pc, .slice va vn vc] 118)
      clear hcell hcg p0 p1 p2 p3 p4 p5
      have HL : Hid (nameList (bs.take (k + 1)) = nameList (bs.take k) ++ [b.name.1]) := by
        unfold Hid nameList
        rw [List.take_add_one, hb]
        simp
      have HS1 : StrSet (wr.alloc (Obj.cells #[.bool b.enum, .int .i64 (kindW b.name.1), .string b.name.1, .int .i64 b.name.2, .slice pa pn pc, .slice va vn vc] 118)) (w.heap.size + 1) (nameList (bs.take k)) := HS.keep (Below.heap_alloc _ _ _ HS.lt)
      have hll : (nameList (bs.take k)).length < maxLen := by
        unfold nameList maxLen
        rw [List.length_map, List.length_take]
        omega
      have hsz : b.name.1.size ≤ maxLen := by have := hbo.name; unfold maxLen; omega
      clear hb hbi
      go_wp2_with fail
      clear q0 q1 q2 q3 q4 q5
      refine (c62 _ (w.heap.size + 1) _ b.name.1 HS1 hll hsz).mono ?_
      rintro e w4 ⟨rfl, HS4, hk4⟩
      have C4 : Below w.heap.size w w4 := CA.trans (hk4.to_below CA.size (by intro x hx; simp at hx; omega))
      go_wp2
      go_roundw
      case rel => exact ⟨k + 1, by omega, by go_num, by rw [HL.out]; exact HS4, C4⟩
      case measure => simp [intOf]; omega
    · have HL : Hid (bs.take k = bs) := List.take_of_length_le (by omega)
      go_wp2
      go_ret
      refine ⟨rfl, ?_, CW⟩
      rw [HL.out] at HS
      exact HS

set_option maxRecDepth 100000 in
set_option maxHeartbeats 268435456 in
theorem c28 (w : World) (ta : Option Addr) (tn tc : Nat) (bs : List BlockR) (cs : List Value) (S : Nat → Prop) (hrow : RowIn w S 118 6 (.slice ta tn tc) bs.length cs) (hbs : BlocksIn w S cs bs) (hlen : bs.length ≤ 2001) (hok : ∀ b ∈ bs, BlockOK b) (hg : GOK w) :
    Calls Tryz.prog 42 #[.agg #[.slice ta tn tc]] w fun e w' => LookRet (blocksCk (nameList bs) [] 0 bs) e ∧ Below w.heap.size w w' := by
  have hvn := ownsRow_len hrow.1
  subst hvn
  have hmm := @run_makeMap Tryz.prog
  obtain ⟨B0, K0⟩ := one_new w #[.slice ta bs.length tc] 66
  have hrow0 : RowIn (w.alloc (Obj.cells #[.slice ta bs.length tc] 66)) S 118 6 (.slice ta bs.length tc) bs.length cs := hrow.keep (fun b _ hb => Below.heap_alloc _ _ _ hb)
  have hbs0 : BlocksIn (w.alloc (Obj.cells #[.slice ta bs.length tc] 66)) S cs bs := hbs.keep (fun b _ hb => Below.heap_alloc _ _ _ hb)
  obtain ⟨types, HTY⟩ : ∃ t, Hid (nameList bs = t) := ⟨_, rfl⟩
  rw [HTY.out]
  generalize hr : blocksCk types [] 0 bs = r
  have HR : Hid (blocksCk types [] 0 bs = r) := hr
  clear hr
  go_enter Tryz.func42, Tryz.ntmps42
  go_wp2_with fail
  refine (c45 _ ta bs.length tc bs cs S hrow0 hbs0 hlen hok).mono ?_
  rw [HTY.out]
  rintro e w2 ⟨rfl, HT2, hb2⟩
  have C2 : Below w.heap.size w w2 := B0.trans (hb2.mono (by simp))
  have K2 := (K0.below hb2 K0.lt).alloc (Obj.map #[] 0)
  have zt : w.heap.size + 1 + 1 < w2.heap.size := by have := HT2.lt; simp at this; omega
  have HT3 : StrSet (w2.alloc (Obj.map #[] 0)) (w.heap.size + 1 + 1) types := by
    have := HT2.keep (w' := (w2.alloc (Obj.map #[] 0))) (Below.heap_alloc _ _ _ HT2.lt)
    simpa using this
  have HTlt := HT3.lt
  have C3 : Below w.heap.size w (w2.alloc (Obj.map #[] 0)) := C2.alloc C2.size _
  have M3 : StrSet (w2.alloc (Obj.map #[] 0)) w2.heap.size [] := by
    have := World.ownsMap_made w2 Tryz.prog 9 (unitElem (H := Unit))
    simpa [StrSet, setOf] using this
  have esz : ∀ o, (w.alloc o).heap.size = w.heap.size + 1 := by simp
  obtain ⟨k1, k2⟩ := K2.rules
  clear K0 hrow0 hbs0 HT2 hb2 B0 C2
  go_wp2
  clear k1 k2
  go_loopw [4, 13] (fun m i wr => ∃ (k cnt : Nat) (names : List ByteArray), k ≤ bs.length ∧ i = .int .i64 k ∧ m = .int .i64 cnt ∧ cnt ≤ k ∧ names.length ≤ k ∧ Hid (blocksCk types names cnt (bs.drop k) = r) ∧ StrSet wr w2.heap.size names ∧ StrSet wr (w.heap.size + 1 + 1) types ∧ Below w.heap.size w wr) (fun _ i _ => bs.length - (intOf i).toNat)
  case atStart => exact ⟨0, 0, [], Nat.zero_le _, rfl, rfl, Nat.le_refl _, by simp, HR, M3, HT3, C3⟩
  case round =>
    clear M3 HT3 C3 HR
    obtain ⟨k, cnt, names, hk, rfl, rfl, hcnt, hnl, HP, HS, HT, CW⟩ := hrel
    by_cases hlt : k < bs.length
    · obtain ⟨b, hb⟩ := gx hlt
      have hbo := hok b (List.mem_of_getElem? hb)
      have hdrop : bs.drop k = b :: bs.drop (k + 1) := by
        rw [List.drop_eq_getElem_cons hlt]
        rw [List.getElem?_eq_getElem hlt] at hb
        rw [Option.some.inj hb]
      have HP2 : Hid (blocksCk types names cnt (b :: bs.drop (k + 1)) = r) := by rw [← hdrop]; exact HP
      obtain ⟨g, rfl, _, hgl, hcell⟩ := ownsRow_at hrow.1 (by omega)
      obtain ⟨pa, pn, pc, va, vn, vc, p0, p1, p2, p3, p4, p5, hbi⟩ := hbs.get hb
      have hcg := hcell wr (CW.block g hgl)
      rw [Nat.add_zero] at p0
      have q0 := hcg _ _ p0
      have q1 := hcg _ _ p1
      have q2 := hcg _ _ p2
      have q3 := hcg _ _ p3
      have q4 := hcg _ _ p4
      have q5 := hcg _ _ p5
      have KB := Blk.new wr #[.bool b.enum, .int .i64 (kindW b.name.1), .string b.name.1, .int .i64 b.name.2, .slice pa pn pc, .slice va vn vc] 118
      have CA := CW.alloc CW.size (Obj.cells #[.bool b.enum, .int .i64 (kindW b.name.1), .string b.name.1, .int .i64 b.name.2, .slice pa pn pc, .slice va vn vc] 118)
      clear hcell hcg p0 p1 p2 p3 p4 p5
      have HS1 : StrSet (wr.alloc (Obj.cells #[.bool b.enum, .int .i64 (kindW b.name.1), .string b.name.1, .int .i64 b.name.2, .slice pa pn pc, .slice va vn vc] 118)) w2.heap.size names := HS.keep (Below.heap_alloc _ _ _ HS.lt)
      have HT1 : StrSet (wr.alloc (Obj.cells #[.bool b.enum, .int .i64 (kindW b.name.1), .string b.name.1, .int .i64 b.name.2, .slice pa pn pc, .slice va vn vc] 118)) (w.heap.size + 1 + 1) types := HT.keep (Below.heap_alloc _ _ _ HT.lt)
      have z1 := HS.lt
      clear hb hdrop HP HS HT
      go_wp2_with fail
      clear q0 q1 q2 q3 q4 q5
      refine (c46 _ w2.heap.size names _ _ _ HS1 (by omega)).mono ?_
      cases h1 : nameBad names b.name.1
      rotate_left
      · rintro e w4 ⟨rfl, hb4⟩
        obtain rfl : r = .error b.name.2 := by rw [← HP2.out, blocksCk]; simp only [h1, if_true]
        unfold fault
        go_wp2
        exact ⟨rfl, rfl, CA.trans (hb4.mono CA.size)⟩
      rintro e w4 ⟨rfl, HS4, hk4⟩
      have C4 : Below w.heap.size w w4 := CA.trans (hk4.to_below CA.size (by intro x hx; simp at hx; omega))
      have KB4 : Blk w4 wr.heap.size #[.bool b.enum, .int .i64 (kindW b.name.1), .string b.name.1, .int .i64 b.name.2, .slice pa pn pc, .slice va vn vc] 118 := (hk4.block _ KB.lt (by simp; omega)).trans KB
      have HT4 : StrSet w4 (w.heap.size + 1 + 1) types := HT1.keep (hk4.block _ HT1.lt (by simp; omega))
      have hbi4 := hbi.keep (w' := w4) (fun c _ hc => C4.block c hc)
      have hg4 : GOK w4 := hg.keep (C4.block _ hg.lt)
      have z4 := KB4.lt
      obtain ⟨pcs, hpr, hpi, hvr⟩ := hbi4
      clear KB HS1 HT1 CA hbi
      obtain ⟨k1, k2⟩ := KB4.rules
      cases hen : b.enum
      · cases h3 : decide (6 < cnt + 1)
        rotate_left
        · have hd : (6 : Int) < (cnt : Int) + 1 := by have := of_decide_eq_true h3; omega
          obtain rfl : r = .error b.name.2 := by rw [← HP2.out, blocksCk]; simp only [h1, hen, h3, Bool.false_eq_true, if_true, if_false]
          go_wp2_with fail
          refine (c48_yes _ _ b.name.1 b.name.2).mono ?_
          rintro e w5 ⟨rfl, hb5⟩
          unfold fault
          go_wp2
          exact ⟨rfl, rfl, C4.trans (hb5.mono C4.size)⟩
        have hd : decide ((6 : Int) < (cnt : Int) + 1) = false := by have := of_decide_eq_false h3; simp; omega
        go_wp2_with fail
        refine (c48_no _ _ b.name.1 b.name.2).mono ?_
        rintro e w5 ⟨rfl, hb5⟩
        clear k1 k2 hd
        have C5 := C4.trans (hb5.mono C4.size)
        have KB5 := KB4.below hb5 KB4.lt
        have HT5 := HT4.keep (hb5.block _ HT4.lt)
        have HS5 := HS4.keep (hb5.block _ HS4.lt)
        have hpr5 := hpr.keep (w' := w5) (fun c _ hc => hb5.block c hc)
        have hpi5 := hpi.keep (w' := w5) (fun c _ hc => hb5.block c hc)
        have hg5 := hg4.keep (hb5.block _ hg4.lt)
        obtain ⟨k1, k2⟩ := KB5.rules
        go_wp2_with fail
        clear k1 k2
        refine (c49 _ (w.heap.size + 1 + 1) types _ _ _ _ pa pn pc va vn vc b.parts pcs S hpr5 hpi5 HT5 hbo.parts hbo.fnum hg5).mono ?_
        cases h2 : partsCk types [] [] b.parts with
        | error p =>
          rintro e w6 ⟨he, hb6⟩
          obtain rfl : e = fault 3 p := he
          obtain rfl : r = .error p := by rw [← HP2.out, blocksCk]; simp only [h1, hen, h2, h3, Bool.false_eq_true, if_false]
          unfold fault
          go_wp2
          exact ⟨rfl, rfl, C5.trans (hb6.mono C5.size)⟩
        | ok nn =>
          rintro e w6 ⟨he, hb6⟩
          obtain rfl : e = .returned (.tuple #[]) := he
          have HP3 : Hid (blocksCk types (names ++ [b.name.1]) (cnt + 1) (bs.drop (k + 1)) = r) := by
            have := HP2.out
            rw [blocksCk] at this
            simp only [h1, hen, h2, h3, Bool.false_eq_true, if_false] at this
            exact this
          go_wp2
          go_roundw
          case rel => exact ⟨k + 1, cnt + 1, names ++ [b.name.1], by omega, by go_num, by go_num, by omega, by simp; omega, HP3, HS5.keep (hb6.block _ HS5.lt), HT5.keep (hb6.block _ HT5.lt), C5.trans (hb6.mono C5.size)⟩
          case measure => simp [intOf]; omega
      · go_wp2_with fail
        clear k1 k2
        refine (c47 _ _ _ _ _ _ _ _ va vn vc b.values hvr.1 hbo.vals hbo.vnum hg4).mono ?_
        cases h2 : enumCk [] b.values with
        | error p =>
          rintro e w5 ⟨he, hb5⟩
          obtain rfl : e = fault 3 p := he
          obtain rfl : r = .error p := by rw [← HP2.out, blocksCk]; simp only [h1, hen, h2, Bool.false_eq_true, if_true, if_false]
          unfold fault
          go_wp2
          exact ⟨rfl, rfl, C4.trans (hb5.mono C4.size)⟩
        | ok nn =>
          rintro e w5 ⟨he, hb5⟩
          obtain rfl : e = .returned (.tuple #[]) := he
          have HP3 : Hid (blocksCk types (names ++ [b.name.1]) cnt (bs.drop (k + 1)) = r) := by
            have := HP2.out
            rw [blocksCk] at this
            simp only [h1, hen, h2, Bool.false_eq_true, if_true, if_false] at this
            exact this
          go_wp2
          go_roundw
          case rel => exact ⟨k + 1, cnt, names ++ [b.name.1], by omega, by go_num, rfl, by omega, by simp; omega, HP3, HS4.keep (hb5.block _ HS4.lt), HT4.keep (hb5.block _ HT4.lt), C4.trans (hb5.mono C4.size)⟩
          case measure => simp [intOf]; omega
    · have hdone : bs.drop k = [] := by rw [List.drop_eq_nil_iff]; omega
      obtain rfl : r = .ok () := by rw [← HP.out, hdone]; rfl
      clear hdone
      go_wp2
      go_end0
      exact ⟨rfl, CW⟩

end Go.Proofs.YtbbbegjedmicpaaGreatDoor

/-
  WHAT IS SO OF A TREE THAT WAS READ (plain terms): its numbers are digits, its lists are no longer than the text.
-/
namespace Go.Proofs.YtbbbegjedmicpaaGreatDoor
open Go.RowKit

structure WsOK (ws : List W) : Prop where
  few : ws.length ≤ 2001
  size : ∀ (k : Nat) (x : W), ws[k]? = some x → x.1.size ≤ 2000
  num : ∀ (k : Nat) (x : W), ws[k]? = some x → kindW x.1 = 2 → numOK x.1

def Le {α : Type} (ws : List W) (r : Res α) : Prop := ∀ a j, r = .ok (a, j) → j ≤ ws.length

theorem lt_of_get {ws : List W} {i : Nat} {x : W} (h : ws[i]? = some x) : i < ws.length := by
  grind
theorem kindP_le (ws : List W) (k : Int) (i : Nat) : Le ws (kindP ws k i) := fun a j h => by
  have := kindP_on _ _ _ _ _ h
  grind
theorem skipP_le (ws : List W) (s : List UInt8) (i : Nat) : Le ws (skipP ws s i) := fun a j h => by
  obtain ⟨h1, x, h2, _⟩ := skipP_on _ _ _ _ _ h
  grind
theorem numP_ok {ws : List W} (H : WsOK ws) {i : Nat} {nm : W × W} {j : Nat} (h : numP ws i = .ok (nm, j)) : numOK nm.2.1 ∧ i + 4 ≤ j ∧ j ≤ ws.length := by
  unfold numP at h
  obtain ⟨_, i1, h1, h⟩ := andP_ok h
  obtain ⟨_, i2, h2, h⟩ := andP_ok h
  obtain ⟨_, i3, h3, h⟩ := andP_ok h
  obtain ⟨_, i4, h4, h⟩ := andP_ok h
  have a1 := (kindP_on _ _ _ _ _ h1).1
  have a2 := (skipP_on _ _ _ _ _ h2).1
  have a3 := kindP_on _ _ _ _ _ h3
  have a4 := (skipP_on _ _ _ _ _ h4).1
  have a5 := skipP_le _ _ _ _ _ h4
  simp at h
  obtain ⟨rfl, rfl⟩ := h
  exact ⟨H.num _ _ a3.2.1 a3.2.2, by omega, a5⟩
theorem fieldP_ok {ws : List W} (H : WsOK ws) {form : Int} {i : Nat} {f : FieldR} {j : Nat} (h : fieldP ws form i = .ok (f, j)) : numOK f.num.1 ∧ i + 5 ≤ j ∧ j ≤ ws.length := by
  unfold fieldP at h
  obtain ⟨t, i1, h1, h⟩ := andP_ok h
  obtain ⟨nm, i2, h2, h⟩ := andP_ok h
  have a1 := (typeP_on _ _ _ _ h1).1
  have a2 := numP_ok H h2
  grind
theorem mapP_ok {ws : List W} (H : WsOK ws) {i : Nat} {f : FieldR} {j : Nat} (h : mapP ws i = .ok (f, j)) : numOK f.num.1 ∧ i + 5 ≤ j ∧ j ≤ ws.length := by
  unfold mapP at h
  obtain ⟨_, i1, h1, h⟩ := andP_ok h
  obtain ⟨_, i2, h2, h⟩ := andP_ok h
  obtain ⟨_, i3, h3, h⟩ := andP_ok h
  obtain ⟨_, i4, h4, h⟩ := andP_ok h
  obtain ⟨_, i5, h5, h⟩ := andP_ok h
  obtain ⟨_, i6, h6, h⟩ := andP_ok h
  obtain ⟨_, i7, h7, h⟩ := andP_ok h
  have a1 := (skipP_on _ _ _ _ _ h1).1
  have a2 := (skipP_on _ _ _ _ _ h2).1
  have a3 := (typeP_on _ _ _ _ h3).1
  have a4 := (skipP_on _ _ _ _ _ h4).1
  have a5 := (typeP_on _ _ _ _ h5).1
  have a6 := (skipP_on _ _ _ _ _ h6).1
  have a7 := numP_ok H h7
  grind

/-- What a loop reads: each by one reading, and as much as its words. -/
theorem manyP_ok {α : Type} {stop : Nat → Bool} {p : Nat → Res α} {Q : α → Prop} {wt : α → Nat} {N : Nat} (hp : ∀ i a j, p i = .ok (a, j) → Q a ∧ i + wt a ≤ j ∧ j ≤ N) :
    ∀ n i l j, i ≤ N → manyP stop p n i = .ok (l, j) → (∀ a ∈ l, Q a) ∧ i + (l.map wt).sum ≤ j ∧ j ≤ N
  | 0, i, l, j, hi, h => by simp [manyP] at h; simp_all
  | n + 1, i, l, j, hi, h => by
    unfold manyP at h
    split at h
    · simp_all
    · obtain ⟨a, i1, h1, h⟩ := andP_ok h
      obtain ⟨l', i2, h2, h⟩ := andP_ok h
      have a1 := hp _ _ _ h1
      have a2 := manyP_ok hp n i1 l' i2 a1.2.2 h2
      grind
theorem sum_one {α : Type} (l : List α) : (l.map fun _ => 1).sum = l.length := by
  induction l with
  | nil => rfl
  | cons a l ih => (simp;omega)
theorem cntP_sum (ps : List PartR) : (ps.map fun p => 1 + p.fields.length).sum = cntP ps := by
  induction ps with
  | nil => rfl
  | cons p ps ih => simp only [List.map_cons, List.sum_cons, ih, cntP]

def partOK (p : PartR) : Prop := ∀ f ∈ p.fields, numOK f.num.1
theorem oneofP_ok {ws : List W} (H : WsOK ws) {i : Nat} {p : PartR} {j : Nat} (h : oneofP ws i = .ok (p, j)) : partOK p ∧ i + (1 + p.fields.length) ≤ j ∧ j ≤ ws.length := by
  unfold oneofP at h
  obtain ⟨_, i1, h1, h⟩ := andP_ok h
  obtain ⟨_, i2, h2, h⟩ := andP_ok h
  obtain ⟨_, i3, h3, h⟩ := andP_ok h
  obtain ⟨f, i4, h4, h⟩ := andP_ok h
  obtain ⟨l, i5, h5, h⟩ := andP_ok h
  obtain ⟨_, i6, h6, h⟩ := andP_ok h
  obtain ⟨l', i7, h7, h8⟩ := andP_ok h5
  have a1 := (skipP_on _ _ _ _ _ h1).1
  have a2 := (kindP_on _ _ _ _ _ h2).1
  have a3 := (skipP_on _ _ _ _ _ h3).1
  have a4 := fieldP_ok H h4
  have a7 := manyP_ok (Q := fun f => numOK f.num.1) (wt := fun _ => 1) (N := ws.length) (fun i a j h => by have := fieldP_ok H h; grind) _ _ _ _ a4.2.2 h7
  have a6 := (skipP_on _ _ _ _ _ h6).1
  have a9 := skipP_le _ _ _ _ _ h6
  have e8 := Except.ok.inj h8
  have e9 := Except.ok.inj h
  cases e9
  cases e8
  rw [sum_one] at a7
  refine ⟨?_, ?_, a9⟩
  · intro x hx
    grind
  (simp;omega)
theorem partP_ok {ws : List W} (H : WsOK ws) {i : Nat} {p : PartR} {j : Nat} (h : partP ws i = .ok (p, j)) : partOK p ∧ i + (1 + p.fields.length) ≤ j ∧ j ≤ ws.length := by
  have al : ∀ (k : Nat) (r : Res FieldR), i ≤ k → (∀ f j, r = .ok (f, j) → numOK f.num.1 ∧ k + 5 ≤ j ∧ j ≤ ws.length) → aloneP r = .ok (p, j) → partOK p ∧ i + (1 + p.fields.length) ≤ j ∧ j ≤ ws.length := by
    intro k r hk hr h
    obtain ⟨f, i1, h1, h⟩ := andP_ok h
    have := hr _ _ h1
    simp at h
    obtain ⟨rfl, rfl⟩ := h
    refine ⟨fun x hx => ?_, by grind, this.2.2⟩
    simp_all
  unfold partP at h
  split at h
  · exact oneofP_ok H h
  · split at h
    · exact al i _ (Nat.le_refl _) (fun f j h => mapP_ok H h) h
    · split at h
      · exact al (i + 1) _ (Nat.le_succ _) (fun f j h => fieldP_ok H h) h
      · split at h
        · exact al (i + 1) _ (Nat.le_succ _) (fun f j h => fieldP_ok H h) h
        · exact al i _ (Nat.le_refl _) (fun f j h => fieldP_ok H h) h
theorem blockP_ok {ws : List W} (H : WsOK ws) {i : Nat} {b : BlockR} {j : Nat} (h : blockP ws i = .ok (b, j)) : BlockOK b ∧ i + 1 ≤ j ∧ j ≤ ws.length := by
  have few := H.few
  unfold blockP at h
  split at h
  · unfold enumP at h
    obtain ⟨_, i1, h1, h⟩ := andP_ok h
    obtain ⟨nm, i2, h2, h⟩ := andP_ok h
    obtain ⟨_, i3, h3, h⟩ := andP_ok h
    obtain ⟨l, i4, h4, h⟩ := andP_ok h
    obtain ⟨_, i5, h5, h⟩ := andP_ok h
    have a1 := (skipP_on _ _ _ _ _ h1).1
    have a2 := kindP_on _ _ _ _ _ h2
    have a3 := (skipP_on _ _ _ _ _ h3).1
    have b3 := skipP_le _ _ _ _ _ h3
    have a4 := manyP_ok (Q := fun v : W × W => numOK v.2.1) (wt := fun _ => 1) (N := ws.length) (fun i a j h => by have := numP_ok H h; grind) _ _ _ _ b3 h4
    have a5 := (skipP_on _ _ _ _ _ h5).1
    have b5 := skipP_le _ _ _ _ _ h5
    simp at h
    obtain ⟨rfl, rfl⟩ := h
    rw [sum_one] at a4
    exact ⟨⟨H.size _ _ a2.2.1, by (simp;omega), a4.1, by simp [cntP], by simp⟩, by omega, b5⟩
  · unfold messageP at h
    obtain ⟨_, i1, h1, h⟩ := andP_ok h
    obtain ⟨nm, i2, h2, h⟩ := andP_ok h
    obtain ⟨_, i3, h3, h⟩ := andP_ok h
    obtain ⟨l, i4, h4, h⟩ := andP_ok h
    obtain ⟨_, i5, h5, h⟩ := andP_ok h
    have a1 := (skipP_on _ _ _ _ _ h1).1
    have a2 := kindP_on _ _ _ _ _ h2
    have a3 := (skipP_on _ _ _ _ _ h3).1
    have b3 := skipP_le _ _ _ _ _ h3
    have a4 := manyP_ok (Q := partOK) (wt := fun p => 1 + p.fields.length) (N := ws.length) (fun i a j h => partP_ok H h) _ _ _ _ b3 h4
    have a5 := (skipP_on _ _ _ _ _ h5).1
    have b5 := skipP_le _ _ _ _ _ h5
    simp at h
    obtain ⟨rfl, rfl⟩ := h
    rw [cntP_sum] at a4
    exact ⟨⟨H.size _ _ a2.2.1, by simp, by simp, by (simp;omega), a4.1⟩, by omega, b5⟩
theorem treeP_ok {ws : List W} (H : WsOK ws) {bs : List BlockR} {j : Nat} (h : treeP ws = .ok (bs, j)) : (∀ b ∈ bs, BlockOK b) ∧ bs.length ≤ 2001 := by
  have few := H.few
  have := manyP_ok (Q := BlockOK) (wt := fun _ => 1) (N := ws.length) (fun i a j h => blockP_ok H h) _ _ _ _ (Nat.zero_le _) h
  rw [sum_one] at this
  grind

end Go.Proofs.YtbbbegjedmicpaaGreatDoor

/-
  THE WORDS OF A TEXT ARE AS THE READER WANTS THEM; CONTRACT: Read.
-/
namespace Go.Proofs.YtbbbegjedmicpaaGreatDoor
open Go.RowKit
attribute [local go_sem] f91_0 f91_1 f91_2

theorem allWords_get {t : ByteArray} {k : Nat} {x : W} (h : (allWords t)[k]? = some x) : (k < (lex t).length ∧ x ∈ lex t) ∨ (k = (lex t).length ∧ x = (⟨#[]⟩, t.size)) := by
  unfold allWords at h
  by_cases hk : k < (lex t).length
  · rw [List.getElem?_append_left hk] at h
    exact .inl ⟨hk, List.mem_of_getElem? h⟩
  · rw [List.getElem?_append_right (by omega)] at h
    by_cases he : k - (lex t).length = 0
    · rw [he] at h
      simp at h
      exact .inr ⟨by omega, h.symm⟩
    · rw [List.getElem?_eq_none (by simp; omega)] at h
      cases h
theorem allWords_len (t : ByteArray) : (allWords t).length = (lex t).length + 1 := by simp [allWords]
theorem lex_len (t : ByteArray) : (lex t).length ≤ t.size := by have := lexF_length t t.size 0; simpa [lex] using this

/-- A word of digits has digits alone. -/
theorem scanD (t : ByteArray) : ∀ n k, k ≤ t.size → ∀ i, k ≤ i → i < scan isD t n k → isD (bAt t i) = true
  | 0, k, _, i, h1, h2 => by simp [scan] at h2; omega
  | n + 1, k, hk, i, h1, h2 => by
    unfold scan at h2
    by_cases hc : (decide (k < t.size) && isD (bAt t k)) = true
    · rw [if_pos hc] at h2
      have h3 : k < t.size ∧ isD (bAt t k) = true := by simpa using hc
      by_cases he : i = k
      · subst he; exact h3.2
      · exact scanD t n (k + 1) h3.1 i (by omega) h2
    · rw [if_neg hc] at h2; omega
theorem extract_bAt {t : ByteArray} {a e i : Nat} (h : a + i < e) (he : e ≤ t.size) : bAt (t.extract a e) i = bAt t (a + i) := by
  have hs : i < (t.extract a e).size := by rw [ByteArray.size_extract]; omega
  rw [← bAt_eq hs, ← bAt_eq (by omega : a + i < t.size)]
  congr 2
  exact ByteArray.getElem_extract _
theorem wEndD {t : ByteArray} {a : Nat} (h : a < t.size) (hd : isD (bAt t a) = true) : ∀ i, a ≤ i → i < wEnd t a → isD (bAt t i) = true := by
  intro i h1 h2
  have hl : isL (bAt t a) = false := by
    unfold isD at hd
    unfold isL
    simp at hd ⊢
    omega
  by_cases he : i = a
  · subst he; exact hd
  · unfold wEnd at h2
    simp only [hl, hd, Bool.true_and, Bool.false_eq_true, if_false] at h2
    split at h2
    · exact scanD t t.size (a + 1) h i (by omega) h2
    · omega

theorem lexF_mem2 (t : ByteArray) : ∀ n a, ∀ x ∈ lexF t n a, ∃ c, c < t.size ∧ x = (t.extract c (wEnd t c), c) ∧ isG (bAt t c) = false
  | 0, a, x, h => by simp [lexF] at h
  | n + 1, a, x, h => by
    unfold lexF at h
    by_cases ha : a < t.size
    · rw [if_pos ha] at h
      by_cases hg : isG (bAt t a) = true
      · rw [if_pos hg] at h
        exact lexF_mem2 t n (a + 1) x h
      · rw [if_neg hg] at h
        rcases List.mem_cons.1 h with rfl | h
        · exact ⟨a, ha, rfl, by simpa using hg⟩
        · exact lexF_mem2 t n _ x h
    · rw [if_neg ha] at h; simp at h
theorem parseM_digits (M : Nat) : ∀ (l : List UInt8) (acc : Nat), (∀ c ∈ l, 48 ≤ c.toNat ∧ c.toNat ≤ 57) → (∃ u, Lib.parseUintM M acc l = .ok u) ∨ Lib.parseUintM M acc l = .range
  | [], acc, _ => .inl ⟨acc, rfl⟩
  | c :: l, acc, h => by
    have hc := h c (by simp)
    unfold Lib.parseUintM
    rw [if_pos hc]
    split
    · exact .inr rfl
    · split
      · exact .inr rfl
      · exact parseM_digits M l _ (fun c hc => h c (by simp [hc]))
theorem bAt_get {s : ByteArray} {i : Nat} {c : UInt8} (h : s.data.toList[i]? = some c) : bAt s i = (c.toNat : Int) := by
  have hi : i < s.size := by
    by_cases hi : i < s.data.toList.length
    · simpa using hi
    · rw [List.getElem?_eq_none (by omega)] at h; cases h
  rw [← bAt_eq hi]
  have : s.data.toList[i]? = some s[i] := by
    rw [List.getElem?_eq_getElem (by simpa using hi)]
    rfl
  rw [this] at h
  rw [Option.some.inj h]
theorem isD_iff {c : Int} : isD c = true ↔ 48 ≤ c ∧ c ≤ 57 := by simp [isD]
theorem numOK_of {s : ByteArray} (hs : s.size ≤ 2000) (h0 : 0 < s.size) (hd : ∀ i, i < s.size → isD (bAt s i) = true) : numOK s := by
  refine ⟨hs, ?_⟩
  have hne : s.data.toList ≠ [] := by
    intro e
    have : s.data.toList.length = 0 := by rw [e]; rfl
    have h1 : s.data.toList.length = s.size := by simp
    omega
  unfold Lib.parseUintB
  rw [if_neg hne]
  refine parseM_digits _ _ _ fun c hc => ?_
  obtain ⟨i, hi⟩ := List.mem_iff_getElem?.1 hc
  have h1 := bAt_get hi
  have hlt : i < s.size := by
    by_cases hi2 : i < s.data.toList.length
    · simpa using hi2
    · rw [List.getElem?_eq_none (by omega)] at hi; cases hi
  have h2 := isD_iff.1 (hd i hlt)
  omega
/-- A word of the text, with what is so of it. -/
theorem word_digits {t : ByteArray} {x : W} (hx : x ∈ lex t) (hd : isD (bAt x.1 0) = true) : ∀ i, i < x.1.size → isD (bAt x.1 i) = true := by
  obtain ⟨c, hc, rfl, _⟩ := lexF_mem2 t t.size 0 x hx
  have he := wEnd_le t c hc
  intro i hi
  simp only at hi hd ⊢
  rw [ByteArray.size_extract] at hi
  rw [extract_bAt (by omega) he.2] at hd ⊢
  exact wEndD hc (by simpa using hd) (c + i) (by omega) (by omega)
theorem kind_two {s : ByteArray} (h : kindW s = 2) : isD (bAt s 0) = true := by
  unfold kindW kindOf at h
  split at h
  · omega
  · split at h
    · assumption
    · split at h
      · omega
      · split at h <;> omega
theorem allWords_ok (t : ByteArray) (ht : t.size ≤ 2000) : WsOK (allWords t) := by
  refine ⟨?_, ?_, ?_⟩
  · rw [allWords_len]; have := lex_len t; omega
  · intro k x hx
    rcases allWords_get hx with ⟨_, h⟩ | ⟨_, rfl⟩
    · have := lexF_mem t t.size 0 x h; omega
    · show (ByteArray.mk #[]).size ≤ 2000
      decide
  · intro k x hx hk
    rcases allWords_get hx with ⟨_, h⟩ | ⟨_, rfl⟩
    · have := lexF_mem t t.size 0 x h
      exact numOK_of (by omega) (by omega) (word_digits h (kind_two hk))
    · have : kindW (ByteArray.mk #[]) = 4 := rfl
      rw [this] at hk
      omega

end Go.Proofs.YtbbbegjedmicpaaGreatDoor
