import Derived.Test.YtbbbegjedmicpaaGreatDoorRefO

/-
  THE REFERENCE, CONTRACT: enum.
-/
namespace Go.Proofs.YtbbbegjedmicpaaGreatDoor
open Go.RowKit

/-- A list of names beside the reader. -/
structure NlAt (w : World) (rb : Nat) (M : Mem) (nl : Value) (l : List ByteArray) : Prop where
  nr : w.ownsRow 0 9 1 nl l.length (strCells l)
  sep : ∀ b, nl.ownBlock = some b → ¬ M.D rb b
def NlD (M : Mem) (rb : Nat) (nl : Value) (b : Nat) : Prop := M.D rb b ∨ nl.ownBlock = some b
section
variable {w w' : World} {rb : Nat} {M M' : Mem} {ws : List W} {p : PS} {nl : Value} {l : List ByteArray}
theorem NlAt.step (h : NlAt w rb M nl l) (st : Step w (M.D rb) w' (M'.D rb)) : NlAt w' rb M' nl l :=
  ⟨ownsRow_keep h.nr fun b hb => st.block b (h.nr.lt b hb).2 (h.sep b hb), fun b hb => st.not (h.nr.lt b hb).2 (h.sep b hb)⟩
theorem NlAt.below (h : NlAt w rb M nl l) (hb : Below w.heap.size w w') : NlAt w' rb M nl l := ⟨ownsRow_keep h.nr fun b hx => hb.block b (h.nr.lt b hx).2, h.sep⟩
theorem NlAt.alloc (h : NlAt w rb M nl l) (o : Obj) : NlAt (w.alloc o) rb M nl l := h.below ((Below.refl _ _).alloc (Nat.le_refl _) o)
theorem Step.nd (st : Step w (M.D rb) w' (M'.D rb)) (nl : Value) : Step w (NlD M rb nl) w' (NlD M' rb nl) := st.more _
theorem NlAt.lt (h : NlAt w rb M nl l) (r : RdAt w rb M ws p) {b : Nat} (hb : NlD M rb nl b) : b < w.heap.size := hb.elim r.lt (fun x => (h.nr.lt b x).2)
theorem NlAt.name (n : NlAt w rb M nl l) (h : RdAt w rb M ws p) {v : Value} {x : ByteArray} (hg : w.grownBy w' nl.ownBlock)
    (hr : w'.ownsRow 0 9 1 v (l.length + 1) (strCells l ++ [.string x])) (hn : ∀ b, v.ownBlock = some b → nl.ownBlock = some b ∨ w.heap.size ≤ b) :
    RdAt w' rb M ws p ∧ NlAt w' rb M v (l ++ [x]) ∧ Step w (NlD M rb nl) w' (NlD M rb v) := by
  refine ⟨h.keep fun b hb hd => hg.block b hb fun e => ?_, ⟨by simpa [strCells] using hr, fun b hb => ?_⟩, ⟨hg.os, hg.tape, hg.output, hg.size, fun b hb hx => hg.block b hb (fun e => hx (.inr e.symm)), fun b hb => ?_⟩⟩
  · rcases hd with hd | hd
    · exact n.sep b e.symm hd
    · exact rows_ne n.nr h.hw (by decide) b e.symm hd
  · rcases hn b hb with h1 | h1
    · exact n.sep b h1
    · intro hd; have := h.lt hd; omega
  · rcases hb with hb | hb
    · exact .inl (.inl hb)
    · rcases hn b hb with h1 | h1
      · exact .inl (.inr h1)
      · exact .inr h1
end

set_option maxHeartbeats 8000000 in
set_option maxRecDepth 100000 in
theorem r19 {w : World} {rb : Nat} {M : Mem} {ws : List W} {p : PS} (h : RdAt w rb M ws p) (H : WsR ws) (hb : OKP ws p) (hnn : p.names.length ≤ 2001) (hmm : p.enums.length ≤ 2001) :
    Calls Tryz.prog 24 #[.pointer (some ⟨rb, 0, none⟩)] w fun e w' => e = .returned (.tuple #[]) ∧ ∃ M', RdAt w' rb M' ws (enP ws p) ∧ Step w (M.D rb) w' (M'.D rb) := by
  obtain ⟨i9, hi9, hz90, hz91, hz92⟩ := info_parts Tryz.info9
  obtain ⟨x, hx⟩ : ∃ x, nxW ws 1 ⟨#[]⟩ p = x := ⟨_, rfl⟩
  have HX : Hid (nxW ws 1 ⟨#[]⟩ p = x) := hx
  clear hx
  go_enter Tryz.func24, Tryz.ntmps24
  go_wp2_with fail
  refine (r32 h H hb.lt 1 (by omega) ⟨#[]⟩).mono ?_
  rintro e w1 ⟨rfl, h1, st⟩
  rw [HX.out]
  unfold wv2
  have KW := Blk.new w1 #[.string x.1, .int .i64 x.2] 81
  have nw : ¬ M.D rb w1.heap.size := fun hb => by have := h1.lt hb; omega
  replace h1 := h1.alloc (Obj.cells #[.string x.1, .int .i64 x.2] 81)
  replace st := st.alloc (Obj.cells #[.string x.1, .int .i64 x.2] 81)
  clear h
  go_wp2_with fail
  refine (r33 h1 x).mono ?_
  rintro e w2 ⟨rfl, h2, st2⟩
  replace KW := KW.step st2 nw
  replace st := st.trans st2
  clear st2 h1
  obtain ⟨na, nn, nc, hnv⟩ := ownsRow_form h2.hn
  have hrn := h2.hn
  rw [hnv] at hrn
  have hrd := h2.rd
  rw [hnv] at hrd
  obtain ⟨B, hB⟩ : ∃ B, memS p.names x.1 = B := ⟨_, rfl⟩
  have HB : Hid (memS p.names x.1 = B) := hB
  clear hB
  have HF2 : Hid (en0 ws p = if B then wrP x (lgP x (nxP ws 1 ⟨#[]⟩ p)) else lgP x (nxP ws 1 ⟨#[]⟩ p)) := by
    show en0 ws p = _
    unfold en0
    rw [HX.out, HB.out]
  obtain ⟨m1, m2⟩ := KW.rules
  obtain ⟨k1, k2⟩ := hrd.rules
  have hge := (inF_R p.names x.1 0 (by omega)).ge
  rw [HB.out] at hge
  go_wp2_with fail
  go_quiet (first | (go_at_call 25; refine Calls.quiet_of_same (c20d _ _ _ p.names x.1 (by omega) hrn)))
  replace h2 := h2.drewN nq
  replace st := st.drewN nq
  replace KW : Blk (w2.drewN nq) _ _ _ := KW
  clear m1 m2 k1 k2 hrn hrd
  generalize w2.drewN nq = w3 at *
  go_upto_if 19 with fail
  go_cut [] from 20 to 22 (fun wr => RdAt wr rb M ws (en0 ws p) ∧ Step w (M.D rb) wr (M.D rb) ∧ Blk wr w1.heap.size #[.string x.1, .int .i64 x.2] 81)
  case first =>
    cases B
    · go_wp2
      go_meet
      case rel => exact ⟨by rw [HF2.out]; exact h2, st, KW⟩
    · obtain ⟨m1, m2⟩ := KW.rules
      go_wp2_with fail
      refine (r21 h2 x).mono ?_
      rintro e w4 ⟨rfl, h4, st4⟩
      go_wp2
      go_meet
      case rel => exact ⟨by rw [HF2.out]; exact h4, st.trans st4, KW.step st4 nw⟩
  case rest =>
    have HE2 : Hid ((en0 ws p).i = (nxP ws 1 ⟨#[]⟩ p).i ∧ (en0 ws p).used = p.used ∧ (en0 ws p).names = p.names ∧ (en0 ws p).enums = p.enums) := by
      rw [HF2.out]
      cases B <;> exact ⟨rfl, rfl, rfl, rfl⟩
    clear h2 st KW HF2 HB hge
    obtain ⟨h2, st, KW⟩ := hcut
    have hrd := h2.rd
    have hrn := h2.hn
    rw [hnv] at hrd hrn
    obtain ⟨m1, m2⟩ := KW.rules
    obtain ⟨k1, k2⟩ := hrd.rules
    obtain ⟨o1, o2⟩ := (hrd.alloc (Obj.cells #[.string x.1] 9)).rules
    have HO : Hid (some rb ≠ (Value.slice na nn nc).ownBlock) := fun e => row_blk_ne hrn h2.rd (by decide) rb e.symm rfl
    have hnl : (en0 ws p).names.length ≤ 2001 := by rw [HE2.out.2.2.1]; exact hnn
    go_upto_region 4 with fail
    go_cut [] from 23 to 33 (fun wr => ∃ M', RdAt wr rb M' ws { en0 ws p with names := p.names ++ [x.1] } ∧ Step w (M.D rb) wr (M'.D rb) ∧ Blk wr w1.heap.size #[.string x.1, .int .i64 x.2] 81 ∧ ¬ M'.D rb w1.heap.size)
    case first =>
      go_region_law (first | (refine step_append_lies _ (by rfl) _ _ _ (by rfl) 0 9 i9 _ 1 16 Tryz.underlying30 hi9 hz90 hz91 hz92 rfl (by omega) (.slice na nn nc) (en0 ws p).names.length (strCells (en0 ws p).names) (by rfl) (hrn.alloc _) ⟨wc.heap.size, 0, none⟩ 1 1 [_] (by rfl) (by rfl) (World.news_of_block (t := 9) (fr := (0, 0)) (heap_alloc_new wc _)) (by simp [Value.oneCell']) (by omega) (by unfold maxLen; omega) (by omega) (by omega) (wc.heap.size + 1) (by simp) ?_; intro gg cap w5 hown1 hgrow hat hlt; obtain ⟨x1, x2⟩ := ((hrd.alloc _).drew.grown hgrow HO.out).rules))
      all_goals
        go_wp2
        go_meet
        case rel =>
          have h5 := (h2.alloc (Obj.cells #[.string x.1] 9)).drew
          obtain ⟨hR, hS⟩ := h5.addN (x := x.1) (w' := w5) (by rw [hnv]; exact hgrow) hown1 (fun b hb => by
            have hbg : gg = b := by simpa [Value.ownBlock] using hb
            subst hbg
            rcases hat with h1 | h1
            · left; rw [hnv]; exact h1
            · right; simp; omega)
          have KW5 := (KW.alloc (Obj.cells #[.string x.1] 9)).drew
          refine ⟨_, ?_, (st.alloc _).drew.trans hS, KW5.step hS nw, hS.not KW5.lt nw⟩
          rw [← HE2.out.2.2.1]
          exact hR
    case rest =>
      clear h2 KW hrd hrn m1 m2 k1 k2 o1 o2 HO st nw
      obtain ⟨M1, h2, st, KW, nw⟩ := hcut
      have hrd := h2.rd
      have hrn := h2.he
      obtain ⟨ea, en, ec, hev⟩ := ownsRow_form h2.he
      have hsc := h2.sc
      rw [hev] at hsc hrn
      obtain ⟨m1, m2⟩ := KW.rules
      obtain ⟨k1, k2⟩ := hrd.rules
      obtain ⟨q1, q2⟩ := hsc.rules
      obtain ⟨o1, o2⟩ := (hrd.alloc (Obj.cells #[.string x.1] 9)).rules
      obtain ⟨o3, o4⟩ := (hsc.alloc (Obj.cells #[.string x.1] 9)).rules
      have HO : Hid (some rb ≠ (Value.slice ea en ec).ownBlock) := fun e => row_blk_ne hrn h2.rd (by decide) rb e.symm rfl
      have HO2 : Hid (some M1.sb ≠ (Value.slice ea en ec).ownBlock) := fun e => row_blk_ne hrn h2.sc (by decide) _ e.symm rfl
      have hnl2 : ({ en0 ws p with names := p.names ++ [x.1] } : PS).enums.length ≤ 2001 := by show (en0 ws p).enums.length ≤ 2001; rw [HE2.out.2.2.2]; exact hmm
      obtain ⟨E0, hE0⟩ : ∃ E0, ({ en0 ws p with names := p.names ++ [x.1] } : PS).enums = E0 := ⟨_, rfl⟩
      rw [hE0] at hrn hnl2
      have HE0 : Hid (E0 = p.enums) := by rw [← hE0]; exact HE2.out.2.2.2
      clear hE0
      go_upto_region 5 with fail
      go_cut [] from 34 to 50 (fun wr => ∃ M', RdAt wr rb M' ws { en0 ws p with names := p.names ++ [x.1], enums := p.enums ++ [x.1] } ∧ Step w (M.D rb) wr (M'.D rb))
      case first =>
        go_region_law (first | (refine step_append_lies _ (by rfl) _ _ _ (by rfl) 0 9 i9 _ 1 16 Tryz.underlying30 hi9 hz90 hz91 hz92 rfl (by omega) (.slice ea en ec) E0.length (strCells E0) (by rfl) (hrn.alloc _) ⟨wc.heap.size, 0, none⟩ 1 1 [_] (by rfl) (by rfl) (World.news_of_block (t := 9) (fr := (0, 0)) (heap_alloc_new wc _)) (by simp [Value.oneCell']) (by omega) (by unfold maxLen; omega) (by omega) (by omega) (wc.heap.size + 1) (by simp) ?_; intro gg cap w5 hown1 hgrow hat hlt; obtain ⟨x1, x2⟩ := ((hrd.alloc _).drew.grown hgrow HO.out).rules; obtain ⟨x3, x4⟩ := ((hsc.alloc _).drew.grown hgrow HO2.out).rules))
        all_goals
          go_wp2
          go_meet
          case rel =>
            have h5 := (h2.alloc (Obj.cells #[.string x.1] 9)).drew
            have e5 : ({ en0 ws p with names := p.names ++ [x.1] } : PS).enums = E0 := HE2.out.2.2.2.trans HE0.out.symm
            obtain ⟨hR, hS⟩ := h5.addE (x := x.1) (w' := w5) (by rw [hev]; exact hgrow) (by rw [e5]; exact hown1) (fun b hb => by
              have hbg : gg = b := by simpa [Value.ownBlock] using hb
              subst hbg
              rcases hat with h1 | h1
              · left; rw [hev]; exact h1
              · right; simp; omega)
            refine ⟨_, ?_, (st.alloc _).drew.trans hS⟩
            have e6 : ({ en0 ws p with names := p.names ++ [x.1], enums := p.enums ++ [x.1] } : PS) = { ({ en0 ws p with names := p.names ++ [x.1] } : PS) with enums := ({ en0 ws p with names := p.names ++ [x.1] } : PS).enums ++ [x.1] } := by
              rw [e5, HE0.out]
            rw [e6]
            exact hR
      case rest =>
        clear h2 KW hrd hrn m1 m2 k1 k2 q1 q2 o1 o2 o3 o4 HO HO2 st nw hsc hev
        obtain ⟨M2, h2, st⟩ := hcut
        have hb3 : OKP ws ({ en0 ws p with names := p.names ++ [x.1], enums := p.enums ++ [x.1] } : PS) := by
          have h1 := nxP_ok H hb 1 ⟨#[]⟩
          refine ⟨?_, ?_⟩
          · show (en0 ws p).i < _; rw [HE2.out.1]; exact h1.lt
          · show (en0 ws p).used.length ≤ (en0 ws p).i; rw [HE2.out.1, HE2.out.2.1]; exact h1.used
        go_wp2_with fail
        refine (r32 h2 H hb3.lt 0 (by omega) ⟨#[123]⟩).mono ?_
        rintro e w7 ⟨rfl, h7, st7⟩
        have hA : RdAt w7 rb M2 ws (enS ws p) := by
          unfold enS
          rw [HX.out]
          exact h7
        have hbS : OKP ws (enS ws p) := by
          have := nxP_ok H hb3 0 ⟨#[123]⟩
          unfold enS
          rw [HX.out]
          exact this
        have stA : Step w (M.D rb) w7 (NlD M2 rb (.slice none 0 0)) := (st.trans st7).weak fun b hb => hb.elim (fun h => h) (fun h => by cases h)
        have nA : NlAt w7 rb M2 (.slice none 0 0) [] := ⟨World.ownsRow_nil _ _ _ _, fun b hb => by cases hb⟩
        clear h2 st h7 st7
        unfold wv2
        obtain ⟨R, hRR⟩ : ∃ R, enL ws ws.length (enS ws p) [] = R := ⟨_, rfl⟩
        have HR : Hid (enL ws ws.length (enS ws p) [] = R) := hRR
        have HP : Hid (enP ws p = nxP ws 0 ⟨#[125]⟩ R) := by
          show enP ws p = _
          unfold enP
          rw [hRR]
        clear hRR
        go_wp2_with fail
        go_loopw [3] (fun nlv wr => ∃ (n : Nat) (q : PS) (l : List ByteArray), OKP ws q ∧ (q.bad < 0 → l.length ≤ q.i) ∧ measP ws q ≤ n ∧ Hid (enL ws n q l = R) ∧ RdAt wr rb M2 ws q ∧ NlAt wr rb M2 nlv l ∧ Step w (M.D rb) wr (NlD M2 rb nlv)) (fun _ wr => measW rb ws.length wr)
        case atStart => exact ⟨ws.length, enS ws p, [], hbS, fun _ => Nat.zero_le _, by unfold measP; split <;> omega, HR, hA, nA, stA⟩
        case round =>
          clear hA nA stA hbS
          obtain ⟨n, q, l, hok, hbl, hms, HL, hA, nA, stA⟩ := hrel
          have hmw0 := hA.meas
          obtain ⟨k1, k2⟩ := hA.rd.rules
          have hcase : (decide (q.bad < 0) && !atP ws ⟨#[125]⟩ q) = true ∨ (decide (q.bad < 0) && !atP ws ⟨#[125]⟩ q) = false := by cases (decide (q.bad < 0) && !atP ws ⟨#[125]⟩ q) <;> simp
          rcases hcase with hgo | hstop
          · have hbad : decide (q.bad < 0) = true := (Bool.and_eq_true _ _ ▸ hgo).1
            have hat : atP ws ⟨#[125]⟩ q = false := by have := (Bool.and_eq_true _ _ ▸ hgo).2; simpa using this
            have hbad2 : q.bad < 0 := of_decide_eq_true hbad
            have hdec := enV_meas l hok hbad2
            have hln : q.i < 2001 := Nat.lt_of_lt_of_le hok.lt H.len
            have hll := hbl hbad2
            have HL2 : Hid (enL ws (n - 1) (enV ws q l) (l ++ [(nxW ws 1 ⟨#[]⟩ q).1]) = R) := by
              have := HL.out
              rw [enL_go hgo (by omega)] at this
              exact this
            clear hgo
            obtain ⟨y, hy⟩ : ∃ y, nxW ws 1 ⟨#[]⟩ q = y := ⟨_, rfl⟩
            have HY : Hid (nxW ws 1 ⟨#[]⟩ q = y) := hy
            clear hy
            go_wp2_with fail
            refine (r34 hA hok.lt ⟨#[125]⟩).mono ?_
            rintro e w8 ⟨rfl, hb8⟩
            rw [hat]
            replace hA := hA.below hb8
            replace nA := nA.below hb8
            replace stA := stA.below hb8
            clear hb8 k1 k2
            go_wp2_with fail
            refine (r32 hA H hok.lt 1 (by omega) ⟨#[]⟩).mono ?_
            rintro e w9 ⟨rfl, h9, st9⟩
            rw [HY.out]
            unfold wv2
            replace nA := nA.step st9
            have ny : ¬ NlD M2 rb u3 w9.heap.size := fun hb => by have := nA.lt h9 hb; omega
            replace nA := nA.alloc (Obj.cells #[.string y.1, .int .i64 y.2] 81)
            replace stA := (stA.trans (st9.nd u3)).alloc (Obj.cells #[.string y.1, .int .i64 y.2] 81)
            have KY := Blk.new w9 #[.string y.1, .int .i64 y.2] 81
            replace h9 := h9.alloc (Obj.cells #[.string y.1, .int .i64 y.2] 81)
            clear hA st9
            go_wp2_with fail
            refine (r33 h9 y).mono ?_
            rintro e w10 ⟨rfl, h10, st10⟩
            replace nA := nA.step st10
            replace stA := stA.trans (st10.nd u3)
            replace KY := KY.step (st10.nd u3) ny
            clear st10 h9
            obtain ⟨m1, m2⟩ := KY.rules
            go_wp2_with fail
            refine (c20d _ _ _ l y.1 (by omega) nA.nr).mono ?_
            rintro e _ ⟨rfl, rfl⟩
            have hge := (inF_R l y.1 0 (by omega)).ge
            obtain ⟨B1, hB1⟩ : ∃ B1, memS l y.1 = B1 := ⟨_, rfl⟩
            rw [hB1] at hge
            have HF1 : Hid (en1 ws q l = if B1 then wrP y (lgP y (nxP ws 1 ⟨#[]⟩ q)) else lgP y (nxP ws 1 ⟨#[]⟩ q)) := by
              show en1 ws q l = _
              unfold en1
              rw [HY.out, hB1]
            clear hB1
            go_upto_if 70 with fail
            go_cut [] from 71 to 73 (fun wr => RdAt wr rb M2 ws (en1 ws q l) ∧ NlAt wr rb M2 u3 l ∧ Step w (M.D rb) wr (NlD M2 rb u3) ∧ Blk wr w9.heap.size #[.string y.1, .int .i64 y.2] 81)
            case first =>
              cases B1
              · go_wp2
                go_meet
                case rel => exact ⟨by rw [HF1.out]; exact h10, nA, stA, KY⟩
              · go_wp2_with fail
                refine (r21 h10 y).mono ?_
                rintro e w11 ⟨rfl, h11, st11⟩
                go_wp2
                go_meet
                case rel => exact ⟨by rw [HF1.out]; exact h11, nA.step st11, stA.trans (st11.nd u3), KY.step (st11.nd u3) ny⟩
            case rest =>
              clear h10 nA stA KY m1 m2 HF1 hge
              obtain ⟨h10, nA, stA, KY⟩ := hcut
              obtain ⟨m1, m2⟩ := KY.rules
              obtain ⟨na2, nn2, nc2, rfl⟩ := ownsRow_form nA.nr
              go_wp2_with (first | (at_builtin; refine wpList_append_lies _ rfl _ _ 30 rfl 0 9 i9 _ 1 16 Tryz.underlying30 hi9 hz90 hz91 hz92 rfl (by decide) _ _ _ rfl (nA.nr.alloc _) _ 1 1 [_] rfl rfl (cell_one_new _ _ _) ?h1 (by omega) ?h63 ?hby (by omega) _ rfl ?_; rotate_right; intro gg cap w11 hown1 hgrow hat11 hlt11))
              case h1 => intro u hu; simp at hu; subst hu; rfl
              case h63 => unfold maxLen; omega
              case hby => omega
              obtain ⟨h11, nB, stB⟩ := (nA.alloc (Obj.cells #[.string y.1] 9)).name (h10.alloc (Obj.cells #[.string y.1] 9)) hgrow hown1 (fun b hb => by
                have hbg : gg = b := by simpa [Value.ownBlock] using hb
                subst hbg
                rcases hat11 with h1 | h1
                · exact .inl h1
                · right; omega)
              replace stA := (stA.alloc (Obj.cells #[.string y.1] 9)).trans stB
              clear h10 nA KY m1 m2 hown1 hgrow hat11 hlt11 stB ny
              have hok1 := en1_ok H hok l
              refine (r32 h11 H hok1.lt 0 (by omega) ⟨#[61]⟩).mono ?_
              rintro e w12 ⟨rfl, h12, st12⟩
              unfold wv2
              replace nB := nB.step st12
              replace stA := stA.trans (st12.nd _)
              have hok2 : OKP ws (en2 ws q l) := nxP_ok H hok1 0 ⟨#[61]⟩
              replace h12 : RdAt w12 rb M2 ws (en2 ws q l) := h12
              clear h11 st12
              obtain ⟨z, hz⟩ : ∃ z, nxW ws 2 ⟨#[]⟩ (en2 ws q l) = z := ⟨_, rfl⟩
              have HZ : Hid (nxW ws 2 ⟨#[]⟩ (en2 ws q l) = z) := hz
              clear hz
              go_wp2_with fail
              refine (r32 h12 H hok2.lt 2 (by omega) ⟨#[]⟩).mono ?_
              rintro e w13 ⟨rfl, h13, st13⟩
              rw [HZ.out]
              unfold wv2
              replace nB := nB.step st13
              have nz : ¬ NlD M2 rb (.slice (some ⟨gg, 0, none⟩) (l.length + 1) cap) w13.heap.size := fun hb => by have := nB.lt h13 hb; omega
              replace nB := nB.alloc (Obj.cells #[.string z.1, .int .i64 z.2] 81)
              replace stA := (stA.trans (st13.nd _)).alloc (Obj.cells #[.string z.1, .int .i64 z.2] 81)
              have KZ := Blk.new w13 #[.string z.1, .int .i64 z.2] 81
              replace h13 := h13.alloc (Obj.cells #[.string z.1, .int .i64 z.2] 81)
              have hzs : z.1.size ≤ 2000 := by rw [← HZ.out]; exact nxW_size H hok2.lt _ _
              clear h12 st13
              obtain ⟨m1, m2⟩ := KZ.rules
              go_wp2_with fail
              refine (c39 _ z.1 hzs).mono ?_
              rintro e _ ⟨rfl, rfl⟩
              obtain ⟨V, hV⟩ : ∃ V, valI z.1 = V := ⟨_, rfl⟩
              rw [hV]
              have HV : Hid (valI z.1 = V) := hV
              clear hV
              obtain ⟨B2, hB2⟩ : ∃ B2, decide (2147483647 < V) = B2 := ⟨_, rfl⟩
              have hok3 := en3_ok H hok l
              obtain ⟨q3, hq3⟩ : ∃ q3, (if 2147483647 < valI (nxW ws 2 ⟨#[]⟩ (en2 ws q l)).1 then wrP (nxW ws 2 ⟨#[]⟩ (en2 ws q l)) (nxP ws 2 ⟨#[]⟩ (en2 ws q l)) else nxP ws 2 ⟨#[]⟩ (en2 ws q l)) = q3 := ⟨_, rfl⟩
              rw [hq3] at hok3
              have HEV : Hid (enV ws q l = nxP ws 0 ⟨#[59]⟩ q3) := by
                show enV ws q l = _
                unfold enV
                rw [hq3]
              have HF3 : Hid (q3 = if B2 then wrP z (nxP ws 2 ⟨#[]⟩ (en2 ws q l)) else nxP ws 2 ⟨#[]⟩ (en2 ws q l)) := by
                rw [HZ.out, HV.out] at hq3
                show q3 = _
                rw [← hq3]
                by_cases hc : 2147483647 < V
                · have : B2 = true := by rw [← hB2]; simp [hc]
                  rw [if_pos hc, this]; rfl
                · have : B2 = false := by rw [← hB2]; simp [hc]
                  rw [if_neg hc, this]; rfl
              clear hq3
              go_upto_if 86 with fail
              go_cut [] from 87 to 89 (fun wr => RdAt wr rb M2 ws q3 ∧ NlAt wr rb M2 (.slice (some ⟨gg, 0, none⟩) (l.length + 1) cap) (l ++ [y.1]) ∧ Step w (M.D rb) wr (NlD M2 rb (.slice (some ⟨gg, 0, none⟩) (l.length + 1) cap)))
              case first =>
                cases B2
                · go_wp2
                  go_meet
                  case rel => exact ⟨by rw [HF3.out]; exact h13, nB, stA⟩
                · go_wp2_with fail
                  refine (r21 h13 z).mono ?_
                  rintro e w14 ⟨rfl, h14, st14⟩
                  go_wp2
                  go_meet
                  case rel => exact ⟨by rw [HF3.out]; exact h14, nB.step st14, stA.trans (st14.nd _)⟩
              case rest =>
                clear h13 nB stA KZ m1 m2 HF3 hB2 nz
                obtain ⟨h13, nB, stA⟩ := hcut
                go_wp2_with fail
                refine (r32 h13 H hok3.lt 0 (by omega) ⟨#[59]⟩).mono ?_
                rintro e w14 ⟨rfl, h14, st14⟩
                unfold wv2
                go_wp2
                go_roundw
                case rel =>
                  refine ⟨n - 1, enV ws q l, l ++ [y.1], enV_ok H hok l, fun hbb => ?_, by omega, ?_, by rw [HEV.out]; exact h14, nB.step st14, stA.trans (st14.nd _)⟩
                  · have := (enV_adv hbb).2
                    rw [List.length_append, List.length_singleton]
                    omega
                  · rw [← HY.out]; exact HL2
                case measure =>
                  have hm9 : measW rb ws.length w14 = measP ws (enV ws q l) := by rw [HEV.out]; exact h14.meas
                  rw [hm9, hmw0]
                  exact hdec
          · cases hbad : decide (q.bad < 0)
            · obtain rfl : R = q := by rw [← HL.out, enL_stop hstop]
              clear hstop
              go_wp2_with fail
              refine (r32 hA H hok.lt 0 (by omega) ⟨#[125]⟩).mono ?_
              rintro e w9 ⟨rfl, h9, st9⟩
              unfold wv2
              go_wp2
              go_end0
              exact ⟨rfl, M2, by rw [HP.out]; exact h9, (stA.weak (U := M2.D rb) (fun b hb => .inl hb)).trans st9⟩
            · have hat : atP ws ⟨#[125]⟩ q = true := by rw [hbad] at hstop; simpa using hstop
              obtain rfl : R = q := by rw [← HL.out, enL_stop hstop]
              clear hstop
              go_wp2_with fail
              refine (r34 hA hok.lt ⟨#[125]⟩).mono ?_
              rintro e w8 ⟨rfl, hb8⟩
              rw [hat]
              replace hA := hA.below hb8
              replace stA := stA.below hb8
              clear hb8
              go_wp2_with fail
              refine (r32 hA H hok.lt 0 (by omega) ⟨#[125]⟩).mono ?_
              rintro e w9 ⟨rfl, h9, st9⟩
              unfold wv2
              go_wp2
              go_end0
              exact ⟨rfl, M2, by rw [HP.out]; exact h9, (stA.weak (U := M2.D rb) (fun b hb => .inl hb)).trans st9⟩

end Go.Proofs.YtbbbegjedmicpaaGreatDoor
