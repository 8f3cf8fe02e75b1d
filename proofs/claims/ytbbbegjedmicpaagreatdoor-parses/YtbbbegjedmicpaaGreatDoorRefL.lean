import Derived.Test.YtbbbegjedmicpaaGreatDoorRefJ

/-
  THE REFERENCE, CONTRACT: oneof.
-/
namespace Go.Proofs.YtbbbegjedmicpaaGreatDoor
open Go.RowKit

/-- The reader and the message, where they lie; what may turn. -/
def BothD (M : Mem) (rb mb : Nat) (fv nl : Value) (b : Nat) : Prop := M.D rb b ∨ LocE mb fv nl b
structure Both (w : World) (rb : Nat) (M : Mem) (ws : List W) (mb : Nat) (mn : ByteArray) (fv nl : Value) (s : FD) : Prop where
  r : RdAt w rb M ws s.p
  l : LocAt w rb M mb mn fv nl s.nums s.names
theorem Both.lt {w : World} {rb : Nat} {M : Mem} {ws : List W} {mb : Nat} {mn : ByteArray} {fv nl : Value} {s : FD} (h : Both w rb M ws mb mn fv nl s) {b : Nat} (hb : BothD M rb mb fv nl b) : b < w.heap.size := hb.elim h.r.lt h.l.lt
theorem Both.below {w w' : World} {rb : Nat} {M : Mem} {ws : List W} {mb : Nat} {mn : ByteArray} {fv nl : Value} {s : FD} (h : Both w rb M ws mb mn fv nl s) (hb : Below w.heap.size w w') : Both w' rb M ws mb mn fv nl s := ⟨h.r.below hb, h.l.below hb⟩
theorem Both.alloc {w : World} {rb : Nat} {M : Mem} {ws : List W} {mb : Nat} {mn : ByteArray} {fv nl : Value} {s : FD} (h : Both w rb M ws mb mn fv nl s) (o : Obj) : Both (w.alloc o) rb M ws mb mn fv nl s := ⟨h.r.alloc o, h.l.alloc o⟩
theorem Both.drew {w : World} {rb : Nat} {M : Mem} {ws : List W} {mb : Nat} {mn : ByteArray} {fv nl : Value} {s : FD} (h : Both w rb M ws mb mn fv nl s) : Both w.drew rb M ws mb mn fv nl s := ⟨h.r.drew, h.l.drew⟩
/-- A step of the reader alone. -/
theorem Both.turn {w w' : World} {rb : Nat} {M M' : Mem} {ws : List W} {mb : Nat} {mn : ByteArray} {fv nl : Value} {s : FD} (h : Both w rb M ws mb mn fv nl s) {q : PS} (hq : RdAt w' rb M' ws q) (st : Step w (M.D rb) w' (M'.D rb)) : Both w' rb M' ws mb mn fv nl { s with p := q } := ⟨hq, h.l.step st⟩
theorem Step.bd {w w' : World} {rb : Nat} {M M' : Mem} (st : Step w (M.D rb) w' (M'.D rb)) (mb : Nat) (fv nl : Value) : Step w (BothD M rb mb fv nl) w' (BothD M' rb mb fv nl) := st.more _
theorem r37b {w : World} {rb : Nat} {M : Mem} {ws : List W} {mb : Nat} {mn : ByteArray} {fv nl : Value} {s : FD} (h : Both w rb M ws mb mn fv nl s) (H : WsR ws) (hi : s.p.i < ws.length) (hu : s.nums.length ≤ 2001) (hnn : s.names.length ≤ 2001)
    (s0 s1 s2 s3 : ByteArray) (n0 : Int) :
    Calls Tryz.prog 50 #[.pointer (some ⟨rb, 0, none⟩), .pointer (some ⟨mb, 0, none⟩), .agg #[.string s0, .string s1, .string s2, .string s3, .int .i64 n0], nl] w fun e w' =>
      ∃ fv' nl', e = .returned nl' ∧ Both w' rb M ws mb mn fv' nl' (fdP ws (s1, s2, s3) s) ∧ Step w (BothD M rb mb fv nl) w' (BothD M rb mb fv' nl') := by
  refine (r37 h.r h.l H hi hu hnn s0 s1 s2 s3 n0).mono ?_
  rintro e w' ⟨fv', nl', rfl, h1, h2, h3⟩
  exact ⟨fv', nl', rfl, ⟨h1, h2⟩, h3⟩

set_option maxHeartbeats 8000000 in
set_option maxRecDepth 100000 in
theorem r35 {w : World} {rb : Nat} {M : Mem} {ws : List W} {mb : Nat} {mn : ByteArray} {fv nl : Value} {s : FD} (h : Both w rb M ws mb mn fv nl s) (H : WsR ws) (hb : Bnd ws s) (hnn : s.names.length ≤ 2001) :
    Calls Tryz.prog 48 #[.pointer (some ⟨rb, 0, none⟩), .pointer (some ⟨mb, 0, none⟩), nl] w fun e w' =>
      ∃ M' fv' nl', e = .returned nl' ∧ Both w' rb M' ws mb mn fv' nl' (onP ws s) ∧ Step w (BothD M rb mb fv nl) w' (BothD M' rb mb fv' nl') := by
  obtain ⟨i9, hi9, hz90, hz91, hz92⟩ := info_parts Tryz.info9
  obtain ⟨na, nn, nc, rfl⟩ := ownsRow_form h.l.nr
  obtain ⟨x, hx⟩ : ∃ x, nxW ws 1 ⟨#[]⟩ s.p = x := ⟨_, rfl⟩
  have HX : Hid (nxW ws 1 ⟨#[]⟩ s.p = x) := hx
  clear hx
  go_enter Tryz.func48, Tryz.ntmps48
  go_wp2_with fail
  refine (r32 h.r H hb.ok.lt 1 (by omega) ⟨#[]⟩).mono ?_
  rintro e w1 ⟨rfl, h1, st1⟩
  rw [HX.out]
  unfold wv2
  have hB := h.turn h1 st1
  have st := (st1.bd mb fv (.slice na nn nc)).alloc (Obj.cells #[.string x.1, .int .i64 x.2] 81)
  have KW := Blk.new w1 #[.string x.1, .int .i64 x.2] 81
  have nw : ¬ BothD M rb mb fv (.slice na nn nc) w1.heap.size := fun hb => by have := hB.lt hb; omega
  replace hB := hB.alloc (Obj.cells #[.string x.1, .int .i64 x.2] 81)
  clear st1 h h1
  go_wp2_with fail
  refine (r33 hB.r x).mono ?_
  rintro e w2 ⟨rfl, h2, st2⟩
  replace hB := hB.turn h2 st2
  replace KW := KW.step (st2.bd mb fv (.slice na nn nc)) nw
  replace st := st.trans (st2.bd mb fv (.slice na nn nc))
  clear st2 h2
  obtain ⟨m1, m2⟩ := KW.rules
  go_wp2_with fail
  refine (c20 _ _ _ s.names x.1 (by omega) hB.l.nr).mono ?_
  rintro e _ ⟨⟨r, rfl, hr⟩, rfl⟩
  have hge := hr.ge
  clear hr
  obtain ⟨B, hBB⟩ : ∃ B, memS s.names x.1 = B := ⟨_, rfl⟩
  rw [hBB] at hge
  have HB : Hid (memS s.names x.1 = B) := hBB
  clear hBB
  have HF2 : Hid (on2 ws s = if B then wrP x (lgP x (nxP ws 1 ⟨#[]⟩ s.p)) else lgP x (nxP ws 1 ⟨#[]⟩ s.p)) := by
    show on2 ws s = _
    unfold on2 f1
    rw [HX.out, HB.out]
  go_upto_if 19 with fail
  go_cut [] from 20 to 22 (fun wr => Both wr rb M ws mb mn fv (.slice na nn nc) { s with p := on2 ws s } ∧ Step w (BothD M rb mb fv (.slice na nn nc)) wr (BothD M rb mb fv (.slice na nn nc)) ∧ Blk wr w1.heap.size #[.string x.1, .int .i64 x.2] 81)
  case first =>
    cases B
    · go_wp2
      go_meet
      case rel => exact ⟨by rw [HF2.out]; exact hB, st, KW⟩
    · go_wp2_with fail
      refine (r21 hB.r x).mono ?_
      rintro e w3 ⟨rfl, h3, st3⟩
      go_wp2
      go_meet
      case rel => exact ⟨by rw [HF2.out]; exact hB.turn h3 st3, st.trans (st3.bd mb fv _), KW.step (st3.bd mb fv _) nw⟩
  case rest =>
    clear hB st KW m1 m2 HF2 HB hge
    obtain ⟨hB, st, KW⟩ := hcut
    obtain ⟨m1, m2⟩ := KW.rules
    go_wp2_with (first | (at_builtin; refine wpList_append_lies _ rfl _ _ 30 rfl 0 9 i9 _ 1 16 Tryz.underlying30 hi9 hz90 hz91 hz92 rfl (by decide) _ _ _ rfl (hB.l.nr.alloc _) _ 1 1 [_] rfl rfl (cell_one_new _ _ _) ?h1 (by omega) ?h63 ?hby (by omega) _ rfl ?_; rotate_right; intro gg cap w4 hown1 hgrow hat hlt))
    case h1 => intro u hu; simp at hu; subst hu; rfl
    case h63 => unfold maxLen; omega
    case hby => omega
    have hz4 : wc.heap.size + 1 = (wc.alloc (Obj.cells #[.string x.1] 9)).heap.size := by simp
    obtain ⟨hR, hL, hS⟩ := (hB.l.alloc (Obj.cells #[.string x.1] 9)).name (hB.r.alloc (Obj.cells #[.string x.1] 9)) hgrow hown1 (fun b hb => by
      have hbg : gg = b := by simpa [Value.ownBlock] using hb
      subst hbg
      rcases hat with h1 | h1
      · exact .inl h1
      · right; omega)
    replace st := (st.alloc (Obj.cells #[.string x.1] 9)).trans (U := BothD M rb mb fv (.slice (some ⟨gg, 0, none⟩) (s.names.length + 1) cap)) hS
    have KW2 := KW.alloc (Obj.cells #[.string x.1] 9)
    have nw2 : ¬ BothD M rb mb fv (.slice (some ⟨gg, 0, none⟩) (s.names.length + 1) cap) w1.heap.size := hS.not KW2.lt nw
    replace KW := KW2.step hS nw
    have hB2 : Both w4 rb M ws mb mn fv (.slice (some ⟨gg, 0, none⟩) (s.names.length + 1) cap) { p := on2 ws s, nums := s.nums, names := s.names ++ [x.1] } := ⟨hR, hL⟩
    clear hB hR hL hS KW2 m1 m2 hown1 hgrow hat hz4 nw
    refine (r32 hB2.r H (on2_ok H hb.ok).lt 0 (by omega) ⟨#[123]⟩).mono ?_
    rintro e w5 ⟨rfl, h5, st5⟩
    have hB : Both w5 rb M ws mb mn fv (.slice (some ⟨gg, 0, none⟩) (s.names.length + 1) cap) (onS ws s) := by
      have := hB2.turn h5 st5
      unfold onS
      rw [HX.out]
      exact this
    replace st := st.trans (st5.bd mb fv _)
    replace KW := KW.step (st5.bd mb fv _) nw2
    have hbS := onS_bnd H hb
    have hxs : x.1.size ≤ 2000 := by rw [← HX.out]; exact nxW_size H hb.ok.lt _ _
    clear h5 st5 hB2 hlt
    unfold wv2
    have hHw : onH ws s = ⟨#[46]⟩ ++ x.1 := by unfold onH; rw [HX.out]
    obtain ⟨R, hRR⟩ : ∃ R, onL ws ((⟨#[46]⟩ : ByteArray) ++ x.1) ws.length true (onS ws s) = R := ⟨_, rfl⟩
    have HR : Hid (onL ws ((⟨#[46]⟩ : ByteArray) ++ x.1) ws.length true (onS ws s) = R) := hRR
    have HP : Hid (onP ws s = { R with p := nxP ws 0 ⟨#[125]⟩ R.p }) := by
      show onP ws s = _
      unfold onP
      rw [hHw, hRR]
    clear hRR hHw
    have hbR : Bnd ws R := by rw [← HR.out]; exact onL_bnd H _ _ _ hbS
    go_wp2_with fail
    go_loopw [2, 8] (fun nlv fi wr => ∃ (n : Nat) (b : Bool) (M' : Mem) (fv' : Value) (s' : FD), fi = .bool b ∧ Bnd ws s' ∧ measP ws s'.p ≤ n ∧ Hid (onL ws ((⟨#[46]⟩ : ByteArray) ++ x.1) n b s' = R) ∧ Both wr rb M' ws mb mn fv' nlv s' ∧ Step w (BothD M rb mb fv (.slice na nn nc)) wr (BothD M' rb mb fv' nlv) ∧ Blk wr w1.heap.size #[.string x.1, .int .i64 x.2] 81 ∧ ¬ BothD M' rb mb fv' nlv w1.heap.size) (fun _ _ wr => measW rb ws.length wr)
    case atStart => exact ⟨ws.length, true, M, fv, onS ws s, rfl, hbS, by unfold measP; split <;> omega, HR, hB, st, KW, nw2⟩
    case round =>
      clear hB st KW nw2 hbS
      obtain ⟨n, b, M', fv', s', rfl, hbs, hms, HL, hB, st, KW, nw⟩ := hrel
      have hmw0 := hB.r.meas
      obtain ⟨k1, k2⟩ := hB.r.rd.rules
      cases hbad : decide (s'.p.bad < 0)
      · obtain rfl : R = s' := by rw [← HL.out, onL_stop]; rw [hbad]; rfl
        go_wp2_with fail
        refine (r32 hB.r H hbs.ok.lt 0 (by omega) ⟨#[125]⟩).mono ?_
        rintro e w6 ⟨rfl, h6, st6⟩
        unfold wv2
        go_wp2
        go_ret
        exact ⟨M', fv', _, rfl, by rw [HP.out]; exact hB.turn h6 st6, st.trans (st6.bd mb fv' _)⟩
      · have hbad2 : s'.p.bad < 0 := of_decide_eq_true hbad
        go_wp2_with fail
        refine (r34 hB.r hbs.ok.lt ⟨#[125]⟩).mono ?_
        rintro e w6 ⟨rfl, hb6⟩
        replace hB := hB.below hb6
        replace st := st.below hb6
        replace KW := KW.below hb6 KW.lt
        clear hb6 k1 k2
        cases hat : atP ws ⟨#[125]⟩ s'.p
        · obtain ⟨m1, m2⟩ := KW.rules
          have hu1 : s'.p.used.length ≤ 2001 := by have := hbs.ok.used; have := hbs.ok.lt; have := H.len; omega
          have hu2 : s'.nums.length ≤ 2001 := by have := hbs.nums hbad2; have := hbs.ok.lt; have := H.len; omega
          have hu3 : s'.names.length ≤ 2001 := by have := hbs.names hbad2; have := hbs.ok.lt; have := H.len; omega
          have hk7 := (kdP_ok H hbs.ok).lt
          have hdec := stF_meas (how := (⟨#[46]⟩ : ByteArray) ++ x.1) H hbs.ok hbad2
          have HL2 : Hid (onL ws ((⟨#[46]⟩ : ByteArray) ++ x.1) (n - 1) false (stF ws ((⟨#[46]⟩ : ByteArray) ++ x.1) s') = R) := by
            have := HL.out
            rw [onL_go (by rw [hbad, hat]; rfl) (by omega)] at this
            exact this
          go_wp2_with fail
          go_region_with (first | (go_at_call 51; refine (r38 hB.r.drew H hbs.ok.lt hu1).mono ?_; rintro e w7 ⟨rfl, M2, h7, st7⟩; have KW7 := KW.drew.step (st7.bd mb fv' u2) nw; obtain ⟨o1, o2⟩ := KW7.rules) | (go_at_call 50; refine (r37b (hB.drew.turn h7 st7) H hk7 hu2 hu3 _ _ _ _ _).mono ?_; rintro e w8 ⟨fv2, nl2, rfl, hB8, st8⟩))
          all_goals
            go_wp2
            go_roundw
            case rel =>
              have st78 := (st7.bd mb fv' u2).trans st8
              exact ⟨n - 1, false, M2, fv2, stF ws ((⟨#[46]⟩ : ByteArray) ++ x.1) s', rfl, stF_bnd H hbs, by omega, HL2, hB8, st.drew.trans st78, KW.drew.step st78 nw, st78.not KW.lt nw⟩
            case measure => rw [hB8.r.meas, hmw0]; exact hdec
        · cases b
          · obtain rfl : R = s' := by rw [← HL.out, onL_stop]; rw [hat]; simp
            go_wp2_with fail
            refine (r32 hB.r H hbs.ok.lt 0 (by omega) ⟨#[125]⟩).mono ?_
            rintro e w7 ⟨rfl, h7, st7⟩
            unfold wv2
            go_wp2
            go_ret
            exact ⟨M', fv', _, rfl, by rw [HP.out]; exact hB.turn h7 st7, st.trans (st7.bd mb fv' _)⟩
          · obtain ⟨m1, m2⟩ := KW.rules
            have hu1 : s'.p.used.length ≤ 2001 := by have := hbs.ok.used; have := hbs.ok.lt; have := H.len; omega
            have hu2 : s'.nums.length ≤ 2001 := by have := hbs.nums hbad2; have := hbs.ok.lt; have := H.len; omega
            have hu3 : s'.names.length ≤ 2001 := by have := hbs.names hbad2; have := hbs.ok.lt; have := H.len; omega
            have hk7 := (kdP_ok H hbs.ok).lt
            have hdec := stF_meas (how := (⟨#[46]⟩ : ByteArray) ++ x.1) H hbs.ok hbad2
            have HL2 : Hid (onL ws ((⟨#[46]⟩ : ByteArray) ++ x.1) (n - 1) false (stF ws ((⟨#[46]⟩ : ByteArray) ++ x.1) s') = R) := by
              have := HL.out
              rw [onL_go (by rw [hbad, hat]; rfl) (by omega)] at this
              exact this
            go_wp2_with fail
            go_region_with (first | (go_at_call 51; refine (r38 hB.r.drew H hbs.ok.lt hu1).mono ?_; rintro e w7 ⟨rfl, M2, h7, st7⟩; have KW7 := KW.drew.step (st7.bd mb fv' u2) nw; obtain ⟨o1, o2⟩ := KW7.rules) | (go_at_call 50; refine (r37b (hB.drew.turn h7 st7) H hk7 hu2 hu3 _ _ _ _ _).mono ?_; rintro e w8 ⟨fv2, nl2, rfl, hB8, st8⟩))
            all_goals
              go_wp2
              go_roundw
              case rel =>
                have st78 := (st7.bd mb fv' u2).trans st8
                exact ⟨n - 1, false, M2, fv2, stF ws ((⟨#[46]⟩ : ByteArray) ++ x.1) s', rfl, stF_bnd H hbs, by omega, HL2, hB8, st.drew.trans st78, KW.drew.step st78 nw, st78.not KW.lt nw⟩
              case measure => rw [hB8.r.meas, hmw0]; exact hdec

end Go.Proofs.YtbbbegjedmicpaaGreatDoor
