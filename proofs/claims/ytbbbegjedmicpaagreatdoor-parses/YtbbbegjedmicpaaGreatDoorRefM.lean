import Derived.Test.YtbbbegjedmicpaaGreatDoorRefL

/-
  THE REFERENCE, CONTRACT: mapped.
-/
namespace Go.Proofs.YtbbbegjedmicpaaGreatDoor
open Go.RowKit

theorem keyGood_bt (s : ByteArray) : keyGood (kindW s) s = (isBt s.toList && (!(s.toList == [102, 108, 111, 97, 116]) && (!(s.toList == [100, 111, 117, 98, 108, 101]) && !(s.toList == [98, 121, 116, 101, 115])))) := by
  unfold keyGood
  rw [kindW_bt]

set_option maxHeartbeats 8000000 in
set_option maxRecDepth 100000 in
theorem r36 {w : World} {rb : Nat} {M : Mem} {ws : List W} {mb : Nat} {mn : ByteArray} {fv nl : Value} {s : FD} (h : Both w rb M ws mb mn fv nl s) (H : WsR ws) (hb : OKP ws s.p) (hu : s.nums.length ≤ 2001) (hnn : s.names.length ≤ 2001) :
    Calls Tryz.prog 49 #[.pointer (some ⟨rb, 0, none⟩), .pointer (some ⟨mb, 0, none⟩), nl] w fun e w' =>
      ∃ M' fv' nl', e = .returned nl' ∧ Both w' rb M' ws mb mn fv' nl' (mpP ws s) ∧ Step w (BothD M rb mb fv nl) w' (BothD M' rb mb fv' nl') := by
  have hb1 := nxP_ok H hb 0 ⟨#[60]⟩
  obtain ⟨p1, hp1⟩ : ∃ p1, nxP ws 0 ⟨#[60]⟩ s.p = p1 := ⟨_, rfl⟩
  have HP1 : Hid (nxP ws 0 ⟨#[60]⟩ s.p = p1) := hp1
  rw [hp1] at hb1
  clear hp1
  obtain ⟨y, hy⟩ : ∃ y, hand ws p1 = y := ⟨_, rfl⟩
  have HY : Hid (hand ws p1 = y) := hy
  have hget := hand_get hb1.lt
  rw [hy] at hget
  clear hy
  obtain ⟨x, hx⟩ : ∃ x, nxW ws 3 ⟨#[]⟩ p1 = x := ⟨_, rfl⟩
  have HX : Hid (nxW ws 3 ⟨#[]⟩ p1 = x) := hx
  clear hx
  have hb3 := mp3_ok H hb1
  have hb4 := nxP_ok H hb3 0 ⟨#[44]⟩
  have hb5 := kdP_ok H hb4
  have hb6 := nxP_ok H hb5 0 ⟨#[62]⟩
  go_enter Tryz.func49, Tryz.ntmps49
  go_wp2_with fail
  refine (r32 h.r H hb.lt 0 (by omega) ⟨#[60]⟩).mono ?_
  rintro e w1 ⟨rfl, h1, st1⟩
  rw [HP1.out] at h1
  have hB := h.turn h1 st1
  have st := st1.bd mb fv nl
  unfold wv2
  clear h st1 h1
  have hrow := hB.r.hw
  have hrd := hB.r.rd
  obtain ⟨va, vn, vc, hwv⟩ := ownsRow_form hrow
  rw [hwv] at hrow hrd
  obtain ⟨rfl, hlt, g, rfl, hgl, hcell⟩ := row_word hrow hget
  obtain ⟨q1, q2⟩ := hcell _ rfl
  obtain ⟨k1, k2⟩ := hrd.rules
  have hz := hrd.lt
  have hi1 : (p1.i : Int) < (ws.length : Int) := by omega
  have nw : ¬ BothD M rb mb fv nl w1.heap.size := fun hb => by have := hB.lt hb; omega
  go_wp2_with fail
  go_region
  clear q1 q2 k1 k2 hcell hrow hrd hwv hi1 hget
  have KW : Blk (w1.alloc (Obj.cells #[.string y.1, .int .i64 y.2] 81)).drew w1.heap.size #[.string y.1, .int .i64 y.2] 81 := Blk.new w1 #[.string y.1, .int .i64 y.2] 81
  replace hB := (hB.alloc (Obj.cells #[.string y.1, .int .i64 y.2] 81)).drew
  replace st := (st.alloc (Obj.cells #[.string y.1, .int .i64 y.2] 81)).drew
  go_wp2_with fail
  refine (r32 hB.r H hb1.lt 3 (by omega) ⟨#[]⟩).mono ?_
  rintro e w2 ⟨rfl, h2, st2⟩
  rw [HX.out]
  unfold wv2
  replace hB := hB.turn h2 st2
  replace st := (st.trans (st2.bd mb fv nl)).alloc (Obj.cells #[.string x.1, .int .i64 x.2] 81)
  have z2 : w1.heap.size < w2.heap.size := (KW.step (st2.bd mb fv nl) nw).lt
  replace KW := (KW.step (st2.bd mb fv nl) nw).alloc (Obj.cells #[.string x.1, .int .i64 x.2] 81)
  have KX := Blk.new w2 #[.string x.1, .int .i64 x.2] 81
  have nx : ¬ BothD M rb mb fv nl w2.heap.size := fun hb => by have := hB.lt hb; omega
  replace hB := hB.alloc (Obj.cells #[.string x.1, .int .i64 x.2] 81)
  clear st2 h2
  go_wp2_with fail
  generalize w2.alloc (Obj.cells #[.string x.1, .int .i64 x.2] 81) = w3 at *
  go_cut [9] from 25 to 28 (fun v wr => ∃ r, v = .int .i64 r ∧ InR btl x.1 r ∧ Both wr rb M ws mb mn fv nl { s with p := nxP ws 3 ⟨#[]⟩ p1 } ∧ Step w (BothD M rb mb fv nl) wr (BothD M rb mb fv nl) ∧ Blk wr w1.heap.size #[.string y.1, .int .i64 y.2] 81 ∧ Blk wr w2.heap.size #[.string x.1, .int .i64 x.2] 81)
  case first =>
    obtain ⟨m1, m2⟩ := KX.rules
    go_region_with (first | (go_at_call 86; refine (c54 _).mono ?_; rintro e w4 ⟨bv, rfl, hbv, hb4⟩; have KX4 := KX.drew.below hb4 KX.lt; obtain ⟨o1, o2⟩ := KX4.rules) | (go_at_call 25; refine (c20 _ _ _ btl x.1 (by decide) hbv).mono ?_; rintro e _ ⟨⟨r, rfl, hr⟩, rfl⟩))
    all_goals
      go_wp2
      go_meet
      case rel => exact ⟨r, rfl, hr, hB.drew.below hb4, st.drew.below hb4, KW.drew.below hb4 KW.lt, KX.drew.below hb4 KX.lt⟩
  case rest =>
    clear hB st KW KX
    obtain ⟨r, rfl, hr, hB, st, KW, KX⟩ := hcut
    have hlt1 := hr.lt
    rw [memS_bt] at hlt1
    clear hr
    obtain ⟨G, hG⟩ : ∃ G, keyGood (kindW x.1) x.1 = G := ⟨_, rfl⟩
    have HG : Hid (keyGood (kindW x.1) x.1 = G) := hG
    have hG2 : (isBt x.1.toList && (!(x.1.toList == [102, 108, 111, 97, 116]) && (!(x.1.toList == [100, 111, 117, 98, 108, 101]) && !(x.1.toList == [98, 121, 116, 101, 115])))) = G := by rw [← keyGood_bt]; exact hG
    have HG2 : Hid ((isBt x.1.toList && (!(x.1.toList == [102, 108, 111, 97, 116]) && (!(x.1.toList == [100, 111, 117, 98, 108, 101]) && !(x.1.toList == [98, 121, 116, 101, 115])))) = G) := hG2
    clear hG hG2
    have HM : Hid (mp3 ws p1 = if G then nxP ws 3 ⟨#[]⟩ p1 else wrP y (nxP ws 3 ⟨#[]⟩ p1)) := by
      show mp3 ws p1 = _
      unfold mp3
      rw [HX.out, HG.out, HY.out]
    go_upto_region 5 with fail
    go_cut [45] from 29 to 45 (fun v wr => v = .bool (!G) ∧ wr = wc)
    case first =>
      obtain ⟨m1, m2⟩ := KX.rules
      cases h1 : isBt x.1.toList
      · rw [h1] at hlt1
        obtain rfl : G = false := by rw [← HG2.out, h1]; rfl
        go_wp2
        go_meet
        case rel => exact ⟨rfl, rfl⟩
      · rw [h1] at hlt1
        cases h2 : (x.1.toList == [102, 108, 111, 97, 116])
        · cases h3 : (x.1.toList == [100, 111, 117, 98, 108, 101])
          · cases h4 : (x.1.toList == [98, 121, 116, 101, 115])
            · obtain rfl : G = true := by rw [← HG2.out, h1, h2, h3, h4]; rfl
              go_wp2
              go_meet
              case rel => exact ⟨rfl, rfl⟩
            · obtain rfl : G = false := by rw [← HG2.out, h1, h2, h3, h4]; rfl
              go_wp2
              go_meet
              case rel => exact ⟨rfl, rfl⟩
          · obtain rfl : G = false := by rw [← HG2.out, h1, h2, h3]; rfl
            go_wp2
            go_meet
            case rel => exact ⟨rfl, rfl⟩
        · obtain rfl : G = false := by rw [← HG2.out, h1, h2]; rfl
          go_wp2
          go_meet
          case rel => exact ⟨rfl, rfl⟩
    case rest =>
      obtain ⟨rfl, rfl⟩ := hcut
      go_upto_if 45 with fail
      go_cut [] from 46 to 48 (fun wr => Both wr rb M ws mb mn fv nl { s with p := mp3 ws p1 } ∧ Step w (BothD M rb mb fv nl) wr (BothD M rb mb fv nl) ∧ Blk wr w2.heap.size #[.string x.1, .int .i64 x.2] 81)
      case first =>
        cases G
        · obtain ⟨m1, m2⟩ := KW.rules
          go_wp2_with fail
          refine (r21 hB.r y).mono ?_
          rintro e w5 ⟨rfl, h5, st5⟩
          go_wp2
          go_meet
          case rel => exact ⟨by rw [HM.out]; exact hB.turn h5 st5, st.trans (st5.bd mb fv nl), KX.step (st5.bd mb fv nl) nx⟩
        · go_wp2
          go_meet
          case rel => exact ⟨by rw [HM.out]; exact hB, st, KX⟩
      case rest =>
        clear hB st KW KX HM
        obtain ⟨hB, st, KX⟩ := hcut
        go_wp2_with fail
        refine (r32 hB.r H hb3.lt 0 (by omega) ⟨#[44]⟩).mono ?_
        rintro e w5 ⟨rfl, h5, st5⟩
        replace hB := hB.turn h5 st5
        replace st := st.trans (st5.bd mb fv nl)
        replace KX := KX.step (st5.bd mb fv nl) nx
        clear h5 st5
        unfold wv2
        go_wp2_with fail
        refine (r38 hB.r H hb4.lt (by have := hb4.used; have := hb4.lt; have := H.len; show (nxP ws 0 ⟨#[44]⟩ (mp3 ws p1)).used.length ≤ 2001; omega)).mono ?_
        rintro e w6 ⟨rfl, M', h6, st6⟩
        replace hB := hB.turn h6 st6
        replace st := st.trans (st6.bd mb fv nl)
        have nx2 := (st6.bd mb fv nl).not KX.lt nx
        replace KX := KX.step (st6.bd mb fv nl) nx
        clear h6 st6
        go_wp2_with fail
        refine (r32 hB.r H hb5.lt 0 (by omega) ⟨#[62]⟩).mono ?_
        rintro e w7 ⟨rfl, h7, st7⟩
        replace hB := hB.turn h7 st7
        replace st := st.trans (st7.bd mb fv nl)
        replace KX := KX.step (st7.bd mb fv nl) nx2
        clear h7 st7
        unfold wv2
        obtain ⟨m1, m2⟩ := KX.rules
        go_wp2_with fail
        refine (r37b hB H hb6.lt hu hnn _ _ _ _ _).mono ?_
        rintro e w8 ⟨fv2, nl2, rfl, hB8, st8⟩
        go_wp2
        go_ret
        refine ⟨M', fv2, nl2, rfl, ?_, st.trans st8⟩
        unfold mpP mp6 mpT
        rw [HP1.out, HX.out]
        exact hB8

end Go.Proofs.YtbbbegjedmicpaaGreatDoor
