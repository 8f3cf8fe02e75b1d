import Derived.Test.YtbbbegjedmicpaaGreatDoorRefO
import Derived.Test.YtbbbegjedmicpaaGreatDoorCkH

/-
  THE REFERENCE, CONTRACT: Names.
-/
namespace Go.Proofs.YtbbbegjedmicpaaGreatDoor
open Go.RowKit

/-- The reference's schema in memory; its messages' names. -/
def RefAt (w : World) (sb : Nat) (S : Sch) (lo : Nat) : Prop := SchAt w (fun b => lo ≤ b) sb S
theorem RefAt.keep {w w' : World} {sb : Nat} {S : Sch} {lo n : Nat} (h : RefAt w sb S lo) (hb : Below n w w') (hn : w.heap.size ≤ n) : RefAt w' sb S lo := SchAt.keep h fun b _ hl => hb.block b (by omega)
def RefNm (w : World) (sb : Nat) (l : List ByteArray) (lo : Nat) : Prop := ∃ S, RefAt w sb S lo ∧ S.ms.map (fun m => m.name) = l
theorem RefNm.keep {w w' : World} {sb : Nat} {l : List ByteArray} {lo n : Nat} (h : RefNm w sb l lo) (hb : Below n w w') (hn : w.heap.size ≤ n) : RefNm w' sb l lo := h.imp fun _ q => ⟨RefAt.keep q.1 hb hn, q.2⟩

set_option maxHeartbeats 1000000 in
set_option maxRecDepth 100000 in
theorem c10 (w : World) (sb lo : Nat) (l : List ByteArray) (hlen : l.length ≤ 2001) (hs : RefNm w sb l lo) :
    Calls Tryz.prog 11 #[.pointer (some ⟨sb, 0, none⟩)] w fun e w' => ∃ v', e = .returned v' ∧ w'.ownsRow w.heap.size 9 1 v' l.length (strCells l) ∧ Below w.heap.size w w' := by
  obtain ⟨i9, hi9, hz90, hz91, hz92⟩ := info_parts Tryz.info9
  obtain ⟨S, ⟨mv, ev, cs, h1, _, h2, hms, _⟩, hS⟩ := hs
  have hSl : S.ms.length = l.length := by rw [← hS, List.length_map]
  replace h2 := h2.1
  rw [hSl] at h2
  have h3 : ∀ (k : Nat) (x : ByteArray), l[k]? = some x → cs[k * 2]? = some (.string x) := fun k x hx => by
    rw [← hS, List.getElem?_map, Option.map_eq_some_iff] at hx
    obtain ⟨m, hm, rfl⟩ := hx
    obtain ⟨_, _, q, _⟩ := hms.get hm
    exact q
  clear hSl hS hms
  obtain ⟨ma, mc, rfl⟩ := row_v h2
  go_enter Tryz.func11, Tryz.ntmps11
  go_wp2
  go_loopw [3, 4] (fun v i wr => ∃ k : Nat, k ≤ l.length ∧ i = .int .i64 k ∧ wr.ownsRow w.heap.size 9 1 v k (strCells (l.take k)) ∧ Below w.heap.size w wr) (fun _ i _ => l.length - (intOf i).toNat)
  case atStart => exact ⟨0, Nat.zero_le _, rfl, by simpa [strCells] using World.ownsRow_nil w w.heap.size 9 1, Below.refl _ _⟩
  case round =>
    obtain ⟨k, hk, rfl, hown, hb⟩ := hrel
    obtain ⟨q1, q2⟩ := (h1.below hb h1.lt).rules
    by_cases hlt : k < l.length
    · obtain ⟨x, hx⟩ := gx hlt
      obtain ⟨g, rfl, _, hgl, hcell⟩ := ownsRow_at h2 (by omega)
      have q := hcell wr (hb.block g hgl) (k * 2) _ (h3 k x hx)
      have hli : (k : Int) < (l.length : Int) := by omega
      clear hcell
      go_wp2_with (first | (at_builtin; refine wpList_append_own_at _ rfl _ _ 30 rfl w.heap.size 9 i9 _ 1 16 Tryz.underlying30 hi9 hz90 hz91 hz92 rfl (by decide) u3 _ _ rfl (hown.alloc _) _ 1 1 [_] rfl rfl (cell_one_new _ _ _) ?h1 ?h63 ?hby ?hba ?_; rotate_right; intro v' w1 hown' hgrow hnil hloc))
      case h1 => intro u hu; simp at hu; subst hu; rfl
      case h63 => unfold maxLen; omega
      case hby => omega
      case hba => have := hb.size; simp; omega
      go_roundw
      case rel =>
        refine ⟨k + 1, by omega, by go_num, ?_, ?_⟩
        · rw [List.take_add_one, hx]
          simpa [strCells] using hown'
        · exact (hb.alloc hb.size _).grown hgrow (by have := hb.size; simp; omega) (fun j hj => (hown.lt j hj).1)
      case measure => simp [intOf]; omega
    · have hli : ¬ (k : Int) < (l.length : Int) := by omega
      obtain rfl : k = l.length := by omega
      go_wp2
      go_ret
      refine ⟨_, rfl, ?_, hb⟩
      simpa using hown

end Go.Proofs.YtbbbegjedmicpaaGreatDoor

/-
  THE REFERENCE: Parse in plain terms.
-/
namespace Go.Proofs.YtbbbegjedmicpaaGreatDoor
open Go.RowKit

theorem ms2_same (ws : List W) (p : PS) : (ms2 ws p).i = (nxP ws 1 ⟨#[]⟩ p).i ∧ (ms2 ws p).bad = (nxP ws 1 ⟨#[]⟩ p).bad ∧ (ms2 ws p).used = p.used := by
  unfold ms2
  split <;> exact ⟨rfl, rfl, rfl⟩
theorem en0_same (ws : List W) (p : PS) : (en0 ws p).i = (nxP ws 1 ⟨#[]⟩ p).i ∧ (en0 ws p).bad = (nxP ws 1 ⟨#[]⟩ p).bad ∧ (en0 ws p).used = p.used := by
  unfold en0
  split <;> exact ⟨rfl, rfl, rfl⟩
theorem msS_bnd {ws : List W} (H : WsR ws) {p : PS} (h : OKP ws p) : Bnd ws (msS ws p) := by
  have h1 := nxP_ok H h 1 ⟨#[]⟩
  have h3 : OKP ws (ms3 ws p) := by
    obtain ⟨e1, _, e3⟩ := ms2_same ws p
    refine ⟨?_, ?_⟩
    · show (ms2 ws p).i < _; rw [e1]; exact h1.lt
    · show (ms2 ws p).used.length ≤ (ms2 ws p).i; rw [e1, e3]; exact h1.used
  exact ⟨nxP_ok H h3 0 ⟨#[123]⟩, fun _ => Nat.zero_le _, fun _ => Nat.zero_le _⟩
theorem msP_ok {ws : List W} (H : WsR ws) {p : PS} (h : OKP ws p) : OKP ws (msP ws p) := by
  have h1 : OKP ws (nxP ws 0 ⟨#[125]⟩ (msE ws p).p) := nxP_ok H (msL_bnd H ws.length _ (msS_bnd H h)).ok 0 ⟨#[125]⟩
  exact ⟨h1.lt, h1.used⟩
theorem msL_le (ws : List W) : ∀ (n : Nat) (s : FD), s.p.i ≤ (msL ws n s).p.i
  | 0, _ => Nat.le_refl _
  | n + 1, s => by
    rw [msL]
    split
    · refine Nat.le_trans ?_ (msL_le ws n _)
      unfold ptF
      split
      · exact Nat.le_trans (Nat.le_succ _) (onP_le ws (incF s))
      · split
        · exact Nat.le_trans (Nat.le_succ _) (mpP_le ws (incF s))
        · split
          · exact Nat.le_trans (Nat.le_succ _) (stF_le ws _ (incF s))
          · exact stF_le ws _ s
    · exact Nat.le_refl _
theorem msP_le (ws : List W) (p : PS) : p.i ≤ (msP ws p).i := by
  refine Nat.le_trans ?_ (nxP_le ws 0 ⟨#[125]⟩ (msE ws p).p)
  refine Nat.le_trans ?_ (msL_le ws ws.length (msS ws p))
  refine Nat.le_trans ?_ (nxP_le ws 0 ⟨#[123]⟩ (ms3 ws p))
  show p.i ≤ (ms2 ws p).i
  rw [(ms2_same ws p).1]
  exact nxP_le _ _ _ _
theorem enL_ok {ws : List W} (H : WsR ws) : ∀ (n : Nat) (p : PS) (l : List ByteArray), OKP ws p → OKP ws (enL ws n p l)
  | 0, _, _, h => h
  | n + 1, p, l, h => by
    rw [enL]
    split
    · exact enL_ok H n _ _ (enV_ok H h l)
    · exact h
theorem enL_le (ws : List W) : ∀ (n : Nat) (p : PS) (l : List ByteArray), p.i ≤ (enL ws n p l).i
  | 0, _, _ => Nat.le_refl _
  | n + 1, p, l => by
    rw [enL]
    split
    · exact Nat.le_trans (enV_le ws p l) (enL_le ws n _ _)
    · exact Nat.le_refl _
theorem enS_ok {ws : List W} (H : WsR ws) {p : PS} (h : OKP ws p) : OKP ws (enS ws p) := by
  have h1 := nxP_ok H h 1 ⟨#[]⟩
  obtain ⟨e1, _, e3⟩ := en0_same ws p
  refine nxP_ok H (p := { en0 ws p with names := p.names ++ [(nxW ws 1 ⟨#[]⟩ p).1], enums := p.enums ++ [(nxW ws 1 ⟨#[]⟩ p).1] }) ⟨?_, ?_⟩ 0 ⟨#[123]⟩
  · show (en0 ws p).i < _; rw [e1]; exact h1.lt
  · show (en0 ws p).used.length ≤ (en0 ws p).i; rw [e1, e3]; exact h1.used
theorem enP_ok {ws : List W} (H : WsR ws) {p : PS} (h : OKP ws p) : OKP ws (enP ws p) := nxP_ok H (enL_ok H _ _ _ (enS_ok H h)) 0 ⟨#[125]⟩
theorem enP_le (ws : List W) (p : PS) : p.i ≤ (enP ws p).i := by
  refine Nat.le_trans ?_ (nxP_le ws 0 ⟨#[125]⟩ _)
  refine Nat.le_trans ?_ (enL_le ws _ _ _)
  refine Nat.le_trans ?_ (nxP_le ws 0 ⟨#[123]⟩ { en0 ws p with names := p.names ++ [(nxW ws 1 ⟨#[]⟩ p).1], enums := p.enums ++ [(nxW ws 1 ⟨#[]⟩ p).1] })
  show p.i ≤ (en0 ws p).i
  rw [(en0_same ws p).1]
  exact nxP_le _ _ _ _

def prS (ws : List W) (p : PS) : PS :=
  if (hand ws p).1.toList == [109, 101, 115, 115, 97, 103, 101] then msP ws (incP p)
  else if (hand ws p).1.toList == [101, 110, 117, 109] then enP ws (incP p)
  else { p with bad := (hand ws p).2 }
def prL (ws : List W) : Nat → PS → PS
  | 0, p => p
  | n + 1, p => if decide (p.bad < 0) && decide (p.i + 1 < ws.length) then prL ws n (prS ws p) else p
theorem prL_stop {ws : List W} {n : Nat} {p : PS} (h : (decide (p.bad < 0) && decide (p.i + 1 < ws.length)) = false) : prL ws n p = p := by
  cases n with
  | zero => rfl
  | succ n => rw [prL, if_neg (by rw [h]; decide)]
theorem prL_go {ws : List W} {n : Nat} {p : PS} (h : (decide (p.bad < 0) && decide (p.i + 1 < ws.length)) = true) (hn : 0 < n) : prL ws n p = prL ws (n - 1) (prS ws p) := by
  cases n with
  | zero => omega
  | succ n => rw [prL, if_pos h]; rfl
/-- The bounds that reading keeps to. -/
structure PB (ws : List W) (p : PS) : Prop where
  ok : OKP ws p
  names : p.names.length ≤ p.i
  msgs : p.msgs.length ≤ p.i
  enums : p.enums.length ≤ p.i
theorem incP_ok {ws : List W} {p : PS} (h : OKP ws p) (hl : p.i + 1 < ws.length) : OKP ws (incP p) := ⟨hl, Nat.le_trans h.used (Nat.le_succ _)⟩
theorem prS_pb {ws : List W} (H : WsR ws) {p : PS} (h : PB ws p) (hl : p.i + 1 < ws.length) : PB ws (prS ws p) := by
  have hi := incP_ok h.ok hl
  have e1 := h.names
  have e2 := h.msgs
  have e3 := h.enums
  unfold prS
  split
  · have ht := msP_top ws (incP p)
    have h1 : (msP ws (incP p)).names = _ := congrArg (fun t => t.1) ht
    have h2 : (msP ws (incP p)).msgs = _ := congrArg (fun t => t.2.1) ht
    have h3 : (msP ws (incP p)).enums = _ := congrArg (fun t => t.2.2) ht
    have hle : p.i + 1 ≤ (msP ws (incP p)).i := msP_le ws (incP p)
    refine ⟨msP_ok H hi, ?_, ?_, ?_⟩
    · rw [h1]; show (p.names ++ [_]).length ≤ _; rw [List.length_append, List.length_singleton]; omega
    · rw [h2]; show (p.msgs ++ [_]).length ≤ _; rw [List.length_append, List.length_singleton]; omega
    · rw [h3]; show p.enums.length ≤ _; omega
  · split
    · have ht := enP_top ws (incP p)
      have h1 : (enP ws (incP p)).names = _ := congrArg (fun t => t.1) ht
      have h2 : (enP ws (incP p)).msgs = _ := congrArg (fun t => t.2.1) ht
      have h3 : (enP ws (incP p)).enums = _ := congrArg (fun t => t.2.2) ht
      have hle : p.i + 1 ≤ (enP ws (incP p)).i := enP_le ws (incP p)
      refine ⟨enP_ok H hi, ?_, ?_, ?_⟩
      · rw [h1]; show (p.names ++ [_]).length ≤ _; rw [List.length_append, List.length_singleton]; omega
      · rw [h2]; show p.msgs.length ≤ _; omega
      · rw [h3]; show (p.enums ++ [_]).length ≤ _; rw [List.length_append, List.length_singleton]; omega
    · exact ⟨⟨h.ok.lt, h.ok.used⟩, e1, e2, e3⟩
theorem prS_meas {ws : List W} {p : PS} (hb : p.bad < 0) (hl : p.i + 1 < ws.length) : measP ws (prS ws p) < measP ws p := by
  have hx : ∀ t : PS, p.i + 1 ≤ t.i → measP ws t < measP ws p := fun t ht => by
    unfold measP
    rw [if_pos hb]
    split <;> omega
  unfold prS
  split
  · exact hx _ (msP_le ws (incP p))
  · split
    · exact hx _ (enP_le ws (incP p))
    · unfold measP
      rw [if_pos hb, if_neg (by simp only; omega)]
      omega
theorem prL_pb {ws : List W} (H : WsR ws) : ∀ (n : Nat) (p : PS), PB ws p → PB ws (prL ws n p)
  | 0, _, h => h
  | n + 1, p, h => by
    rw [prL]
    split
    · next hc =>
      have hl : p.i + 1 < ws.length := of_decide_eq_true (Bool.and_eq_true _ _ ▸ hc).2
      exact prL_pb H n _ (prS_pb H h hl)
    · exact h

/-- The types that were used: one that there is not is wrong. -/
def usL (names : List ByteArray) : List W → Int → Int
  | [], wr => wr
  | u :: us, wr => usL names us (if memS names u.1 then wr else wrongI wr u.2)
def p00 : PS := ⟨0, -1, -1, [], [], [], []⟩
def refR (t : ByteArray) : PS := prL (allWords t) (allWords t).length p00
/-- The reference's answer to a text. -/
def refI (t : ByteArray) : Except (Int × Int) Sch :=
  if 2000 < t.size then .error (2, 0)
  else if 0 ≤ (refR t).bad then .error (2, (refR t).bad)
  else if 0 ≤ usL (refR t).names (refR t).used (refR t).wrong then .error (3, usL (refR t).names (refR t).used (refR t).wrong)
  else .ok ⟨(refR t).msgs, (refR t).enums⟩
def RefRet (w : World) (r : Except (Int × Int) Sch) (e : Ending) (w' : World) : Prop :=
  (match r with
  | .error (k, p) => e = .returned (.tuple #[.pointer none, .int .i64 k, .int .i64 p])
  | .ok S => ∃ sb, e = .returned (.tuple #[.pointer (some ⟨sb, 0, none⟩), .int .i64 0, .int .i64 0]) ∧ RefAt w' sb S w.heap.size ∧ S.ms.length ≤ 2001) ∧ Below w.heap.size w w'

theorem allWords_R (t : ByteArray) (ht : t.size ≤ 2000) : WsR (allWords t) := by
  have W := allWords_ok t ht
  have hlen := allWords_len t
  have hl2 := lex_len t
  refine ⟨by omega, fun k x hx hs => ?_, fun k x hx => ?_⟩
  · rcases allWords_get hx with ⟨h1, _⟩ | ⟨_, rfl⟩
    · omega
    · exact absurd (show 0 < (ByteArray.mk #[]).size from hs) (by decide)
  · rcases allWords_get hx with ⟨_, h⟩ | ⟨_, rfl⟩
    · have := lexF_mem t t.size 0 x h; omega
    · exact Nat.zero_le _

end Go.Proofs.YtbbbegjedmicpaaGreatDoor
