import Derived.Test.YtbbbegjedmicpaaGreatDoorRefM

/-
  THE REFERENCE: names, messages and enums are put to those ahead; a message, an enum in plain terms.
-/
namespace Go.Proofs.YtbbbegjedmicpaaGreatDoor
open Go.RowKit

section
variable {w w' : World} {tgt : Option Nat} {cb off : Nat} {v : Value}
theorem keepBlk (hg : w.grownBy w' tgt) {b : Nat} {cs : Array Value} {T : TypeId} (K : Blk w b cs T) (h1 : tgt ≠ some b) (h2 : b ≠ cb) : Blk (w'.setCell ⟨cb, off, none⟩ v) b cs T :=
  (K.grown hg (fun e => h1 e.symm)).other off v (fun e => h2 e.symm)
theorem keepRow (hg : w.grownBy w' tgt) {T : TypeId} {k n : Nat} {u : Value} {xs : List Value} (hh : w.ownsRow 0 T k u n xs) (h1 : ∀ b, u.ownBlock = some b → tgt ≠ some b) (h2 : ∀ b, u.ownBlock = some b → b ≠ cb) : (w'.setCell ⟨cb, off, none⟩ v).ownsRow 0 T k u n xs :=
  ownsRow_keep hh fun b hb => by
    obtain ⟨cs, K⟩ := ownsRow_blk hh hb
    exact (keepBlk hg K (h1 b hb) (h2 b hb)).trans K.symm
theorem rows_ne {w : World} {T T' : TypeId} {k n k' n' : Nat} {u u' : Value} {xs xs' : List Value} (h : w.ownsRow 0 T k u n xs) (h' : w.ownsRow 0 T' k' u' n' xs') (hT : T ≠ T') : ∀ b, u.ownBlock = some b → u'.ownBlock ≠ some b := fun b hb hb' => by
  obtain ⟨cs, K⟩ := ownsRow_blk h hb
  obtain ⟨cs2, K2⟩ := ownsRow_blk h' hb'
  exact hT (K.ty K2)
theorem row_blk_ne {w : World} {T T' : TypeId} {k n : Nat} {u : Value} {xs : List Value} (h : w.ownsRow 0 T k u n xs) {b' : Nat} {cs' : Array Value} (K' : Blk w b' cs' T') (hT : T ≠ T') : ∀ b, u.ownBlock = some b → b ≠ b' := fun b hb e => by
  subst e
  obtain ⟨cs, K⟩ := ownsRow_blk h hb
  exact hT (K.ty K')
theorem blk_ne {w : World} {T T' : TypeId} {b b' : Nat} {cs cs' : Array Value} (K : Blk w b cs T) (K' : Blk w b' cs' T') (hT : T ≠ T') : b ≠ b' := fun e => by
  subst e
  exact hT (K.ty K')
end

section
variable {w w' : World} {rb : Nat} {M : Mem} {ws : List W} {p : PS}
theorem RdAt.addN (h : RdAt w rb M ws p) {x : ByteArray} {v : Value} (hg : w.grownBy w' M.nv.ownBlock) (hr : w'.ownsRow 0 9 1 v (p.names.length + 1) (strCells p.names ++ [.string x])) (hf : ∀ b, v.ownBlock = some b → M.nv.ownBlock = some b ∨ w.heap.size ≤ b) :
    RdAt (w'.setCell ⟨rb, 6, none⟩ v) rb { M with nv := v } ws { p with names := p.names ++ [x] } ∧ Step w (M.D rb) (w'.setCell ⟨rb, 6, none⟩ v) (({ M with nv := v } : Mem).D rb) := by
  have h60 : Blk w' rb _ 79 := h.rd.grown hg (fun e => row_blk_ne h.hn h.rd (by decide) rb e.symm rfl)
  refine ⟨⟨h60.set 6 v, keepBlk hg h.sc (fun e => row_blk_ne h.hn h.sc (by decide) _ e rfl) (blk_ne h.sc h.rd (by decide)), keepRow hg h.hw (rows_ne h.hw h.hn (by decide)) (row_blk_ne h.hw h.rd (by decide)),
    keepRow hg h.hu (rows_ne h.hu h.hn (by decide)) (row_blk_ne h.hu h.rd (by decide)), ?_, keepRow hg h.he (fun b hb e => h.ne b e hb) (row_blk_ne h.he h.rd (by decide)), ?_, h.wu, fun b hb he => ?_, fun b hb => ?_⟩, ?_⟩
  · have : (w'.setCell ⟨rb, 6, none⟩ v).ownsRow 0 9 1 v (p.names.length + 1) (strCells p.names ++ [.string x]) := ownsRow_keep hr fun b hb => by
      obtain ⟨cs, K⟩ := ownsRow_blk hr hb
      exact Below.heap_setCell _ _ _ _ (blk_ne K h60 (by decide))
    simpa [strCells] using this
  · obtain ⟨cs, hm, hc⟩ := h.hm
    refine ⟨cs, keepRow hg hm (rows_ne hm h.hn (by decide)) (row_blk_ne hm h.rd (by decide)), hc.keep fun b hb _ => ?_⟩
    obtain ⟨c2, K⟩ := h.fzt b hb
    exact (keepBlk hg K (fun e => row_blk_ne h.hn K (by decide) _ e rfl) (blk_ne K h.rd (by decide))).trans K.symm
  · rcases hf b hb with h1 | h1
    · exact h.ne b h1 he
    · have := (h.he.lt b he).2; omega
  · obtain ⟨c2, K⟩ := h.fzt b hb
    exact ⟨c2, keepBlk hg K (fun e => row_blk_ne h.hn K (by decide) _ e rfl) (blk_ne K h.rd (by decide))⟩
  · refine ⟨hg.os, hg.tape, hg.output, by simpa [World.setCell] using hg.size, fun b hb hn => ?_, fun b hb => ?_⟩
    · rw [Below.heap_setCell _ _ _ _ (fun e => hn (.inl e))]
      exact hg.block b hb (fun e => hn (.inr (.inr (.inr (.inl e.symm)))))
    · rcases hb with h1 | h1 | h1 | h1 | h1 | h1
      · exact .inl (.inl h1)
      · exact .inl (.inr (.inl h1))
      · exact .inl (.inr (.inr (.inl h1)))
      · rcases hf b h1 with h2 | h2
        · exact .inl (.inr (.inr (.inr (.inl h2))))
        · exact .inr h2
      · exact .inl (.inr (.inr (.inr (.inr (.inl h1)))))
      · exact .inl (.inr (.inr (.inr (.inr (.inr h1)))))
theorem RdAt.addE (h : RdAt w rb M ws p) {x : ByteArray} {v : Value} (hg : w.grownBy w' M.ev.ownBlock) (hr : w'.ownsRow 0 9 1 v (p.enums.length + 1) (strCells p.enums ++ [.string x])) (hf : ∀ b, v.ownBlock = some b → M.ev.ownBlock = some b ∨ w.heap.size ≤ b) :
    RdAt (w'.setCell ⟨M.sb, 1, none⟩ v) rb { M with ev := v } ws { p with enums := p.enums ++ [x] } ∧ Step w (M.D rb) (w'.setCell ⟨M.sb, 1, none⟩ v) (({ M with ev := v } : Mem).D rb) := by
  have h58 : Blk w' M.sb _ 77 := h.sc.grown hg (fun e => row_blk_ne h.he h.sc (by decide) _ e.symm rfl)
  refine ⟨⟨keepBlk hg h.rd (fun e => row_blk_ne h.he h.rd (by decide) _ e rfl) (blk_ne h.rd h.sc (by decide)), h58.set 1 v, keepRow hg h.hw (rows_ne h.hw h.he (by decide)) (row_blk_ne h.hw h.sc (by decide)),
    keepRow hg h.hu (rows_ne h.hu h.he (by decide)) (row_blk_ne h.hu h.sc (by decide)), keepRow hg h.hn h.ne (row_blk_ne h.hn h.sc (by decide)), ?_, ?_, h.wu, fun b hb he => ?_, fun b hb => ?_⟩, ?_⟩
  · have : (w'.setCell ⟨M.sb, 1, none⟩ v).ownsRow 0 9 1 v (p.enums.length + 1) (strCells p.enums ++ [.string x]) := ownsRow_keep hr fun b hb => by
      obtain ⟨cs, K⟩ := ownsRow_blk hr hb
      exact Below.heap_setCell _ _ _ _ (blk_ne K h58 (by decide))
    simpa [strCells] using this
  · obtain ⟨cs, hm, hc⟩ := h.hm
    refine ⟨cs, keepRow hg hm (rows_ne hm h.he (by decide)) (row_blk_ne hm h.sc (by decide)), hc.keep fun b hb _ => ?_⟩
    obtain ⟨c2, K⟩ := h.fzt b hb
    exact (keepBlk hg K (fun e => row_blk_ne h.he K (by decide) _ e rfl) (blk_ne K h.sc (by decide))).trans K.symm
  · rcases hf b he with h1 | h1
    · exact h.ne b hb h1
    · have := (h.hn.lt b hb).2; omega
  · obtain ⟨c2, K⟩ := h.fzt b hb
    exact ⟨c2, keepBlk hg K (fun e => row_blk_ne h.he K (by decide) _ e rfl) (blk_ne K h.sc (by decide))⟩
  · refine ⟨hg.os, hg.tape, hg.output, by simpa [World.setCell] using hg.size, fun b hb hn => ?_, fun b hb => ?_⟩
    · rw [Below.heap_setCell _ _ _ _ (fun e => hn (.inr (.inl e)))]
      exact hg.block b hb (fun e => hn (.inr (.inr (.inr (.inr (.inr (.inl e.symm)))))))
    · rcases hb with h1 | h1 | h1 | h1 | h1 | h1 | h1
      · exact .inl (.inl h1)
      · exact .inl (.inr (.inl h1))
      · exact .inl (.inr (.inr (.inl h1)))
      · exact .inl (.inr (.inr (.inr (.inl h1))))
      · exact .inl (.inr (.inr (.inr (.inr (.inl h1)))))
      · rcases hf b h1 with h2 | h2
        · exact .inl (.inr (.inr (.inr (.inr (.inr (.inl h2))))))
        · exact .inr h2
      · exact .inl (.inr (.inr (.inr (.inr (.inr (.inr h1))))))
theorem MsIn.imp {P P' : Nat → Prop} (hp : ∀ b, P b → P' b) : ∀ {l : List MT} {cs : List Value}, MsIn w P cs l → MsIn w P' cs l
  | [], _, h => h
  | m :: l, cs, h => by
    obtain ⟨fv, rest, e, h1, h2⟩ := h
    exact ⟨fv, rest, e, ⟨h1.1, fun b hb => hp b (h1.2 b hb)⟩, MsIn.imp hp h2⟩
theorem MsIn.snoc {P : Nat → Prop} {x : ByteArray} {c : Value} {fl : List Fld} (hc : FdIn w P c fl) : ∀ {l : List MT} {cs : List Value}, MsIn w P cs l → MsIn w P (cs ++ [.string x, c]) (l ++ [⟨x, fl⟩])
  | [], _, h => by
    cases h
    exact ⟨c, [], rfl, hc, rfl⟩
  | m :: l, cs, h => by
    obtain ⟨fv, rest, rfl, h1, h2⟩ := h
    exact ⟨fv, rest ++ [.string x, c], rfl, h1, MsIn.snoc hc h2⟩
/-- A message is put to the schema's. -/
theorem RdAt.addM (h : RdAt w rb M ws p) {x : ByteArray} {v c : Value} {fl : List Fld} (hg : w.grownBy w' M.mv.ownBlock) (hfl : w.ownsRow 0 145 5 c fl.length (fl.flatMap fldCells)) {cs : List Value} (hc : MsIn w M.fz cs p.msgs) (hr : w'.ownsRow 0 90 2 v (p.msgs.length + 1) (cs ++ [.string x, c])) (hf : ∀ b, v.ownBlock = some b → M.mv.ownBlock = some b ∨ w.heap.size ≤ b)
    {S : Nat → Prop} (hS : ∀ b, M.D rb b → S b) (hcS : ∀ b, c.ownBlock = some b → S b) :
    RdAt (w'.setCell ⟨M.sb, 0, none⟩ v) rb { M with mv := v, fz := fun b => M.fz b ∨ c.ownBlock = some b } ws { p with msgs := p.msgs ++ [⟨x, fl⟩] } ∧ Step w S (w'.setCell ⟨M.sb, 0, none⟩ v) (({ M with mv := v, fz := fun b => M.fz b ∨ c.ownBlock = some b } : Mem).D rb) := by
  obtain ⟨cs0, hm, _⟩ := h.hm
  have h58 : Blk w' M.sb _ 77 := h.sc.grown hg (fun e => row_blk_ne hm h.sc (by decide) _ e.symm rfl)
  have hfz : ∀ b, M.fz b ∨ c.ownBlock = some b → ∃ cs, Blk w b cs 145 := fun b hb => hb.elim (h.fzt b) (fun e => ownsRow_blk hfl e)
  have hfk : ∀ b, M.fz b ∨ c.ownBlock = some b → (w'.setCell ⟨M.sb, 0, none⟩ v).heap[b]? = w.heap[b]? := fun b hb => by
    obtain ⟨c2, K⟩ := hfz b hb
    exact (keepBlk hg K (fun e => row_blk_ne hm K (by decide) _ e rfl) (blk_ne K h.sc (by decide))).trans K.symm
  refine ⟨⟨keepBlk hg h.rd (fun e => row_blk_ne hm h.rd (by decide) _ e rfl) (blk_ne h.rd h.sc (by decide)), h58.set 0 v, keepRow hg h.hw (rows_ne h.hw hm (by decide)) (row_blk_ne h.hw h.sc (by decide)),
    keepRow hg h.hu (rows_ne h.hu hm (by decide)) (row_blk_ne h.hu h.sc (by decide)), keepRow hg h.hn (rows_ne h.hn hm (by decide)) (row_blk_ne h.hn h.sc (by decide)), keepRow hg h.he (rows_ne h.he hm (by decide)) (row_blk_ne h.he h.sc (by decide)), ⟨cs ++ [.string x, c], ?_, ?_⟩, h.wu, h.ne, fun b hb => ?_⟩, ?_⟩
  · have : (w'.setCell ⟨M.sb, 0, none⟩ v).ownsRow 0 90 2 v (p.msgs.length + 1) (cs ++ [.string x, c]) := ownsRow_keep hr fun b hb => by
      obtain ⟨cs, K⟩ := ownsRow_blk hr hb
      exact Below.heap_setCell _ _ _ _ (blk_ne K h58 (by decide))
    simpa using this
  · have h1 : MsIn (w'.setCell ⟨M.sb, 0, none⟩ v) (fun b => M.fz b ∨ c.ownBlock = some b) cs p.msgs := (hc.imp fun b hb => .inl hb).keep fun b hb _ => hfk b hb
    exact h1.snoc ⟨ownsRow_keep hfl fun b hb => hfk b (.inr hb), fun b hb => .inr hb⟩
  · obtain ⟨c2, K⟩ := hfz b hb
    exact ⟨c2, (hfk b hb).trans K⟩
  · refine ⟨hg.os, hg.tape, hg.output, by simpa [World.setCell] using hg.size, fun b hb hn => ?_, fun b hb => ?_⟩
    · rw [Below.heap_setCell _ _ _ _ (fun e => hn (hS b (.inr (.inl e))))]
      exact hg.block b hb (fun e => hn (hS b (.inr (.inr (.inr (.inr (.inl e.symm)))))))
    · rcases hb with h1 | h1 | h1 | h1 | h1 | h1 | h1 | h1
      · exact .inl (hS b (.inl h1))
      · exact .inl (hS b (.inr (.inl h1)))
      · exact .inl (hS b (.inr (.inr (.inl h1))))
      · exact .inl (hS b (.inr (.inr (.inr (.inl h1)))))
      · rcases hf b h1 with h2 | h2
        · exact .inl (hS b (.inr (.inr (.inr (.inr (.inl h2))))))
        · exact .inr h2
      · exact .inl (hS b (.inr (.inr (.inr (.inr (.inr (.inl h1)))))))
      · exact .inl (hS b (.inr (.inr (.inr (.inr (.inr (.inr h1)))))))
      · exact .inl (hcS b h1)
end

/-- A message's part. -/
def incP (p : PS) : PS := { p with i := p.i + 1 }
def incF (s : FD) : FD := { s with p := incP s.p }
def ptF (ws : List W) (s : FD) : FD :=
  if (hand ws s.p).1.toList == [111, 110, 101, 111, 102] then onP ws (incF s)
  else if (hand ws s.p).1.toList == [109, 97, 112] then mpP ws (incF s)
  else if (hand ws s.p).1.toList == [114, 101, 112, 101, 97, 116, 101, 100] || (hand ws s.p).1.toList == [111, 112, 116, 105, 111, 110, 97, 108] then stF ws (hand ws s.p).1 (incF s)
  else stF ws eS s
def msL (ws : List W) : Nat → FD → FD
  | 0, s => s
  | n + 1, s => if s.p.bad < 0 && !atP ws ⟨#[125]⟩ s.p then msL ws n (ptF ws s) else s
theorem msL_stop {ws : List W} {n : Nat} {s : FD} (h : (decide (s.p.bad < 0) && !atP ws ⟨#[125]⟩ s.p) = false) : msL ws n s = s := by
  cases n with
  | zero => rfl
  | succ n => rw [msL, if_neg (by rw [h]; decide)]
theorem msL_go {ws : List W} {n : Nat} {s : FD} (h : (decide (s.p.bad < 0) && !atP ws ⟨#[125]⟩ s.p) = true) (hn : 0 < n) : msL ws n s = msL ws (n - 1) (ptF ws s) := by
  cases n with
  | zero => omega
  | succ n => rw [msL, if_pos h]; rfl
theorem incF_bnd {ws : List W} (H : WsR ws) {s : FD} (h : Bnd ws s) (hs : 0 < (hand ws s.p).1.size) : Bnd ws (incF s) := by
  have hl := H.last _ _ (hand_get h.ok.lt) hs
  have hu := h.ok.used
  refine ⟨⟨hl, ?_⟩, fun hb => ?_, fun hb => ?_⟩
  · show s.p.used.length ≤ s.p.i + 1; omega
  · have := h.nums hb; show s.nums.length ≤ s.p.i + 1; omega
  · have := h.names hb; show s.names.length ≤ s.p.i + 1; omega
theorem stF_le (ws : List W) (how : ByteArray) (s : FD) : s.p.i ≤ (stF ws how s).p.i := Nat.le_trans (kdP_le ws s.p) (fdP_le ws _ { s with p := kdP ws s.p })
theorem onL_le (ws : List W) (how : ByteArray) : ∀ (n : Nat) (b : Bool) (s : FD), s.p.i ≤ (onL ws how n b s).p.i
  | 0, _, _ => Nat.le_refl _
  | n + 1, b, s => by
    rw [onL]
    split
    · exact Nat.le_trans (stF_le ws how s) (onL_le ws how n false _)
    · exact Nat.le_refl _
theorem onP_le (ws : List W) (s : FD) : s.p.i ≤ (onP ws s).p.i := by
  refine Nat.le_trans ?_ (nxP_le ws 0 ⟨#[125]⟩ _)
  refine Nat.le_trans ?_ (onL_le ws _ _ _ _)
  refine Nat.le_trans ?_ (nxP_le ws 0 ⟨#[123]⟩ (on2 ws s))
  rw [(on2_same ws s).1]
  exact nxP_le _ _ _ _
theorem mpP_le (ws : List W) (s : FD) : s.p.i ≤ (mpP ws s).p.i := Nat.le_trans (mp6_le ws s.p) (fdP_le ws _ { s with p := mp6 ws s.p })
theorem txt_pos {s : ByteArray} {c : UInt8} {l : List UInt8} (h : (s.toList == c :: l) = true) : 0 < s.size := by
  rcases Nat.eq_zero_or_pos s.size with h0 | h0
  · have hl : s.toList = [] := by have := size_list s; rw [h0] at this; simpa using this
    rw [hl] at h
    cases h
  · exact h0
theorem ptF_bnd {ws : List W} (H : WsR ws) {s : FD} (h : Bnd ws s) : Bnd ws (ptF ws s) := by
  unfold ptF
  split
  · next ht => exact onP_bnd H (incF_bnd H h (txt_pos ht))
  · split
    · next ht => exact mpP_bnd H (incF_bnd H h (txt_pos ht))
    · split
      · next ht =>
        rcases (Bool.or_eq_true _ _).mp ht with ht | ht
        · exact stF_bnd H (incF_bnd H h (txt_pos ht))
        · exact stF_bnd H (incF_bnd H h (txt_pos ht))
      · exact stF_bnd H h
theorem msL_bnd {ws : List W} (H : WsR ws) : ∀ (n : Nat) (s : FD), Bnd ws s → Bnd ws (msL ws n s)
  | 0, _, h => h
  | n + 1, s, h => by
    rw [msL]
    split
    · exact msL_bnd H n _ (ptF_bnd H h)
    · exact h
theorem ptF_meas {ws : List W} (H : WsR ws) {s : FD} (h : Bnd ws s) (hb : s.p.bad < 0) : measP ws (ptF ws s).p < measP ws s.p := by
  have hx : ∀ t : FD, s.p.i + 1 ≤ t.p.i → measP ws t.p < measP ws s.p := fun t ht => by
    have := h.ok.lt
    unfold measP
    rw [if_pos hb]
    split <;> omega
  unfold ptF
  split
  · exact hx _ (onP_le ws (incF s))
  · split
    · exact hx _ (mpP_le ws (incF s))
    · split
      · exact hx _ (stF_le ws _ (incF s))
      · exact stF_meas H h.ok hb
def ms2 (ws : List W) (p : PS) : PS := if memS p.names (nxW ws 1 ⟨#[]⟩ p).1 || decide (6 ≤ p.msgs.length) then wrP (nxW ws 1 ⟨#[]⟩ p) (lgP (nxW ws 1 ⟨#[]⟩ p) (nxP ws 1 ⟨#[]⟩ p)) else lgP (nxW ws 1 ⟨#[]⟩ p) (nxP ws 1 ⟨#[]⟩ p)
def ms3 (ws : List W) (p : PS) : PS := { ms2 ws p with names := p.names ++ [(nxW ws 1 ⟨#[]⟩ p).1] }
def msS (ws : List W) (p : PS) : FD := ⟨nxP ws 0 ⟨#[123]⟩ (ms3 ws p), [], []⟩
def msE (ws : List W) (p : PS) : FD := msL ws ws.length (msS ws p)
def msP (ws : List W) (p : PS) : PS := { nxP ws 0 ⟨#[125]⟩ (msE ws p).p with msgs := (msE ws p).p.msgs ++ [⟨(nxW ws 1 ⟨#[]⟩ p).1, (msE ws p).nums⟩] }

/-- An enum's value; an enum. -/
def en1 (ws : List W) (p : PS) (l : List ByteArray) : PS :=
  if memS l (nxW ws 1 ⟨#[]⟩ p).1 then wrP (nxW ws 1 ⟨#[]⟩ p) (lgP (nxW ws 1 ⟨#[]⟩ p) (nxP ws 1 ⟨#[]⟩ p)) else lgP (nxW ws 1 ⟨#[]⟩ p) (nxP ws 1 ⟨#[]⟩ p)
def en2 (ws : List W) (p : PS) (l : List ByteArray) : PS := nxP ws 0 ⟨#[61]⟩ (en1 ws p l)
def enV (ws : List W) (p : PS) (l : List ByteArray) : PS :=
  nxP ws 0 ⟨#[59]⟩ (if 2147483647 < valI (nxW ws 2 ⟨#[]⟩ (en2 ws p l)).1 then wrP (nxW ws 2 ⟨#[]⟩ (en2 ws p l)) (nxP ws 2 ⟨#[]⟩ (en2 ws p l)) else nxP ws 2 ⟨#[]⟩ (en2 ws p l))
def enL (ws : List W) : Nat → PS → List ByteArray → PS
  | 0, p, _ => p
  | n + 1, p, l => if p.bad < 0 && !atP ws ⟨#[125]⟩ p then enL ws n (enV ws p l) (l ++ [(nxW ws 1 ⟨#[]⟩ p).1]) else p
theorem enL_stop {ws : List W} {n : Nat} {p : PS} {l : List ByteArray} (h : (decide (p.bad < 0) && !atP ws ⟨#[125]⟩ p) = false) : enL ws n p l = p := by
  cases n with
  | zero => rfl
  | succ n => rw [enL, if_neg (by rw [h]; decide)]
theorem enL_go {ws : List W} {n : Nat} {p : PS} {l : List ByteArray} (h : (decide (p.bad < 0) && !atP ws ⟨#[125]⟩ p) = true) (hn : 0 < n) : enL ws n p l = enL ws (n - 1) (enV ws p l) (l ++ [(nxW ws 1 ⟨#[]⟩ p).1]) := by
  cases n with
  | zero => omega
  | succ n => rw [enL, if_pos h]; rfl
theorem en1_same (ws : List W) (p : PS) (l : List ByteArray) : (en1 ws p l).i = (nxP ws 1 ⟨#[]⟩ p).i ∧ (en1 ws p l).bad = (nxP ws 1 ⟨#[]⟩ p).bad ∧ (en1 ws p l).used = p.used := by
  unfold en1
  split <;> exact ⟨rfl, rfl, rfl⟩
theorem en1_ok {ws : List W} (H : WsR ws) {p : PS} (h : OKP ws p) (l : List ByteArray) : OKP ws (en1 ws p l) := by
  have h1 := nxP_ok H h 1 ⟨#[]⟩
  obtain ⟨e1, _, e3⟩ := en1_same ws p l
  exact ⟨by rw [e1]; exact h1.lt, by rw [e1, e3]; exact h1.used⟩
theorem en3_same (ws : List W) (p : PS) (l : List ByteArray) (q : PS) (x : W) : (if 2147483647 < valI (nxW ws 2 ⟨#[]⟩ (en2 ws p l)).1 then wrP x q else q).i = q.i ∧ (if 2147483647 < valI (nxW ws 2 ⟨#[]⟩ (en2 ws p l)).1 then wrP x q else q).bad = q.bad ∧ (if 2147483647 < valI (nxW ws 2 ⟨#[]⟩ (en2 ws p l)).1 then wrP x q else q).used = q.used := by
  split <;> exact ⟨rfl, rfl, rfl⟩
theorem en3_ok {ws : List W} (H : WsR ws) {p : PS} (h : OKP ws p) (l : List ByteArray) : OKP ws (if 2147483647 < valI (nxW ws 2 ⟨#[]⟩ (en2 ws p l)).1 then wrP (nxW ws 2 ⟨#[]⟩ (en2 ws p l)) (nxP ws 2 ⟨#[]⟩ (en2 ws p l)) else nxP ws 2 ⟨#[]⟩ (en2 ws p l)) := by
  have h1 := nxP_ok H (nxP_ok H (en1_ok H h l) 0 ⟨#[61]⟩) 2 ⟨#[]⟩
  obtain ⟨e1, _, e3⟩ := en3_same ws p l (nxP ws 2 ⟨#[]⟩ (en2 ws p l)) (nxW ws 2 ⟨#[]⟩ (en2 ws p l))
  exact ⟨by rw [e1]; exact h1.lt, by rw [e1, e3]; exact h1.used⟩
theorem enV_ok {ws : List W} (H : WsR ws) {p : PS} (h : OKP ws p) (l : List ByteArray) : OKP ws (enV ws p l) := nxP_ok H (en3_ok H h l) 0 ⟨#[59]⟩
theorem enV_le (ws : List W) (p : PS) (l : List ByteArray) : p.i ≤ (enV ws p l).i := by
  refine Nat.le_trans ?_ (nxP_le ws 0 ⟨#[59]⟩ _)
  rw [(en3_same ws p l _ _).1]
  refine Nat.le_trans ?_ (nxP_le ws 2 ⟨#[]⟩ (en2 ws p l))
  refine Nat.le_trans ?_ (nxP_le ws 0 ⟨#[61]⟩ (en1 ws p l))
  rw [(en1_same ws p l).1]
  exact nxP_le _ _ _ _
theorem enV_adv {ws : List W} {p : PS} {l : List ByteArray} (h : (enV ws p l).bad < 0) : p.bad < 0 ∧ p.i + 1 ≤ (enV ws p l).i := by
  obtain ⟨h1, e1, _⟩ := nxP_adv (p := if 2147483647 < valI (nxW ws 2 ⟨#[]⟩ (en2 ws p l)).1 then wrP (nxW ws 2 ⟨#[]⟩ (en2 ws p l)) (nxP ws 2 ⟨#[]⟩ (en2 ws p l)) else nxP ws 2 ⟨#[]⟩ (en2 ws p l)) h
  rw [(en3_same ws p l _ _).2.1] at h1
  obtain ⟨h2, e2, _⟩ := nxP_adv h1
  obtain ⟨h3, e3, _⟩ := nxP_adv (p := en1 ws p l) h2
  rw [(en1_same ws p l).2.1] at h3
  obtain ⟨h4, e4, _⟩ := nxP_adv h3
  refine ⟨h4, ?_⟩
  have e5 : (enV ws p l).i = (if 2147483647 < valI (nxW ws 2 ⟨#[]⟩ (en2 ws p l)).1 then wrP (nxW ws 2 ⟨#[]⟩ (en2 ws p l)) (nxP ws 2 ⟨#[]⟩ (en2 ws p l)) else nxP ws 2 ⟨#[]⟩ (en2 ws p l)).i + 1 := e1
  rw [(en3_same ws p l _ _).1] at e5
  have e6 : (en2 ws p l).i = (en1 ws p l).i + 1 := e3
  have e7 := (en1_same ws p l).1
  omega
theorem enV_meas {ws : List W} {p : PS} (l : List ByteArray) (h : OKP ws p) (hb : p.bad < 0) : measP ws (enV ws p l) < measP ws p := by
  have := h.lt
  unfold measP
  rw [if_pos hb]
  split
  · next h1 => have := (enV_adv h1).2; omega
  · omega
def en0 (ws : List W) (p : PS) : PS := if memS p.names (nxW ws 1 ⟨#[]⟩ p).1 then wrP (nxW ws 1 ⟨#[]⟩ p) (lgP (nxW ws 1 ⟨#[]⟩ p) (nxP ws 1 ⟨#[]⟩ p)) else lgP (nxW ws 1 ⟨#[]⟩ p) (nxP ws 1 ⟨#[]⟩ p)
def enS (ws : List W) (p : PS) : PS := nxP ws 0 ⟨#[123]⟩ { en0 ws p with names := p.names ++ [(nxW ws 1 ⟨#[]⟩ p).1], enums := p.enums ++ [(nxW ws 1 ⟨#[]⟩ p).1] }
def enP (ws : List W) (p : PS) : PS := nxP ws 0 ⟨#[125]⟩ (enL ws ws.length (enS ws p) [])

end Go.Proofs.YtbbbegjedmicpaaGreatDoor

/-
  THE REFERENCE: reading a message leaves the names of messages and enums as they are.
-/
namespace Go.Proofs.YtbbbegjedmicpaaGreatDoor
open Go.RowKit

def Top (p : PS) : List ByteArray × List MT × List ByteArray := (p.names, p.msgs, p.enums)
theorem nxP_top (ws : List W) (so : Int) (s : ByteArray) (p : PS) : Top (nxP ws so s p) = Top p := rfl
theorem kdP_top (ws : List W) (p : PS) : Top (kdP ws p) = Top p := by unfold kdP; split <;> rfl
theorem f2_top (ws : List W) (s : FD) : Top (f2 ws s) = Top s.p := by unfold f2 f1; split <;> rfl
theorem fdP_top (ws : List W) (t : T3) (s : FD) : Top (fdP ws t s).p = Top s.p := by
  have h : Top (f5 ws s) = Top s.p := f2_top ws s
  unfold fdP
  simp only
  split <;> exact h
theorem stF_top (ws : List W) (how : ByteArray) (s : FD) : Top (stF ws how s).p = Top s.p := (fdP_top ws _ _).trans (kdP_top ws s.p)
theorem onL_top (ws : List W) (how : ByteArray) : ∀ (n : Nat) (b : Bool) (s : FD), Top (onL ws how n b s).p = Top s.p
  | 0, _, _ => rfl
  | n + 1, b, s => by
    rw [onL]
    split
    · exact (onL_top ws how n false _).trans (stF_top ws how s)
    · rfl
theorem on2_top (ws : List W) (s : FD) : Top (on2 ws s) = Top s.p := by unfold on2 f1; split <;> rfl
theorem onP_top (ws : List W) (s : FD) : Top (onP ws s).p = Top s.p := (onL_top ws _ ws.length true (onS ws s)).trans (on2_top ws s)
theorem mp3_top (ws : List W) (p : PS) : Top (mp3 ws p) = Top p := by unfold mp3; split <;> rfl
theorem mpP_top (ws : List W) (s : FD) : Top (mpP ws s).p = Top s.p := (fdP_top ws _ _).trans ((kdP_top ws _).trans (mp3_top ws _))
theorem ptF_top (ws : List W) (s : FD) : Top (ptF ws s).p = Top s.p := by
  unfold ptF
  split
  · exact onP_top ws (incF s)
  · split
    · exact mpP_top ws (incF s)
    · split
      · exact stF_top ws _ (incF s)
      · exact stF_top ws _ s
theorem msL_top (ws : List W) : ∀ (n : Nat) (s : FD), Top (msL ws n s).p = Top s.p
  | 0, _ => rfl
  | n + 1, s => by
    rw [msL]
    split
    · exact (msL_top ws n _).trans (ptF_top ws s)
    · rfl
theorem ms3_top (ws : List W) (p : PS) : Top (ms3 ws p) = (p.names ++ [(nxW ws 1 ⟨#[]⟩ p).1], p.msgs, p.enums) := by
  unfold ms3 ms2
  split <;> rfl
theorem msE_top (ws : List W) (p : PS) : Top (msE ws p).p = (p.names ++ [(nxW ws 1 ⟨#[]⟩ p).1], p.msgs, p.enums) := (msL_top ws _ _).trans (ms3_top ws p)
theorem enV_top (ws : List W) (p : PS) (l : List ByteArray) : Top (enV ws p l) = Top p := by
  have h1 : Top (en1 ws p l) = Top p := by unfold en1; split <;> rfl
  unfold enV
  rw [nxP_top]
  split <;> exact h1
theorem enL_top (ws : List W) : ∀ (n : Nat) (p : PS) (l : List ByteArray), Top (enL ws n p l) = Top p
  | 0, _, _ => rfl
  | n + 1, p, l => by
    rw [enL]
    split
    · exact (enL_top ws n _ _).trans (enV_top ws p l)
    · rfl
theorem enP_top (ws : List W) (p : PS) : Top (enP ws p) = (p.names ++ [(nxW ws 1 ⟨#[]⟩ p).1], p.msgs, p.enums ++ [(nxW ws 1 ⟨#[]⟩ p).1]) := by
  refine (enL_top ws _ _ _).trans ?_
  unfold enS en0
  rw [nxP_top]
  split <;> rfl
theorem msP_top (ws : List W) (p : PS) : Top (msP ws p) = (p.names ++ [(nxW ws 1 ⟨#[]⟩ p).1], p.msgs ++ [⟨(nxW ws 1 ⟨#[]⟩ p).1, (msE ws p).nums⟩], p.enums) := by
  have h := msE_top ws p
  unfold Top at h
  injection h with h1 h2
  injection h2 with h2 h3
  show ((msE ws p).p.names, (msE ws p).p.msgs ++ [⟨(nxW ws 1 ⟨#[]⟩ p).1, (msE ws p).nums⟩], (msE ws p).p.enums) = _
  rw [h1, h2, h3]

end Go.Proofs.YtbbbegjedmicpaaGreatDoor
