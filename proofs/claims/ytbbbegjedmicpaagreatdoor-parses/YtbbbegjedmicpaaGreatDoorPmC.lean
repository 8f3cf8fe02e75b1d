import Derived.Test.YtbbbegjedmicpaaGreatDoorRefE
import Derived.Deep.AppendLies

/-
  THE DOCUMENT's SCHEMA IN MEMORY.
-/
namespace Go.Proofs.YtbbbegjedmicpaaGreatDoor
open Go.RowKit

def fldCells (f : Fld) : List Value := [.string f.name, .string f.ty, .string f.key, .string f.how, .int .i64 f.num]
theorem fldCells_len (f : Fld) : (fldCells f).length = 5 := rfl
/-- The fields of a message type, in blocks of a set. -/
def FdIn (w : World) (P : Nat → Prop) (v : Value) (fs : List Fld) : Prop := RowIn w P 145 5 v fs.length (fs.flatMap fldCells)
def MsIn (w : World) (P : Nat → Prop) : List Value → List MT → Prop
  | cs, [] => cs = []
  | cs, m :: ms => ∃ fv rest, cs = .string m.name :: fv :: rest ∧ FdIn w P fv m.fs ∧ MsIn w P rest ms
/-- A schema: in block sb. -/
structure SchAt (w : World) (P : Nat → Prop) (sb : Nat) (S : Sch) : Prop where
  at_ : ∃ mv ev cs, Blk w sb #[mv, ev] 77 ∧ P sb ∧ RowIn w P 90 2 mv S.ms.length cs ∧ MsIn w P cs S.ms ∧ RowIn w P 9 1 ev S.es.length (strCells S.es)

theorem FdIn.keep {w w' : World} {P : Nat → Prop} (hk : ∀ b, P b → b < w.heap.size → w'.heap[b]? = w.heap[b]?) {v : Value} {fs : List Fld} (h : FdIn w P v fs) : FdIn w' P v fs := RowIn.keep h hk
theorem MsIn.keep {w w' : World} {P : Nat → Prop} (hk : ∀ b, P b → b < w.heap.size → w'.heap[b]? = w.heap[b]?) : ∀ {ms : List MT} {cs : List Value}, MsIn w P cs ms → MsIn w' P cs ms
  | [], _, h => h
  | _ :: _, _, ⟨fv, rest, h1, h2, h3⟩ => ⟨fv, rest, h1, h2.keep hk, MsIn.keep hk h3⟩
theorem SchAt.keep {w w' : World} {P : Nat → Prop} {sb : Nat} {S : Sch} (h : SchAt w P sb S) (hk : ∀ b, P b → b < w.heap.size → w'.heap[b]? = w.heap[b]?) : SchAt w' P sb S := by
  obtain ⟨mv, ev, cs, h1, h2, h3, h4, h5⟩ := h.at_
  exact ⟨mv, ev, cs, (hk sb h2 h1.lt).trans h1, h2, h3.keep hk, h4.keep hk, h5.keep hk⟩
theorem SchAt.below {w w' : World} {P : Nat → Prop} {sb : Nat} {S : Sch} (h : SchAt w P sb S) (hb : Below w.heap.size w w') : SchAt w' P sb S := h.keep (fun b _ hl => hb.block b hl)
theorem FdIn.below {w w' : World} {P : Nat → Prop} {v : Value} {fs : List Fld} (h : FdIn w P v fs) (hb : Below w.heap.size w w') : FdIn w' P v fs := h.keep (fun b _ hl => hb.block b hl)
theorem MsIn.get {w : World} {P : Nat → Prop} : ∀ {l : List MT} {cs : List Value}, MsIn w P cs l → ∀ {i : Nat} {m : MT}, l[i]? = some m →
    ∃ fv, FdIn w P fv m.fs ∧ cs[i * 2]? = some (.string m.name) ∧ cs[i * 2 + 1]? = some fv
  | [], _, _, i, v, h => by simp at h
  | x :: l, _, ⟨vv, rest, h1, h2, h3⟩, 0, v, h => by
    simp at h
    subst h
    subst h1
    exact ⟨vv, h2, rfl, rfl⟩
  | x :: l, _, ⟨vv, rest, h1, h2, h3⟩, i + 1, v, h => by
    obtain ⟨vv', q1, q2, q3⟩ := h3.get (i := i) (m := v) (by simpa using h)
    subst h1
    refine ⟨vv', q1, ?_, ?_⟩
    · rw [show (i + 1) * 2 = i * 2 + 2 from by omega]; exact q2
    · rw [show (i + 1) * 2 + 1 = (i * 2 + 1) + 2 from by omega]; exact q3
theorem FdIn.form {w : World} {P : Nat → Prop} {v : Value} {fs : List Fld} (h : FdIn w P v fs) : ∃ a c, v = .slice a fs.length c := by
  obtain ⟨a, n, c, rfl⟩ := ownsRow_form h.1
  rw [ownsRow_len h.1]
  exact ⟨a, c, rfl⟩
/-- A field in memory, cell by cell. -/
theorem FdIn.get {w : World} {P : Nat → Prop} {a : Option Addr} {c : Nat} {fs : List Fld} (h : FdIn w P (.slice a fs.length c) fs) {i : Nat} {f : Fld} (hf : fs[i]? = some f) :
    ∃ g, a = some ⟨g, 0, none⟩ ∧ P g ∧ g < w.heap.size ∧ ∀ w' : World, w'.heap[g]? = w.heap[g]? → w'.cell? ⟨g, i * 5, none⟩ = some (.string f.name) ∧ w'.cell? ⟨g, i * 5 + 1, none⟩ = some (.string f.ty) ∧
      w'.cell? ⟨g, i * 5 + 2, none⟩ = some (.string f.key) ∧ w'.cell? ⟨g, i * 5 + 3, none⟩ = some (.string f.how) ∧ w'.cell? ⟨g, i * 5 + 4, none⟩ = some (.int .i64 f.num) := by
  have hlt := gl hf
  obtain ⟨g, rfl, _, hgl, hcell⟩ := ownsRow_at h.1 (by omega)
  have hg := fun j hj => flat_get fldCells 5 fldCells_len fs i f hf j hj
  refine ⟨g, rfl, h.2 g rfl, hgl, fun w' hw => ⟨?_, ?_, ?_, ?_, ?_⟩⟩
  · exact hcell w' hw _ _ ((hg 0 (by omega)).trans rfl)
  · exact hcell w' hw _ _ ((hg 1 (by omega)).trans rfl)
  · exact hcell w' hw _ _ ((hg 2 (by omega)).trans rfl)
  · exact hcell w' hw _ _ ((hg 3 (by omega)).trans rfl)
  · exact hcell w' hw _ _ ((hg 4 (by omega)).trans rfl)

end Go.Proofs.YtbbbegjedmicpaaGreatDoor

/-
  THE REFERENCE: its reader in memory; the reader's state in plain terms.
-/
namespace Go.Proofs.YtbbbegjedmicpaaGreatDoor
open Go.RowKit

/-- Of what was there only the blocks of a set may have turned; the set has grown by new blocks alone. -/
structure Step (w : World) (S : Nat → Prop) (w' : World) (S' : Nat → Prop) : Prop where
  os : w'.os = w.os
  tape : w'.tape = w.tape
  output : w'.output = w.output
  size : w.heap.size ≤ w'.heap.size
  block : ∀ b, b < w.heap.size → ¬ S b → w'.heap[b]? = w.heap[b]?
  grow : ∀ b, S' b → S b ∨ w.heap.size ≤ b
theorem Step.refl (w : World) (S : Nat → Prop) : Step w S w S := ⟨rfl, rfl, rfl, Nat.le_refl _, fun _ _ _ => rfl, fun _ h => .inl h⟩
theorem Step.trans {a b c : World} {S T U : Nat → Prop} (h : Step a S b T) (k : Step b T c U) : Step a S c U :=
  ⟨k.os.trans h.os, k.tape.trans h.tape, k.output.trans h.output, Nat.le_trans h.size k.size,
    fun i hi hs => (k.block i (Nat.lt_of_lt_of_le hi h.size) (fun ht => (h.grow i ht).elim hs (fun x => by omega))).trans (h.block i hi hs),
    fun i hi => (k.grow i hi).elim (fun x => h.grow i x) (fun x => .inr (Nat.le_trans h.size x))⟩
theorem Step.below {a b c : World} {S T : Nat → Prop} (h : Step a S b T) (k : Below b.heap.size b c) : Step a S c T :=
  h.trans ⟨k.os, k.tape, k.output, k.size, fun i hi _ => k.block i hi, fun _ x => .inl x⟩
theorem Step.kept {a b c : World} {S T : Nat → Prop} {bs : List Nat} (h : Step a S b T) (k : Kept bs b c) (hs : ∀ x ∈ bs, T x) : Step a S c T :=
  h.trans ⟨k.os, k.tape, k.output, k.size, fun i hi hn => k.block i hi (fun hx => hn (hs i hx)), fun _ x => .inl x⟩
theorem Step.alloc {a b : World} {S T : Nat → Prop} (h : Step a S b T) (o : Obj) : Step a S (b.alloc o) T := h.below ((Below.refl _ _).alloc (Nat.le_refl _) o)
theorem Step.drew {a b : World} {S T : Nat → Prop} (h : Step a S b T) : Step a S b.drew T := h.below (Below.refl _ _).drew
theorem Step.drewN {a b : World} {S T : Nat → Prop} (h : Step a S b T) (n : Nat) : Step a S (b.drewN n) T := h.below (belowN (Below.refl _ _) n)
/-- More blocks that may turn. -/
theorem Step.more {a b : World} {S T : Nat → Prop} (h : Step a S b T) (E : Nat → Prop) : Step a (fun x => S x ∨ E x) b (fun x => T x ∨ E x) :=
  ⟨h.os, h.tape, h.output, h.size, fun i hi hn => h.block i hi (fun x => hn (.inl x)), fun i hi => hi.elim (fun x => (h.grow i x).elim (fun y => .inl (.inl y)) .inr) (fun x => .inl (.inr x))⟩
theorem Step.to_below {a b : World} {S T : Nat → Prop} {n : Nat} (h : Step a S b T) (hn : n ≤ a.heap.size) (hs : ∀ x, S x → n ≤ x) : Below n a b :=
  ⟨h.os, h.tape, h.output, h.size, fun i hi => h.block i (by omega) (fun x => by have := hs i x; omega)⟩
theorem Blk.step {w w1 : World} {S T : Nat → Prop} {b : Nat} {cs : Array Value} {ty : TypeId} (h : Blk w b cs ty) (hk : Step w S w1 T) (hn : ¬ S b) : Blk w1 b cs ty := (hk.block b h.lt hn).trans h
theorem Step.not {w w1 : World} {S T : Nat → Prop} {b : Nat} (hk : Step w S w1 T) (hb : b < w.heap.size) (hn : ¬ S b) : ¬ T b := fun x => (hk.grow b x).elim hn (fun y => by omega)
theorem Blk.ty {w : World} {b : Nat} {cs cs' : Array Value} {T T' : TypeId} (h : Blk w b cs T) (h' : Blk w b cs' T') : T = T' := by
  unfold Blk at h h'
  rw [h] at h'
  injection h' with h'
  injection h'
theorem ownsRow_blk {w : World} {lo : Nat} {T : TypeId} {k n : Nat} {v : Value} {xs : List Value} (h : w.ownsRow lo T k v n xs) {b : Nat} (hb : v.ownBlock = some b) : ∃ cs, Blk w b cs T := by
  rcases h.2 with ⟨rfl, _⟩ | ⟨g, cap, cur, rfl, _, h4, _⟩
  · cases hb
  · simp [Value.ownBlock] at hb; subst hb; exact ⟨cur, h4⟩

/-- The reader's state. -/
structure PS where
  i : Nat
  bad : Int
  wrong : Int
  used : List W
  names : List ByteArray
  msgs : List MT
  enums : List ByteArray
/-- Where it lies. -/
structure Mem where
  sb : Nat
  wv : Value
  uv : Value
  nv : Value
  mv : Value
  ev : Value
  fz : Nat → Prop
def Mem.D (M : Mem) (rb : Nat) (b : Nat) : Prop := b = rb ∨ b = M.sb ∨ M.uv.ownBlock = some b ∨ M.nv.ownBlock = some b ∨ M.mv.ownBlock = some b ∨ M.ev.ownBlock = some b ∨ M.fz b
structure RdAt (w : World) (rb : Nat) (M : Mem) (ws : List W) (p : PS) : Prop where
  rd : Blk w rb #[M.wv, .int .i64 p.i, .int .i64 p.bad, .int .i64 p.wrong, .pointer (some ⟨M.sb, 0, none⟩), M.uv, M.nv, .slice none 0 0] 79
  sc : Blk w M.sb #[M.mv, M.ev] 77
  hw : w.ownsRow 0 81 2 M.wv ws.length (ws.flatMap wcR)
  hu : w.ownsRow 0 81 2 M.uv p.used.length (p.used.flatMap wcR)
  hn : w.ownsRow 0 9 1 M.nv p.names.length (strCells p.names)
  he : w.ownsRow 0 9 1 M.ev p.enums.length (strCells p.enums)
  hm : ∃ cs, w.ownsRow 0 90 2 M.mv p.msgs.length cs ∧ MsIn w M.fz cs p.msgs
  wu : ∀ b, M.wv.ownBlock = some b → M.uv.ownBlock ≠ some b
  ne : ∀ b, M.nv.ownBlock = some b → M.ev.ownBlock ≠ some b
  fzt : ∀ b, M.fz b → ∃ cs, Blk w b cs 145

theorem RdAt.lt {w : World} {rb : Nat} {M : Mem} {ws : List W} {p : PS} (h : RdAt w rb M ws p) {b : Nat} (hb : M.D rb b) : b < w.heap.size := by
  rcases hb with rfl | rfl | hb | hb | hb | hb | hb
  · exact h.rd.lt
  · exact h.sc.lt
  · exact (h.hu.lt b hb).2
  · exact (h.hn.lt b hb).2
  · obtain ⟨cs, hm, _⟩ := h.hm; exact (hm.lt b hb).2
  · exact (h.he.lt b hb).2
  · obtain ⟨cs, K⟩ := h.fzt b hb; exact K.lt
theorem RdAt.keep {w w' : World} {rb : Nat} {M : Mem} {ws : List W} {p : PS} (h : RdAt w rb M ws p) (hk : ∀ b, b < w.heap.size → M.D rb b ∨ M.wv.ownBlock = some b → w'.heap[b]? = w.heap[b]?) : RdAt w' rb M ws p := by
  refine ⟨(hk _ h.rd.lt (.inl (.inl rfl))).trans h.rd, (hk _ h.sc.lt (.inl (.inr (.inl rfl)))).trans h.sc, ownsRow_keep h.hw fun b hb => hk b (h.hw.lt b hb).2 (.inr hb),
    ownsRow_keep h.hu fun b hb => hk b (h.hu.lt b hb).2 (.inl (.inr (.inr (.inl hb)))), ownsRow_keep h.hn fun b hb => hk b (h.hn.lt b hb).2 (.inl (.inr (.inr (.inr (.inl hb))))),
    ownsRow_keep h.he fun b hb => hk b (h.he.lt b hb).2 (.inl (.inr (.inr (.inr (.inr (.inr (.inl hb))))))), ?_, h.wu, h.ne, fun b hb => ?_⟩
  · obtain ⟨cs, hm, hc⟩ := h.hm
    exact ⟨cs, ownsRow_keep hm fun b hb => hk b (hm.lt b hb).2 (.inl (.inr (.inr (.inr (.inr (.inl hb)))))), hc.keep fun b hb hl => hk b hl (.inl (.inr (.inr (.inr (.inr (.inr (.inr hb)))))))⟩
  · obtain ⟨cs, K⟩ := h.fzt b hb
    exact ⟨cs, (hk b K.lt (.inl (.inr (.inr (.inr (.inr (.inr (.inr hb)))))))).trans K⟩
theorem RdAt.below {w w' : World} {rb : Nat} {M : Mem} {ws : List W} {p : PS} (h : RdAt w rb M ws p) (hk : Below w.heap.size w w') : RdAt w' rb M ws p := h.keep fun b hb _ => hk.block b hb
theorem RdAt.alloc {w : World} {rb : Nat} {M : Mem} {ws : List W} {p : PS} (h : RdAt w rb M ws p) (o : Obj) : RdAt (w.alloc o) rb M ws p := h.below ((Below.refl _ _).alloc (Nat.le_refl _) o)
theorem RdAt.drew {w : World} {rb : Nat} {M : Mem} {ws : List W} {p : PS} (h : RdAt w rb M ws p) : RdAt w.drew rb M ws p := h.below (Below.refl _ _).drew
theorem RdAt.drewN {w : World} {rb : Nat} {M : Mem} {ws : List W} {p : PS} (h : RdAt w rb M ws p) (n : Nat) : RdAt (w.drewN n) rb M ws p := h.below (belowN (Below.refl _ _) n)
/-- The words' row is none of what turns. -/
theorem RdAt.wv_not {w : World} {rb : Nat} {M : Mem} {ws : List W} {p : PS} (h : RdAt w rb M ws p) {b : Nat} (hb : M.wv.ownBlock = some b) : ¬ M.D rb b := by
  obtain ⟨cs, K⟩ := ownsRow_blk h.hw hb
  rintro (rfl | rfl | hx | hx | hx | hx | hx)
  · exact absurd (K.ty h.rd) (by decide)
  · exact absurd (K.ty h.sc) (by decide)
  · exact h.wu b hb hx
  · obtain ⟨cs2, K2⟩ := ownsRow_blk h.hn hx; exact absurd (K.ty K2) (by decide)
  · obtain ⟨cs, hm, _⟩ := h.hm; obtain ⟨cs2, K2⟩ := ownsRow_blk hm hx; exact absurd (K.ty K2) (by decide)
  · obtain ⟨cs2, K2⟩ := ownsRow_blk h.he hx; exact absurd (K.ty K2) (by decide)
  · obtain ⟨cs2, K2⟩ := h.fzt b hx; exact absurd (K.ty K2) (by decide)
/-- The reader's own numbers have turned. -/
theorem RdAt.turn {w w' : World} {rb : Nat} {M : Mem} {ws : List W} {p : PS} (h : RdAt w rb M ws p) (hk : Kept [rb] w w') {i : Nat} {bad wrong : Int}
    (hr : Blk w' rb #[M.wv, .int .i64 i, .int .i64 bad, .int .i64 wrong, .pointer (some ⟨M.sb, 0, none⟩), M.uv, M.nv, .slice none 0 0] 79) : RdAt w' rb M ws { p with i := i, bad := bad, wrong := wrong } := by
  have hne : ∀ {b : Nat} {cs : Array Value} {T : TypeId}, Blk w b cs T → T ≠ 79 → w'.heap[b]? = w.heap[b]? := fun {b cs T} K hT => hk.block b K.lt (by
    intro hx
    rw [List.mem_singleton] at hx
    subst hx
    exact hT (K.ty h.rd))
  have hrow : ∀ {T : TypeId} {k n : Nat} {v : Value} {xs : List Value}, w.ownsRow 0 T k v n xs → T ≠ 79 → w'.ownsRow 0 T k v n xs := fun {T k n v xs} hh hT => ownsRow_keep hh fun b hb => by
    obtain ⟨cs, K⟩ := ownsRow_blk hh hb
    exact hne K hT
  refine ⟨hr, (hne h.sc (by decide)).trans h.sc, hrow h.hw (by decide), hrow h.hu (by decide), hrow h.hn (by decide), hrow h.he (by decide), ?_, h.wu, h.ne, fun b hb => ?_⟩
  · obtain ⟨cs, hm, hc⟩ := h.hm
    refine ⟨cs, hrow hm (by decide), hc.keep fun b hb _ => ?_⟩
    obtain ⟨c2, K⟩ := h.fzt b hb
    exact hne K (by decide)
  · obtain ⟨c2, K⟩ := h.fzt b hb
    exact ⟨c2, (hne K (by decide)).trans K⟩
theorem Step.rb {w w' : World} {rb : Nat} {M : Mem} (h : Kept [rb] w w') : Step w (M.D rb) w' (M.D rb) := (Step.refl _ _).kept h (fun x hx => by rw [List.mem_singleton] at hx; exact .inl hx)

/-- The word at hand; the reader's own functions. -/
def hand (ws : List W) (p : PS) : W := ws.getD p.i (⟨#[]⟩, 0)
theorem hand_get {ws : List W} {p : PS} (h : p.i < ws.length) : ws[p.i]? = some (hand ws p) := by
  unfold hand
  rw [List.getD_eq_getElem?_getD, List.getElem?_eq_getElem h]; rfl
def nxW (ws : List W) (so : Int) (s : ByteArray) (p : PS) : W := nextW so s (hand ws p)
def nxP (ws : List W) (so : Int) (s : ByteArray) (p : PS) : PS := { p with i := nextI so s (hand ws p) p.i, bad := nextB so s (hand ws p) p.bad }
def wrP (x : W) (p : PS) : PS := { p with wrong := wrongI p.wrong x.2 }
def lgP (x : W) (p : PS) : PS := { p with wrong := longI p.wrong x }
def atP (ws : List W) (s : ByteArray) (p : PS) : Bool := decide (p.bad < 0) && (hand ws p).1.toList == s.toList

/-- A list of words: only the last has no text. -/
structure WsR (ws : List W) : Prop where
  len : ws.length ≤ 2001
  last : ∀ (k : Nat) (x : W), ws[k]? = some x → 0 < x.1.size → k + 1 < ws.length
  size : ∀ (k : Nat) (x : W), ws[k]? = some x → x.1.size ≤ 2000
theorem sortOK_pos {so : Int} {s x : ByteArray} (h : sortOK so s x = true) : 0 < x.size := by
  rcases Nat.eq_zero_or_pos x.size with h0 | h0
  · exfalso
    have hk : kindW x = 4 := by unfold kindW; rw [if_pos h0]
    have hl : x.toList = [] := by have := size_list x; rw [h0] at this; simpa using this
    unfold sortOK at h
    split at h
    · rw [hl] at h
      cases hs : s.toList with
      | nil => rw [hs] at h; simp at h
      | cons a l => rw [hs] at h; simp at h
    · rw [hk] at h
      split at h
      · simp at h
      · split at h <;> simp at h
  · exact h0
theorem nxP_lt {ws : List W} (H : WsR ws) {p : PS} (h : p.i < ws.length) (so : Int) (s : ByteArray) : (nxP ws so s p).i < ws.length := by
  show nextI so s (hand ws p) p.i < ws.length
  unfold nextI
  split
  · next hs => exact H.last _ _ (hand_get h) (sortOK_pos hs)
  · exact h

theorem r21 {w : World} {rb : Nat} {M : Mem} {ws : List W} {p : PS} (h : RdAt w rb M ws p) (x : W) :
    Calls Tryz.prog 26 #[.pointer (some ⟨rb, 0, none⟩), wv2 x] w fun e w' => e = .returned (.tuple #[]) ∧ RdAt w' rb M ws (wrP x p) ∧ Step w (M.D rb) w' (M.D rb) := by
  refine (c21 w rb _ _ _ _ _ _ _ _ x.1 x.2 h.rd).mono ?_
  rintro e w' ⟨rfl, K, k⟩
  exact ⟨rfl, h.turn k K, Step.rb k⟩
theorem r33 {w : World} {rb : Nat} {M : Mem} {ws : List W} {p : PS} (h : RdAt w rb M ws p) (x : W) :
    Calls Tryz.prog 46 #[.pointer (some ⟨rb, 0, none⟩), wv2 x] w fun e w' => e = .returned (.tuple #[]) ∧ RdAt w' rb M ws (lgP x p) ∧ Step w (M.D rb) w' (M.D rb) := by
  refine (c33 w rb _ _ _ _ _ _ _ _ x.1 x.2 h.rd).mono ?_
  rintro e w' ⟨rfl, K, k⟩
  exact ⟨rfl, h.turn k K, Step.rb k⟩
theorem r32 {w : World} {rb : Nat} {M : Mem} {ws : List W} {p : PS} (h : RdAt w rb M ws p) (H : WsR ws) (hi : p.i < ws.length) (so : Int) (hso : so = 0 ∨ so = 1 ∨ so = 2 ∨ so = 3) (s : ByteArray) :
    Calls Tryz.prog 45 #[.pointer (some ⟨rb, 0, none⟩), .int .i64 so, .string s] w fun e w' => e = .returned (wv2 (nxW ws so s p)) ∧ RdAt w' rb M ws (nxP ws so s p) ∧ Step w (M.D rb) w' (M.D rb) := by
  refine (c32 w rb _ _ _ _ _ _ _ _ _ ws (hand ws p) so hso s H.len h.rd h.hw (hand_get hi)).mono ?_
  rintro e w' ⟨rfl, K, k⟩
  exact ⟨rfl, h.turn k K, Step.rb k⟩
theorem r34 {w : World} {rb : Nat} {M : Mem} {ws : List W} {p : PS} (h : RdAt w rb M ws p) (hi : p.i < ws.length) (s : ByteArray) :
    Calls Tryz.prog 47 #[.pointer (some ⟨rb, 0, none⟩), .string s] w fun e w' => e = .returned (.bool (atP ws s p)) ∧ Below w.heap.size w w' := by
  exact c34 w rb _ _ _ _ _ _ _ _ _ ws (hand ws p) s h.rd h.hw (hand_get hi)

end Go.Proofs.YtbbbegjedmicpaaGreatDoor

/-
  THE REFERENCE, CONTRACT: kind.
-/
namespace Go.Proofs.YtbbbegjedmicpaaGreatDoor
open Go.RowKit

/-- A type is read. -/
def kdW (ws : List W) (p : PS) : W := nxW ws 3 ⟨#[]⟩ p
def kdP (ws : List W) (p : PS) : PS :=
  if kindW (kdW ws p).1 == 1 then { lgP (kdW ws p) (nxP ws 3 ⟨#[]⟩ p) with used := p.used ++ [kdW ws p] } else nxP ws 3 ⟨#[]⟩ p

/-- A type's word is put to those that were used. -/
theorem RdAt.use {w w' : World} {rb : Nat} {M : Mem} {ws : List W} {p : PS} (h : RdAt w rb M ws p) {x : W} {v : Value} (hg : w.grownBy w' M.uv.ownBlock) (hr : w'.ownsRow 0 81 2 v (p.used.length + 1) (p.used.flatMap wcR ++ wcR x)) (hf : ∀ b, v.ownBlock = some b → M.uv.ownBlock = some b ∨ w.heap.size ≤ b) :
    RdAt (w'.setCell ⟨rb, 5, none⟩ v) rb { M with uv := v } ws { p with used := p.used ++ [x] } ∧ Step w (M.D rb) (w'.setCell ⟨rb, 5, none⟩ v) (({ M with uv := v } : Mem).D rb) := by
  have hne : ∀ {b : Nat} {cs : Array Value} {T : TypeId}, Blk w b cs T → T ≠ 81 → Blk w' b cs T := fun {b cs T} K hT => K.grown hg (by
    intro hx
    obtain ⟨cs2, K2⟩ := ownsRow_blk h.hu hx.symm
    exact hT (K.ty K2))
  have h60 : Blk w' rb _ 79 := hne h.rd (by decide)
  have hz : ∀ {b : Nat} {cs : Array Value} {T : TypeId}, Blk w' b cs T → T ≠ 79 → Blk (w'.setCell ⟨rb, 5, none⟩ v) b cs T := fun {b cs T} K hT => K.other _ _ (by rintro rfl; exact hT (K.ty h60))
  have hrow : ∀ {T : TypeId} {k n : Nat} {u : Value} {xs : List Value}, w.ownsRow 0 T k u n xs → T ≠ 79 → (∀ b, u.ownBlock = some b → M.uv.ownBlock ≠ some b) → (w'.setCell ⟨rb, 5, none⟩ v).ownsRow 0 T k u n xs := fun {T k n u xs} hh hT hd => ownsRow_keep hh fun b hb => by
    obtain ⟨cs, K⟩ := ownsRow_blk hh hb
    exact (hz (K.grown hg (fun e => hd b hb e.symm)) hT).trans K.symm
  have hd : ∀ {T : TypeId} {k n : Nat} {u : Value} {xs : List Value}, w.ownsRow 0 T k u n xs → T ≠ 81 → (∀ b, u.ownBlock = some b → M.uv.ownBlock ≠ some b) := fun {T k n u xs} hh hT b hb hx => by
    obtain ⟨cs, K⟩ := ownsRow_blk hh hb
    obtain ⟨cs2, K2⟩ := ownsRow_blk h.hu hx
    exact hT (K.ty K2)
  refine ⟨⟨h60.set 5 v, hz (hne h.sc (by decide)) (by decide), hrow h.hw (by decide) h.wu, ?_, hrow h.hn (by decide) (hd h.hn (by decide)), hrow h.he (by decide) (hd h.he (by decide)), ?_, ?_, h.ne, fun b hb => (h.fzt b hb).imp fun _ K => hz (hne K (by decide)) (by decide)⟩, ?_⟩
  · have : (w'.setCell ⟨rb, 5, none⟩ v).ownsRow 0 81 2 v (p.used.length + 1) (p.used.flatMap wcR ++ wcR x) := ownsRow_keep hr fun b hb => by
      obtain ⟨cs, K⟩ := ownsRow_blk hr hb
      exact (hz K (by decide)).trans K.symm
    simpa using this
  · obtain ⟨cs, hm, hc⟩ := h.hm
    refine ⟨cs, hrow hm (by decide) (hd hm (by decide)), hc.keep fun b hb _ => ?_⟩
    obtain ⟨c2, K⟩ := h.fzt b hb
    exact (hz (hne K (by decide)) (by decide)).trans K.symm
  · intro b hb hx
    rcases hf b hx with h1 | h1
    · exact h.wu b hb h1
    · have := (h.hw.lt b hb).2; omega
  · refine ⟨hg.os, hg.tape, hg.output, by simpa [World.setCell] using hg.size, fun b hb hn => ?_, fun b hb => ?_⟩
    · rw [Below.heap_setCell _ _ _ _ (fun e => hn (.inl e))]
      exact hg.block b hb (fun e => hn (.inr (.inr (.inl e.symm))))
    · rcases hb with h1 | h1 | h1 | h1 | h1 | h1
      · exact .inl (.inl h1)
      · exact .inl (.inr (.inl h1))
      · rcases hf b h1 with h2 | h2
        · exact .inl (.inr (.inr (.inl h2)))
        · exact .inr h2
      · exact .inl (.inr (.inr (.inr (.inl h1))))
      · exact .inl (.inr (.inr (.inr (.inr (.inl h1)))))
      · exact .inl (.inr (.inr (.inr (.inr (.inr h1)))))

set_option maxHeartbeats 268435456 in
set_option maxRecDepth 100000 in
theorem r38 {w : World} {rb : Nat} {M : Mem} {ws : List W} {p : PS} (h : RdAt w rb M ws p) (H : WsR ws) (hi : p.i < ws.length) (hu : p.used.length ≤ 2001) :
    Calls Tryz.prog 51 #[.pointer (some ⟨rb, 0, none⟩)] w fun e w' => e = .returned (.string (kdW ws p).1) ∧ ∃ M', RdAt w' rb M' ws (kdP ws p) ∧ Step w (M.D rb) w' (M'.D rb) := by
  obtain ⟨i0, hi0, hz0, hz1, hz2⟩ := info_parts Tryz.info81
  obtain ⟨x, hx⟩ : ∃ x, kdW ws p = x := ⟨_, rfl⟩
  have HX : Hid (kdW ws p = x) := hx
  clear hx
  go_enter Tryz.func51, Tryz.ntmps51
  go_wp2_with fail
  refine (r32 h H hi 3 (by omega) ⟨#[]⟩).mono ?_
  rintro e w1 ⟨rfl, h1, st1⟩
  have e1 : nxW ws 3 ⟨#[]⟩ p = x := HX.out
  rw [e1]
  unfold wv2
  have KW := Blk.new w1 #[.string x.1, .int .i64 x.2] 81
  have h2 := h1.alloc (Obj.cells #[.string x.1, .int .i64 x.2] 81)
  have st2 := st1.alloc (Obj.cells #[.string x.1, .int .i64 x.2] 81)
  have hw1 : ¬ M.D rb w1.heap.size := fun hb => by have := h1.lt hb; omega
  clear h1 st1
  go_wp2_with fail
  refine (c51 _ x.1).mono ?_
  rintro e w3 ⟨rfl, hb3⟩
  replace h2 := h2.below hb3
  replace st2 := st2.below hb3
  replace KW := KW.below hb3 KW.lt
  clear hb3
  obtain ⟨m1, m2⟩ := KW.rules
  cases hk : (kindW x.1 == 1)
  · have HP : Hid (kdP ws p = nxP ws 3 ⟨#[]⟩ p) := by unfold kdP; rw [HX.out, hk]; rfl
    go_wp2
    go_ret
    exact ⟨by rw [HX.out]; rfl, M, by rw [HP.out]; exact h2, st2⟩
  · have HP : Hid (kdP ws p = { lgP x (nxP ws 3 ⟨#[]⟩ p) with used := p.used ++ [x] }) := by unfold kdP; rw [HX.out, hk]; rfl
    go_wp2_with fail
    clear m1 m2
    refine (r33 h2 x).mono ?_
    rintro e w4 ⟨rfl, h4, st4⟩
    replace KW := KW.step st4 hw1
    have st5 := st2.trans st4
    clear st2 st4 h2
    obtain ⟨m1, m2⟩ := KW.rules
    obtain ⟨ua, un, uc, hue⟩ := ownsRow_form h4.hu
    have hrd := h4.rd
    rw [hue] at hrd
    obtain ⟨n1, n2⟩ := hrd.rules
    have hru := h4.hu
    rw [hue] at hru
    have hub : ∀ b, (Value.slice ua un uc).ownBlock = some b → b ≠ rb := fun b hb e => by
      subst e
      obtain ⟨cs, K2⟩ := ownsRow_blk hru hb
      exact absurd (K2.ty h4.rd) (by decide)
    have HO : Hid (some rb ≠ (Value.slice ua un uc).ownBlock) := fun e => hub rb e.symm rfl
    clear hub
    obtain ⟨o1, o2⟩ := (hrd.alloc (Obj.cells #[.string x.1, .int .i64 x.2] 81)).rules
    go_wp2_with fail
    go_cut [] from 14 to 23 (fun wr => ∃ M', RdAt wr rb M' ws (kdP ws p) ∧ Step w (M.D rb) wr (M'.D rb) ∧ Blk wr w1.heap.size #[.string x.1, .int .i64 x.2] 81)
    case first =>
      go_region_law (first | (refine step_append_lies _ (by rfl) _ _ _ (by rfl) 0 81 i0 _ 2 24 Tryz.underlying73 hi0 hz0 hz1 hz2 rfl (by omega) (.slice ua un uc) p.used.length (p.used.flatMap wcR) (by rfl) (hru.alloc _) ⟨w4.heap.size, 0, none⟩ 1 1 [_, _] (by rfl) (by rfl) (World.news_of_block (t := 81) (fr := (0, 0)) (heap_alloc_new w4 _)) (by simp [Value.oneCell']) (by omega) (by unfold maxLen; omega) (by omega) (by omega) (w4.heap.size + 1) (by simp) ?_; intro gg cap w5 hown1 hgrow hat hlt; obtain ⟨x1, x2⟩ := ((hrd.alloc _).drew.grown hgrow HO.out).rules))
      all_goals
        go_wp2
        go_meet
        case rel =>
          have h5 := (h4.alloc (Obj.cells #[.string x.1, .int .i64 x.2] 81)).drew
          obtain ⟨hR, hS⟩ := h5.use (x := x) (w' := w5) (by rw [hue]; exact hgrow) hown1 (fun b hb => by
            have hbg : gg = b := by simpa [Value.ownBlock] using hb
            subst hbg
            rcases hat with h1 | h1
            · left; rw [hue]; exact h1
            · right; simp; omega)
          exact ⟨_, by rw [HP.out]; exact hR, (st5.alloc _).drew.trans hS, (KW.alloc _).drew.step hS hw1⟩
    case rest =>
      obtain ⟨M', hR, hS, KW2⟩ := hcut
      clear m1 m2 n1 n2 o1 o2
      obtain ⟨m1, m2⟩ := KW2.rules
      go_wp2
      go_ret
      exact ⟨by rw [HX.out]; rfl, M', hR, hS⟩

end Go.Proofs.YtbbbegjedmicpaaGreatDoor

/-
  THE REFERENCE: a message that is being read, in memory.
-/
namespace Go.Proofs.YtbbbegjedmicpaaGreatDoor
open Go.RowKit

/-- The message's blocks. -/
def LocE (mb : Nat) (fv nl : Value) (b : Nat) : Prop := b = mb ∨ fv.ownBlock = some b ∨ nl.ownBlock = some b
structure LocAt (w : World) (rb : Nat) (M : Mem) (mb : Nat) (mn : ByteArray) (fv nl : Value) (nums : List Fld) (names : List ByteArray) : Prop where
  mblk : Blk w mb #[.string mn, fv] 90
  fr : w.ownsRow 0 145 5 fv nums.length (nums.flatMap fldCells)
  nr : w.ownsRow 0 9 1 nl names.length (strCells names)
  sep : ∀ b, LocE mb fv nl b → ¬ M.D rb b

section
variable {w w' : World} {rb : Nat} {M M' : Mem} {ws : List W} {p : PS} {mb : Nat} {mn : ByteArray} {fv nl : Value} {nums : List Fld} {names : List ByteArray}

theorem LocAt.lt (h : LocAt w rb M mb mn fv nl nums names) {b : Nat} (hb : LocE mb fv nl b) : b < w.heap.size := by
  rcases hb with rfl | hb | hb
  · exact h.mblk.lt
  · exact (h.fr.lt b hb).2
  · exact (h.nr.lt b hb).2
theorem LocAt.keep (h : LocAt w rb M mb mn fv nl nums names) (hk : ∀ b, b < w.heap.size → LocE mb fv nl b → w'.heap[b]? = w.heap[b]?) (hs : ∀ b, LocE mb fv nl b → ¬ M'.D rb b) : LocAt w' rb M' mb mn fv nl nums names := by
  exact ⟨(hk _ h.mblk.lt (.inl rfl)).trans h.mblk, ownsRow_keep h.fr fun b hb => hk b (h.fr.lt b hb).2 (.inr (.inl hb)), ownsRow_keep h.nr fun b hb => hk b (h.nr.lt b hb).2 (.inr (.inr hb)), hs⟩
/-- .. while the reader goes on. -/
theorem LocAt.step (h : LocAt w rb M mb mn fv nl nums names) (st : Step w (M.D rb) w' (M'.D rb)) : LocAt w' rb M' mb mn fv nl nums names :=
  h.keep (fun b hb he => st.block b hb (h.sep b he)) (fun b he => st.not (h.lt he) (h.sep b he))
theorem LocAt.below (h : LocAt w rb M mb mn fv nl nums names) (hb : Below w.heap.size w w') : LocAt w' rb M mb mn fv nl nums names :=
  h.keep (fun b hb2 _ => hb.block b hb2) h.sep
theorem LocAt.alloc (h : LocAt w rb M mb mn fv nl nums names) (o : Obj) : LocAt (w.alloc o) rb M mb mn fv nl nums names := h.below ((Below.refl _ _).alloc (Nat.le_refl _) o)
theorem LocAt.drew (h : LocAt w rb M mb mn fv nl nums names) : LocAt w.drew rb M mb mn fv nl nums names := h.below (Below.refl _ _).drew
theorem LocAt.drewN (h : LocAt w rb M mb mn fv nl nums names) (n : Nat) : LocAt (w.drewN n) rb M mb mn fv nl nums names := h.below (belowN (Below.refl _ _) n)
theorem LocAt.ty (h : LocAt w rb M mb mn fv nl nums names) {b : Nat} (hb : LocE mb fv nl b) : ∃ cs T, Blk w b cs T ∧ (T = 90 ∨ T = 145 ∨ T = 9) := by
  rcases hb with rfl | hb | hb
  · exact ⟨_, _, h.mblk, .inl rfl⟩
  · obtain ⟨c2, K⟩ := ownsRow_blk h.fr hb; exact ⟨_, _, K, .inr (.inl rfl)⟩
  · obtain ⟨c2, K⟩ := ownsRow_blk h.nr hb; exact ⟨_, _, K, .inr (.inr rfl)⟩
/-- The reader, while the message's blocks turn. -/
theorem RdAt.loc (h : RdAt w rb M ws p) (l : LocAt w rb M mb mn fv nl nums names) (hk : ∀ b, b < w.heap.size → ¬ LocE mb fv nl b → w'.heap[b]? = w.heap[b]?) : RdAt w' rb M ws p := by
  refine h.keep fun b hb hd => hk b hb fun he => ?_
  rcases hd with hd | hd
  · exact l.sep b he hd
  · obtain ⟨cs, T, K, hT⟩ := l.ty he
    obtain ⟨c2, K2⟩ := ownsRow_blk h.hw hd
    have := K.ty K2
    subst this
    rcases hT with hT | hT | hT <;> exact absurd hT (by decide)
/-- The reader's steps, as steps of both. -/
theorem Step.both (st : Step w (M.D rb) w' (M'.D rb)) (mb : Nat) (fv nl : Value) : Step w (fun b => M.D rb b ∨ LocE mb fv nl b) w' (fun b => M'.D rb b ∨ LocE mb fv nl b) := st.more _

theorem LocAt.fr2 (h : LocAt w rb M mb mn fv nl nums names) : ∃ cs, w.ownsRow 0 145 5 fv nums.length cs ∧ Hid (cs = nums.flatMap fldCells) := ⟨_, h.fr, rfl⟩
theorem fld_num {m : Fld} : ∀ {l : List Fld} {k : Nat}, l[k]? = some m → (l.flatMap fldCells)[k * 5 + 4]? = some (.int .i64 m.num)
  | x :: l, 0, h => by
    simp only [List.getElem?_cons_zero, Option.some.injEq] at h
    subst h
    rfl
  | x :: l, k + 1, h => by
    simp only [List.getElem?_cons_succ] at h
    have q := fld_num (k := k) h
    rw [List.flatMap_cons, List.getElem?_append_right (by rw [fldCells_len]; omega), fldCells_len, show (k + 1) * 5 + 4 - 5 = k * 5 + 4 from by omega]
    exact q
/-- A field is put to the message's. -/
theorem LocAt.field (l : LocAt w rb M mb mn fv nl nums names) (h : RdAt w rb M ws p) {v : Value} (x : Fld) (hg : w.grownBy w' fv.ownBlock) {cs : List Value} (hf : Hid (cs = nums.flatMap fldCells))
    (hr : w'.ownsRow 0 145 5 v (nums.length + 1) (cs ++ fldCells x)) (hn : ∀ b, v.ownBlock = some b → fv.ownBlock = some b ∨ w.heap.size ≤ b) :
    RdAt (w'.setCell ⟨mb, 1, none⟩ v) rb M ws p ∧ LocAt (w'.setCell ⟨mb, 1, none⟩ v) rb M mb mn v nl (nums ++ [x]) names ∧ Step w (fun b => M.D rb b ∨ LocE mb fv nl b) (w'.setCell ⟨mb, 1, none⟩ v) (fun b => M.D rb b ∨ LocE mb v nl b) := by
  have hf := hf.out
  subst hf
  have hfr := l.fr
  have hblk : ∀ b, b < w.heap.size → ¬ LocE mb fv nl b → (w'.setCell ⟨mb, 1, none⟩ v).heap[b]? = w.heap[b]? := fun b hb hx => by
    rw [Below.heap_setCell _ _ _ _ (fun e => hx (.inl e))]
    exact hg.block b hb (fun e => hx (.inr (.inl e.symm)))
  have hmb : Blk w' mb #[.string mn, fv] 90 := l.mblk.grown hg (fun e => by
    obtain ⟨c2, K2⟩ := ownsRow_blk hfr e.symm
    exact absurd (l.mblk.ty K2) (by decide))
  refine ⟨h.loc l hblk, ⟨hmb.set 1 v, ?_, ownsRow_keep l.nr fun b hb => ?_, fun b he => ?_⟩, ⟨hg.os, hg.tape, hg.output, by simpa [World.setCell] using hg.size, fun b hb hx => hblk b hb (fun e => hx (.inr e)), fun b hb => ?_⟩⟩
  · have q : (w'.setCell ⟨mb, 1, none⟩ v).ownsRow 0 145 5 v (nums.length + 1) (nums.flatMap fldCells ++ fldCells x) := by
      refine ownsRow_keep hr fun b hb => Below.heap_setCell _ _ _ _ (fun e => ?_)
      subst e
      obtain ⟨c2, K2⟩ := ownsRow_blk hr hb
      exact absurd (hmb.ty K2) (by decide)
    simpa using q
  · obtain ⟨c2, K2⟩ := ownsRow_blk l.nr hb
    rw [Below.heap_setCell _ _ _ _ (fun e => ?_)]
    · refine hg.block b K2.lt (fun e => ?_)
      obtain ⟨c3, K3⟩ := ownsRow_blk hfr e.symm
      exact absurd (K2.ty K3) (by decide)
    · have e2 : b = mb := e
      subst e2
      exact absurd (K2.ty l.mblk) (by decide)
  · rcases he with he | he | he
    · exact l.sep b (.inl he)
    · rcases hn b he with h1 | h1
      · exact l.sep b (.inr (.inl h1))
      · intro hd; have := h.lt hd; omega
    · exact l.sep b (.inr (.inr he))
  · rcases hb with hb | hb | hb | hb
    · exact .inl (.inl hb)
    · exact .inl (.inr (.inl hb))
    · rcases hn b hb with h1 | h1
      · exact .inl (.inr (.inr (.inl h1)))
      · exact .inr h1
    · exact .inl (.inr (.inr (.inr hb)))

/-- A name is put to the message's. -/
theorem LocAt.name (l : LocAt w rb M mb mn fv nl nums names) (h : RdAt w rb M ws p) {v : Value} {x : ByteArray} (hg : w.grownBy w' nl.ownBlock)
    (hr : w'.ownsRow 0 9 1 v (names.length + 1) (strCells names ++ [.string x])) (hn : ∀ b, v.ownBlock = some b → nl.ownBlock = some b ∨ w.heap.size ≤ b) :
    RdAt w' rb M ws p ∧ LocAt w' rb M mb mn fv v nums (names ++ [x]) ∧ Step w (fun b => M.D rb b ∨ LocE mb fv nl b) w' (fun b => M.D rb b ∨ LocE mb fv v b) := by
  have hblk : ∀ b, b < w.heap.size → ¬ LocE mb fv nl b → w'.heap[b]? = w.heap[b]? := fun b hb hx => hg.block b hb (fun e => hx (.inr (.inr e.symm)))
  refine ⟨h.loc l hblk, ⟨l.mblk.grown hg (fun e => ?_), ?_, ?_, fun b he => ?_⟩, ⟨hg.os, hg.tape, hg.output, hg.size, fun b hb hx => hblk b hb (fun e => hx (.inr e)), fun b hb => ?_⟩⟩
  · obtain ⟨c2, K2⟩ := ownsRow_blk l.nr e.symm
    exact absurd (l.mblk.ty K2) (by decide)
  · refine ownsRow_keep l.fr fun b hb => ?_
    obtain ⟨c2, K2⟩ := ownsRow_blk l.fr hb
    refine hg.block b K2.lt (fun e => ?_)
    obtain ⟨c3, K3⟩ := ownsRow_blk l.nr e.symm
    exact absurd (K2.ty K3) (by decide)
  · simpa [strCells] using hr
  · rcases he with he | he | he
    · exact l.sep b (.inl he)
    · exact l.sep b (.inr (.inl he))
    · rcases hn b he with h1 | h1
      · exact l.sep b (.inr (.inr h1))
      · intro hd; have := h.lt hd; omega
  · rcases hb with hb | hb | hb | hb
    · exact .inl (.inl hb)
    · exact .inl (.inr (.inl hb))
    · exact .inl (.inr (.inr (.inl hb)))
    · rcases hn b hb with h1 | h1
      · exact .inl (.inr (.inr (.inr h1)))
      · exact .inr h1
end

/-- A field's name and number, in plain terms. -/
structure FD where
  p : PS
  nums : List Fld
  names : List ByteArray
def memI (l : List Int) (n : Int) : Bool := l.any fun x => x == n
def numW (nums : List Int) (n : Int) : Bool := (decide (n < 1) || decide (536870911 < n)) || memI nums n
def f1 (ws : List W) (s : FD) : PS := lgP (nxW ws 1 ⟨#[]⟩ s.p) (nxP ws 1 ⟨#[]⟩ s.p)
def f2 (ws : List W) (s : FD) : PS := if memS s.names (nxW ws 1 ⟨#[]⟩ s.p).1 || decide (12 ≤ s.nums.length) then wrP (nxW ws 1 ⟨#[]⟩ s.p) (f1 ws s) else f1 ws s
def f3 (ws : List W) (s : FD) : PS := nxP ws 0 ⟨#[61]⟩ (f2 ws s)
def f5 (ws : List W) (s : FD) : PS := nxP ws 0 ⟨#[59]⟩ (nxP ws 2 ⟨#[]⟩ (f3 ws s))
/-- Of a field: its type, its key's, how it is there. -/
abbrev T3 := ByteArray × ByteArray × ByteArray
def fdP (ws : List W) (t : T3) (s : FD) : FD :=
  { p := if numW (s.nums.map Fld.num) (valI (nxW ws 2 ⟨#[]⟩ (f3 ws s)).1) then wrP (nxW ws 2 ⟨#[]⟩ (f3 ws s)) (f5 ws s) else f5 ws s
    nums := s.nums ++ [⟨(nxW ws 1 ⟨#[]⟩ s.p).1, t.1, t.2.1, t.2.2, valI (nxW ws 2 ⟨#[]⟩ (f3 ws s)).1⟩]
    names := s.names ++ [(nxW ws 1 ⟨#[]⟩ s.p).1] }

end Go.Proofs.YtbbbegjedmicpaaGreatDoor
