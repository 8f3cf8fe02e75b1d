import Derived.Test.YtbbbegjedmicpaaGreatDoorMdV
import Derived.Deep.RegionHeld3

/-
  CONTRACT: model.Build.
-/
namespace Go.Proofs.YtbbbegjedmicpaaGreatDoor
open Go.RowKit Go.Maps Go.ChangeMaps Go.WideMaps Go.WideElems
attribute [local go_sem ↓] Go.wp_at_zero Go.wp_at_succ

/-- A model in memory: messages by their names, each with its fields. -/
structure ModelAt (w : World) (P : Nat → Prop) (v : Value) (bs : List BlockR) (y : List YM) : Prop where
  row : RowIn w P 84 1 v y.length (ptrCells (y.map (·.1.2)))
  names : y.map (·.1.1) = msgNames bs
  msg : ∀ m ∈ y, MsgAt w P (mpL (y.map (·.1))) m.1.2 m.1.1 m.2
  g : ∀ (i : Nat) (b : BlockR), (msgsOf bs)[i]? = some b → ∃ m : YM, y[i]? = some m ∧ GOf b m.2
def BuildRet (w : World) (bs : List BlockR) (e : Ending) (w' : World) : Prop := ∃ v y, e = .returned v ∧ ModelAt w' (fun b => w.heap.size ≤ b) v bs y ∧ Below w.heap.size w w'

set_option maxRecDepth 100000 in
set_option maxHeartbeats 268435456 in
theorem b_build (w : World) (ta : Option Addr) (tc : Nat) (bs : List BlockR) (cs : List Value) (S : Nat → Prop) (hrow : RowIn w S 118 6 (.slice ta bs.length tc) bs.length cs) (hbs : BlocksIn w S cs bs) (hok : BsOK bs) (hg : GOK w) (hb : BOK w) :
    Calls Tryz.prog 19 #[.agg #[.slice ta bs.length tc]] w (BuildRet w bs) := by
  obtain ⟨i0, hi0, hz0, hz1, hz2⟩ := info_parts Tryz.info84
  have hmm := @run_makeMap Tryz.prog
  have hfew := hok.few
  have C0 : Below w.heap.size w ((w.alloc (Obj.cells #[.slice ta bs.length tc] 66)).alloc (Obj.map #[] 0)) := ((Below.refl w.heap.size w).alloc (Nat.le_refl _) _).alloc (by simp) _
  have KT0 := (Blk.new w #[.slice ta bs.length tc] 66).alloc (Obj.map #[] 0)
  have M0 : PtrMap ((w.alloc (Obj.cells #[.slice ta bs.length tc] 66)).alloc (Obj.map #[] 0)) (w.heap.size + 1) 0 (fun _ => none) := by
    have := PtrMap.made (w.alloc (Obj.cells #[.slice ta bs.length tc] 66))
    simpa using this
  go_enter Tryz.func19, Tryz.ntmps19
  go_wp2_with fail
  generalize ((w.alloc (Obj.cells #[.slice ta bs.length tc] 66)).alloc (Obj.map #[] 0)) = w1 at *
  have zk : w.heap.size + 1 < w1.heap.size := M0.lt
  refine (c16 w1 ta bs.length tc bs cs S (hrow.keep (fun b _ hl => C0.block b hl)) (hbs.keep (fun b _ hl => C0.block b hl)) hfew hok.ok).mono ?_
  rintro e w0 ⟨nv, rfl, hnown, hb0⟩
  obtain ⟨na, nn, nc, rfl⟩ := ownsRow_form hnown
  obtain rfl : nn = (msgNames bs).length := ownsRow_len hnown
  have C1 := below_nx C0 hb0
  have KT1 := KT0.below hb0 (by omega)
  have M1 := M0.keep (hb0.block _ M0.lt)
  have zk0 : w.heap.size + 1 < w0.heap.size := by have := hb0.size; omega
  have hnl : (msgNames bs).length ≤ 2001 := by
    rw [msgNames_eq, List.length_map]
    exact Nat.le_trans (List.length_filter_le _ _) hfew
  have hnsz : ∀ s ∈ msgNames bs, s.size ≤ 2000 := fun s hs => by
    obtain ⟨b, hb1, rfl⟩ := List.mem_map.1 hs
    exact (hok.ok b (List.mem_filter.1 hb1).1).name
  have hnrow : RowIn w0 (fun x => w1.heap.size ≤ x) 9 1 (.slice na (msgNames bs).length nc) (msgNames bs).length (strCells (msgNames bs)) := RowIn.of hnown
  have B0 : BInv w0 w0 (w.heap.size + 1) (.slice none 0 0) [] := ⟨World.ownsRow_nil _ _ _ _, M1, by simp, List.nodup_nil, Kept.refl _ _⟩
  clear hnown hb0 M0 M1 KT0 C0
  go_wp2_with fail
  go_loopw [4, 14] (fun v i wr => ∃ (k : Nat) (z : List (ByteArray × Nat)), k ≤ (msgNames bs).length ∧ i = .int .i64 k ∧ z.map (·.1) = (msgNames bs).take k ∧ BInv w0 wr (w.heap.size + 1) v z) (fun _ i _ => (msgNames bs).length - (intOf i).toNat)
  case atStart => exact ⟨0, [], Nat.zero_le _, rfl, rfl, B0⟩
  case round =>
    clear B0
    obtain ⟨k, z, hk, rfl, hz, HB⟩ := hrel
    by_cases hlt : k < (msgNames bs).length
    · obtain ⟨s, hs⟩ : ∃ s, (msgNames bs)[k]? = some s := ⟨_, List.getElem?_eq_getElem hlt⟩
      have hsz := hnsz s (List.mem_of_getElem? hs)
      have htake : (msgNames bs).take (k + 1) = (msgNames bs).take k ++ [s] := by rw [List.take_add_one, hs]; rfl
      have hzl : z.length = k := by have := congrArg List.length hz; grind
      obtain ⟨g, rfl, _, hgl, hcell⟩ := ownsRow_at hnrow.1 (by omega)
      have hgw : w1.heap.size ≤ g := hnrow.2 g rfl
      have hq := hcell wr (HB.kept.block g hgl (by grind)) k (.string s) (by simp [strCells, hs])
      have hown1 := HB.row.alloc (Obj.cells #[.string s, .slice none 0 0] 87)
      obtain ⟨D, hD1, hD2⟩ := HB.map
      have hD3 := hD1.alloc (Obj.cells #[.string s, .slice none 0 0] 87)
      have hkm : z.length < maxLen := by unfold maxLen; omega
      have hob := HB.row.lt
      clear hcell
      go_wp2_with (first | (at_mapUpdate; refine wpList_mapUpdate_own _ rfl _ _ _ 111 rfl 9 84 lawS Tryz.underlying111 _ (w.heap.size + 1) _ _ rfl hD3 hkm _ _ _ rfl rfl (keyS s (by unfold maxLen; omega)) _ [] (ptrElem_mk (some wr.heap.size)) ?_; intro w2 hmap2 hgrow2) | (at_builtin; refine wpList_append_own_at _ rfl _ _ 62 rfl w0.heap.size 84 i0 _ 1 8 Tryz.underlying62 hi0 hz0 hz1 hz2 rfl (by decide) u4 _ _ rfl ((hown1.kept hgrow2 (.inr (fun e => by grind))).alloc _) _ 1 1 [_] rfl rfl (cell_one_new _ _ _) ?h1 ?h63 ?hby ?hba ?_; rotate_right; intro v' w5 hown5 hgrow5 hnil hloc))
      case h1 => rfl
      case h63 => omega
      case hby => omega
      case hba => have := hgrow2.size; have := HB.kept.size; simp at *; omega
      have HB2 := HB.snoc (by omega) hgrow2 (PtrMap.put hD3 hD2 hmap2) hgrow5 hown5 hloc
      exact ⟨⟨k + 1, z ++ [(s, wr.heap.size)], by omega, by go_num, by grind, HB2⟩, by simp [intOf]; omega⟩
    · have hli : decide ((k : Int) < ((msgNames bs).length : Int)) = false := by grind
      obtain rfl : k = (msgNames bs).length := by omega
      rw [List.take_length] at hz
      have CI0 := CInv.start HB
      have hzp : (z.map (·.1)).Pairwise (fun x y => x.toList ≠ y.toList) := by
        rw [hz, msgNames_eq]
        exact List.Pairwise.sublist (List.Sublist.map _ List.filter_sublist) hok.names
      obtain ⟨t1, t2⟩ := ((show Blk wr w.heap.size #[.slice ta bs.length tc] 66 from (HB.kept.block _ (by omega) (by simp)).trans KT1)).rules
      clear HB hnrow hnsz
      go_wp2_with fail
      clear t1 t2
      go_loopw [32] (fun i wr => ∃ (k : Nat) (y : List YM), k ≤ bs.length ∧ i = .int .i64 k ∧ CInv w0 wr (w.heap.size + 1) u4 z (bs.take k) y) (fun i _ => bs.length - (intOf i).toNat)
      case atStart => exact ⟨0, _, Nat.zero_le _, rfl, by rw [List.take_zero]; omega⟩
      case round =>
        clear CI0
        obtain ⟨k, y, hk2, rfl, HC⟩ := hrel
        have CW : Below w.heap.size w wr := C1.trans (HC.kept.to_below (by omega) (by simp))
        by_cases hlt2 : k < bs.length
        · obtain ⟨b, hb1⟩ := gx hlt2
          have hbm := List.mem_of_getElem? hb1
          have htake : bs.take (k + 1) = bs.take k ++ [b] := by rw [List.take_add_one, hb1]; rfl
          obtain ⟨g, rfl, _, hgl, hcell⟩ := ownsRow_at hrow.1 (by omega)
          obtain ⟨pa, pn, pc, va, vn, vc, p0, p1, p2, p3, p4, p5, pcs, hpr, hpi, _⟩ := hbs.get hb1
          obtain rfl : pn = b.parts.length := ownsRow_len hpr.1
          have hcg := hcell wr (CW.block g hgl)
          rw [Nat.add_zero] at p0
          have q0 := hcg _ _ p0
          have q1 := hcg _ _ p1
          have q2 := hcg _ _ p2
          have q3 := hcg _ _ p3
          have q4 := hcg _ _ p4
          have q5 := hcg _ _ p5
          have KB := Blk.new wr #[.bool b.enum, .int .i64 (kindW b.name.1), .string b.name.1, .int .i64 b.name.2, .slice pa b.parts.length pc, .slice va vn vc] 118
          have HC2 := HC.on ((Below.refl wr.heap.size wr).alloc (Nat.le_refl _) (Obj.cells #[.bool b.enum, .int .i64 (kindW b.name.1), .string b.name.1, .int .i64 b.name.2, .slice pa b.parts.length pc, .slice va vn vc] 118))
          clear hcell hcg p0 p1 p2 p3 p4 p5 HC
          cases hen : b.enum
          · rw [hen] at q0 KB HC2
            have hik : (msgsOf bs)[(msgsOf (bs.take k)).length]? = some b := by
              have e1 : bs = bs.take k ++ b :: bs.drop (k + 1) := by
                conv => lhs; rw [← List.take_append_drop k bs]
                rw [List.drop_eq_getElem_cons hlt2]
                rw [List.getElem?_eq_getElem hlt2] at hb1
                rw [Option.some.inj hb1]
              have e2 : msgsOf bs = msgsOf (bs.take k) ++ b :: msgsOf (bs.drop (k + 1)) := by
                conv => lhs; rw [e1]
                simp [msgsOf, hen]
              grind
            obtain ⟨mbi, hzi⟩ : ∃ mbi, z[(msgsOf (bs.take k)).length]? = some (b.name.1, mbi) := by
              have e3 : (z.map (·.1))[(msgsOf (bs.take k)).length]? = some b.name.1 := by rw [hz, msgNames_eq, List.getElem?_map, hik]; rfl
              grind
            have hmp : mpL z b.name.1 = some mbi := mpL_get hzp (List.mem_of_getElem? hzi)
            have hbsz := (hok.ok b hbm).name
            go_upto_region 14 with fail
            clear q0 q1 q2 q3 q4 q5
            have CWA : Below w.heap.size w (wr.alloc (Obj.cells #[.bool false, .int .i64 (kindW b.name.1), .string b.name.1, .int .i64 b.name.2, .slice pa b.parts.length pc, .slice va vn vc] 118)) := CW.alloc CW.size _
            generalize hw1 : wr.alloc (Obj.cells #[.bool false, .int .i64 (kindW b.name.1), .string b.name.1, .int .i64 b.name.2, .slice pa b.parts.length pc, .slice va vn vc] 118) = W1 at *
            have zc : wr.heap.size < W1.heap.size := KB.lt
            clear hw1
            generalize wr.heap.size = c9 at *
            have CWd : Below w.heap.size w W1.drew := CWA.drew
            have KBd := KB.drew
            have HCd : CInv w0 W1.drew (w.heap.size + 1) u4 z (bs.take k) y := HC2.on (Below.refl _ _).drew
            have HC1 : Hid (Calls Tryz.prog 38 #[.map (some (w.heap.size + 1)), .agg #[.bool false, .int .i64 (kindW b.name.1), .string b.name.1, .int .i64 b.name.2, .slice pa b.parts.length pc, .slice va vn vc]] W1.drew (FieldsRet W1.drew (mpL z) b)) := by
              have := b_fields W1.drew (w.heap.size + 1) z.length (mpL z) b pa va pc vn vc pcs S (hpr.keep (fun x _ hl => CWd.block x hl)) (hpi.keep (fun x _ hl => CWd.block x hl)) HCd.map (hok.ok b hbm).parts (fun p hp f hf => hok.field hbm hen hp hf) (hg.keep (CWd.block _ hg.lt)) (hb.keep (CWd.block _ hb.lt))
              rw [hen] at this
              exact this
            have hlk1 := HCd.map.look b.name.1 (by unfold maxLen; omega)
            rw [hmp] at hlk1
            unfold ptrV at hlk1
            have HLK : Hid (∀ w2 : World, Below W1.drew.heap.size W1.drew w2 → (Instr.lookup 111 (.map (some (w.heap.size + 1))) (.string b.name.1) false).run Tryz.prog w2 = .ok (.pointer (some ⟨mbi, 0, none⟩)) w2) := fun w2 h2 => by
              have h3 := ((HCd.on h2).map.look b.name.1 (by unfold maxLen; omega))
              rw [hmp] at h3
              exact h3
            have HMB : Hid (∀ w2 : World, Below W1.drew.heap.size W1.drew w2 → ∃ fv, Blk w2 mbi #[.string b.name.1, fv] 87) := fun w2 h2 => by
              have h3 := HCd.on h2
              have h4 : (b.name.1, mbi) ∈ z := List.mem_of_getElem? hzi
              rw [← h3.zy] at h4
              obtain ⟨m, hm, hm2⟩ := List.mem_map.1 h4
              obtain ⟨fv, fbs, h5, _, _⟩ := h3.mi m hm
              rw [hm2] at h5
              exact ⟨fv, h5⟩
            obtain ⟨x1, x2⟩ := KBd.rules
            go_region_with (first | (go_at_call 38; refine HC1.out.mono ?_; rintro e w2 ⟨fv2, gs, fbs, rfl, hG1, hG2, hrw, hfl, b2⟩; obtain ⟨fa2, fn2, fc2, rfl⟩ := ownsRow_form hrw.1; have hlk2 := HLK.out w2 b2; obtain ⟨fvo, KM⟩ := HMB.out w2 b2; obtain ⟨x3, x4⟩ := (KBd.below b2 KBd.lt).rules; obtain ⟨x5, x6⟩ := KM.rules))
            all_goals
              have HCx := HCd.on b2
              have hlo : ∀ x, W1.drew.heap.size ≤ x → Qz w0 z u4 x := fun x hx => by
                refine ⟨?_, ?_, ?_⟩
                · have := HCd.kept.size; omega
                · intro hmem
                  obtain ⟨q, hq, rfl⟩ := List.mem_map.1 hmem
                  rw [← HCd.zy] at hq
                  obtain ⟨m, hm, rfl⟩ := List.mem_map.1 hq
                  obtain ⟨_, _, h5, _, _⟩ := HCd.mi m hm
                  have := h5.lt
                  omega
                · intro e
                  have := (HCd.row.lt _ e).2
                  omega
              obtain ⟨y', HCy⟩ := HCx.message hen (by omega) hzi ⟨hG1, hG2⟩ hlo hrw hfl
              clear HCx hlo HC1 HLK HMB hlk1 hlk2 x1 x2 x3 x4 x5 x6
              go_wp2
              go_roundw
              case rel => grind
              case measure => simp [intOf]; omega
          · rw [hen] at q0 KB HC2
            go_wp2
            go_roundw
            case rel => exact ⟨k + 1, y, by omega, rfl, by rw [htake]; exact HC2.enum hen⟩
            case measure => simp [intOf]; omega
        · have hli2 : decide ((k : Int) < (bs.length : Int)) = false := by grind
          obtain rfl : k = bs.length := by omega
          rw [List.take_length] at HC
          go_wp2
          go_ret
          have hyl : y.length = z.length := by rw [← HC.zy]; simp
          refine ⟨u4, y, rfl, ⟨?_, ?_, ?_, HC.g⟩, CW⟩
          · have h1 := RowIn.of HC.row
            have e1 : y.map (·.1.2) = z.map (·.2) := by rw [← HC.zy, List.map_map]; rfl
            rw [e1, hyl]
            exact h1.mono (fun x hx _ => by omega)
          · have e1 : y.map (·.1.1) = z.map (·.1) := by rw [← HC.zy, List.map_map]; rfl
            rw [e1, hz]
          · intro m hm
            obtain ⟨fv, fbs, h1, h2, h3⟩ := HC.mi m hm
            have hmz : m.1 ∈ z := by rw [← HC.zy]; exact List.mem_map.2 ⟨m, hm, rfl⟩
            rw [HC.zy]
            exact ⟨fv, fbs, h1, by have := (HC.at_ _ hmz).1; omega, h2.mono (fun x hx _ => by have := hx.1; omega), h3.mono (fun x hx _ => by have := hx.1; omega)⟩

end Go.Proofs.YtbbbegjedmicpaaGreatDoor
