import Derived.Test.YtfebdimolnobaaaGreatDoorBuH
import Derived.Laws.Bits64b
import Derived.Deep.CutBlock
set_option maxRecDepth 100000
set_option maxHeartbeats 8000000
set_option linter.all false
namespace Go.Proofs.YtfebdimolnobaaaGreatDoor
open Go.RowKit
section
open Go.Maps Go.ChangeMaps Go.WideMaps Go.WideElems
attribute [local go_sem↓] Go.wp_at_zero Go.wp_at_succ
structure d5 (w:an)(P:ap)(v:Value)(bs:List dh)(y:List YM):Prop where
 row:dJ w P 105 1 v y.length (dV (y.map (·.1.2)))
 names:y.map (·.1.1)=dq bs
 msg:∀m∈y,gD w P (jc (y.map (·.1))) m.1.2 m.1.1 m.2
 g:∀(i:Nat) (b:dh),(eM bs)[i]?=some b->∃m:YM,y[i]?=some m/\Mk b m.2
def EC (w:an)(bs:List dh)(e:Ending)(w':an):Prop:=∃v y,e= .returned v/\d5 w' (fun b=>w.heap.size<=b) v bs y/\aj w w'
theorem Hp (w:an)(ta:aw)(tc:Nat)(bs:List dh)(cs:aq)(S:ap)(hrow:dJ w S 152 6 (.slice ta bs.length tc) bs.length cs)(hbs:dU w S cs bs)(hok:yI bs)(hg:GOK w)(hb:BOK w):
  Calls Tryz.prog 35 #[.agg #[.slice ta bs.length tc]] w (EC w bs):=by
 obtain⟨i0,OW,OX,OY,OZ⟩:=info_parts Tryz.info105;have hmm:= @run_makeMap Tryz.prog;have Oh:=hok.few;have C0:aj w ((w.alloc (ak #[.slice ta bs.length tc] 87)).alloc (Obj.map #[] 0)):=((Below.refl w.heap.size w).alloc (ay _) _).alloc (by simp) _;have OB:=(de.new w #[.slice ta bs.length tc] 87).alloc (Obj.map #[] 0)
 have M0:eI ((w.alloc (ak #[.slice ta bs.length tc] 87)).alloc (Obj.map #[] 0)) (w.heap.size+1) 0 (fun _=>none):=by
  have:=eI.made (w.alloc (ak #[.slice ta bs.length tc] 87));simpa using this
 go_enter Tryz.func35,Tryz.ntmps35
 go_wp2_with fail
 generalize((w.alloc (ak #[.slice ta bs.length tc] 87)).alloc (Obj.map #[] 0))=w1 at*;have zk:w.heap.size+1<w1.heap.size:=M0.lt;refine(NU w1 ta bs.length tc bs cs S (hrow.keep (fun b _ hl=>C0.block b hl)) (hbs.keep (fun b _ hl=>C0.block b hl)) Oh hok.ok).mono ?_;rintro e w0 ⟨nv,rfl,N8,Ok⟩;obtain⟨na,nn,nc,rfl⟩:=df N8;obtain rfl:nn=(dq bs).length:=dR N8;have C1:=dH C0 Ok;have ON:=OB.below Ok (by omega);have M1:=M0.keep (Ok.block _ M0.lt);have zk0:w.heap.size+1<w0.heap.size:=by have:=Ok.size;omega
 have hnl:(dq bs).length<=2001:=by
  rw[gI,aV];exact aG (bI _ _) Oh
 have Oi:∀s∈dq bs,s.size<=2000:=fun s hs=>by
  obtain⟨b,Oe,rfl⟩:=List.mem_map.1 hs;exact(hok.ok b (List.mem_filter.1 Oe).1).name
 have Oa:dJ w0 (fun x=>w1.heap.size<=x) 9 1 (.slice na (dq bs).length nc) (dq bs).length (el (dq bs)):=dJ.of N8;have B0:Dc w0 w0 (w.heap.size+1) (ah) []:=⟨aX _ _ _ _,M1,by simp,List.nodup_nil,dl.refl _ _⟩;clear N8 Ok M0 M1 OB C0;go_wp2_with fail
 go_loopw [4,14] (fun v i wr=>∃(k:Nat) (z:List (am×Nat)),k<=(dq bs).length/\i=aa k/\z.map (·.1)=(dq bs).take k/\Dc w0 wr (w.heap.size+1) v z) (fun _ i _=>(dq bs).length-(intOf i).toNat)
 case atStart=>exact⟨0,[],aM _,rfl,rfl,B0⟩
 case round=>
  clear B0;obtain⟨k,z,hk,rfl,hz,HB⟩:=hrel
  by_cases hlt:k<(dq bs).length
  ·obtain⟨s,hs⟩:∃s,(dq bs)[k]?=some s:=⟨_,aJ hlt⟩;have hsz:=Oi s (aI hs);have N7:(dq bs).take (k+1)=(dq bs).take k++ [s]:=by rw[bu,hs];rfl
   have hzl:z.length=k:=by have:=congrArg List.length hz;rw[aV,be]at this;omega
   obtain⟨g,rfl,_,Ow,N2⟩:=dE Oa.1 (by omega);have hgw:w1.heap.size<=g:=Oa.2 g rfl;have hq:=N2 wr (HB.kept.block g Ow (by simp;omega)) k (ae s) (by simp[el,hs]);have Oj:=HB.row.alloc (ak #[ae s,ah] 108);obtain⟨D,O1,O2⟩:=HB.map;have OC:=O1.alloc (ak #[ae s,ah] 108);have OO:z.length<maxLen:=by unfold maxLen;omega
   have OP:=HB.row.lt;clear N2;go_wp2_with (first|(at_mapUpdate;refine wpList_mapUpdate_own _ rfl _ _ _ 145 rfl 9 105 CV Tryz.underlying145 _ (w.heap.size+1) _ _ rfl OC OO _ _ _ rfl rfl (CX s (by unfold maxLen;omega)) _ [] (jk (some wr.heap.size)) ?_;intro w2 Ol N3)|(at_builtin;refine wpList_append_own_at _ rfl _ _ 83 rfl w0.heap.size 105 i0 _ 1 8 Tryz.underlying83 OW OX OY OZ rfl (by decide) u4 _ _ rfl ((Oj.kept N3 (.inr (fun e=>by have:=(OP _ e).1;omega))).alloc _) _ 1 1 [_] rfl rfl (cell_one_new _ _ _) ?h1 ?h63 ?hby ?hba ?_;rotate_right;intro v' w5 Om Of hnil Ox))
   case h1=>rfl
   case h63=>unfold maxLen;omega
   case hby=>omega
   case hba=>have:=N3.size;have:=HB.kept.size;simp at*;omega
   have OQ:=HB.snoc (by omega) N3 (eI.put OC O2 Ol) Of Om Ox;exact⟨⟨k+1,z++ [(s,wr.heap.size)],by omega,by go_num,by rw[bH,hz,N7];rfl,OQ⟩,by simp[intOf];omega⟩
  ·have hli:decide ((k:Int)<((dq bs).length:Int))=false:=by simp;omega
   obtain rfl:k=(dq bs).length:=by omega
   rw[aY]at hz;have OD:=pQ.start HB
   have OR:(z.map (·.1)).Pairwise (fun x y=>x.toList≠y.toList):=by
    rw[hz,gI];exact List.Pairwise.sublist (List.Sublist.map _ cO) hok.names
   obtain⟨t1,t2⟩:=((show de wr w.heap.size #[.slice ta bs.length tc] 87 from(HB.kept.block _ (by omega) (by simp)).trans ON)).rules;clear HB Oa Oi;go_wp2_with fail
   clear t1 t2;go_loopw [32] (fun i wr=>∃(k:Nat) (y:List YM),k<=bs.length/\i=aa k/\pQ w0 wr (w.heap.size+1) u4 z (bs.take k) y) (fun i _=>bs.length-(intOf i).toNat)
   case atStart=>exact⟨0,_,aM _,rfl,by rw[List.take_zero];exact OD⟩
   case round=>
    clear OD;obtain⟨k,y,hk2,rfl,HC⟩:=hrel;have CW:aj w wr:=C1.trans (HC.kept.to_below (by omega) (by simp))
    by_cases hlt2:k<bs.length
    ·obtain⟨b,Oe⟩:=gx hlt2;have Ot:=aI Oe;have N7:bs.take (k+1)=bs.take k++ [b]:=by rw[bu,Oe];rfl
     obtain⟨g,rfl,_,Ow,N2⟩:=dE hrow.1 (by omega);obtain⟨pa,pn,pc,va,vn,vc,p0,p1,p2,p3,p4,p5,O3,OL,O4,_⟩:=hbs.get Oe;obtain rfl:pn=b.parts.length:=dR OL.1;have Oc:=N2 wr (CW.block g Ow);rw[Nat.add_zero]at p0;have q0:=Oc _ _ p0;have q1:=Oc _ _ p1;have q2:=Oc _ _ p2;have q3:=Oc _ _ p3;have q4:=Oc _ _ p4;have q5:=Oc _ _ p5;have KB:=de.new wr #[.bool b.enum,aa (cZ b.name.1),ae b.name.1,aa b.name.2,.slice pa b.parts.length pc,.slice va vn vc] 152;have Oo:=HC.on ((Below.refl wr.heap.size wr).alloc (ay _) (ak #[.bool b.enum,aa (cZ b.name.1),ae b.name.1,aa b.name.2,.slice pa b.parts.length pc,.slice va vn vc] 152));clear N2 Oc p0 p1 p2 p3 p4 p5 HC
     cases hen:b.enum
     ·rw[hen]at q0 KB Oo
      have OS:(eM bs)[(eM (bs.take k)).length]?=some b:=by
       have e1:bs=bs.take k++b::bs.drop (k+1):=by
        conv=>lhs;rw[<-bS k bs]
        rw[aU hlt2];rw[aJ hlt2]at Oe;rw[Option.some.inj Oe]
       have e2:eM bs=eM (bs.take k)++b::eM (bs.drop (k+1)):=by
        conv=>lhs;rw[e1]
        simp[eM,hen]
       rw[e2];simp
      obtain⟨Og,Oy⟩:∃Og,z[(eM (bs.take k)).length]?=some (b.name.1,Og):=by
       have e3:(z.map (·.1))[(eM (bs.take k)).length]?=some b.name.1:=by rw[hz,gI,aO,OS];rfl
       rw[aO]at e3;obtain⟨x,hx,O5⟩:=Option.map_eq_some_iff.1 e3;exact⟨x.2,by rw[hx,<-O5]⟩
      have OE:jc z b.name.1=some Og:=nZ OR (aI Oy);have hbsz:=(hok.ok b Ot).name;go_upto_region 14 with fail
      clear q0 q1 q2 q3 q4 q5;have OT:aj w (wr.alloc (ak #[.bool false,aa (cZ b.name.1),ae b.name.1,aa b.name.2,.slice pa b.parts.length pc,.slice va vn vc] 152)):=CW.alloc CW.size _;generalize hw1:wr.alloc (ak #[.bool false,aa (cZ b.name.1),ae b.name.1,aa b.name.2,.slice pa b.parts.length pc,.slice va vn vc] 152)=W1 at*;have zc:wr.heap.size<W1.heap.size:=KB.lt;clear hw1;generalize wr.heap.size=c9 at*;have Oq:aj w W1.drew:=OT.drew;have Ou:=KB.drew;have Ob:pQ w0 W1.drew (w.heap.size+1) u4 z (bs.take k) y:=Oo.on (Below.refl _ _).drew
      have OF:Hid (Calls Tryz.prog 67 #[.map (some (w.heap.size+1)),.agg #[.bool false,aa (cZ b.name.1),ae b.name.1,aa b.name.2,.slice pa b.parts.length pc,.slice va vn vc]] W1.drew (vo W1.drew (jc z) b)):=by
       have:=Ez W1.drew (w.heap.size+1) z.length (jc z) b pa va pc vn vc O3 S (OL.keep (fun x _ hl=>Oq.block x hl)) (O4.keep (fun x _ hl=>Oq.block x hl)) Ob.map (hok.ok b Ot).parts (fun p hp f hf=>hok.field Ot hen hp hf) (hg.keep (Oq.block _ hg.lt)) (hb.keep (Oq.block _ hb.lt));rw[hen]at this;exact this
      have Od:=Ob.map.look b.name.1 (by unfold maxLen;omega);rw[OE]at Od;unfold ft at Od
      have OG:Hid (∀w2:an,Below W1.drew.heap.size W1.drew w2->(Instr.lookup 145 (.map (some (w.heap.size+1))) (ae b.name.1) false).run Tryz.prog w2= .ok (ag Og) w2):=fun w2 h2=>by
       have h3:=((Ob.on h2).map.look b.name.1 (by unfold maxLen;omega));rw[OE]at h3;exact h3
      have OH:Hid (∀w2:an,Below W1.drew.heap.size W1.drew w2->∃fv,de w2 Og #[ae b.name.1,fv] 108):=fun w2 h2=>by
       have h3:=Ob.on h2;have h4:(b.name.1,Og)∈z:=aI Oy;rw[<-h3.zy]at h4;obtain⟨m,hm,O6⟩:=List.mem_map.1 h4;obtain⟨fv,Oz,h5,_,_⟩:=h3.mi m hm;rw[O6]at h5;exact⟨fv,h5⟩
      obtain⟨x1,x2⟩:=Ou.rules;go_region_with (first|(go_at_call 67;refine OF.out.mono ?_;rintro e w2 ⟨fv2,gs,Oz,rfl,O7,O8,OM,Pa,b2⟩;obtain⟨fa2,fn2,fc2,rfl⟩:=df OM.1;have Ov:=OG.out w2 b2;obtain⟨fvo,KM⟩:=OH.out w2 b2;obtain⟨x3,x4⟩:=(Ou.below b2 Ou.lt).rules;obtain⟨x5,x6⟩:=KM.rules))
      all_goals
       have OI:=Ob.on b2
       have OJ:∀x,W1.drew.heap.size<=x->Qz w0 z u4 x:=fun x hx=>by
        refine⟨?_,?_,?_⟩
        ·have:=Ob.kept.size;omega
        ·intro OA;obtain⟨q,hq,rfl⟩:=List.mem_map.1 OA;rw[<-Ob.zy]at hq;obtain⟨m,hm,rfl⟩:=List.mem_map.1 hq;obtain⟨_,_,h5,_,_⟩:=Ob.mi m hm;have:=h5.lt;omega
        ·intro e;have:=(Ob.row.lt _ e).2;omega
       obtain⟨y',Pb⟩:=OI.message hen (by omega) Oy ⟨O7,O8⟩ OJ OM Pa;clear OI OJ OF OG OH Od Ov x1 x2 x3 x4 x5 x6;go_wp2;go_roundw
       case rel=>exact⟨k+1,y',by omega,rfl,by rw[N7];exact Pb⟩
       case measure=>simp[intOf];omega
     ·rw[hen]at q0 KB Oo;go_wp2;go_roundw
      case rel=>exact⟨k+1,y,by omega,rfl,by rw[N7];exact Oo.enum hen⟩
      case measure=>simp[intOf];omega
    ·have hli2:decide ((k:Int)<(bs.length:Int))=false:=by simp;omega
     obtain rfl:k=bs.length:=by omega
     rw[aY]at HC;go_wp2;go_ret;have OU:y.length=z.length:=by rw[<-HC.zy];simp
     refine⟨u4,y,rfl,⟨?_,?_,?_,HC.g⟩,CW⟩
     ·have h1:=dJ.of HC.row;have e1:y.map (·.1.2)=z.map (·.2):=by rw[<-HC.zy,bz];rfl
      rw[e1,OU];exact h1.mono (fun x hx _=>by show w.heap.size<=x;omega)
     ·have e1:y.map (·.1.1)=z.map (·.1):=by rw[<-HC.zy,bz];rfl
      rw[e1,hz]
     ·intro m hm;obtain⟨fv,Oz,h1,h2,h3⟩:=HC.mi m hm;have OV:m.1∈z:=by rw[<-HC.zy];exact List.mem_map.2 ⟨m,hm,rfl⟩
      rw[HC.zy];exact⟨fv,Oz,h1,by have:=(HC.at_ _ OV).1;show w.heap.size<=m.1.2;omega,h2.mono (fun x hx _=>by have:=hx.1;show w.heap.size<=x;omega),h3.mono (fun x hx _=>by have:=hx.1;show w.heap.size<=x;omega)⟩
end
def mL (b:dh):MT:=⟨b.name.1,b.parts.flatMap fun p=>p.fields.map (gU p.oneof)⟩
def dt (bs:List dh):dG:=⟨(eM bs).map mL,(bs.filter fun b=>b.enum).map fun b=>b.name.1⟩
theorem vt:∀(l:List (List UInt8)) (s:List UInt8) (k:Nat),l.contains s=false->yA l s k=none
 | [],s,k,_=>rfl
 |x::l,s,k,h=>by
  rw[aS,Bool.or_eq_false_iff]at h;rw[yA,if_neg (by rw[h.1];simp)];exact vt l s (k+1) h.2
theorem vu:∀(l:List (List UInt8)) (s:List UInt8) (k:Nat),l.contains s=true->∃n,yA l s k=some n
 | [],s,k,h=>by simp at h
 |x::l,s,k,h=>by
  rw[yA]
  by_cases q:(s==x)=true
  ·rw[if_pos q];exact⟨k,rfl⟩
  ·rw[if_neg q];rw[aS,Bool.or_eq_true]at h;exact vu l s (k+1) (h.resolve_left q)
theorem yJ (t:am):∀(z:List (am×Nat)) (mp:am->Option Nat),(z.foldl (fun mp x=>gW mp x.1 x.2) mp t).isSome=(dX (z.map (·.1)) t||(mp t).isSome)
 | [],mp=>by simp[dX]
 |x::z,mp=>by
  rw[List.foldl_cons,yJ t z];unfold gW dX gy;rw[br,List.any_cons]
  by_cases h:t.toList=x.1.toList
  ·simp[h]
  ·have h2:(x.1.toList==t.toList)=false:=by
    rw[beq_eq_false_iff_ne];exact fun e=>h e.symm
   simp[h];rw[h2,cz]
theorem pd (z:List (am×Nat))(t:am):(jc z t).isSome=dX (z.map (·.1)) t:=by
 unfold jc;rw[yJ];simp
theorem gE (l:ar)(s:am):dX l s=true<->∃x∈l,x.toList=s.toList:=by
 unfold dX;simp
theorem AC {bs:List dh}(hok:yI bs){t:am}(h:dX (ez bs) t=true):dX ((bs.filter fun b=>b.enum).map fun b=>b.name.1) t= !(dX (dq bs) t):=by
 have key:∀b∈bs,∀c∈bs,b.name.1.toList=t.toList->c.name.1.toList=t.toList->b.enum=c.enum:=by
  intro b hb c hc h1 h2;obtain⟨i,hi⟩:=cI hb;obtain⟨j,hj⟩:=cI hc;have hp:=hok.names;unfold ez at hp;rw[bJ,bC]at hp;have N7:=gl hi;have N8:=gl hj;rw[aJ N7]at hi;rw[aJ N8]at hj;have ei:=Option.some.inj hi;have ej:=Option.some.inj hj
  rcases Nat.lt_trichotomy i j with q|q|q
  ·have:=hp i j N7 N8 q;rw[ei,ej]at this;exact absurd (h1.trans h2.symm) this
  ·subst q;rw[<-ei,<-ej]
  ·have:=hp j i N8 N7 q;rw[ei,ej]at this;exact absurd (h2.trans h1.symm) this
 obtain⟨x,hx,N3⟩:=(gE _ _).1 h;obtain⟨b,hb,rfl⟩:=List.mem_map.1 hx
 cases he:b.enum
 ·have h1:dX (dq bs) t=true:=(gE _ _).2 ⟨_,List.mem_map.2 ⟨b,List.mem_filter.2 ⟨hb,by simp[he]⟩,rfl⟩,N3⟩;rw[h1]
  cases h2:dX ((bs.filter fun b=>b.enum).map fun b=>b.name.1) t
  ·rfl
  ·obtain⟨y,hy,Oa⟩:=(gE _ _).1 h2;obtain⟨c,hc,rfl⟩:=List.mem_map.1 hy;have N2:=List.mem_filter.1 hc;have:=key b hb c N2.1 N3 Oa;rw[he]at this;have h3:=N2.2;rw[<-this]at h3
   cases h3
 ·have h1:dX ((bs.filter fun b=>b.enum).map fun b=>b.name.1) t=true:=(gE _ _).2 ⟨_,List.mem_map.2 ⟨b,List.mem_filter.2 ⟨hb,by simp[he]⟩,rfl⟩,N3⟩;rw[h1]
  cases h2:dX (dq bs) t
  ·rfl
  ·obtain⟨y,hy,Oa⟩:=(gE _ _).1 h2;obtain⟨c,hc,rfl⟩:=List.mem_map.1 hy;have N2:=List.mem_filter.1 hc;have:=key b hb c N2.1 N3 Oa;rw[he]at this;have h3:=N2.2;rw[<-this]at h3;simp at h3
theorem si {bs:List dh}(hok:yI bs){z:List (am×Nat)}(hz:z.map (·.1)=dq bs){t:am}(ht:cZ t=3\/(cZ t=1/\dX (ez bs) t=true)):(dt bs).base t=gQ (jc z) t:=by
 unfold dG.base gQ
 by_cases h3:cZ t=3
 ·rw[if_pos h3];obtain⟨n,hn⟩:=vu kW t.toList 0 (lJ h3);unfold o8;rw[hn];rfl
 ·rw[if_neg h3];obtain⟨h1,hm⟩:=ht.resolve_left h3
  have hb:kW.contains t.toList=false:=by
   cases q:kW.contains t.toList
   ·rfl
   ·exfalso;have h4:=yy t;rw[show g9 t.toList=true from q]at h4;simp at h4;exact h3 h4
  rw[vt _ _ _ hb,pd,hz];show(if dX ((bs.filter fun b=>b.enum).map fun b=>b.name.1) t then 15 else 16)=_;rw[AC hok hm]
  cases dX (dq bs) t<;>rfl
theorem oa (a b:am):gy a b=true<->a.toList=b.toList:=by unfold gy;simp
theorem m9 {t:am}:∀{l:List dh},(∃b∈l,b.name.1.toList=t.toList)->∃(i:Nat) (b:dh),l[i]?=some b/\b.name.1.toList=t.toList/\ki (l.map mL) t=some (mL b)
 | [],h=>by obtain⟨b,hb,_⟩:=h;simp at hb
 |c::l,h=>by
  by_cases q:c.name.1.toList=t.toList
  ·exact⟨0,c,rfl,q,by rw[br,ki,if_pos (show gy (mL c).name t=true from(oa _ _).2 q)]⟩
  ·obtain⟨b,hb,N3⟩:=h
   rcases aL.1 hb with rfl|hb
   ·exact absurd N3 q
   ·obtain⟨i,d,h1,h2,h3⟩:=m9 (t:=t) (l:=l) ⟨b,hb,N3⟩;exact⟨i+1,d,by simpa using h1,h2,by rw[br,ki,if_neg (show¬gy (mL c).name t=true from fun e=>q ((oa _ _).1 e))];exact h3⟩
theorem ng {t:am}:∀{l:List dh},(∀b∈l,b.name.1.toList≠t.toList)->ki (l.map mL) t=none
 | [],_=>rfl
 |c::l,h=>by
  rw[br,ki,if_neg (show¬gy (mL c).name t=true from fun e=>h c bg ((oa _ _).1 e))];exact ng (fun b hb=>h b (bF _ hb))
theorem ED {z:List (am×Nat)}{s t:am}(h:s.toList=t.toList):jc z s=jc z t:=by
 obtain rfl:s=t:=by
  apply cF;apply Array.toList_inj.1;rw[<-ByteArray.toList_eq,<-ByteArray.toList_eq];exact h
 rfl
theorem nh {bs:List dh}(hok:yI bs){z:List (am×Nat)}(hz:z.map (·.1)=dq bs){t:am}(h:dX (dq bs) t=true):
  ∃(i:Nat) (b:dh) (blk:Nat),(eM bs)[i]?=some b/\(dt bs).msg t=some (mL b)/\z[i]?=some (b.name.1,blk)/\jc z t=some blk:=by
 obtain⟨x,hx,N8⟩:=(gE _ _).1 h;obtain⟨c,hc,rfl⟩:=List.mem_map.1 hx;obtain⟨i,b,h1,h2,h3⟩:=m9 (t:=t) (l:=eM bs) ⟨c,hc,N8⟩;have e3:(z.map (·.1))[i]?=some b.name.1:=by rw[hz,gI,aO,h1];rfl
 rw[aO]at e3;obtain⟨y,hy,Oa⟩:=Option.map_eq_some_iff.1 e3;have N2:y=(b.name.1,y.2):=by rw[<-Oa]
 have N7:(z.map (·.1)).Pairwise (fun x y=>x.toList≠y.toList):=by
  rw[hz,gI];exact List.Pairwise.sublist (List.Sublist.map _ cO) hok.names
 refine⟨i,b,y.2,h1,h3,by rw[hy,<-N2],?_⟩;rw[<-ED h2];exact nZ N7 (by rw[<-N2];exact aI hy)
theorem sS {bs:List dh}{z:List (am×Nat)}(hz:z.map (·.1)=dq bs){t:am}(h:dX (dq bs) t=false):(dt bs).msg t=none/\jc z t=none:=by
 refine⟨ng (fun b hb e=> ?_),?_⟩
 ·have:dX (dq bs) t=true:=(gE _ _).2 ⟨_,List.mem_map.2 ⟨b,hb,rfl⟩,e⟩;rw[h]at this
  cases this
 ·have:=pd z t;rw[hz,h]at this
  cases q:jc z t with
  |none=>rfl
  |some x=>rw[q]at this;cases this
def fJ (ps:List er):ar:=ps.filterMap fun p=>p.oneof.map (·.1)
theorem kt {types:ar}:∀(fs:List dM) (names:ar) (nums:au) (n:ar) (m:au),eF types names nums fs= .ok (n,m)->∀s,dX names s=true->dX n s=true
 | [],names,nums,n,m,h,s,hs=>by
  simp[eF]at h;rw[<-h.1];exact hs
 |f::fs,names,nums,n,m,h,s,hs=>by
  unfold eF at h
  split at h
  ·cases h
  ·rename_i n1 m1 h1
   have g:=pO h1;refine kt fs n1 m1 n m h s ?_;rw[g.2.2.2.1,jy,hs];rfl
theorem pR {types:ar}:∀(ps:List er) (names:ar) (nums:au) (n:ar) (m:au),fw types names nums ps= .ok (n,m)->(∀p∈ps,∀o,p.oneof=some o->cZ o.1=1)->
  (fJ ps).Pairwise (fun x y=>x.toList≠y.toList)/\(∀s∈fJ ps,dX names s=false)
 | [],names,nums,n,m,_,_=>⟨List.Pairwise.nil,by simp[fJ]⟩
 |p::ps,names,nums,n,m,h,hk=>by
  unfold fw at h
  split at h
  ·cases h
  ·rename_i n1 m1 h1
   have ih:=pR ps n1 m1 n m h (fun q hq=>hk q (bF _ hq))
   cases ho:p.oneof with
   |none=>
    have e:fJ (p::ps)=fJ ps:=by simp[fJ,ho]
    rw[e];refine⟨ih.1,fun s hs=> ?_⟩;have h2:=ih.2 s hs;unfold mT at h1;rw[ho]at h1;have h3:eF types names nums p.fields= .ok (n1,m1):=by simpa [kS]using h1
    cases q:dX names s
    ·rfl
    ·rw[kt _ _ _ _ _ h3 s q]at h2
     cases h2
   |some o=>
    have e:fJ (p::ps)=o.1::fJ ps:=by simp[fJ,ho]
    rw[e];have Oa:cZ o.1=1:=hk p bg o ho;unfold mT at h1;rw[ho]at h1
    have hq:(kS (some o)==1)=true:=by
     show(cZ o.1==1)=true;rw[Oa];rfl
    rw[if_pos hq]at h1
    split at h1
    ·cases h1
    ·rename_i hb
     have N7:gA names o.1=false:=by simpa [iz]using hb
     have hm:dX names o.1=false:=by
      unfold gA at N7;simp at N7;exact N7.2
     have N8:∀s,dX (names++ [o.1]) s=true->dX n1 s=true:=kt _ _ _ _ _ h1;refine⟨List.Pairwise.cons (fun y hy e2=> ?_) ih.1,fun s hs=> ?_⟩
     ·have h4:=ih.2 y hy;rw[N8 y (by rw[jy];simp[dX,e2])]at h4
      cases h4
     ·rcases aL.1 hs with rfl|hs
      ·exact hm
      ·have h4:=ih.2 s hs
       cases q:dX names s
       ·rfl
       ·rw[N8 s (by rw[jy,q];rfl)]at h4
        cases h4
theorem ku {types:ar}:∀(bs:List dh) (names:ar) (m:Nat),ey types names m bs= .ok ()->∀b∈bs,b.enum=false->∃a c,fw types [] [] b.parts= .ok (a,c)
 | [],_,_,_,b,hb,_=>by simp at hb
 |x::bs,names,m,h,b,hb,he=>by
  unfold ey at h
  split at h
  ·cases h
  ·split at h
   ·rename_i hx
    split at h
    ·cases h
    ·rcases aL.1 hb with rfl|hb
     ·rw[hx]at he;cases he
     ·exact ku bs _ _ h b hb he
   ·split at h
    ·cases h
    ·split at h
     ·cases h
     ·rename_i n1 h5
      rcases aL.1 hb with rfl|hb
      ·exact⟨n1.1,n1.2,h5⟩
      ·exact ku bs _ _ h b hb he
theorem AD {t:am}{bs:List dh}(h:gi t= .ok bs){b:dh}(hb:b∈bs)(he:b.enum=false):(fJ b.parts).Pairwise (fun x y=>x.toList≠y.toList):=by
 have Ob:=o9 h;unfold gi at h
 split at h
 ·cases h
 ·split at h
  ·cases h
  ·split at h
   ·cases h
   ·rename_i h4
    cases h
    obtain⟨a,c,hp⟩:=ku _ _ _ h4 b hb he;refine(pR _ _ _ _ _ hp (fun p hp o ho=> ?_)).1
    rcases(Ob.shape b hb p hp).2 with⟨o2,h1,h2,_⟩|⟨h1,_⟩
    ·rw[ho]at h1;rw[Option.some.inj h1];exact h2
    ·rw[ho]at h1
     cases h1
def uM (d:MT)(f:ek):List Int:=(d.fs.filter fun o=>gy o.how f.how&&jw o.how&&decide (o.num≠f.num)).map (·.num)
theorem Dd (s:am)(k:Nat):eB s k=((s.data.toList.getD k 0).toNat:Int):=by
 have hz:s.data.size=s.size:=rfl;unfold eB
 by_cases h:k<s.size
 ·rw[dif_pos h,bK,bi,bo (show k<s.data.size from h)];rfl
 ·rw[dif_neg h,bK,bi,bX (by omega)];rfl
theorem vw (s:am):jw (mX s)=true:=by
 unfold jw;rw[Dd];simp[mX]
theorem Hq {s t:am}(h:gy (mX s) (mX t)=true):s.toList=t.toList:=by
 rw[oa]at h;unfold mX at h;rw[ByteArray.toList_eq,ByteArray.toList_eq]at h⊢;simpa using h
theorem vx (form:Int):jw (uJ none form)=false:=by
 unfold uJ;simp only
 split
 ·decide
 ·split
  ·decide
  ·split<;>decide
theorem Jw {q p:er}{o:W}{f g:dM}(hp:p.oneof=some o)(hq:∀o2,q.oneof=some o2->o2.1.toList≠o.1.toList):(gy (gU q.oneof g).how (gU p.oneof f).how&&jw (gU q.oneof g).how)=false:=by
 cases N3:q.oneof with
 |none=>
  show(gy (uJ none g.form) _&&jw (uJ none g.form))=false;rw[vx,cg]
 |some o2=>
  rw[hp];show(gy (mX o2.1) (mX o.1)&&jw (mX o2.1))=false
  cases h:gy (mX o2.1) (mX o.1)
  ·rfl
  ·exact absurd (Hq h) (hq o2 N3)
theorem vy {q p:er}{o:W}{f:dM}(hp:p.oneof=some o)(hq:∀o2,q.oneof=some o2->o2.1.toList≠o.1.toList):
  ((q.fields.map (gU q.oneof)).filter fun x=>gy x.how (gU p.oneof f).how&&jw x.how&&decide (x.num≠(gU p.oneof f).num))= []:=by
 rw[List.filter_eq_nil_iff];intro x hx;obtain⟨g,_,rfl⟩:=List.mem_map.1 hx;rw[Jw hp hq];simp
theorem Hr (s:am):gy s s=true:=(oa _ _).2 rfl
theorem Jx {b:dh}(hones:(fJ b.parts).Pairwise (fun x y=>x.toList≠y.toList))(hshape:wO b){p:er}(hp:p∈b.parts){f:dM}(hf:f∈p.fields):uM (mL b) (gU p.oneof f)=mY p f:=by
 unfold uM mL;simp only;rw[List.filter_flatMap]
 cases ho:p.oneof with
 |none=>
  have h0:∀q∈b.parts,((q.fields.map (gU q.oneof)).filter fun x=>gy x.how (gU none f).how&&jw x.how&&decide (x.num≠(gU none f).num))= []:=by
   intro q _;rw[List.filter_eq_nil_iff];intro x _ hx;simp only[aT]at hx;have e:x.how.toList=(uJ none f.form).toList:=(oa _ _).1 hx.1.1
   have e2:x.how=uJ none f.form:=by
    apply cF;apply Array.toList_inj.1;rw[<-ByteArray.toList_eq,<-ByteArray.toList_eq];exact e
   have h1:=hx.1.2;rw[e2,vx]at h1
   cases h1
  rw[List.flatMap_eq_nil_iff.2 h0]
  rcases(hshape p hp).2 with⟨o,h1,_⟩|⟨_,g,hg,_⟩
  ·rw[ho]at h1
   cases h1
  ·rw[hg]at hf;have e:f=g:=by simpa using hf
   unfold mY;rw[hg,e];simp
 |some o=>
  obtain⟨l1,l2,hl⟩:=List.append_of_mem hp
  have N2:fJ b.parts=fJ l1++o.1::fJ l2:=by
   rw[hl];simp[fJ,ho]
  rw[N2,bW]at hones;obtain⟨_,h2,h3⟩:=hones;rw[bB]at h2
  have Oc:∀q∈l1,∀o2,q.oneof=some o2->o2.1.toList≠o.1.toList:=fun q hq o2 N3=>
   h3 o2.1 (List.mem_filterMap.2 ⟨q,hq,by rw[N3];rfl⟩) o.1 bg
  have Od:∀q∈l2,∀o2,q.oneof=some o2->o2.1.toList≠o.1.toList:=fun q hq o2 N3 e=>
   h2.1 o2.1 (List.mem_filterMap.2 ⟨q,hq,by rw[N3];rfl⟩) e.symm
  rw[hl,bZ,bm];rw[List.flatMap_eq_nil_iff.2 (fun q hq=>by rw[<-ho];exact vy ho (Oc q hq)),List.flatMap_eq_nil_iff.2 (fun q hq=>by rw[<-ho];exact vy ho (Od q hq))];rw[aP,bT,ho]
  have Oe:((p.fields.map (gU (some o))).filter fun x=>gy x.how (gU (some o) f).how&&jw x.how&&decide (x.num≠(gU (some o) f).num))=(p.fields.filter fun x=>decide (gV x≠gV f)).map (gU (some o)):=by
   rw[List.filter_map]
   congr 1;apply List.filter_congr;intro x _;show(gy (mX o.1) (mX o.1)&&jw (mX o.1)&&decide ((fy x.num.1:Int)≠(fy f.num.1:Int)))=decide (gV x≠gV f);rw[Hr,vw];rfl
  rw[Oe,bz];rfl
section
attribute [local go_sem↓] Go.wp_at_zero Go.wp_at_succ
def dn (w:an)(rb:Nat)(s:am)(a:Nat)(deep:Int):Prop:=de w rb #[ae s,aa a,aa deep] 244
theorem EE (w:an)(s:am):Calls Tryz.prog 84 #[ae s] w fun e w'=>e= .returned (ag w.heap.size)/\w'=w.alloc (.cells #[ae s,aa 0,aa 1] 244):=by
 go_enter Tryz.func84,Tryz.ntmps84
 go_wp2;go_ret;exact⟨rfl,rfl⟩
theorem ph (w:an)(rb:Nat)(s:am)(a:Nat)(deep:Int)(h:dn w rb s a deep):Calls Tryz.prog 129 #[ag rb] w fun e w'=>e= .returned (.bool (decide (a<s.size)))/\∃q,w'=w.drewN q:=by
 have e0:decide (a<s.size)=decide ((a:Int)<(s.size:Int)):=by rw[b8];simp
 rw[e0];obtain⟨k1,k2⟩:=de.rules h;go_enter Tryz.func129,Tryz.ntmps129
 go_wp2_with fail
 go_quiet (fail)
 go_wp2;go_ret;exact⟨rfl,nq,rfl⟩
theorem LE (w:an)(rb:Nat)(s:am)(a:Nat)(deep:Int)(h:dn w rb s a deep):Calls Tryz.prog 130 #[ag rb] w fun e w'=>e= .returned (aa a)/\w'=w:=by
 obtain⟨k1,k2⟩:=de.rules h;go_enter Tryz.func130,Tryz.ntmps130
 go_wp2;go_ret;exact⟨rfl,rfl⟩
theorem sj (w:an)(rb:Nat)(s:am)(a:Nat)(deep:Int)(st:Nat)(h:dn w rb s a deep)(h1:st<=a)(h2:a<=s.size):
  Calls Tryz.prog 136 #[ag rb,aa st] w fun e w'=>e= .returned (ae (s.extract st a))/\∃q,w'=w.drewN q:=by
 obtain⟨k1,k2⟩:=de.rules h;go_enter Tryz.func136,Tryz.ntmps136
 go_wp2_with fail
 go_quiet (fail)
 go_wp2;go_ret;exact⟨rfl,nq,rfl⟩
theorem AE (w:an)(rb:Nat)(s:am)(a:Nat)(deep:Int)(h:dn w rb s a deep)(h2:a<=s.size):
  Calls Tryz.prog 272 #[ag rb] w fun e w'=>e= .returned (ae (s.extract a s.size))/\∃q,w'=w.drewN q:=by
 obtain⟨k1,k2⟩:=de.rules h;go_enter Tryz.func272,Tryz.ntmps272
 go_wp2_with fail
 go_quiet (fail)
 go_wp2;go_ret;exact⟨rfl,nq,rfl⟩
end


theorem Tryz.info102:(Tryz.prog.info? 102).map (fun i=>(i.zero,i.size,i.bytes))=some (some (.agg #[ae ⟨#[]⟩,aa 0]),2,24):=by kernel_rfl
theorem jV (w:an)(a b:Value)(t:TypeId):∀j u,[a,b][j]?=some u->(w.alloc (.cells #[a,b] t)).cell? (((ai w.heap.size 0):Addr).add j)=some u:=by
 intro j u hj
 match j,hj with
 |0,hj=>simp at hj;subst hj;simp[Addr.add]
 |1,hj=>simp at hj;subst hj;simp[Addr.add]
 |j+2,hj=>simp at hj
theorem dl.drewN {bs:au}{a b:an}(h:dl bs a b)(n:Nat):dl bs a (b.drewN n):=h.trans ⟨rfl,rfl,rfl,ay _,fun _ _ _=>rfl⟩
theorem de.kept {w w1:an}{bs:au}{b:Nat}{cs:Array Value}{T:TypeId}(h:de w b cs T)(hk:dl bs w w1)(hn:b∉bs):de w1 b cs T:=(hk.block b h.lt hn).trans h
theorem jl (t:am)(k:Nat):0<=eB t k/\eB t k<256:=by
 unfold eB
 split
 ·rename_i h
  have:=t[k].toNat_lt;omega
 ·omega
theorem De (i:Nat):(2:Int)^(7*(i+1))=128*2^(7*i):=by
 rw[show 7*(i+1)=7*i+7 from by omega,Int.pow_add];omega
theorem sU {i j:Nat}(h:i<=j):(2:Int)^i<=2^j:=by
 have:=cJ (n:=2) (by decide) h
 exact_mod_cast this
theorem wW {i:Nat}{n c:Int}(h0:0<=n)(h1:n<2^(7*i)):0<=n+c%128*2^(7*i)/\n+c%128*2^(7*i)<2^(7*(i+1)):=by
 have hp:(0:Int)<2^(7*i):=Int.pow_pos (by decide);have h2:0<=c%128:=Int.emod_nonneg _ (by decide);have h3:c%128<=127:=by have:=Int.emod_lt_of_pos c (show(0:Int)<128 by decide);omega
 rw[De];generalize(2:Int)^(7*i)=q at*;have h4:0<=c%128*q:=Int.mul_nonneg h2 (by omega);have h5:c%128*q<=127*q:=Int.mul_le_mul_of_nonneg_right h3 (by omega);omega
theorem eR {c:Int}(h0:0<=c)(h1:c<18446744073709551616):IntKind.u64.wrap c=c:=by
 simp[IntKind.wrap,IntKind.signed,IntKind.bits];omega
section
attribute [local go_sem↓] Go.wp_at_zero Go.wp_at_succ
def ni {α:Type}(w:an)(rb:Nat)(s:am)(deep:Int)(r:Fx (α×Nat))(V:α->Value)(e:Ending)(w':an):Prop:=
 dl [rb] w w'/\(match r with
 | .error x=>e=da x.1 x.2
 | .ok x=>e= .returned (V x.1)/\dn w' rb s x.2 deep)
theorem dl.set1 {bs:au}{a b:an}(h:dl bs a b){c:Nat}(hp:c∈bs)(off:Nat)(u:Value):dl bs a (b.setCell (ai c off) u):=
 h.trans ⟨rfl,rfl,rfl,by simp,fun k _ hn=>by
  rw[dd,if_neg];intro e;rw[e]at hp
  exact hn hp⟩
theorem Jy:∀c:Fin 256,bits .andNot .u8 ((c.val:Nat):Int) 128=((c.val%128:Nat):Int)/\(bits .and .u8 ((c.val:Nat):Int) 128==0)=decide (c.val<128):=by decide+kernel
theorem BQ {c:Int}(h0:0<=c)(h1:c<256):bits .andNot .u8 c 128=c%128/\(bits .and .u8 c 128==0)=decide (c<128):=by
 obtain⟨n,rfl⟩:=bf h0;have:=Jy ⟨n,by omega⟩;refine⟨?_,?_⟩
 ·rw[this.1];simp
 ·rw[this.2,b8];simp;omega
theorem Hs {n x:Int}{k:Nat}(h0:0<=n)(h1:n<2^k)(hx:0<=x)(h2:n+x*2^k<18446744073709551616):bits .or .u64 n (x*2^k)=n+x*2^k:=by
 obtain⟨a,rfl⟩:=bf h0;obtain⟨b,rfl⟩:=bf hx;have e:((b:Int)*2^k)=((b*2^k:Nat):Int):=by push_cast;rfl
 rw[e]at h2⊢;have ha:a<2^k:=by exact_mod_cast h1
 rw[bits_or_u64_nat a (b*2^k) (by omega) (by omega),Nat.or_comm,<-cK,<-Nat.shiftLeft_add_eq_or_of_lt ha,cK]
 push_cast
 omega
theorem dn.drewN {w:an}{rb:Nat}{s:am}{a:Nat}{deep:Int}(h:dn w rb s a deep)(q:Nat):dn (w.drewN q) rb s a deep:=h
theorem gj (w:an)(rb:Nat)(s:am)(a:Nat)(deep:Int)(h:dn w rb s a deep)(hs:s.size<=140737488355328):
  Calls Tryz.prog 182 #[ag rb] w (ni w rb s deep (fA s a s.size) (Value.int .u64)):=by
 obtain⟨r,HR⟩:∃r,Hid (fA s a s.size=r):=⟨_,rfl⟩;rw[HR.out];obtain⟨k1,k2⟩:=de.rules h;go_enter Tryz.func182,Tryz.ntmps182
 go_wp2;clear k1 k2;go_loopw [4,5] (fun v sh wr=>∃(i:Nat) (n:Int),i<=9/\v= .int .u64 n/\sh=aa ((7*i:Nat):Int)/\0<=n/\n<2^(7*i)/\Hid (lD s a s.size (10-i) i n=r)/\dn wr rb s (a+i) deep/\dl [rb] w wr) (fun _ sh _=>63-(intOf sh).toNat)
 case atStart=>exact⟨0,0,by omega,rfl,rfl,by omega,by simp,HR,h,dl.refl _ _⟩
 case round=>
  clear HR;obtain⟨i,n,hi,rfl,rfl,Ol,Om,HV,N7,HK⟩:=hrel;have hrl:=de.lt N7;obtain⟨m,hm⟩:∃m,10-i=m+1:=⟨9-i,by omega⟩;have HN:Hid (n<2^(7*i)):=Om;clear Om
  by_cases hlt:a+i<s.size
  ·have Ob:=gY (t:=s) (k:=a+i) hlt;have Of:=jl s (a+i);obtain⟨c,hc⟩:∃c,eB s (a+i)=c:=⟨_,rfl⟩;have HC:Hid (eB s (a+i)=c):=hc;rw[hc]at Ob Of;clear hc;obtain⟨Oe,Oo⟩:=Of;obtain⟨z,hz⟩:∃z,a+i=z:=⟨_,rfl⟩;have HZ:Hid (a+i=z):=hz;rw[hz]at N7 hlt;have hbk2:(s[z].toNat:Int)=c:=by simp only[<-hz];exact Ob
   clear hz Ob;go_wp2_with fail
   refine(ph _ _ _ _ _ N7).mono ?_;rintro e w2 ⟨rfl,q,rfl⟩;rw[decide_eq_true hlt];have Og:=N7.drewN q;have Oq:=HK.drewN q;generalize wr.drewN q=wq at*;have hzl:(z:Int)<(s.size:Int):=by omega
   obtain⟨k1,k2⟩:=de.rules Og;go_upto_region 6 with fail
   go_quiet (fail)
   have N8:dn (wq.drewN nq) rb s z deep:=Og.drewN nq;have Oa:=Oq.drewN nq;generalize wq.drewN nq=w3 at*;clear k1 k2;obtain⟨k1,k2⟩:=de.rules N8
   by_cases h9:i=9/\1<c
   ·obtain⟨rfl,Oj⟩:=h9
    have HE:Hid (r= .error (7,(a:Int))):=by
     have:=HV.out;rw[hm,lD,if_pos (by have:=HZ.out;omega),if_pos ⟨rfl,by rw[HC.out];exact Oj⟩]at this;exact this.symm
    clear HN HV;go_wp2_with fail
    refine(Ed _ _ _).mono ?_;rintro e w4 ⟨rfl,rfl⟩;go_wp2;rw[HE.out];exact⟨rfl,Oa,rfl⟩
   ·have Oh:¬(7*(i:Int)==63)=true\/¬1<c:=by
     by_cases h:i=9
     ·exact .inr (fun hc=>h9 ⟨h,hc⟩)
     ·exact .inl (by simp;omega)
    have hg:=wW (i:=i) (c:=c) Ol HN.out;have Oi:Hid (n+c%128*2^(7*i)<2^(7*(i+1))):=hg.2;have Oc:=hg.1;have N3:0<=c%128:=Int.emod_nonneg _ (by decide);have Od:0<=c%128*2^(7*i):=Int.mul_nonneg N3 (Int.le_of_lt (Int.pow_pos (by decide)))
    have N2:n+c%128*2^(7*i)<18446744073709551616:=by
     by_cases h:i=9
     ·subst h;have h1:=HN.out;have Oj:¬1<c:=fun h=>h9 ⟨rfl,h⟩
      have:c%128=c:=Int.emod_eq_of_lt Oe (by omega);rw[this];simp only[Nat.reduceMul,Int.reducePow]at*;omega
     ·have h2:(2:Int)^(7*(i+1))<=2^63:=sU (by omega);have h1:=hg.2;omega
    have HX:Hid (bits BinOp.or IntKind.u64 n (IntKind.u64.wrap (IntKind.u64.wrap (bits BinOp.andNot IntKind.u8 c 128)*2^(7*i)))=n+c%128*2^(7*i)):=by
     have Ot:=eR N3 (by omega);have Ou:=eR Od (by omega);show bits BinOp.or IntKind.u64 n (IntKind.u64.wrap (IntKind.u64.wrap (bits BinOp.andNot IntKind.u8 c 128)*2^(7*i)))=n+c%128*2^(7*i);rw[(BQ Oe Oo).1,Ot,Ou];exact Hs Ol HN.out N3 N2
    have Ok:=(BQ Oe Oo).2;clear hg
    by_cases hc8:c<128
    ·have HE:Hid (r= .ok (n+c%128*2^(7*i),z+1)):=by
      have:=HV.out;rw[hm,lD,if_pos (by have:=HZ.out;omega),if_neg (by rw[HC.out];exact h9),HC.out,if_pos hc8,HZ.out]at this;exact this.symm
     rw[decide_eq_true hc8]at Ok;clear HV HN Oi Oc N3 Od N2
     cases Ov:(7*(i:Int)==63)
     ·go_wp2;go_ret;rw[HE.out,<-HX.out];exact⟨Oa.set1 (by simp) _ _,rfl,by unfold dn;simpa using de.set N8 1 (aa ((z:Int)+1))⟩
     ·have hc1':decide ((1:Int)<c)=false:=by rcases Oh with h|h<;>simp_all
      go_wp2;go_ret;rw[HE.out,<-HX.out];exact⟨Oa.set1 (by simp) _ _,rfl,by unfold dn;simpa using de.set N8 1 (aa ((z:Int)+1))⟩
    ·have hi8:i<9:=by
      by_cases h:i=9
      ·exact absurd ⟨h,by omega⟩ h9
      ·omega
     have Ov:(7*(i:Int)==63)=false:=by simp;omega
     have Ow:Hid (lD s a s.size (10-(i+1)) (i+1) (n+c%128*2^(7*i))=r):=by
      have:=HV.out;rw[hm,lD,if_pos (by have:=HZ.out;omega),if_neg (by rw[HC.out];exact h9),HC.out,if_neg hc8]at this;rw[show 10-(i+1)=m from by omega];exact this
     rw[decide_eq_false hc8]at Ok;have Ox:Hid (0<=n+c%128*2^(7*i)):=Oc;clear HV HN Oc N3 Od N2 Oh;go_wp2;refine⟨⟨i+1,n+c%128*2^(7*i),by omega,by rw[HX.out],by congr 1,Ox.out,Oi.out,Ow,?_,Oa.set1 (by simp) _ _⟩,by simp[intOf];omega⟩;have e1:((a+(i+1):Nat):Int)=(z:Int)+1:=by have:=HZ.out;omega
     unfold dn;rw[e1];simpa using de.set N8 1 (aa ((z:Int)+1))
  ·have HE:Hid (r= .error (6,(a:Int))):=by
    have:=HV.out;rw[hm,lD,if_neg hlt]at this;exact this.symm
   clear HN HV;go_wp2_with fail
   refine(ph _ _ _ _ _ N7).mono ?_;rintro e w2 ⟨rfl,q,rfl⟩;rw[decide_eq_false hlt];go_wp2_with fail
   refine(Ed _ _ _).mono ?_;rintro e w4 ⟨rfl,rfl⟩;go_wp2;rw[HE.out];exact⟨rfl,HK.drewN q,rfl⟩
end
theorem EF {b:am}{a e:Nat}:∀f i n m z,lD b a e f i n= .ok (m,z)->i+f=10->0<=n->n<2^(7*i)->0<=m/\m<18446744073709551616/\a+i<z/\z<=e
 |0,i,n,m,z,h,_,_,_=>by simp[lD]at h
 |f+1,i,n,m,z,h,hi,h0,h1=>by
  rw[lD]at h
  split at h
  ·rename_i hlt
   split at h
   ·simp at h
   ·rename_i h9
    have hg:=wW (i:=i) (c:=eB b (a+i)) h0 h1
    split at h
    ·rename_i hc
     simp only[Except.ok.injEq,Prod.mk.injEq]at h;obtain⟨rfl,rfl⟩:=h;refine⟨hg.1,?_,by omega,by omega⟩
     by_cases hi9:i=9
     ·subst hi9;have hr:=jl b (a+9);have hc2:¬1<eB b (a+9):=fun h=>h9 ⟨rfl,h⟩
      simp only[Nat.reduceMul,Int.reducePow]at h1⊢;omega
     ·have h2:(2:Int)^(7*(i+1))<=2^63:=sU (by omega);have h3:=hg.2;omega
    ·obtain⟨q0,q1,q2,q3⟩:=EF f (i+1) _ m z h (by omega) hg.1 hg.2;exact⟨q0,q1,by omega,q3⟩
  ·simp at h
theorem fW {b:am}{a e:Nat}{m:Int}{z:Nat}(h:fA b a e= .ok (m,z)):0<=m/\m<18446744073709551616/\a<z/\z<=e:=by
 have:=EF 10 0 0 m z h rfl (by omega) (by decide);simpa using this
theorem wX {b:am}{a e:Nat}:∀f i n c p,lD b a e f i n= .error (c,p)->(c=6\/c=7)/\p=a
 |0,i,n,c,p,h=>by
  simp[lD]at h;omega
 |f+1,i,n,c,p,h=>by
  rw[lD]at h
  split at h
  ·split at h
   ·simp at h;omega
   ·split at h
    ·simp at h
    ·exact wX f _ _ c p h
  ·simp at h;omega
theorem BS {b:am}{a e:Nat}{c p:Int}(h:fA b a e= .error (c,p)):(c=6\/c=7)/\p=a:=wX 10 0 0 c p h
section
variable {b:am} {a e fr:Nat} {t:Int}
end
end Go.Proofs.YtfebdimolnobaaaGreatDoor
