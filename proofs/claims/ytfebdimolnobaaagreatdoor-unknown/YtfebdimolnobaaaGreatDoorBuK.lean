import Derived.Test.YtfebdimolnobaaaGreatDoorMdV
import Derived.Test.YtfebdimolnobaaaGreatDoorPxA
set_option maxRecDepth 100000
set_option maxHeartbeats 8000000
set_option linter.all false
namespace Go.Proofs.YtfebdimolnobaaaGreatDoor
open Go.RowKit Go.Proofs.Tryz
section
open Go.Maps
def gC (bs:List d7):List d7:=bs.filter λb=> !b.enum
def jn (bs:List d7):eh bs=(gC bs).map λb=>b.name.1:=rfl
def Tf (b:d7)(gs:List GF):Prop:=gs.Perm (vm b)/\gs.Pairwise (λx y=>x.f.num<=y.f.num)
def Qz (w0:aw)(z:List (au×Nat))(v:Value):ax:=λb=>w0.heap.size<=b/\b∉z.map (·.2)/\v.ownBlock≠some b
abbrev YM:=(au×Nat)×List GF
def MI (w0 wr:aw)(z:List (au×Nat))(v:Value)(m:YM):Prop:=
 ∃fv Vq,dX wr m.1.2 #[ag m.1.1,fv] 108/\eO wr (Qz w0 z v) 212 1 fv Vq.length (fx Vq)/\gp wr (Qz w0 z v) (mO z) m.2 Vq
structure sS (w0 wr:aw)(kb:Nat)(v:Value)(z:List (au×Nat))(done:List d7)(y:List YM):Prop where
 row:wr.ownsRow w0.heap.size 105 1 v z.length (fx (z.map (·.2)))
 map:gq wr kb z.length (mO z)
 zy:y.map (·.1)=z
 mi:∀m∈y,MI w0 wr z v m
 at_:∀x∈z,w0.heap.size<=x.2/\v.ownBlock≠some x.2
 nd:(z.map (·.2)).Nodup
 g:∀(i:Nat) (b:d7),(gC done)[i]?=some b->∃m:YM,y[i]?=some m/\Tf b m.2
 kept:ec [kb] w0 wr
def sS.start {w0 wr:aw}{kb:Nat}{v:Value}{z:List (au×Nat)}(h:IU w0 wr kb v z):sS w0 wr kb v z [] (z.map λx=>(x,[]))where
 row:=h.row
 map:=h.map
 zy:=by rw[bJ];exact List.map_id z
 mi:=by
  intro m hm;obtain⟨x,hx,rfl⟩:=aR.1 hm;exact⟨_,[],(h.msg x hx).1,eO.nil0 _ _ _ _,rfl⟩
 at_:=λx hx=>⟨(h.msg x hx).2.1,(h.msg x hx).2.2⟩
 nd:=h.nd
 g:=by intro i b hb;simp[gC]at hb
 kept:=h.kept
def sS.on {w0 wr w2:aw}{kb:Nat}{v:Value}{z:List (au×Nat)}{done:List d7}{y:List YM}(h:sS w0 wr kb v z done y)(hb:ak wr w2):sS w0 w2 kb v z done y where
 row:=eX hb h.row
 map:=h.map.O (hb.block _ h.map.lt)
 zy:=h.zy
 mi:=λm hm=>by
  have⟨fv,Vq,h1,h2,h3⟩:=h.mi m hm;exact⟨fv,Vq,h1.G hb h1.lt,h2.O (λb _ hl=>hb.block b hl),h3.O (λb _ hl=>hb.block b hl)⟩
 at_:=h.at_
 nd:=h.nd
 g:=h.g
 kept:=h.kept.J (ec.oB hb)
def sS.enum {w0 wr:aw}{kb:Nat}{v:Value}{z:List (au×Nat)}{done:List d7}{y:List YM}{b:d7}(h:sS w0 wr kb v z done y)(he:b.enum=true):sS w0 wr kb v z (done++ [b]) y where
 row:=h.row
 map:=h.map
 zy:=h.zy
 mi:=h.mi
 at_:=h.at_
 nd:=h.nd
 g:=by
  have:gC (done++ [b])=gC done:=by simp[gC,he]
  rw[this];exact h.g
 kept:=h.kept
def sS.message {w0 w2:aw}{kb:Nat}{v fv2:Value}{z:List (au×Nat)}{done:List d7}{y:List YM}{b:d7}{gs:List GF}{Vq:aB}{nm:au}{mbi lo:Nat}(h:sS w0 w2 kb v z done y)(he:b.enum=false)(hkb:kb<w0.heap.size)
  (hz:z[(gC done).length]?=some (nm,mbi)) (hG:Tf b gs) (hlo:∀x,lo<=x->Qz w0 z v x) (hr:eO w2 (λx=>lo<=x) 212 1 fv2 Vq.length (fx Vq)) (hf:gp w2 (λx=>lo<=x) (mO z) gs Vq):
  ∃y',sS w0 (w2.setCell (aj mbi 1) fv2) kb v z (done++ [b]) y':=by
 have Vs:(nm,mbi)∈z:=aL hz;have Vr:=h.at_ _ Vs;have Vu:∀x,Qz w0 z v x->x≠mbi:=λx hx e=>hx.2.1 (by rw[e];exact aR.2 ⟨_,Vs,rfl⟩)
 have Vp:∀x,x≠mbi->(w2.setCell (aj mbi 1) fv2).heap[x]?=w2.heap[x]?:=λx hx=>by rw[dW,dO (λe=>hx e.sy)]
 have hlen:y.length=z.length:=by rw[<-h.zy];simp
 have Vv:(gC done).length<y.length:=by
  rw[hlen];by_cases hq:(gC done).length<z.length;.exact hq
  .rw[bf Vc]at hz;cases hz
 refine⟨y.set (gC done).length ((nm,mbi),gs),?_⟩;have Vt:gC (done++ [b])=gC done++ [b]:=by simp[gC,he]
 refine⟨?_,?_,?_,?_,h.at_,h.nd,?_,?_⟩;.exact ew h.row (λx hx=>Vp x (λe=>Vr.2 (by rw[hx,e])))
 .exact h.map.O (Vp kb (by show kb≠mbi;have:=Vr.1;simp only at this;omega))
 .rw[List.map_set,h.zy];apply List.ext_getElem?;intro j;rw[dL];split;.rename_i e;subst e;rw[dP Vc,hz]
  .rfl
 .intro m hm;have⟨j,hj⟩:=dq hm;rw[dL]at hj;split at hj
  .obtain rfl:=Option.some.inj hj;obtain⟨m0,Vw⟩:∃m0,y[(gC done).length]?=some m0:=⟨_,aO Vv⟩;have⟨fv,l,h1,_,_⟩:=h.mi m0 (aL Vw)
   have e0:m0.1=(nm,mbi):=by
    have:z[(gC done).length]?=some m0.1:=by rw[<-h.zy,aT,Vw];rfl
    rw[hz]at this;exact(Option.some.inj this).sy
   rw[e0]at h1;refine⟨fv2,Vq,h1.set 1 fv2,?_,?_⟩;.exact(hr.V (S':=Qz w0 z v) (λx hx _=>hlo x hx)).O (λx hx _=>Vp x (Vu x hx))
   .exact(hf.V (Q:=Qz w0 z v) (λx hx _=>hlo x hx)).O (λx hx _=>Vp x (Vu x hx))
  .rename_i VB;have Vx:m∈y:=aL hj;have Vy:z[j]?=some m.1:=by rw[<-h.zy,aT,hj];rfl
   have Vz:m.1.2≠mbi:=by
    intro e;apply VB;have e1:(z.map (·.2))[(gC done).length]?=some mbi:=by rw[aT,hz];rfl
    have e2:(z.map (·.2))[j]?=some mbi:=by rw[aT,Vy,<-e];rfl
    exact(List.getElem?_inj (by rw[bN];omega) h.nd).1 (e1.J e2.sy)
   have⟨fv,l,h1,h2,h3⟩:=h.mi m Vx;exact⟨fv,l,(Vp _ Vz).J h1,h2.O (λx hx _=>Vp x (Vu x hx)),h3.O (λx hx _=>Vp x (Vu x hx))⟩
 .intro i c hc;rw[Vt,List.getElem?_append]at hc;split at hc;.rename_i hi;have⟨m,h1,h2⟩:=h.g i c hc;exact⟨m,by rw[dL,dO Vc];exact h1,h2⟩
  .rename_i hi
   have VA:i=(gC done).length:=by
    by_cases hq:i-(gC done).length=0;.omega
    .rw[bf Ve]at hc;cases hc
   subst VA;simp at hc;subst hc;exact⟨_,by rw[dL,dP rfl,dP Vv],hG⟩
 .have hk:=h.kept;refine⟨hk.os,hk.tape,hk.output,by simpa using hk.size,λk VC VD=> ?_⟩;rw[Vp k (by have:=Vr.1;simp only at this;omega)];exact hk.block k VC VD
def Al {z:List (au×Nat)}{s:au}:∀{r:List (au×Nat)} {mp:an},(∀x∈r,x.1.toList≠s.toList)->r.foldl (λmp x=>jD mp x.1 x.2) mp s=mp s
 | [],_,_=>rfl
 |x::r,mp,h=>by
  rw[List.foldl_cons,Al (z:=z) (λy hy=>h y (aY _ hy))];unfold jD;rw[dO];unfold gN;simp;exact λe=>h x aZ e.sy
def GU:∀{r:List (au×Nat)} {mp:an} {s:au} {b:Nat},(r.map (·.1)).Pairwise (λx y=>x.toList≠y.toList)->(s,b)∈r->r.foldl (λmp x=>jD mp x.1 x.2) mp s=some b
 | [],_,_,_,_,h=>by simp at h
 |x::r,mp,s,b,hp,h=>by
  rw[List.foldl_cons];rw[bK,bu]at hp;rcases aS.1 h with rfl|h;.rw[Al (z:=r) (λy hy e=>hp.1 y.1 (aR.2 ⟨y,hy,rfl⟩) e.sy)];unfold jD;rw[dP (by unfold gN;simp)]
  .exact GU hp.2 h
def qS {z:List (au×Nat)}{s:au}{b:Nat}(hp:(z.map (·.1)).Pairwise (λx y=>x.toList≠y.toList))(h:(s,b)∈z):mO z s=some b:=GU hp h
end
section
open Go.Maps Go.ChangeMaps Go.WideMaps Go.WideElems
open Vo
structure fU (w:aw)(P:ax)(v:Value)(bs:List d7)(y:List YM):Prop where
 row:eO w P 105 1 v y.length (fx (y.map (·.1.2)))
 names:y.map (·.1.1)=eh bs
 msg:∀m∈y,jh w P (mO (y.map (·.1))) m.1.2 m.1.1 m.2
 g:∀(i:Nat) (b:d7),(gC bs)[i]?=some b->∃m:YM,y[i]?=some m/\Tf b m.2
def Kl (w:aw)(bs:List d7)(e:Ending)(w':aw):Prop:=∃v y,e= .returned v/\fU w' (λb=>w.heap.size<=b) v bs y/\ak w w'
def Of (w:aw)(ta:aC)(tc:Nat)(bs:List d7)(cs:ay)(S:ax)(hrow:eO w S 152 6 (.slice ta bs.length tc) bs.length cs)(hbs:ft w S cs bs)(hok:DD bs)(hg:GOK w)(hb:BOK w):
  Calls prog 35 #[.agg #[.slice ta bs.length tc]] w (Kl w bs):=by
 have⟨i0,Wk,Wl,Wm,Wn⟩:=info_parts Tryz.info105;have hmm:= @run_makeMap prog;have VA:=hok.few;have C0:ak w ((w.alloc (am #[.slice ta bs.length tc] 87)).alloc (Obj.map #[] 0)):=(Vb w _).alloc Vd _;have VQ:=(dX.new w #[.slice ta bs.length tc] 87).alloc (Obj.map #[] 0);have M0:gq ((w.alloc (am #[.slice ta bs.length tc] 87)).alloc (Obj.map #[] 0)) (w.heap.size+1) 0 (λ_=>none):=(by have:=gq.made (w.alloc (am #[.slice ta bs.length tc] 87));simpa using this);go_in
 go_wp2_with fail;generalize((w.alloc (am #[.slice ta bs.length tc] 87)).alloc (Obj.map #[] 0))=w1 at*;have zk:w.heap.size+1<w1.heap.size:=M0.lt;refine(UL w1 ta bs.length tc bs cs S (hrow.O (λb _ hl=>C0.block b hl)) (hbs.O (λb _ hl=>C0.block b hl)) VA hok.ok).V ?_;rintro e w0 ⟨nv,rfl,Vr,VD⟩;obtain⟨na,nn,nc,rfl⟩:=d5 Vr;obtain rfl:nn=(eh bs).length:=fh Vr;have C1:=eQ C0 VD;have V0:=VQ.G VD Vc;have M1:=M0.O (VD.block _ M0.lt);have zk0:w.heap.size+1<w0.heap.size:=by have:=VD.size;omega
 have hnl:(eh bs).length<=2001:=(by rw[jn,bN];exact aM (bZ _ _) VA)
 have VB:∀s∈eh bs,s.size<=2000:=λs hs=>by
  obtain⟨b,Vx,rfl⟩:=aR.1 hs;exact(hok.ok b (bA.1 Vx).1).name
 have Vs:eO w0 (λx=>w1.heap.size<=x) 9 1 (.slice na (eh bs).length nc) (eh bs).length (fS (eh bs)):=eO.of Vr;have B0:IU w0 w0 (w.heap.size+1) (ai) []:=⟨br _ _ _ _,M1,Vd,List.nodup_nil,ec.refl _ _⟩;clear Vr VD M0 M1 VQ C0;go_wp2;go_loopw [4,14] (λv i wr=>∃(k:Nat) (z:List (au×Nat)),k<=(eh bs).length/\i=aa k/\z.map (·.1)=(eh bs).take k/\IU w0 wr (w.heap.size+1) v z) (λ_ i _=>(eh bs).length-(intOf i).toNat)
 case atStart=>exact⟨0,[],aP _,rfl,rfl,B0⟩
 case round=>
  clear B0;obtain⟨k,z,hk,rfl,hz,HB⟩:=hrel;by_cases hlt:k<(eh bs).length
  .obtain⟨s,hs⟩:∃s,(eh bs)[k]?=some s:=⟨_,aO hlt⟩;have hsz:=VB s (aL hs);have Vu:(eh bs).take (k+1)=(eh bs).take k++ [s]:=by rw[bT,hs];rfl
   have hzl:z.length=k:=by have:=dS List.length hz;grind
   obtain⟨g,rfl,_,VL,Vp⟩:=eH Vs.1 Vc;have hgw:w1.heap.size<=g:=Vs.2 g rfl;have hq:=Vp wr (HB.kept.block g VL (by grind)) k (ag s) (by simp[fS,hs]);have VC:=HB.row.alloc (am #[ag s,ai] 108);have⟨D,Wo,Wp⟩:=HB.map;have VR:=Wo.alloc (am #[ag s,ai] 108);have V7:z.length<maxLen:=Vj;have hob:=HB.row.lt;clear Vp;go_wp2_with (first|(at_mapUpdate;refine wpList_mapUpdate_own _ rfl _ _ _ 145 rfl 9 105 IL underlying145 _ (w.heap.size+1) _ _ rfl VR V7 _ _ _ rfl rfl (IM s Vj) _ [] (lM (some wr.heap.size)) ?_;intro w2 VE Vq)|(at_builtin;refine wpList_append_own_at _ rfl _ _ 83 rfl w0.heap.size 105 i0 _ 1 8 underlying83 Wk Wl Wm Wn rfl Vf u4 _ _ rfl ((VC.kept Vq (.inr (λe=>by grind))).alloc _) _ 1 1 [_] rfl rfl (cell_one_new _ _ _) ?h1 ?h63 ?hby ?hba ?_;rotate_right;intro v' w5 VF Vy hnil VM))
   case h1=>rfl
   case h63=>omega
   case hby=>omega
   case hba=>have:=Vq.size;have:=HB.kept.size;simp at*;omega
   have V8:=HB.snoc Vc Vq (gq.put VR Wp VE) Vy VF VM;exact⟨⟨k+1,z++ [(s,wr.heap.size)],Vc,by go_num,by grind,V8⟩,by simp[intOf];omega⟩
  .have hli:decide ((k:Int)<((eh bs).length:Int))=false:=by grind
   obtain rfl:k=(eh bs).length:=Vc;rw[bB]at hz;have V9:=sS.start HB;have Wb:(z.map (·.1)).Pairwise (λx y=>x.toList≠y.toList):=(by rw[hz,jn];exact List.Pairwise.sublist (List.Sublist.map _ dC) hok.names);have⟨t1,t2⟩:=((show dX wr w.heap.size #[.slice ta bs.length tc] 87 from(HB.kept.block _ Vc Vd).J V0)).I;clear HB Vs VB;go_wp2_with fail;clear t1 t2;go_loopw [32] (λi wr=>∃(k:Nat) (y:List YM),k<=bs.length/\i=aa k/\sS w0 wr (w.heap.size+1) u4 z (bs.take k) y) (λi _=>bs.length-(intOf i).toNat)
   case atStart=>exact⟨0,_,aP _,rfl,by rw[List.take_zero];omega⟩
   case round=>
    clear V9;obtain⟨k,y,hk2,rfl,HC⟩:=hrel;have CW:ak w wr:=C1.J (HC.kept.to_below Vc Vd);by_cases hlt2:k<bs.length
    .have⟨b,Vx⟩:=gx hlt2;have VI:=aL Vx;have Vu:bs.take (k+1)=bs.take k++ [b]:=by rw[bT,Vx];rfl
     obtain⟨g,rfl,_,VL,Vp⟩:=eH hrow.1 Vc;have⟨pa,pn,pc,va,vn,vc,p0,p1,p2,p3,p4,p5,Wq,VY,Ws,_⟩:=hbs.get Vx;obtain rfl:pn=b.parts.length:=fh VY.1;have Vv:=Vp wr (CW.block g VL);rw[Nat.add_zero]at p0;have q0:=Vv _ _ p0;have q1:=Vv _ _ p1;have q2:=Vv _ _ p2;have q3:=Vv _ _ p3;have q4:=Vv _ _ p4;have q5:=Vv _ _ p5;have KB:=dX.new wr #[.bool b.enum,aa (dV b.name.1),ag b.name.1,aa b.name.2,.slice pa b.parts.length pc,.slice va vn vc] 152;have VG:=HC.on ((Va wr).alloc (aE _) (am #[.bool b.enum,aa (dV b.name.1),ag b.name.1,aa b.name.2,.slice pa b.parts.length pc,.slice va vn vc] 152));clear Vp Vv p0 p1 p2 p3 p4 p5 HC;cases hen:b.enum
     .rw[hen]at q0 KB VG
      have Wd:(gC bs)[(gC (bs.take k)).length]?=some b:=by
       have e1:bs=bs.take k++b::bs.drop (k+1):=by
        conv=>lhs;rw[<-ca k bs]
        rw[be hlt2];rw[aO hlt2]at Vx;rw[Option.some.inj Vx]
       have e2:gC bs=gC (bs.take k)++b::gC (bs.drop (k+1)):=by
        conv=>lhs;rw[e1]
        simp[gC,hen]
       grind
      obtain⟨Vz,VN⟩:∃Vz,z[(gC (bs.take k)).length]?=some (b.name.1,Vz):=by
       have e3:(z.map (·.1))[(gC (bs.take k)).length]?=some b.name.1:=by rw[hz,jn,aT,Wd];rfl
       grind
      have VS:mO z b.name.1=some Vz:=qS Wb (aL VN);have hbsz:=(hok.ok b VI).name;go_upto_region 14 with fail
      clear q0 q1 q2 q3 q4 q5;have We:ak w (wr.alloc (am #[.bool false,aa (dV b.name.1),ag b.name.1,aa b.name.2,.slice pa b.parts.length pc,.slice va vn vc] 152)):=CW.alloc CW.size _;generalize hw1:wr.alloc (am #[.bool false,aa (dV b.name.1),ag b.name.1,aa b.name.2,.slice pa b.parts.length pc,.slice va vn vc] 152)=W1 at*;have zc:wr.heap.size<W1.heap.size:=KB.lt;clear hw1;generalize wr.heap.size=c9 at*;have VH:ak w W1.drew:=We.drew;have VJ:=KB.drew;have Vt:sS w0 W1.drew (w.heap.size+1) u4 z (bs.take k) y:=VG.on (Below.refl _ _).drew;have VT:Hid (U8 67 #[.map (some (w.heap.size+1)),.agg #[.bool false,aa (dV b.name.1),ag b.name.1,aa b.name.2,.slice pa b.parts.length pc,.slice va vn vc]] W1.drew (Ak W1.drew (mO z) b)):=(by have:=Ki W1.drew (w.heap.size+1) z.length (mO z) b pa va pc vn vc Wq S (VY.O (λx _ hl=>VH.block x hl)) (Ws.O (λx _ hl=>VH.block x hl)) Vt.map (hok.ok b VI).parts (λp hp f hf=>hok.field VI hen hp hf) (hg.O (VH.block _ hg.lt)) (hb.O (VH.block _ hb.lt));rw[hen]at this;exact this);have Vw:=Vt.map.look b.name.1 Vj;rw[VS]at Vw;unfold gZ at Vw
      have VU:Hid (∀w2:aw,Below W1.drew.heap.size W1.drew w2->(Instr.lookup 145 (.map (some (w.heap.size+1))) (ag b.name.1) false).run prog w2= .ok (ah Vz) w2):=λw2 h2=>by
       have h3:=((Vt.on h2).map.look b.name.1 Vj);rw[VS]at h3;exact h3
      have VV:Hid (∀w2:aw,Below W1.drew.heap.size W1.drew w2->∃fv,dX w2 Vz #[ag b.name.1,fv] 108):=λw2 h2=>by
       have h3:=Vt.on h2;have h4:(b.name.1,Vz)∈z:=aL VN;rw[<-h3.zy]at h4;have⟨m,hm,Wt⟩:=aR.1 h4;have⟨fv,VO,h5,_,_⟩:=h3.mi m hm;rw[Wt]at h5;exact⟨fv,h5⟩
      have⟨x1,x2⟩:=VJ.I;go_region_with (first|(go_at_call 67;refine VT.o.V ?_;rintro e w2 ⟨fv2,gs,VO,rfl,Wu,Wv,VZ,Ww,b2⟩;obtain⟨fa2,fn2,fc2,rfl⟩:=d5 VZ.1;have VK:=VU.o w2 b2;have⟨fvo,KM⟩:=VV.o w2 b2;have⟨x3,x4⟩:=(VJ.G b2 VJ.lt).I;have⟨x5,x6⟩:=KM.I))
      all_goals
       have VW:=Vt.on b2
       have VX:∀x,W1.drew.heap.size<=x->Qz w0 z u4 x:=λx hx=>by
        refine⟨?_,?_,?_⟩;.have:=Vt.kept.size;omega
        .intro VP;obtain⟨q,hq,rfl⟩:=aR.1 VP;rw[<-Vt.zy]at hq;obtain⟨m,hm,rfl⟩:=aR.1 hq;have⟨_,_,h5,_,_⟩:=Vt.mi m hm;have:=h5.lt;omega
        .intro e;have:=(Vt.row.lt _ e).2;omega
       have⟨y',HCy⟩:=VW.message hen Vc VN ⟨Wu,Wv⟩ VX VZ Ww;clear VW VX VT VU VV Vw VK x1 x2 x3 x4 x5 x6;go_wp2;go_roundw
       case rel=>grind
       case measure=>simp[intOf];omega
     .rw[hen]at q0 KB VG;go_wp2;go_roundw
      case rel=>exact⟨k+1,y,Vc,rfl,by rw[Vu];exact VG.enum hen⟩
      case measure=>simp[intOf];omega
    .have hli2:decide ((k:Int)<(bs.length:Int))=false:=by grind
     obtain rfl:k=bs.length:=Vc;rw[bB]at HC;go_wp2;go_ret;have Wf:y.length=z.length:=by rw[<-HC.zy];simp
     refine⟨u4,y,rfl,⟨?_,?_,?_,HC.g⟩,CW⟩
     .have h1:=eO.of HC.row;have e1:y.map (·.1.2)=z.map (·.2):=by rw[<-HC.zy,bJ];rfl
      rw[e1,Wf];exact h1.V (λx hx _=>Vc)
     .have e1:y.map (·.1.1)=z.map (·.1):=by rw[<-HC.zy,bJ];rfl
      rw[e1,hz]
     .intro m hm;have⟨fv,VO,h1,h2,h3⟩:=HC.mi m hm;have Wh:m.1∈z:=by rw[<-HC.zy];exact aR.2 ⟨m,hm,rfl⟩
      rw[HC.zy];exact⟨fv,VO,h1,by have:=(HC.at_ _ Wh).1;omega,h2.V (λx hx _=>by have:=hx.1;omega),h3.V (λx hx _=>by have:=hx.1;omega)⟩
end
def lY (b:d7):MT:=⟨b.name.1,b.parts.flatMap λp=>p.fields.map (gW p.oneof)⟩
def ei (bs:List d7):eD:=⟨(gC bs).map lY,(bs.filter λb=>b.enum).map λb=>b.name.1⟩
def Am:∀(l:List (ap)) (s:ap) (k:Nat),l.contains s=false->Df l s k=none
 | [],s,k,_=>rfl
 |x::l,s,k,h=>by
  rw[bm,dt]at h;rw[Df,dO (by simp_all)];exact Am l s (k+1) h.2
def An:∀(l:List (ap)) (s:ap) (k:Nat),l.contains s=true->∃n,Df l s k=some n
 | [],s,k,h=>by grind
 |x::l,s,k,h=>by
  rw[Df];by_cases q:(s==x)=true;.simp_all
  .rw[dO q];rw[bm,cM]at h;exact An l s (k+1) (h.resolve_left q)
def DE (t:au):∀(z:List (au×Nat)) (mp:an),(z.foldl (λmp x=>jD mp x.1 x.2) mp t).isSome=(fi (z.map (·.1)) t||(mp t).isSome)
 | [],mp=>Vi
 |x::z,mp=>by
  rw[List.foldl_cons,DE t z];unfold jD fi gN;grind
def r9 (z:List (au×Nat))(t:au):(mO z t).isSome=fi (z.map (·.1)) t:=by
 unfold mO;rw[DE];simp
def ji (l:aA)(s:au):fi l s=true<->∃x∈l,x.toList=s.toList:=by
 unfold fi;simp
def Fl {bs:List d7}(hok:DD bs){t:au}(h:fi (fJ bs) t=true):fi ((bs.filter λb=>b.enum).map λb=>b.name.1) t= !(fi (eh bs) t):=by
 have key:∀b∈bs,∀c∈bs,b.name.1.toList=t.toList->c.name.1.toList=t.toList->b.enum=c.enum:=(by intro b hb c hc h1 h2;have⟨i,hi⟩:=dq hb;have⟨j,hj⟩:=dq hc;have hp:=hok.names;unfold fJ at hp;rw[cw,bV]at hp;grind);have⟨x,hx,Vp⟩:=(ji _ _).1 h;obtain⟨b,hb,rfl⟩:=aR.1 hx;cases he:b.enum
 .have h1:fi (eh bs) t=true:=(ji _ _).2 ⟨_,aR.2 ⟨b,bA.2 ⟨hb,by grind⟩,rfl⟩,Vp⟩;rw[h1];cases h2:fi ((bs.filter λb=>b.enum).map λb=>b.name.1) t;.rfl
  .have⟨y,hy,Vq⟩:=(ji _ _).1 h2;grind
 .have h1:fi ((bs.filter λb=>b.enum).map λb=>b.name.1) t=true:=(ji _ _).2 ⟨_,aR.2 ⟨b,bA.2 ⟨hb,Vc⟩,rfl⟩,Vp⟩;rw[h1];cases h2:fi (eh bs) t;.rfl
  .have⟨y,hy,Vq⟩:=(ji _ _).1 h2;obtain⟨c,hc,rfl⟩:=aR.1 hy;grind
def wz {bs:List d7}(hok:DD bs){z:List (au×Nat)}(hz:z.map (·.1)=eh bs){t:au}(ht:dV t=3\/(dV t=1/\fi (fJ bs) t=true)):(ei bs).base t=jB (mO z) t:=by
 unfold eD.base jB;by_cases h3:dV t=3;.rw[dP h3];have⟨n,hn⟩:=An mZ t.toList 0 (nh h3);unfold oh;simp_all
 .rw[dO h3];have⟨h1,hm⟩:=ht.resolve_left h3
  have hb:mZ.contains t.toList=false:=by
   cases q:mZ.contains t.toList;.rfl
   .exfalso;have h4:=Ds t;rw[show jI t.toList=true from q]at h4;simp_all
  rw[Am _ _ _ hb,r9,hz];show(if fi ((bs.filter λb=>b.enum).map λb=>b.name.1) t then 15 else 16)=_;rw[Fl hok hm];cases fi (eh bs) t<;>rfl
def qT (a b:au):gN a b=true<->a.toList=b.toList:=by unfold gN;simp
def qf {t:au}:∀{l:List d7},(∃b∈l,b.name.1.toList=t.toList)->∃(i:Nat) (b:d7),l[i]?=some b/\b.name.1.toList=t.toList/\lr (l.map lY) t=some (lY b)
 | [],h=>by simp_all
 |c::l,h=>by
  by_cases q:c.name.1.toList=t.toList;.exact⟨0,c,rfl,q,by rw[bK,lr,dP (show gN (lY c).name t=true from(qT _ _).2 q)]⟩
  .obtain⟨b,hb,Vr⟩:=h;rcases aS.1 hb with rfl|hb;.simp_all
   .have⟨i,d,h1,h2,h3⟩:=qf (t:=t) (l:=l) ⟨b,hb,Vr⟩;exact⟨i+1,d,by simpa using h1,h2,by rw[bK,lr,dO (show¬gN (lY c).name t=true from λe=>q ((qT _ _).1 e))];exact h3⟩
def qg {t:au}:∀{l:List d7},(∀b∈l,b.name.1.toList≠t.toList)->lr (l.map lY) t=none
 | [],_=>rfl
 |c::l,h=>by
  rw[bK,lr,dO (show¬gN (lY c).name t=true from λe=>h c aZ ((qT _ _).1 e))];exact qg (λb hb=>h b (aY _ hb))
def Km {z:List (au×Nat)}{s t:au}(h:s.toList=t.toList):mO z s=mO z t:=by
 obtain rfl:s=t:=(by apply cN;apply cV.1;rw[<-ByteArray.toList_eq,<-ByteArray.toList_eq];exact h);rfl
def qh {bs:List d7}(hok:DD bs){z:List (au×Nat)}(hz:z.map (·.1)=eh bs){t:au}(h:fi (eh bs) t=true):
  ∃(i:Nat) (b:d7) (blk:Nat),(gC bs)[i]?=some b/\(ei bs).msg t=some (lY b)/\z[i]?=some (b.name.1,blk)/\mO z t=some blk:=by
 have⟨x,hx,Vs⟩:=(ji _ _).1 h;obtain⟨c,hc,rfl⟩:=aR.1 hx;have⟨i,b,h1,h2,h3⟩:=qf (t:=t) (l:=gC bs) ⟨c,hc,Vs⟩;have e3:(z.map (·.1))[i]?=some b.name.1:=by rw[hz,jn,aT,h1];rfl
 rw[aT]at e3;have⟨y,hy,Vt⟩:=bi.1 e3;have Vp:y=(b.name.1,y.2):=by rw[<-Vt]
 have Vq:(z.map (·.1)).Pairwise (λx y=>x.toList≠y.toList):=(by rw[hz,jn];exact List.Pairwise.sublist (List.Sublist.map _ dC) hok.names);refine⟨i,b,y.2,h1,h3,by rw[hy,<-Vp],?_⟩;rw[<-Km h2];exact qS Vq (by grind)
def xF {bs:List d7}{z:List (au×Nat)}(hz:z.map (·.1)=eh bs){t:au}(h:fi (eh bs) t=false):(ei bs).msg t=none/\mO z t=none:=by
 refine⟨qg (λb hb e=> ?_),?_⟩;.have:fi (eh bs) t=true:=(ji _ _).2 ⟨_,aR.2 ⟨b,hb,rfl⟩,e⟩;simp_all
 .have:=r9 z t;simp_all
def ir (ps:List fI):aA:=ps.filterMap λp=>p.oneof.map (·.1)
def nj {types:aA}:∀(fs:List eU) (names:aA) (nums:aB) (n:aA) (m:aB),gy types names nums fs= .ok (n,m)->∀s,fi names s=true->fi n s=true
 | [],names,nums,n,m,h,s,hs=>by
  simp[gy]at h
  simp_all
 |f::fs,names,nums,n,m,h,s,hs=>by
  unfold gy at h;split at h;.cases h
  .rename_i n1 m1 h1;have g:=sQ h1;refine nj fs n1 m1 n m h s ?_;rw[g.2.2.2.1,lX,hs];rfl
def sU {types:aA}:∀(ps:List fI) (names:aA) (nums:aB) (n:aA) (m:aB),gQ types names nums ps= .ok (n,m)->(∀p∈ps,∀o,p.oneof=some o->dV o.1=1)->
  (ir ps).Pairwise (λx y=>x.toList≠y.toList)/\(∀s∈ir ps,fi names s=false)
 | [],names,nums,n,m,_,_=>⟨List.Pairwise.nil,by simp[ir]⟩
 |p::ps,names,nums,n,m,h,hk=>by
  unfold gQ at h;split at h;.cases h
  .rename_i n1 m1 h1;have ih:=sU ps n1 m1 n m h (λq hq=>hk q (aY _ hq))
   cases ho:p.oneof with
   |none=>
    have e:ir (p::ps)=ir ps:=by simp[ir,ho]
    rw[e];refine⟨ih.1,λs hs=> ?_⟩;have h2:=ih.2 s hs;unfold m9 at h1;rw[ho]at h1;have h3:gy types names nums p.fields= .ok (n1,m1):=by simpa [mU]using h1
    cases q:fi names s;.rfl
    .rw[nj _ _ _ _ _ h3 s q]at h2
     cases h2
   |some o=>
    have e:ir (p::ps)=o.1::ir ps:=by simp[ir,ho]
    rw[e];have hk1:dV o.1=1:=hk p aZ o ho;unfold m9 at h1;rw[ho]at h1
    have hq:(mU (some o)==1)=true:=by
     show(dV o.1==1)=true
     (simp;omega)
    rw[dP hq]at h1;split at h1;.cases h1
    .rename_i hb;have Vs:iR names o.1=false:=by simpa [jK]using hb
     have hm:fi names o.1=false:=(by unfold iR at Vs;simp_all);have Vr:∀s,fi (names++ [o.1]) s=true->fi n1 s=true:=nj _ _ _ _ _ h1;refine⟨List.Pairwise.cons (λy hy e2=> ?_) ih.1,λs hs=> ?_⟩;.have h4:=ih.2 y hy;rw[Vr y (by rw[lX];simp[fi,e2])]at h4;cases h4
     .rcases aS.1 hs with rfl|hs;.exact hm
      .have h4:=ih.2 s hs;cases q:fi names s;.rfl
       .rw[Vr s (by rw[lX,q];rfl)]at h4;cases h4
def nl {types:aA}:∀(bs:List d7) (names:aA) (m:Nat),fP types names m bs= .ok ()->∀b∈bs,b.enum=false->∃a c,gQ types [] [] b.parts= .ok (a,c)
 | [],_,_,_,b,hb,_=>by simp at hb
 |x::bs,names,m,h,b,hb,he=>by
  unfold fP at h;split at h;.cases h
  .split at h
   .rename_i hx;split at h;.cases h
    .rcases aS.1 hb with rfl|hb;.simp_all
     .exact nl bs _ _ h b hb he
   .split at h;.cases h
    .split at h;.cases h
     .rename_i n1 h5;rcases aS.1 hb with rfl|hb;.grind
      .exact nl bs _ _ h b hb he
def Fm {t:au}{bs:List d7}(h:iS t= .ok bs){b:d7}(hb:b∈bs)(he:b.enum=false):(ir b.parts).Pairwise (λx y=>x.toList≠y.toList):=by
 have Vt:=rY h;unfold iS at h;split at h;.cases h
 .split at h;.cases h
  .split at h;.cases h
   .rename_i h4;cases h;have⟨a,c,hp⟩:=nl _ _ _ h4 b hb he;refine(sU _ _ _ _ _ hp (λp hp o ho=> ?_)).1;rcases(Vt.shape b hb p hp).2 with⟨o2,h1,h2,_⟩|⟨h1,_⟩;.simp_all
    simp_all
def lF (d:MT)(f:fo):ar:=(d.fs.filter λo=>gN o.how f.how&&i8 o.how&&decide (o.num≠f.num)).map (·.num)
def Ao (s:au):i8 (oG s)=true:=by
 rfl
def Og {s t:au}(h:gN (oG s) (oG t)=true):s.toList=t.toList:=by
 rw[qT]at h;unfold oG at h;rw[ByteArray.toList_eq,ByteArray.toList_eq]at h⊢;simp_all
def Ap (form:Int):i8 (rH none form)=false:=by
 unfold rH;simp only;split;.decide
 .split;.decide
  .split<;>decide
def Qy {q p:fI}{o:W}{f g:eU}(hp:p.oneof=some o)(hq:∀o2,q.oneof=some o2->o2.1.toList≠o.1.toList):(gN (gW q.oneof g).how (gW p.oneof f).how&&i8 (gW q.oneof g).how)=false:=by
 cases Vq:q.oneof with
 |none=>
  show(gN (rH none g.form) _&&i8 (rH none g.form))=false
  rw[Ap,cU]
 |some o2=>
  rw[hp];show(gN (oG o2.1) (oG o.1)&&i8 (oG o2.1))=false;cases h:gN (oG o2.1) (oG o.1);.rfl
  .exact absurd (Og h) (hq o2 Vq)
def Aq {q p:fI}{o:W}{f:eU}(hp:p.oneof=some o)(hq:∀o2,q.oneof=some o2->o2.1.toList≠o.1.toList):
  ((q.fields.map (gW q.oneof)).filter λx=>gN x.how (gW p.oneof f).how&&i8 x.how&&decide (x.num≠(gW p.oneof f).num))= []:=by
 rw[List.filter_eq_nil_iff];intro x hx;obtain⟨g,_,rfl⟩:=aR.1 hx;rw[Qy hp hq];simp
def Oh (s:au):gN s s=true:=(qT _ _).2 rfl
def QA {b:d7}(hones:(ir b.parts).Pairwise (λx y=>x.toList≠y.toList))(hshape:Bv b){p:fI}(hp:p∈b.parts){f:eU}(hf:f∈p.fields):lF (lY b) (gW p.oneof f)=qb p f:=by
 unfold lF lY;simp only;rw[List.filter_flatMap]
 cases ho:p.oneof with
 |none=>
  have h0:∀q∈b.parts,((q.fields.map (gW q.oneof)).filter λx=>gN x.how (gW none f).how&&i8 x.how&&decide (x.num≠(gW none f).num))= []:=(by intro q _;rw[List.filter_eq_nil_iff];intro x _ hx;simp only[aQ]at hx;have e:x.how.toList=(rH none f.form).toList:=(qT _ _).1 hx.1.1;have e2:x.how=rH none f.form:=(by apply cN;apply cV.1;rw[<-ByteArray.toList_eq,<-ByteArray.toList_eq];exact e);have h1:=hx.1.2;rw[e2,Ap]at h1;cases h1);rw[List.flatMap_eq_nil_iff.2 h0];rcases(hshape p hp).2 with⟨o,h1,_⟩|⟨_,g,hg,_⟩;.simp_all
  .rw[hg]at hf;have e:f=g:=by simp_all
   unfold qb
   simp_all
 |some o=>
  have⟨l1,l2,hl⟩:=List.append_of_mem hp;have Vp:ir b.parts=ir l1++o.1::ir l2:=(by rw[hl];simp[ir,ho]);rw[Vp,ck]at hones;obtain⟨_,h2,h3⟩:=hones;rw[bu]at h2
  have Vu:∀q∈l1,∀o2,q.oneof=some o2->o2.1.toList≠o.1.toList:=λq hq o2 Vq=>
   h3 o2.1 (List.mem_filterMap.2 ⟨q,hq,by simp_all⟩) o.1 aZ
  have Vv:∀q∈l2,∀o2,q.oneof=some o2->o2.1.toList≠o.1.toList:=λq hq o2 Vq e=>
   h2.1 o2.1 (List.mem_filterMap.2 ⟨q,hq,by simp_all⟩) e.sy
  rw[hl,cY,bt];rw[List.flatMap_eq_nil_iff.2 (λq hq=>by rw[<-ho];exact Aq ho (Vu q hq)),List.flatMap_eq_nil_iff.2 (λq hq=>by rw[<-ho];exact Aq ho (Vv q hq))];rw[aX,bW,ho];have Vw:((p.fields.map (gW (some o))).filter λx=>gN x.how (gW (some o) f).how&&i8 x.how&&decide (x.num≠(gW (some o) f).num))=(p.fields.filter λx=>decide (jC x≠jC f)).map (gW (some o)):=(by rw[List.filter_map];congr 1;apply List.filter_congr;intro x _;show(gN (oG o.1) (oG o.1)&&i8 (oG o.1)&&decide ((jc x.num.1:Int)≠(jc f.num.1:Int)))=decide (jC x≠jC f);rw[Oh,Ao];rfl);rw[Vw,bJ];rfl
section
variable (s:au) {k:Nat} {S:eD} {b:au} {f:fo} {r:pK}
def fM (s:au)(a:Nat)(num kind:Int)(z:Nat):Fx pK:=
 if kind=0 then(match iT s z s.size with| .error y=> .error y| .ok y=> .ok ⟨num,0,a,z,y.2,y.1⟩)
 else if kind=1 then(match jt s z 8 with| .error y=> .error y| .ok y=> .ok ⟨num,1,a,z,y.2,y.1⟩)
 else if kind=5 then(match jt s z 4 with| .error y=> .error y| .ok y=> .ok ⟨num,5,a,z,y.2,y.1⟩)
 else(match fk s z with| .error y=> .error y| .ok y=> .ok ⟨num,2,a,y.1,y.2,0⟩)
theorem qW (a:Nat):Ok s a=match jW s a with| .error x=> .error x| .ok x=>fM s a x.1.1 x.1.2 x.2:=by
 unfold Ok fM;cases jW s a<;>rfl
theorem qX (a:Nat)(num kind:Int)(z:Nat):lZ s z kind=match fM s a num kind z with| .error x=> .error x| .ok r=> .ok ((),r.e):=by
 unfold lZ fM;grind
def zL (s:au)(k:Nat)(r:pK):Fx LV:=
 if k=13 then(if Lib.validD (s.extract r.fr r.e).data.toList then .ok (0,s.extract r.fr r.e)else .error (10,r.fr))
 else if k=14 then .ok (0,s.extract r.fr r.e)else .ok (lC k r.n,⟨#[]⟩)
def DL (s:au)(k:Nat):Fx pK->Fx (LV×Nat)
 | .error x=> .error x
 | .ok r=>match zL s k r with| .error x=> .error x| .ok v=> .ok (v,r.e)
theorem Fv (a:Nat)(num:Int)(z:Nat):fM s a num ((0:Nat):Int) z=match iT s z s.size with| .error y=> .error y| .ok y=> .ok ⟨num,0,a,z,y.2,y.1⟩:=rfl
theorem Fw (a:Nat)(num:Int)(z:Nat):fM s a num ((1:Nat):Int) z=match jt s z 8 with| .error y=> .error y| .ok y=> .ok ⟨num,1,a,z,y.2,y.1⟩:=rfl
theorem Fy (a:Nat)(num:Int)(z:Nat):fM s a num ((5:Nat):Int) z=match jt s z 4 with| .error y=> .error y| .ok y=> .ok ⟨num,5,a,z,y.2,y.1⟩:=rfl
theorem ux (a:Nat)(num:Int)(z:Nat):fM s a num ((2:Nat):Int) z=match fk s z with| .error y=> .error y| .ok y=> .ok ⟨num,2,a,y.1,y.2,0⟩:=rfl
theorem IW (hk:k<=15)(Vp:k≠13)(Vq:k≠14):eJ k=0\/eJ k=1\/eJ k=5:=by
 unfold eJ;grind
theorem xT (a:Nat)(num:Int)(z k:Nat)(hk:k<=15):gE s z k=DL s k (fM s a num (eJ k) z):=by
 unfold gE;by_cases Vp:k=13
 .subst Vp;rw[dP rfl,show eJ 13=2 from rfl,ux];unfold rP
  cases fk s z with
  |error x=>rfl
  |ok x=>
   simp only[DL,zL,if_true];grind
 .rw[dO Vp];by_cases Vq:k=14
  .subst Vq;rw[dP rfl,show eJ 14=2 from rfl,ux];unfold om
   cases fk s z with
   |error x=>rfl
   |ok x=>rfl
  .rw[dO Vq];unfold jE;have hv:∀r:pK,zL s k r= .ok (lC k r.n,⟨#[]⟩):=λr=>by unfold zL;rw[dO Vp,dO Vq]
   rcases IW hk Vp Vq with e|e|e
   .rw[dP e,e,Fv]
    cases iT s z s.size with
    |error x=>rfl
    |ok x=>simp only[DL,hv]
   .rw[dO Vc,dO Vc,e,Fw]
    cases jt s z 8 with
    |error x=>rfl
    |ok x=>simp only[DL,hv]
   .rw[dO Vc,dP e,e,Fy]
    cases jt s z 4 with
    |error x=>rfl
    |ok x=>simp only[DL,hv]
theorem Fz:∀(l:List (ap)) (s:ap) (k n:Nat),Df l s k=some n->∃i,n=k+i/\l[i]?=some s
 | [],_,_,_,h=>by simp[Df]at h
 |x::l,s,k,n,h=>by
  rw[Df]at h;split at h;.simp_all
  .have⟨i,h1,h2⟩:=Fz l s (k+1) n h;exact⟨i+1,Vc,by simpa using h2⟩
theorem mh {t:au}:S.base t=13<->gN t lD=true:=by
 constructor
 .intro h;unfold eD.base at h;split at h
  .rename_i k hk;subst h;have⟨i,h1,h2⟩:=Fz _ _ _ _ hk;obtain rfl:i=13:=Vc;have:t.toList=lD.toList:=(by have e:mZ[13]?=some lD.toList:=Vg;grind);unfold gN
   (simp;omega)
  grind
 .intro h;have e:t.toList=lD.toList:=by simpa [gN]using h
  unfold eD.base;rw[e];have:Df mZ lD.toList 0=some 13:=Vg;rw[this]
theorem BQ (hk:k<=15)(h:eJ k=2):k=13\/k=14:=by
 unfold eJ at h;grind
theorem DM {e:Nat}(hb:S.base f.ty=k)(hk:k<=15)(hr:r.kind=eJ k)(he:r.e<=e)(hs:e<=b.size):
  og S b f r=match zL (b.extract 0 e) k r with| .error x=> .error x| .ok v=> .ok (v.1,v.2,PM.none):=by
 unfold og zL;rw[kI hs he,hb];by_cases h2:r.kind=2
 .rw[dP h2];rcases BQ hk (hr▸h2)with rfl|rfl;.have hq:=mh.1 hb;rw[hq,ur];grind
  .have hq:gN f.ty lD=false:=(by rw[cm];intro q;rw[mh.2 q]at hb;omega);simp_all
 .rw[dO h2];have Vp:k≠13:=λq=>h2 (by rw[hr,q];rfl)
  have Vq:k≠14:=λq=>h2 (by rw[hr,q];rfl)
  rw[dO Vp,dO Vq];rfl
theorem Ay {e F a:Nat}{l:List PV}(he:e<=b.size)(ha:a<e):fW b k e (F+1) l a=match jE (b.extract 0 e) a k with| .error x=> .error x| .ok x=>fW b k e F (l++ [(x.1,eS,PM.none)]) x.2:=by
 rw[fW,dP ha];unfold jE;by_cases h0:eJ k=0;.rw[dP h0,dP h0,wE he];grind
 .rw[dO h0,dO h0];by_cases h5:eJ k=5;.simp only[h5,if_true];rw[sW he];split<;>rfl
  .simp only[h5,if_false];rw[sW he];split<;>rfl
def zO (S:eD)(b:au)(F:Nat)(d:MT)(f:fo)(m:PM)(r:pK)(deep:Nat):Fx PM:=
 if r.kind=fV S f then qo S b F d f m r deep else match mI S b f (m.get f.num) r.fr r.e with| .error x=> .error x| .ok l=> .ok (m.put f.num l)
theorem IX {F a e deep:Nat}{d:MT}{m:PM}(h:a<e)(hr:fN b a e= .ok r)(hf:d9 d.fs r.num=some f)(hk:r.kind=fV S f\/(r.kind=2/\f.isRep=true)):
  eW S b (F+1) d m a e deep=KH S b F d r.e e deep (zO S b F d f m r deep):=by
 unfold zO;by_cases q:r.kind=fV S f;.rw[dP q,Ax h hr hf q]
 .rw[dO q];have⟨h2,hp⟩:=hk.resolve_left q;exact xS h hr hf q h2 hp
end
section
open Vo
def Di (n:Int):UInt8:=UInt8.ofNat n.toNat
def yA {n:Int}(h0:0<=n)(h1:n<256):((Di n).toNat:Int)=n:=by
 unfold Di;rw[UInt8.toNat_ofNat'];omega
def uK:Nat->Int->ap
 |0,v=> [Di v]
 |f+1,v=>if v<128 then [Di v]else Di (v%128+128)::uK f (v/128)
def vi (v:Int):ap:=uK 9 v
def o0:Nat->Int->ap
 |0,_=> []
 |n+1,v=>Di (v%256)::o0 n (v/256)
def iG:∀(n:Nat) (v:Int),(o0 n v).length=n
 |0,_=>rfl
 |n+1,v=>by simp[o0,iG n]
def nW:∀(f:Nat) (v:Int),(uK f v).length<=f+1/\0<(uK f v).length
 |0,_=>by simp[uK]
 |f+1,v=>by
  rw[uK];have:=nW f (v/128);split<;>simp<;>omega
def QT {v:Int}(h0:0<=v):bits .or .u8 (v%256) 128=v%128+128:=by
 obtain⟨n,rfl⟩:=bF h0;have h:∀k:Fin 256,bits .or .u8 (k.val:Int) 128=((k.val%128+128:Nat):Int):=Vg;rw[show(n:Int)%256=((n%256:Nat):Int)by omega,h ⟨n%256,Vc⟩];simp only;omega
def i9 (B b:Nat)(l x:ap)(w:aw)(e:Ending)(w':aw):Prop:=e= .returned (.tuple #[])/\fH w' B b (eE b) (l++x)/\Wr B w w'
section
variable {B b:Nat} {l:ap} {w:aw}
def fH.lt (h:fH w B b (eE b) l):b<w.heap.size:=dX.lt h.2.choose_spec.1
def LU (c:Int)(h:fH w B b (eE b) l)(h0:0<=c)(h1:c<256)(hlen:l.length+1<=2^47)(hBw:B<=w.heap.size):
  U8 391 #[eE b,.int .u8 c] w λe w'=>e= .returned .nilIface/\fH w' B b (eE b) (l++ [Di c])/\Wr B w w':=by
 have:=Ej B b l (Di c) w h hlen hBw
 rwa [yA h0 h1]at this
def oS (v:Int)(h:fH w B b (eE b) l)(h0:0<=v)(h1:v<2^64)(hlen:l.length+(vi v).length<=2^47)(hBw:B<=w.heap.size):
  Calls prog 315 #[eE b,.int .u64 v] w (i9 B b l (vi v) w):=by
 have hb0:=h.lt;go_in
 go_wp2;go_loopw [1] (λuv wr=>∃(u:Int) (f:Nat) (l1:ap),uv= .int .u64 u/\0<=u/\u<2^64/\u<128^(f+1)/\Hid (l1++uK f u=l++vi v)/\fH wr B b (eE b) l1/\Wr B w wr) (λuv _=>(intOf uv).toNat)
 case atStart=>exact⟨v,9,l,rfl,h0,h1,Vc,rfl,h,Wr.refl _ _⟩
 case round=>
  obtain⟨u,f,l1,rfl,u0,u1,u2,HL,hW,hB⟩:=hrel;have Vp:l1.length+(uK f u).length<=2^47:=(by have:=dS List.length HL.o;simp only[aN]at this;omega);have hsz:=hB.bel.size;by_cases Vq:u<128
  .have hd:decide (128<=u)=false:=by simpa using Vq
   have hn:uK f u= [Di u]:=by cases f<;>simp[uK,Vq]
   have hw:u%256=u:=Vc;rw[hn]at HL Vp;rw[List.length_singleton]at Vp;go_wp2_with fail;refine(LU u hW u0 Vc Vp Vc).V ?_;rintro e w2 ⟨rfl,q1,q2⟩;go_wp2;go_end0;exact⟨rfl,by rw[<-HL.o];exact q1,hB.J q2⟩
  .have hd:decide (128<=u)=true:=by simpa using Vq
   obtain⟨f,rfl⟩:∃g,f=g+1:=⟨f-1,by
    cases f with
    |zero=>simp at u2;omega
    |succ f=>rfl⟩
   have hn:uK (f+1) u=Di (u%128+128)::uK f (u/128):=by rw[uK,dO Vq]
   have hor:=QT u0;rw[hn]at HL Vp;simp only[bw]at Vp;go_wp2_with fail;refine(LU (u%128+128) hW Vc Vc Vc Vc).V ?_;rintro e w2 ⟨rfl,q1,q2⟩;go_wp2;refine⟨⟨u/128,f,l1++ [Di (u%128+128)],?_,Vc,Vc,?_,?_,q1,hB.J q2⟩,?_⟩;.rfl
   .rw[Int.pow_succ]at u2;omega
   .show l1++ [Di (u%128+128)]++uK f (u/128)=l++vi v;rw[bj];exact HL.o
   .simp[intOf];omega
def Ek (v:Int)(n:Nat)(h:fH w B b (eE b) l)(h0:0<=v)(h1:v<2^64)(hn:n<=8)(hlen:l.length+n<=2^47)(hBw:B<=w.heap.size):
  Calls prog 392 #[eE b,.int .u64 v,aa n] w (i9 B b l (o0 n v) w):=by
 go_in
 go_wp2;go_loopw [1,7] (λuv iv wr=>∃(u:Int) (i j:Nat) (l1:ap),uv= .int .u64 u/\iv=aa i/\0<=u/\u<2^64/\i+j=n/\Hid (l1++o0 j u=l++o0 n v)/\fH wr B b (eE b) l1/\Wr B w wr) (λ_ iv _=>n-(intOf iv).toNat)
 case atStart=>exact⟨v,0,n,l,rfl,rfl,h0,h1,Vc,rfl,h,Wr.refl _ _⟩
 case round=>
  obtain⟨u,i,j,l1,rfl,rfl,u0,u1,Vr,HL,hW,hB⟩:=hrel;have Vp:l1.length+j<=2^47:=(by have:=dS List.length HL.o;simp only[aN,iG]at this;omega);have hsz:=hB.bel.size
  cases j with
  |zero=>
   obtain rfl:i=n:=Vc;clear Vr;go_wp2;go_end0
   exact⟨rfl,by rw[<-HL.o,o0,bW];exact hW,hB⟩
  |succ j=>
   have Vq:(i:Int)<n:=Vc;go_wp2_with fail;refine(LU (u%256) hW Vc Vc Vc Vc).V ?_;rintro e w2 ⟨rfl,q1,q2⟩;go_wp2;refine⟨⟨u/256,i+1,j,l1++ [Di (u%256)],rfl,rfl,Vc,Vc,Vc,((bj _ _ _).J HL.o:_=_),q1,hB.J q2⟩,?_⟩;simp[intOf];omega
def LW (v:Int)(h:fH w B b (eE b) l)(h0:0<=v)(h1:v<2^64)(hlen:l.length+(o0 4 v).length<=2^47)(hBw:B<=w.heap.size):
  Calls prog 319 #[eE b,.int .u64 v] w (i9 B b l (o0 4 v) w):=by
 rw[iG]at hlen;go_in
 go_wp2_with fail;refine(Ek v 4 h h0 h1 Vc hlen hBw).V ?_;rintro e w2 ⟨rfl,q⟩;go_wp2;go_end0;exact⟨rfl,q⟩
def H6 (v:Int)(h:fH w B b (eE b) l)(h0:0<=v)(h1:v<2^64)(hlen:l.length+(o0 8 v).length<=2^47)(hBw:B<=w.heap.size):
  Calls prog 320 #[eE b,.int .u64 v] w (i9 B b l (o0 8 v) w):=by
 rw[iG]at hlen;go_in
 go_wp2_with fail;refine(Ek v 8 h h0 h1 Vc hlen hBw).V ?_;rintro e w2 ⟨rfl,q⟩;go_wp2;go_end0;exact⟨rfl,q⟩
def qA (n:Nat)(h:fH w B b (eE b) l)(hn:n<=2^47)(hlen:l.length+(vi n).length<=2^47)(hBw:B<=w.heap.size):
  Calls prog 232 #[eE b,aa n] w (i9 B b l (vi n) w):=by
 have hw:IntKind.u64.wrap (n:Int)=n:=gD Vc Vc;have hm:(n:Int)%2^64=n:=Vc;go_in
 go_wp2_with fail;refine(oS (n:Int) h Vc Vc hlen hBw).V ?_;rintro e w2 ⟨rfl,q⟩;go_wp2;go_end0;exact⟨rfl,q⟩
def uL (s:au)(h:fH w B b (eE b) l)(hlen:l.length+s.data.toList.length<=2^47)(hBw:B<=w.heap.size):
  Calls prog 154 #[eE b,ag s] w (i9 B b l s.data.toList w):=by
 go_in
 go_wp2_with fail;refine(zY B b l s w h hlen hBw).V ?_;rintro e w2 ⟨rfl,q⟩;go_wp2;go_end0;exact⟨rfl,q⟩
def fF (x:ap):ap:=vi x.length++x
def H7 (s:au)(h:fH w B b (eE b) l)(hlen:l.length+(fF s.data.toList).length<=2^47)(hBw:B<=w.heap.size):
  Calls prog 318 #[eE b,ag s] w (i9 B b l (fF s.data.toList) w):=by
 unfold fF at*;have hs:s.data.toList.length=s.size:=Vd;rw[aN]at hlen;rw[hs]at hlen⊢;go_in
 go_wp2_with fail;refine(qA s.size h Vc Vc hBw).V ?_;rintro e w2 ⟨rfl,q1,q2⟩;have:=q2.bel.size;go_wp2_with fail;refine(uL s q1 (by rw[hs,aN];omega) Vc).V ?_;rintro e w3 ⟨rfl,r1,r2⟩;go_wp2;go_end0;exact⟨rfl,by rw[bj]at r1;exact r1,q2.J r2⟩
def AM (h:fH w B b (eE b) l)(hBw:B<=w.heap.size):
  Calls prog 98 #[eE b] w λe w'=>e= .returned (ag ⟨l.toArray⟩)/\Below B w w':=by
 go_in
 go_wp2_with fail;refine(LT B b l w h hBw).V ?_;rintro e w2 ⟨rfl,q⟩;go_wp2;go_ret;exact⟨rfl,q⟩
def vE (n:Nat)(hn:n<=2^47)(hBw:B<=w.heap.size):
  Calls prog 96 #[aa n] w λe w'=>∃b,e= .returned (eE b)/\w.heap.size<=b/\fH w' B b (eE b) []/\Below B w w':=by
 have K:=dX.new w #[.pointer none,ai] 285;have B1:Below B w (w.alloc (.cells #[.pointer none,ai] 285)):=(Below.refl _ _).alloc hBw _;have hs1:w.heap.size+1=(w.alloc (.cells #[.pointer none,ai] 285)).heap.size:=Vd;go_in
 go_wp2_with fail;refine(QS B w.heap.size n _ hBw K Vc hn).V ?_;rintro e w2 ⟨rfl,q1,q2⟩;go_wp2;go_ret;exact⟨_,rfl,aE _,q1,B1.J q2⟩
end
end
section
variable {b c:au} {e a deep e':Nat} {S:eD}
structure Ag (b c:au)(e:Nat):Prop where
 at_:∀i,i<e->fZ c i=fZ b i
 ext:∀i j,j<=e->c.extract i j=b.extract i j
theorem Ag.refl (b:au)(e:Nat):Ag b b e:=⟨λ_ _=>rfl,λ_ _ _=>rfl⟩
theorem Ag.less {f:Nat}(h:Ag b c e)(hf:f<=e):Ag b c f:=⟨λi hi=>h.at_ i Vc,λi j hj=>h.ext i j Vc⟩
theorem mq (b:au)(i:Nat):fZ b i=((b.data.toList[i]?).map λx=>(x.toNat:Int)).getD 0:=by
 unfold fZ;split;.rename_i h;rw[bO,bU (show i<b.data.size from h)];rfl
 simp_all
theorem oX (b t:au):(b++t).data.toList=b.data.toList++t.data.toList:=Vd
theorem Pe (b t:au)(i:Nat):fZ (b++t) (b.size+i)=fZ t i:=by
 rw[mq,mq,oX,cj Vd];simp
theorem Ag.app (b t:au):Ag b (b++t) b.size:=by
 refine⟨λi hi=> ?_,λi j hj=> ?_⟩;.rw[mq,mq,oX,cA (by simpa using hi)]
 .have h1:∀c:au,(c.extract i j).data.toList=(c.data.toList.take j).drop i:=λc=>by
   rw[cJ,Array.toList_extract,List.extract_eq_take_drop,List.drop_take]
  have h2:((b++t).extract i j).data.toList=(b.extract i j).data.toList:=(by rw[h1,h1,oX,dh (by simpa using hj)]);exact cN (cV.1 h2)
theorem MA (h:Ag b c e):∀f i n,mH c a e f i n=mH b a e f i n
 |0,_,_=>rfl
 |f+1,i,n=>by
  rw[mH,mH];split;.rename_i hl;rw[h.at_ _ hl,MA h f]
  .rfl
theorem Gq (h:Ag b c e):fN c a e=fN b a e:=by
 have hv:∀a,iT c a e=iT b a e:=λa=>MA h 10 0 0
 unfold fN;rw[hv a];split;.rfl
 .rename_i t fr _;rw[hv fr];have e8:fr+8<=e->c.extract fr (fr+8)=b.extract fr (fr+8):=λq=>h.ext _ _ q
  have e4:fr+4<=e->c.extract fr (fr+4)=b.extract fr (fr+4):=λq=>h.ext _ _ q
  simp_all
theorem Cy {k:Nat}(h:Ag b c e):∀F l a,fW c k e F l a=fW b k e F l a
 |0,_,_=>rfl
 |F+1,l,a=>by
  rw[fW,fW];have hv:iT c a e=iT b a e:=MA h 10 0 0;rw[hv];split
  .split
   .split;.rfl
    .rw[Cy h F]
   .simp only;generalize(if eJ k=5 then 4 else 8)=z;split;.rw[h.ext _ _ ‹_›,Cy h F]
    .rfl
  .rfl
def kE (S:eD)(b:au)(F:Nat)(d:MT)(m:PM)(r:pK)(deep:Nat):Fx PM:=
 match d9 d.fs r.num with
 |none=> .ok (m.O (b.extract r.a r.e))
 |some f=>if r.kind=fV S f then qo S b F d f m r deep
  else if r.kind=2/\f.isRep=true then(match mI S b f (m.get f.num) r.fr r.e with| .error x=> .error x| .ok l=> .ok (m.put f.num l))
  else .ok (m.O (b.extract r.a r.e))
theorem jy {F:Nat}{d:MT}{m:PM}{r:pK}(h:a<e)(hr:fN b a e= .ok r):eW S b (F+1) d m a e deep=KH S b F d r.e e deep (kE S b F d m r deep):=by
 unfold kE;split;.rename_i hf;exact pu h hr λf q=>by simp_all
 .rename_i f hf;split;.exact Ax h hr hf ‹_›
  .split;.rename_i hk hp;exact xS h hr hf hk hp.1 hp.2
   .rename_i hk hp
    exact pu h hr λg q=>by
     simp_all
theorem nZ:∀(F G:Nat) (d:MT) (m:PM) (a e deep:Nat),Ag b c e->e-a<F->e-a<G->eW S c G d m a e deep=eW S b F d m a e deep
 |0,_,_,_,_,_,_,_,h,_=>absurd h Vc
 |_+1,0,_,_,_,_,_,_,_,h=>absurd h Vc
 |F+1,G+1,d,m,a,e,deep,hA,hF,hG=>by
  by_cases hl:a<e
  .have Vp:=Gq (a:=a) hA
   cases hr:fN b a e with
   |error x=>rw[jk hl hr,jk hl (Vp.J hr)]
   |ok r=>
    rw[jy hl hr,jy hl (Vp.J hr)];have⟨r1,r2,r3,r4,r5,_⟩:=je hr;have Vq:=hA.less r5
    have hs:kE S c G d m r deep=kE S b F d m r deep:=by
     have hx:c.extract r.a r.e=b.extract r.a r.e:=hA.ext _ _ r5;have hy:c.extract r.fr r.e=b.extract r.fr r.e:=hA.ext _ _ r5;unfold kE;rw[hx];split;.rfl
     .rename_i f _;split
      .have:oo S c G f m r deep=oo S b F f m r deep:=by
        unfold oo zK og;rw[hy];split;.rename_i sub _;rw[nZ F G sub _ r.fr r.e (deep+1) Vq Vc Vc]
        .rfl
       unfold qo;rw[this]
      .unfold mI;rw[Cy Vq]
    rw[hs];unfold KH;split;.rfl
    .exact nZ F G d _ r.e e deep hA Vc Vc
  .rw[iP hl,iP hl]
theorem MB (he:e<=e'):∀f i n,(∀x,mH b a e f i n= .ok x->mH b a e' f i n= .ok x)/\∀c p,mH b a e f i n= .error (c,p)->c≠6->mH b a e' f i n= .error (c,p)
 |0,_,_=>⟨λ_ h=>h,λ_ _ h _=>h⟩
 |f+1,i,n=>by
  rw[mH,mH];by_cases hl:a+i<e
  .rw[dP hl,dP (show a+i<e' by omega)];split;.simp
   .split;.simp
    .exact MB he f _ _
  grind
theorem wZ (he:e<=e'):(∀x,iT b a e= .ok x->iT b a e'= .ok x)/\∀c p,iT b a e= .error (c,p)->c≠6->iT b a e'= .error (c,p):=MB he 10 0 0
theorem Cz (he:e<=e'):(∀r,fN b a e= .ok r->fN b a e'= .ok r)/\∀c p,fN b a e= .error (c,p)->c≠6->fN b a e'= .error (c,p):=by
 have err6:∀{α:Type} {c p:Int} {k:Nat} {X:Fx α},(Except.error ((6:Int),(k:Int)):Fx α)= .error (c,p)->c≠6->X= .error (c,p):=λh hc=>by
  simp_all
 have⟨v1,v2⟩:=wZ (b:=b) (a:=a) he;unfold fN
 cases hv:iT b a e with
 |error x=>
  refine⟨λr h=>(by cases h),λc p h hc=> ?_⟩;have h:Except.error x=Except.error (c,p):=h;cases h
  rw[v2 c p hv hc]
 |ok x=>
  obtain⟨t,fr⟩:=x;rw[v1 _ hv];simp only;have⟨u1,u2⟩:=wZ (b:=b) (a:=fr) he;split;.simp
  grind
theorem rm (he:e<=e'):∀(F G:Nat) (d:MT) (m:PM) (a:Nat),a<=e->e-a<F->e'-a<G->
  (∀c p,eW S b F d m a e deep= .error (c,p)->c≠6->eW S b G d m a e' deep= .error (c,p))/\
  ∀m',eW S b F d m a e deep= .ok m'->∀K,e'-e<K->eW S b G d m a e' deep=eW S b K d m' e e' deep
 |0,_,_,_,_,_,h,_=>absurd h Vc
 |_+1,0,_,_,_,_,_,h=>absurd h Vc
 |F+1,G+1,d,m,a,ha,hF,hG=>by
  by_cases hl:a<e
  .cases hr:fN b a e with
   |error x=>
    rw[jk hl hr];refine⟨λc p h hc=> ?_,λm' h=>(by cases h)⟩;cases h
    exact jk Vc ((Cz he).2 c p hr hc)
   |ok r=>
    have⟨r1,r2,r3,r4,r5,_⟩:=je hr;rw[jy hl hr,jy Vc ((Cz he).1 r hr)]
    have hs:kE S b G d m r deep=kE S b F d m r deep:=by
     unfold kE qo oo zK;split;.rfl
     .split
      .split;.rename_i sub _;rw[nZ F G sub _ r.fr r.e (deep+1) (Ag.refl _ _) Vc Vc]
       .rfl
      .rfl
    rw[hs]
    cases hq:kE S b F d m r deep with
    |error x=>exact⟨λc p h _=>h,λm' h=>(by cases h)⟩
    |ok m1=>exact rm he F G d m1 r.e r5 Vc Vc
  .rw[iP hl];obtain rfl:a=e:=Vc;refine⟨λc p h=>(by cases h),λm' h K hK=> ?_⟩;cases h;exact nZ K (G+1) d m a e' deep (Ag.refl _ _) hK Vc
theorem yW {t:au}:∀f i n,(∀m z,mH t a e f i n= .ok (m,z)->mH (b++t) (b.size+a) (b.size+e) f i n= .ok (m,b.size+z))/\∀c p,mH t a e f i n= .error (c,p)->mH (b++t) (b.size+a) (b.size+e) f i n= .error (c,b.size+p)
 |0,_,_=>by
  refine⟨λm z h=>(by cases h),λc p h=> ?_⟩;cases h
  rfl
 |f+1,i,n=>by
  rw[mH,mH,show b.size+a+i=b.size+(a+i)by omega,Pe];by_cases hl:a+i<e
  .rw[dP hl,dP (show b.size+(a+i)<b.size+e by omega)];split;.simp
   .split;·(simp;omega)
    .exact yW f _ _
  grind
end
end Go.Proofs.YtfebdimolnobaaaGreatDoor
