import Derived.Test.YtfebdimolnobaaaGreatDoorBuK
import Derived.Test.YtfebdimolnobaaaGreatDoorWkD
import Derived.Test.YtfebdimolnobaaaGreatDoorRfC
set_option maxRecDepth 100000
set_option maxHeartbeats 8000000
set_option linter.all false
namespace Go.Proofs.YtfebdimolnobaaaGreatDoor
open Go.RowKit Go.Proofs.Tryz
def oV (b:dS):MT:=⟨b.name.1,b.parts.flatMap λp=>p.fields.map (iD p.oneof)⟩
def eM (bs:List dS):eE:=⟨(gm bs).map oV,(bs.filter λb=>b.enum).map λb=>b.name.1⟩
def zC:∀(l:List (an)) (s:an) (k:Nat),l.contains s=false->vg l s k=none
 | [],s,k,_=>rfl
 |x::l,s,k,h=>by
  rw[bj,Bool.or_eq_false_iff]at h;rw[vg,dG (by simp_all)];exact zC l s (k+1) h.2
def zD:∀(l:List (an)) (s:an) (k:Nat),l.contains s=true->∃n,vg l s k=some n
 | [],s,k,h=>by grind
 |x::l,s,k,h=>by
  rw[vg];by_cases q:(s==x)=true;.simp_all
  .rw[dG q];rw[bj,Bool.or_eq_true]at h;exact zD l s (k+1) (h.resolve_left q)
def Cw (t:au):∀(z:List (au×Nat)) (mp:am),(z.foldl (λmp x=>iZ mp x.1 x.2) mp t).isSome=(eC (z.map (·.1)) t||(mp t).isSome)
 | [],mp=>Tk
 |x::z,mp=>by
  rw[List.foldl_cons,Cw t z];unfold iZ eC gP;grind
def rO (z:List (au×Nat))(t:au):(nM z t).isSome=eC (z.map (·.1)) t:=by
 unfold nM;rw[Cw];simp
def iH (l:aA)(s:au):eC l s=true<->∃x∈l,x.toList=s.toList:=by
 unfold eC;simp
def Eh {bs:List dS}(f:Cv bs){t:au}(h:eC (eZ bs) t=true):eC ((bs.filter λb=>b.enum).map λb=>b.name.1) t= !(eC (dZ bs) t):=by
 have key:∀b∈bs,∀c∈bs,b.name.1.toList=t.toList->c.name.1.toList=t.toList->b.enum=c.enum:=(by intro b e c k a d;have⟨i,p⟩:=dm e;have⟨j,q⟩:=dm k;have l:=f.names;unfold eZ at l;rw[cn,cj]at l;grind);have⟨x,o,g⟩:=(iH _ _).1 h;obtain⟨b,e,rfl⟩:=aV.1 o;cases he:b.enum
 .have a:eC (dZ bs) t=true:=(iH _ _).2 ⟨_,aV.2 ⟨b,cl.2 ⟨e,by grind⟩,rfl⟩,g⟩;rw[a];cases d:eC ((bs.filter λb=>b.enum).map λb=>b.name.1) t;.rfl
  .have⟨y,m,n⟩:=(iH _ _).1 d;grind
 .have a:eC ((bs.filter λb=>b.enum).map λb=>b.name.1) t=true:=(iH _ _).2 ⟨_,aV.2 ⟨b,cl.2 ⟨e,Te⟩,rfl⟩,g⟩;rw[a];cases d:eC (dZ bs) t;.rfl
  .have⟨y,m,n⟩:=(iH _ _).1 d;obtain⟨c,k,rfl⟩:=aV.1 m;grind
def vK {bs:List dS}(a:Cv bs){z:List (au×Nat)}(g:z.map (·.1)=dZ bs){t:au}(f:dN t=3\/(dN t=1/\eC (eZ bs) t=true)):(eM bs).base t=jd (nM z) t:=by
 unfold eE.base jd;by_cases h3:dN t=3;.rw[dH h3];have⟨n,i⟩:=zD lA t.toList 0 (oj h3);unfold rN;simp_all
 .rw[dG h3];have⟨h,e⟩:=f.resolve_left h3
  have d:lA.contains t.toList=false:=by
   cases q:lA.contains t.toList;.rfl
   .exfalso;have c:=wK t;rw[show ip t.toList=true from q]at c;simp_all
  rw[zC _ _ _ d,rO,g];show(if eC ((bs.filter λb=>b.enum).map λb=>b.name.1) t then 15 else 16)=_;rw[Eh a e];cases eC (dZ bs) t<;>rfl
section
open Tq
def gr (s:au)(a k:Nat):Fx (LV×Nat):=
 if k=13 then(match rx s a with| .error x=> .error x| .ok x=> .ok ((0,x.1),x.2))
 else if k=14 then(match nO s a with| .error x=> .error x| .ok x=> .ok ((0,x.1),x.2))
 else(match iN s a k with| .error x=> .error x| .ok x=> .ok ((x.1,⟨#[]⟩),x.2))
def pW (w:aw)(rb:Nat)(s:au)(a:Nat)(deep:Int)(k:Nat)(pv:Value)(h:d6 w rb s a deep)(L:a<=s.size)(A:s.size<=2^47)(S:k<=15)(B:UOK w)(p:rb≠2)(q:rb≠3):
  Calls prog 194 #[.agg #[aa k,pv],ag rb] w (py w rb s deep (gr s a k) vR):=by
 have f:dY [rb] w ((w.alloc (ak #[aa k,pv] 216)).alloc (ak #[.int .u64 0,S8,ah,S8] 55)):=((dY.refl _ _).alloc _).alloc _;have y:d6 ((w.alloc (ak #[aa k,pv] 216)).alloc (ak #[.int .u64 0,S8,ah,S8] 55)) rb s a deep:=(dP.alloc h _).alloc _;have G:=(dP.new w #[aa k,pv] 216).alloc (ak #[.int .u64 0,S8,ah,S8] 55);have c:dP ((w.alloc (ak #[aa k,pv] 216)).alloc (ak #[.int .u64 0,S8,ah,S8] 55)) (w.heap.size+1) #[.int .u64 0,S8,ah,S8] 55:=dP.newAt Tf _ _;have I:UOK ((w.alloc (ak #[aa k,pv] 216)).alloc (ak #[.int .u64 0,S8,ah,S8] 55)):=B.O (f.block _ B.lt1 (by simp;exact λe=>p e.sy)) (f.block _ B.lt2 (by simp;exact λe=>q e.sy));have N:rb<w.heap.size:=dP.lt h
 have j:Hid (∀(w1 w2:aw) (x:LV) (z:Nat),dY [rb] w w1->dP w1 (w.heap.size+1) #[.int .u64 0,S8,ah,S8] 55->dY [rb] w1 w2->d6 w2 rb s z deep->
   dP (((((w2.setCell (ai (w.heap.size+1) 0) (.int .u64 x.1)).setCell (ai (w.heap.size+1) 1) (ae x.2)).setCell (ai (w.heap.size+1) 2) (ah)).setCell (ai (w.heap.size+1) 3) (S8))) (w.heap.size+1) #[.int .u64 x.1,ae x.2,ah,S8] 55/\
   dY [rb] w (((((w2.setCell (ai (w.heap.size+1) 0) (.int .u64 x.1)).setCell (ai (w.heap.size+1) 1) (ae x.2)).setCell (ai (w.heap.size+1) 2) (ah)).setCell (ai (w.heap.size+1) 3) (S8)))/\
   d6 (((((w2.setCell (ai (w.heap.size+1) 0) (.int .u64 x.1)).setCell (ai (w.heap.size+1) 1) (ae x.2)).setCell (ai (w.heap.size+1) 2) (ah)).setCell (ai (w.heap.size+1) 3) (S8))) rb s z deep):=λw1 w2 x z P D C Q=>by
  have R:dP w2 (w.heap.size+1) #[.int .u64 0,S8,ah,S8] 55:=(C.block _ D.lt Tg).J D;refine⟨(((R.set 0 _).set 1 _).set 2 _).set 3 _,?_,(((dP.other Q 0 _ Te).other 1 _ Te).other 2 _ Te).other 3 _ Te⟩;have o:=P.J C
  exact⟨o.os,o.tape,o.output,by simpa using o.size,λi M O=>by
   rw[dM,dG Te,dM,dG Te,dM,dG Te,dM,dG Te]
   exact o.block i M O⟩
 obtain⟨r,g⟩:∃r,Hid (gr s a k=r):=⟨_,rfl⟩;rw[g.o];by_cases h13:k=13
 .subst h13;have d:Hid (gr s a 13=(match rx s a with| .error x=> .error x| .ok x=> .ok ((0,x.1),x.2))):=rfl;go_in
  go_wp2_with fail;generalize((w.alloc (ak #[aa ((13:Nat):Int),pv] 216)).alloc (ak #[.int .u64 0,S8,ah,S8] 55))=w1 at*;refine(Jk w1 rb s a deep y A I p q).V ?_
  cases hv:rx s a with
  |error x=>
   rintro e w2 ⟨b,m⟩;obtain rfl:e=dX x.1 x.2:=m;obtain rfl:r= .error x:=by rw[<-g.o,d.o,hv]
   unfold dX;go_wp2
   exact⟨rfl,f.J b,rfl⟩
  |ok x=>
   rintro e w2 ⟨b,rfl,n⟩;obtain rfl:r= .ok (((0,x.1):LV),x.2):=by rw[<-g.o,d.o,hv]
   have⟨t,u,v⟩:=j.o w1 w2 ((0,x.1):LV) x.2 f c b n;have l:dP w2 (w.heap.size+1) #[.int .u64 0,S8,ah,S8] 55:=(b.block _ c.lt Tg).J c;have⟨E,F⟩:=l.I;clear j;go_wp2;exact dJ (dW results194 _ _ rfl t underlying55 Tj) rfl ⟨u,rfl,v⟩
 .by_cases h14:k=14
  .subst h14;have d:Hid (gr s a 14=(match nO s a with| .error x=> .error x| .ok x=> .ok ((0,x.1),x.2))):=rfl;go_in
   go_wp2_with fail;generalize((w.alloc (ak #[aa ((14:Nat):Int),pv] 216)).alloc (ak #[.int .u64 0,S8,ah,S8] 55))=w1 at*;refine(FN w1 rb s a deep y A).V ?_
   cases hv:nO s a with
   |error x=>
    rintro e w2 ⟨b,m⟩;obtain rfl:e=dX x.1 x.2:=m;obtain rfl:r= .error x:=by rw[<-g.o,d.o,hv]
    unfold dX;go_wp2
    exact⟨rfl,f.J b,rfl⟩
   |ok x=>
    rintro e w2 ⟨b,rfl,n⟩;obtain rfl:r= .ok (((0,x.1):LV),x.2):=by rw[<-g.o,d.o,hv]
    have⟨t,u,v⟩:=j.o w1 w2 ((0,x.1):LV) x.2 f c b n;have l:dP w2 (w.heap.size+1) #[.int .u64 0,S8,ah,S8] 55:=(b.block _ c.lt Tg).J c;have⟨E,F⟩:=l.I;clear j;go_wp2;exact dJ (dW results194 _ _ rfl t underlying55 Tj) rfl ⟨u,rfl,v⟩
  .have d:Hid (gr s a k=(match iN s a k with| .error x=> .error x| .ok x=> .ok ((x.1,⟨#[]⟩),x.2))):=(by show gr s a k=_;unfold gr;rw[dG h13,dG h14]);have J:((k:Int)==13)=false:=Tg;have K:((k:Int)==14)=false:=Tg;have H:jf k=true:=by unfold jf;simp;omega
   have⟨T,U⟩:=G.I;go_in
   go_wp2_with fail;generalize((w.alloc (ak #[aa k,pv] 216)).alloc (ak #[.int .u64 0,S8,ah,S8] 55))=w1 at*;refine(AO w1 rb s a deep k y L A H).V ?_
   cases hv:iN s a k with
   |error x=>
    rintro e w2 ⟨b,m⟩;obtain rfl:e=dX x.1 x.2:=m;obtain rfl:r= .error x:=by rw[<-g.o,d.o,hv]
    unfold dX;go_wp2
    exact⟨rfl,f.J b,rfl⟩
   |ok x=>
    rintro e w2 ⟨b,rfl,n⟩;obtain rfl:r= .ok (((x.1,⟨#[]⟩):LV),x.2):=by rw[<-g.o,d.o,hv]
    have⟨t,u,v⟩:=j.o w1 w2 ((x.1,⟨#[]⟩):LV) x.2 f c b n;have l:dP w2 (w.heap.size+1) #[.int .u64 0,S8,ah,S8] 55:=(b.block _ c.lt Tg).J c;have⟨E,F⟩:=l.I;clear j;go_wp2;exact dJ (dW results194 _ _ rfl t underlying55 Tj) rfl ⟨u,rfl,v⟩
end
def pH (p:PS):aA×List MT×aA:=(p.names,p.msgs,p.enums)
def GB (ws:List W)(so:Int)(s:au)(p:PS):pH (fG ws so s p)=pH p:=rfl
def GC (ws:List W)(p:PS):pH (nh ws p)=pH p:=by unfold nh;split<;>rfl
def PI (ws:List W)(s:FD):pH (f2 ws s)=pH s.p:=by unfold f2 f1;split<;>rfl
def GD (ws:List W)(t:T3)(s:FD):pH (px ws t s).p=pH s.p:=by
 have h:pH (f5 ws s)=pH s.p:=PI ws s;unfold px;simp only;split<;>exact h
def BE (ws:List W)(how:au)(s:FD):pH (oC ws how s).p=pH s.p:=(GD ws _ _).J (GC ws s.p)
def GE (ws:List W)(how:au):∀(n:Nat) (b:Bool) (s:FD),pH (o9 ws how n b s).p=pH s.p
 |0,_,_=>rfl
 |n+1,b,s=>by
  rw[o9];split;.exact(GE ws how n false _).J (BE ws how s)
  .rfl
def NG (ws:List W)(s:FD):pH (rG ws s)=pH s.p:=by unfold rG f1;split<;>rfl
def NH (ws:List W)(s:FD):pH (Cc ws s).p=pH s.p:=(GE ws _ ws.length true (nG ws s)).J (NG ws s)
def NI (ws:List W)(p:PS):pH (sq ws p)=pH p:=by unfold sq;split<;>rfl
def NJ (ws:List W)(s:FD):pH (Cd ws s).p=pH s.p:=(GD ws _ _).J ((GC ws _).J (NI ws _))
def NK (ws:List W)(s:FD):pH (nW ws s).p=pH s.p:=by
 unfold nW;split;.exact NH ws (ew s)
 .split;.exact NJ ws (ew s)
  .split;.exact BE ws _ (ew s)
   .exact BE ws _ s
def GG (ws:List W):∀(n:Nat) (s:FD),pH (Al ws n s).p=pH s.p
 |0,_=>rfl
 |n+1,s=>by
  rw[Al];split;.exact(GG ws n _).J (NK ws s)
  .rfl
def NL (ws:List W)(p:PS):pH (Dx ws p)=(p.names++ [(gM ws 1 ⟨#[]⟩ p).1],p.msgs,p.enums):=by
 unfold Dx rH;split<;>rfl
def BF (ws:List W)(p:PS):pH (uo ws p).p=(p.names++ [(gM ws 1 ⟨#[]⟩ p).1],p.msgs,p.enums):=(GG ws _ _).J (NL ws p)
def NM (ws:List W)(p:PS)(l:aA):pH (tH ws p l)=pH p:=by
 have a:pH (uU ws p l)=pH p:=by unfold uU;split<;>rfl
 unfold tH;rw[GB];split<;>exact a
def GH (ws:List W):∀(n:Nat) (p:PS) (l:aA),pH (se ws n p l)=pH p
 |0,_,_=>rfl
 |n+1,p,l=>by
  rw[se];split;.exact(GH ws n _ _).J (NM ws p l)
  .rfl
def GI (ws:List W)(p:PS):pH (BD ws p)=(p.names++ [(gM ws 1 ⟨#[]⟩ p).1],p.msgs,p.enums++ [(gM ws 1 ⟨#[]⟩ p).1]):=by
 refine(GH ws _ _ _).J ?_;unfold rI nX;rw[GB];split<;>rfl
def GJ (ws:List W)(p:PS):pH (BC ws p)=(p.names++ [(gM ws 1 ⟨#[]⟩ p).1],p.msgs++ [⟨(gM ws 1 ⟨#[]⟩ p).1,(uo ws p).nums⟩],p.enums):=by
 have h:=BF ws p;unfold pH at h;injection h with h1 h2
 injection h2 with h2 h3
 show((uo ws p).p.names,(uo ws p).p.msgs++ [⟨(gM ws 1 ⟨#[]⟩ p).1,(uo ws p).nums⟩],(uo ws p).p.enums)=_;rw[h1,h2,h3]
end Go.Proofs.YtfebdimolnobaaaGreatDoor
