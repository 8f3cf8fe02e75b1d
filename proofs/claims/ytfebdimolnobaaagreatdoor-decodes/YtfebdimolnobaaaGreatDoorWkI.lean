import Derived.Test.YtfebdimolnobaaaGreatDoorPxC
set_option maxRecDepth 100000
set_option maxHeartbeats 8000000
set_option linter.all false
namespace Go.Proofs.YtfebdimolnobaaaGreatDoor
open Go.RowKit Go.Proofs.Tryz
section
open Tq
def JX (m:PM)(n:Int)(e:Nat):Fx (List PV)->Fx (PM×Nat)
 | .error x=> .error x
 | .ok l=> .ok (m.put n l,e)
def rC (k:Nat)(b:au)(n:Int)(m:PM):Fx (Nat×Nat)->Fx (PM×Nat)
 | .error x=> .error x
 | .ok y=>JX m n y.2 (gy b k y.2 (y.2-y.1) (m.get n) y.1)
def FJ.part {w:aw}{rb:Nat}{s:au}{deep:Int}{r:Fx (Nat×Nat)}{e:Ending}{w':aw}(h:FJ w rb s deep r e w'):
  (∃x,r= .error x/\e=dX x.1 x.2/\dY [rb] w w')\/∃x nb,r= .ok x/\e= .returned (ag nb)/\dY [rb] w w'/\w.heap.size<=nb/\nb≠rb/\d6 w' nb (s.extract 0 x.2) x.1 deep/\d6 w' rb s x.2 deep:=by
 obtain⟨a,b⟩:=h;grind
def nT (w:aw)(nb e:Nat):Nat:=
 match w.cell? (ai nb 1)with
 |some (.int _ n)=>((e:Int)-n).toNat
 |_=>0
def iJ {w:aw}{nb a e:Nat}{s:au}{deep:Int}(h:d6 w nb s a deep):nT w nb e=e-a:=by
 unfold nT;rw[dP.cell h];simp
structure Ph (S:eE)(k:Nat)(d:MT)(B:Nat)(w wr:aw)(Z Z':ax)(rb nb db fb y1 y2:Nat)(b s:au)(deep:Nat)(fcs:aq)(bs:Nat)(m:PM)(n:Int)(a:Nat)(l:List PV)(F:Nat)(P:Fx (List PV)):Prop where
 st:ez w Z rb wr Z'
 rn:d6 wr nb (b.extract 0 y2) a deep
 rr:d6 wr rb s y2 deep
 dr:el S (k+1) (some d) wr Z' db (m.put n l)
 fd:dP wr fb fcs 220
 lo:y1<=a
 hi:a<=y2
 ll:l.length<=a
 eq:Hid (P=gy b bs y2 F l a)
 fu:y2-a<=F
 zz:∀x,Z' x->B<=x/\x<wr.heap.size
 zn:¬Z' nb
def ez.keptN {a b c:aw}{Z Y:ax}{rb nb:Nat}(h:ez a Z rb b Y)(k:dY [nb] b c)(g:a.heap.size<=nb):ez a Z rb c Y:=
 ⟨k.os.J h.os,k.tape.J h.tape,k.output.J h.output,aL h.size k.size,λi d e f=>(k.block i (aI d h.size) (by grind)).J (h.block i d e f),h.grow⟩
def ED (w:aw)(B:Nat)(S:eE)(mp:am)(k:Nat)(d:MT)(f:fB)(g:GF)(fb:Nat)(Z:ax)(rb db:Nat)(b:au)(e a z deep F:Nat)(num:Int)(m:PM)
  (I:oZ w B S mp k d Z rb db b e a z deep m) (c:eR w (λb=>b<B) mp g fb) (H:FG S mp d f g) (j:g.form=2) (i:S.base f.ty<=15) (p:ed (S.base f.ty)≠2) (h:ei d.fs f.num=some f):
  Calls prog 192 #[ag fb,aa 2,ag rb,ag db] w (ij S k d w Z rb db (b.extract 0 e) deep (jH S b F d f m deep (fP (b.extract 0 e) a num 2 z))):=by
 have L:jH S b F d f m deep (fP (b.extract 0 e) a num 2 z)=rC (S.base f.ty) b f.num m (eU (b.extract 0 e) z):=(by rw[CV H j p];rfl);rw[L];clear L;have⟨o,N,u,j,_,l⟩:=c.blk;have c:eG mp g=S.base f.ty:=by unfold eG;rw[dG Te,H.eq,H.base]
 rw[c,H.eq]at u;have⟨c,_,_⟩:=kT H Te i;have⟨D,E⟩:=oy h c;have r:(b.extract 0 e).size=e:=gB I.eb;have c:=I.wm.len;have c:=I.az;have c:=I.ze;have c:=I.eb;have c:=I.bs;have v:=I.rB;have H:=I.rZ;have c:=I.cx.u1;have c:=I.cx.u2;have TF:rb<w.heap.size:=dP.lt I.hr;have n:=rQ w (S.base f.ty) o Te;have j:∀w2,d6 w2 rb (b.extract 0 e) z deep->S9 197 #[ag rb] w2 (FJ w2 rb (b.extract 0 e) deep (eU (b.extract 0 e) z)):=λw2 h=>oo w2 rb _ z deep h Te
 have K:=I.hd.srt;obtain⟨R,c⟩:=Td (eU (b.extract 0 e) z);rw[c]at j⊢;have o:Hid (eU (b.extract 0 e) z=R):=c;clear c;obtain⟨J,rfl⟩:=g8 l;clear l;have⟨h,l⟩:=u.I;have c:((2:Int)==(ed (S.base f.ty):Int))=false:=by grind
 go_in
 go_wp2_with fail;refine n.V ?_;rintro M w2 ⟨rfl,s⟩;have G:=u.G s u.lt;have c:d6 w2 rb (b.extract 0 e) z deep:=dP.G I.hr s TF;have t:=I.hd.O (λx _ q=>s.block x q);clear h l n;go_wp2_with fail;refine(j w2 c).V ?_;intro M w3 j;rcases j.part with⟨x,rfl,rfl,C⟩|⟨y,nb,rfl,rfl,C,A,c,h,l⟩;.unfold dX;go_wp2;exact⟨rfl,rfl,Z,(ez.oB s).J (.oK C)⟩
 obtain⟨n,c⟩:=y;have⟨P,O,j⟩:=iS o.o;rw[r]at j;have o:(b.extract 0 e).extract 0 c=b.extract 0 c:=kz I.eb j;simp only[o]at h;have r:(b.extract 0 c).size=c:=gB Te;have o:=G.kept C (by grind);have j:=ez.dr t C H;have R:w.heap.size<=nb:=aL s.size A;have Q:=I.cx.le
 have j:Ph S k d B w w3 Z Z rb nb db fb n c b (b.extract 0 e) deep #[aa f.num,aa g.form,aa (S.base f.ty),.pointer J,N] (S.base f.ty) m f.num n (m.get f.num) (c-n) (gy b (S.base f.ty) c (c-n) (m.get f.num) n):=
  ⟨(ez.oB s).J (.oK C),h,l,by rw[Gf K.1 K.2];omega,o,aD _,O,by grind,rfl,aD _,λx q=>⟨(I.hZ x q).1,aI (I.hZ x q).2 (aL s.size C.size)⟩,λq=>by have:=(I.hZ nb q).2;omega⟩
 obtain⟨P,Y⟩:=Td (gy b (S.base f.ty) c (c-n) (m.get f.num) n);have h:Hid (rC (S.base f.ty) b f.num m (.ok (n,c))=JX m f.num c P):=(by show JX m f.num c (gy b (S.base f.ty) c (c-n) (m.get f.num) n)=_;rw[Y]);rw[Y]at j;clear Y;go_wp2;go_loopw [30] (λ_ wr=>∃o j l t,Ph S k d B w wr Z o rb nb db fb n c b (b.extract 0 e) deep #[aa f.num,aa g.form,aa (S.base f.ty),.pointer J,N] (S.base f.ty) m f.num j l t P) (λ_ wr=>nT wr nb c)
 case atStart=>grind
 case round=>
  obtain⟨o,j,l,t,O⟩:=hrel;have X:=tN wr nb _ j deep O.rn;rw[r]at X;have r:=O.lo;have r:=O.hi;have r:=O.ll;go_wp2_with fail;refine X.V ?_;rintro M r ⟨rfl,q,rfl⟩;by_cases hlt:j<c
  .have hd:decide (j<c)=true:=decide_eq_true hlt;obtain⟨A,rfl⟩:∃A,t=A+1:=⟨t-1,by have:=O.fu;omega⟩;have r:Below B w wr:=O.st.G Q (λx q=>(I.hZ x q).1) v;have hu:UOK (wr.drewN q).drew:=(I.cx.on r).u
   have Y:∀w1,d6 w1 nb (b.extract 0 c) j deep->UOK w1->S9 194 #[.agg #[aa (S.base f.ty),.pointer J],ag nb] w1 (py w1 nb (b.extract 0 c) deep (gr (b.extract 0 c) j (S.base f.ty)) vR):=
    λw1 u G=>pW w1 nb _ j deep _ _ u Te Te i G Te Te
   have r:S.base f.ty≠13:=λq=>p (by rw[q];rfl)
   have s:S.base f.ty≠14:=λq=>p (by rw[q];rfl)
   have V:gr (b.extract 0 c) j (S.base f.ty)=match iN (b.extract 0 c) j (S.base f.ty)with| .error x=> .error x| .ok x=> .ok ((x.1,⟨#[]⟩),x.2):=(by unfold gr;rw[dG r,dG s];cases iN (b.extract 0 c) j (S.base f.ty)<;>rfl)
   have W:=zS (k:=S.base f.ty) (F:=A) (l:=l) (show c<=b.size by omega) hlt
   have C:Hid (∀x,gr (b.extract 0 c) j (S.base f.ty)= .error x->rC (S.base f.ty) b f.num m (.ok (n,c))= .error x):=λx p=>by
    rw[h.o,O.eq.o,W];rw[V]at p
    cases hn:iN (b.extract 0 c) j (S.base f.ty)with
    |error y=>rw[hn]at p;cases p;rfl
    |ok y=>grind
   have s:Hid (∀x,gr (b.extract 0 c) j (S.base f.ty)= .ok x->P=gy b (S.base f.ty) c A (l++ [qF x.1]) x.2):=λx p=>by
    rw[O.eq.o,W];rw[V]at p
    cases hn:iN (b.extract 0 c) j (S.base f.ty)with
    |error y=>grind
    |ok y=>rw[hn]at p;cases p;rfl
   clear V W;have y:el S (k+1) (some d) (wr.drewN q).drew o db (m.put f.num l):=O.dr.O (λ_ _ _=>rfl)
   have V:∀r:aw,∀v:LV,el S (k+1) (some d) r o db (m.put f.num l)->S9 268 #[ag db,aa f.num,vR v] r (jN S k (some d) r o db (m.put f.num (l++ [qF v]))):=λr v Q=>by
    have u:=PM.put_len m f.num l;have G:=CX K.1 f.num l;have:=xI S k (some d) r o db (m.put f.num l) f.num v Q D (.inl E) Te (by grind);rw[G,Ge K.1]at this;exact this
   obtain⟨Q,U⟩:=Td (gr (b.extract 0 c) j (S.base f.ty))
   have K:Hid (∀x,Q= .ok x->j<x.2/\x.2<=c):=λx p=>by
    have:=CU i (U.J p);omega
   rw[U]at Y C s;clear U;have i:dP (wr.drewN q).drew fb #[aa f.num,aa g.form,aa (S.base f.ty),.pointer J,N] 220:=O.fd;have p:fb<wr.heap.size:=dP.lt O.fd;have u:d6 (wr.drewN q).drew nb (b.extract 0 c) j deep:=O.rn;have L:d6 (wr.drewN q).drew rb (b.extract 0 e) c deep:=O.rr;have p:ez w Z rb (wr.drewN q).drew o:=O.st.J (.oB (gN (Below.refl _ _) q).drew);have T:=O.zn;have Q:=O.zz;have U:¬o rb:=O.st.not TF H;have⟨v,D⟩:=i.I;have⟨D,v⟩:=dP.I O.fd;have G:Hid (nT wr nb c=c-j):=iJ O.rn;have H:Hid (c-j<=A+1):=O.fu;clear O X;go_upto_region 4 with fail
   go_region_with
    (first
     |(
       go_at_call 194;refine(Y (wr.drewN q).drew u hu).V ?_;intro M r u;rcases u.part with⟨x,rfl,rfl,D⟩|⟨x,rfl,rfl,D,v⟩;.unfold dX;go_wp2;rw[C.o x rfl];exact⟨rfl,rfl,o,p.keptN D R⟩
       have u:=i.kept D (by grind)
       have⟨i,C⟩:=u.I)
     |(
       go_at_call 268;refine(V r x.1 (ez.dr y D T)).V ?_;rintro M w6 ⟨rfl,W,E,V⟩;have y:=u.step E (λq=>by grind)
       have⟨i,u⟩:=y.I))
   all_goals
    have C:=K.o x rfl;have u:d6 w6 nb (b.extract 0 c) x.2 deep:=dP.step v E T;have K:=(p.keptN D R).J (.oS E);have M:d6 w6 rb (b.extract 0 e) c deep:=dP.step (dP.kept L D (by grind)) E U;have p:nb<r.heap.size:=dP.lt v
    have r:Ph S k d B w w6 Z (λi=>W i/\i<w6.heap.size) rb nb db fb n c b (b.extract 0 e) deep #[aa f.num,aa g.form,aa (S.base f.ty),.pointer J,N] (S.base f.ty) m f.num x.2 (l++ [qF x.1]) A P:=
     ⟨K.clip,u,M,V.clip,y,Te,C.2,by grind,s.o x rfl,by have:=H.o;omega,λi q=>⟨(E.grow i q.1).elim (λe=>(Q i e).1) (λe=>Te),q.2⟩,λq=>E.not p T q.1⟩
    go_wp2;go_roundw
    case rel=>grind
    case measure=>rw[G.o,iJ u];omega
  .have hd:decide (j<c)=false:=decide_eq_false hlt
   have i:Hid (rC (S.base f.ty) b f.num m (.ok (n,c))= .ok (m.put f.num l,c)):=by
    show _=_;rw[h.o,O.eq.o]
    have:gy b (S.base f.ty) c t l j= .ok l:=by
     cases t with
     |zero=>rfl
     |succ t=>rw[gy,dG hlt]
    rw[this];rfl
   go_wp2;go_end0;rw[i.o];exact⟨rfl,o,O.st.J (.oB (gN (Below.refl _ _) q)),O.dr.O (λ_ _ _=>rfl),O.rr⟩
end
section
variable {w:aw} {S:eE} {mp:am} {d sub:MT} {rb z deep:Nat} {b s:au} {m:PM} {num:Int} {f:fB} {g:GF}
def Nb (S:eE)(mp:am)(B:Nat)(b:au)(F:Nat):Prop:=
 ∀(w:aw) (Z:ax) (sub:MT) (m:PM) (a e deep k mb:Nat) (gs:List GF) (nm:au) (rb db:Nat),Oz w B S mp->jX w (λb=>b<B) mp mb nm gs->rV S mp sub gs->kM S sub->d6 w rb (b.extract 0 e) a deep->el S (k+1) (some sub) w Z db m->
  (∀x,Z x->B<=x/\x<w.heap.size)->B<=rb->¬Z rb->a<=e->e<=b.size->e-a<F->k+deep=8->WM S a sub m->
  S9 83 #[ag mb,ag rb,ag db] w (ij S k sub w Z rb db (b.extract 0 e) deep (pu e (fj S b F sub m a e deep)))
theorem oZ.on {w1:aw}{B:Nat}{k:Nat}{Z Z1:ax}{db:Nat}{e a:Nat}{m1:PM}(I:oZ w B S mp k d Z rb db b e a z deep m)(c:ez w Z rb w1 Z1)(f:el S (k+1) (some d) w1 Z1 db m1)(g:d6 w1 rb (b.extract 0 e) z deep)(h:WM S a d m1):
  oZ w1 B S mp k d (λi=>Z1 i/\i<w1.heap.size) rb db b e a z deep m1:=
 ⟨I.cx.on (c.G I.cx.le (λx q=>(I.hZ x q).1) I.rB),g,f.clip,λx q=>⟨(c.grow x q.1).elim (λq=>(I.hZ x q).1) (λq=>aL I.cx.le q),q.2⟩,I.rB,λq=>c.not (dP.lt I.hr) I.rZ q.1,I.az,I.ze,I.eb,I.bs,h⟩
def Nc (sin:Bool)(m:PM)(n:Int):Fx (LV×Nat)->Fx (PM×Nat)
 | .error x=> .error x
 | .ok x=> .ok (if sin=true/\x.1.1=0/\gP x.1.2 eS=true then m.put n []else m.put n [qF x.1],x.2)
theorem Gg {F a e:Nat}(c:FG S mp d f g)(s:g.form≠4)(q:g.form≠2)(h:S.base f.ty<=15)(j:e<=b.size):
  jH S b F d f m deep (fP (b.extract 0 e) a num (ed (S.base f.ty)) z)=Nc (decide (g.form=0)) (m.without g.riv) f.num (gr (b.extract 0 e) z (S.base f.ty)):=by
 rw[xp (b.extract 0 e) a num z _ h]
 cases hr:fP (b.extract 0 e) a num (ed (S.base f.ty)) z with
 |error x=>rfl
 |ok r=>
  have k:=mK (CT _) hr;have⟨_,_,i,_⟩:=qd hr;rw[gB j]at i;have⟨_,n,l⟩:=kT c s h;have o:f.isRep=false:=by rw[c.rep];simp[q]
  simp only[jH,yS,CL];rw[dH (by unfold ff;rw[l];exact k)];unfold rj xh;rw[n];simp only;rw[CN rfl h k i j]
  cases yO (b.extract 0 e) (S.base f.ty) r with
  |error x=>rfl
  |ok v=>
   simp only[CK,pu,Nc];unfold g9;rw[l,o,n,c.sin,xE,c.riv];simp only[aN,if_false,Option.isNone_none,Bool.and_true,bK,decide_eq_true_eq];by_cases h0:g.form=0;.have p:=c.lone Te;rw[<-c.riv,p,iO];simp only[h0,true_and];rfl
   .simp only[h0,false_and,if_false];rfl
theorem tg (a:FG S mp d f g)(n:D9 S)(b:fS S f=some sub)(r:deep<=8):ng S sub (deep+1)=decide (8<(deep:Int)+kA mp g)/\0<=kA mp g/\kA mp g<=2/\eG mp g=16:=by
 unfold kA;by_cases h4:g.form=4
 .have c:eG mp g=16:=by unfold eG;rw[dH h4]
  have h:f.isMap=true:=by rw[a.map,h4];rfl
  have k:sub=eX f:=(by unfold fS at b;rw[dH h]at b;exact(Option.some.inj b).sy);subst k
  have i:ng S (eX f) (deep+1)=if deep+1=8 then(S.msg f.ty).isSome else decide (8<deep+1):=by
   unfold ng eX;have m:gP eS eS=true:=by unfold gP;simp
   simp only[m,du,cC];by_cases q:deep+1=8;.simp[q]
   .have p:(deep+1 !=8)=true:=Tg;rw[p,dH rfl,dG q]
  have j:jd mp g.f.ty=S.base f.ty:=by rw[a.eq,a.base]
  by_cases hn:S.base f.ty=16
  .have e:(if g.form=4/\jd mp g.f.ty=16 then(2:Int)else if eG mp g=16 then 1 else 0)=2:=dH ⟨h4,by rw[j];exact hn⟩;rw[e,i,a.nest.1 hn];refine⟨?_,Te,Te,c⟩;split;.simp;omega
   .rw[decide_eq_decide];omega
  .have l:(S.msg f.ty).isSome=false:=by rw[bN];exact λq=>hn (a.nest.2 q)
   have e:(if g.form=4/\jd mp g.f.ty=16 then(2:Int)else if eG mp g=16 then 1 else 0)=1:=by rw[dG (λq=>hn (by rw[<-j];exact q.2)),dH c]
   rw[e,i,l];refine⟨?_,Te,Te,c⟩;split;.simp;omega
   .rw[decide_eq_decide];omega
 .have h:¬f.isMap=true:=by rw[a.map];simp[h4]
  unfold fS at b;rw[dG h]at b;have o:S.base f.ty=16:=a.nest.2 (by rw[b];rfl);have c:eG mp g=16:=by unfold eG;rw[dG h4,a.eq,a.base,o]
  rw[dG (λq=>h4 q.1),dH c];refine⟨?_,Te,Te,c⟩;unfold ng;rw[n.name sub (jV b)];simp;omega
def JY (M:PM->PM)(e:Nat):Fx PM->Fx (PM×Nat)
 | .error x=> .error x
 | .ok a=> .ok (M a,e)
def xJ (S:eE)(b:au)(F:Nat)(sub:MT)(m0:PM)(deep:Nat)(M:PM->PM):Fx (Nat×Nat)->Fx (PM×Nat)
 | .error x=> .error x
 | .ok y=>JY M y.2 (fj S b F sub m0 y.1 y.2 (deep+1))
theorem Gh {F a e:Nat}(h:FG S mp d f g)(k:D9 S)(c:fS S f=some sub)(n:deep<=8):
  jH S b F d f m deep (fP (b.extract 0 e) a num 2 z)=xJ S b F sub (eP f m).2.2 deep (λsm=>g9 S d f m ((eP f m).1,(eP f m).2.1,sm)) (nN (b.extract 0 e) z deep (kA mp g)):=by
 have i:fP (b.extract 0 e) a num 2 z=_:=xl (b.extract 0 e) a num z;rw[i];unfold nN
 cases eU (b.extract 0 e) z with
 |error x=>rfl
 |ok y=>
  have⟨j,_,_,o⟩:=tg h k c n
  have l:ff S f=2:=by
   unfold ff;split;.rfl
   .rename_i q;unfold fS at c;rw[dG q]at c;have:=h.nest.2 (by rw[c];rfl);unfold eE.wire;rw[this];rfl
  simp only[jH,yS];rw[dH l.sy];unfold rj xh pz;rw[c];simp only;rw[j];by_cases q:8<(deep:Int)+kA mp g;.rw[dH q];simp[q,xJ,CK,pu]
  .rw[dG q];simp only[q,decide_false,aN,if_false,xJ];cases fj S b F sub (eP f m).2.2 y.1 y.2 (deep+1)<;>rfl
theorem Ji.part {deep:Int}{r:Fx (Nat×Nat)}{e:Ending}{w':aw}(h:Ji w rb s deep r e w'):
  (∃x,r= .error x/\e=dX x.1 x.2/\dY [rb] w w')\/∃x nb,r= .ok x/\e= .returned (ag nb)/\dY [rb] w w'/\w.heap.size<=nb/\nb≠rb/\d6 w' nb (s.extract 0 x.2) x.1 (deep+1)/\d6 w' rb s x.2 deep:=by
 obtain⟨a,b⟩:=h
 cases r with
 |error x=>exact .inl ⟨x,rfl,b,a⟩
 |ok x=>
  obtain⟨nb,c,d,f,g,i⟩:=b;exact .inr ⟨x,nb,rfl,c,a,d,f,g,i⟩
theorem vZ {deep lv:Int}{y:Nat×Nat}(h:nN s z deep lv= .ok y):eU s z= .ok y/\deep+lv<=8:=by
 unfold nN at h
 cases hw:eU s z with
 |error x=>rw[hw]at h;cases h
 |ok x=>
  rw[hw]at h;simp only at h;split at h;.cases h
  .cases h;exact⟨rfl,Te⟩
end
section
open Tq
section
variable {S:eE} {d sub:MT} {f:fB} {deep:Nat} {num:Int}
structure CY (S:eE)(d:MT)(f:fB)(sub:MT):Prop where
 hs:fS S f=some sub
 hm:f.isMap=false
theorem CY.kind (h:CY S d f sub)(a:ei d.fs f.num=some f):ot S (some d) f.num .msgs/\(∀kd,ot S (some d) f.num kd->kd= .msgs)/\nR S (some d) f.num=some sub:=by
 have c:pt S f= .msgs:=by unfold pt;rw[h.hm,h.hs];rfl
 exact⟨λg i e b=>by cases e;rw[a]at b;cases b;exact c.sy,λkd q=>by rw[q d f rfl a,c],by unfold nR;simp[a,h.hs]⟩
def vw (g:GF)(m:PM)(n:Int)(sm:PM):PM:=if g.form=2 then m.put n (m.get n++ [mV sm])else(m.without g.riv).put n [mV sm]
theorem Gi {mp:am}{b:au}{F a z e:Nat}{g:GF}{m:PM}(c:FG S mp d f g)(n:D9 S)(h:CY S d f sub)(r:deep<=8)(t:ei d.fs f.num=some f)(u:WM S a d m):
  jH S b F d f m deep (fP (b.extract 0 e) a num 2 z)=xJ S b F sub (if g.form=2 then PM.none else((m.get f.num).headD PV.none).2.2) deep (vw g m f.num) (nN (b.extract 0 e) z deep (kA mp g)):=by
 rw[Gh c n h.hs r];have⟨⟨l,o⟩,_⟩:=jB u t h.hs
 have j:(λsm=>g9 S d f m ((eP f m).1,(eP f m).2.1,sm))=vw g m f.num:=funext λsm=>by
  rw[l,o];unfold g9 vw;rw[h.hm,c.rep,h.hs];simp only[aN,if_false,decide_eq_true_eq,Option.isNone_some,dl,dh];rw[xE,c.riv];rfl
 rw[j]
 have i:(eP f m).2.2=if g.form=2 then PM.none else((m.get f.num).headD PV.none).2.2:=by
  unfold eP;rw[h.hm,c.rep];by_cases q:g.form=2;.simp only[q,decide_true,cF,if_true];rfl
  .simp[q]
 rw[i]
theorem ij.part {k:Nat}{w:aw}{Z:ax}{rb db:Nat}{s:au}{e:Nat}{P:Fx PM}{en:Ending}{w':aw}(h:ij S k d w Z rb db s deep (pu e P) en w'):
  (∃x,P= .error x/\en=dX x.1 x.2/\∃Z',ez w Z rb w' Z')\/∃sm,P= .ok sm/\en= .returned (.tuple #[])/\∃Z',ez w Z rb w' Z'/\el S (k+1) (some d) w' Z' db sm:=by
 cases P with
 |error x=>exact .inl ⟨x,rfl,h.1,h.2⟩
 |ok sm=>
  obtain⟨a,Z',b,c,_⟩:=h;exact .inr ⟨sm,rfl,a,Z',b,c⟩
section
variable {S:eE} {k:Nat} {T T':Option MT} {w w3 w4 w5:aw} {Z Z3 Z4 Z5 C:ax} {rb nb db p y deep:Nat} {s:au} {M:PM->PM} {sm:PM}
theorem th (Ts:ez w Z rb w3 Z3)(hn:w.heap.size<=nb)(Tr:et w3 Z3 w4 Z4)(hC:∀b,C b->Z4 b)(Tt:ez w4 C nb w5 Z5):ez w Z rb w5 (λb=>Z4 b\/Z5 b):=by
 have d:∀i,Z4 i->Z i\/w.heap.size<=i:=λi q=>(Tr.grow i q).elim (Ts.grow i) (λe=> .inr (aL Ts.size e))
 refine⟨Tt.os.J (Tr.os.J Ts.os),Tt.tape.J (Tr.tape.J Ts.tape),Tt.output.J (Tr.output.J Ts.output),aL Ts.size (aL Tr.size Tt.size),λi c g j=> ?_,λi q=> ?_⟩;.have a:i<w3.heap.size:=aI c Ts.size;have f:=Ts.not c g;have h:=Tr.not a f;exact((Tt.block i (aI a Tr.size) (λe=>h (hC i e)) Te).J (Tr.block i a f)).J (Ts.block i c g j)
 .rcases q with q|q;.exact d i q
  .exact(Tt.grow i q).elim (λe=>d i (hC i e)) (λe=> .inr (aL (aL Ts.size Tr.size) e))
theorem CZ (Ts:ez w Z rb w3 Z3)(Tz:rb<w.heap.size)(hrZ:¬Z rb)(hn3:nb<w3.heap.size)(TC:¬Z3 nb)(T4:nb≠rb)(hrr:d6 w3 rb s y deep)(Tr:et w3 Z3 w4 Z4)(hH:M4 S k T w4 Z4 db p C T' M)(Tt:ez w4 C nb w5 Z5)(T6:el S k T' w5 Z5 p sm):
  el S (k+1) T w5 (λb=>Z4 b\/Z5 b) db (M sm)/\d6 w5 rb s y deep:=by
 have d:¬Z4 nb:=Tr.not hn3 TC;have c:¬Z3 rb:=Ts.not Tz hrZ;have a:rb<w3.heap.size:=aI Tz Ts.size;have f:¬Z4 rb:=Tr.not a c;refine⟨hH.2 w5 Z5 sm (λb i g h=>Tt.block b h g (λe=>d (e▸i))) Tt.size Tt.grow T6,?_⟩;exact((Tt.block rb (aI a Tr.size) (λe=>f (hH.1 rb e)) (λe=>T4 e.sy)).J (Tr.block rb a c)).J hrr
end
theorem J9 (w:aw)(B:Nat)(S:eE)(mp:am)(k:Nat)(d:MT)(f:fB)(g:GF)(fb:Nat)(Z:ax)(rb db:Nat)(b:au)(e a z deep F:Nat)(num:Int)(m:PM)(sub:MT)
  (I:oZ w B S mp k d Z rb db b e a z deep m) (Q:eR w (λb=>b<B) mp g fb) (n:FG S mp d f g) (r:ei d.fs f.num=some f) (hS:D9 S) (t:CY S d f sub) (hkd:k+deep=8) (hRd:Nb S mp B b F) (hF:e-z<=F):
  Calls prog 133 #[ag fb,aa 2,ag rb,ag db] w (ij S k d w Z rb db (b.extract 0 e) deep (jH S b F d f m deep (fP (b.extract 0 e) a num 2 z))):=by
 have h4:g.form≠4:=λq=>by have:=t.hm;rw[n.map,q]at this;cases this
 have⟨TX,Ud,Ue,Uf⟩:=tg (deep:=deep) n hS t.hs Te;rw[Gi n hS t Te r I.wm];have⟨U,V,Ug⟩:=t.kind r;have⟨pv,rv,P,hfB,Tv,TY⟩:=Q.blk;rw[dG h4,n.eq]at TY;have TN:S.msg f.ty=some sub:=by have:=t.hs;unfold fS at this;rw[t.hm]at this;exact this
 have⟨J,gs,Uw,Ux,Uy⟩:=I.cx.md f.ty sub TN;rw[Uw]at TY;subst TY;rw[Uf,n.eq]at P;have hD:=qH S k (some d) w Z db m rv g.riv I.hd Tv.1 n.rlen (λx hx q=>by have:=Tv.2 x hx;have:=(I.hZ x q).1;omega);have Un:(b.extract 0 e).size=e:=gB I.eb;have hab:=I.az;have hze:=I.ze;have Uo:=I.eb;have hbs:=I.bs;have T9:=I.rB;have TO:=I.rZ;have X:=I.hZ;have TP:=I.cx.le;have Tz:rb<w.heap.size:=dP.lt I.hr;have hfl:=P.lt;have hL:=λw1 (h:eR w1 (λb=>b<B) mp g fb)=>sO w1 (λb=>b<B) mp g fb h
 have TQ:=λw1 (h:d6 w1 rb (b.extract 0 e) z deep)=>qD w1 rb (b.extract 0 e) z deep (kA mp g) h Te Te Te Ud Ue
 obtain⟨K,Tw⟩:=Td (kA mp g);rw[Tw]at hL TQ⊢
 have Ua:Hid (∀y:Nat×Nat,nN (b.extract 0 e) z deep K= .ok y->z<y.1/\y.1<=y.2/\y.2<=e/\1<=k/\(b.extract 0 e).extract 0 y.2=b.extract 0 y.2):=λy hy=>by
  have⟨q1,q2⟩:=vZ hy;have⟨v0,W,H⟩:=iS (z:=y.1) (e:=y.2) q1;rw[Un]at H;have hlv:1<=K:=(by rw[<-Tw];unfold kA;rw[dG (λq=>h4 q.1),dH Uf];exact Int.le_refl _);exact⟨v0,W,H,Te,kz Uo H⟩
 clear Tw Ud Ue TX;obtain⟨R,hR⟩:=Td (nN (b.extract 0 e) z deep K);rw[hR]at TQ Ua⊢;clear hR;have Up:¬Z fb:=λq=>by have:=(X fb q).1;omega
 obtain⟨u,fn,Uh,Ui,HP⟩:∃u fn,(if g.form=2 then PM.none else((m.get f.num).headD PV.none).2.2)=u/\((g.form=2/\fn=190\/(g.form==2)=false/\fn=191)/\WM S a sub u)/\Hid (∀c,k=c+1->∀(w3:aw) (Z3:ax),el S (k+1) (some d) w3 Z3 db (m.without g.riv)->(∀x,Z3 x->x<w3.heap.size)->S9 fn #[ag db,aa f.num] w3 (td S k (some d) w3 Z3 db (some sub) u (vw g m f.num))):=by
  by_cases l:g.form=2
  .refine⟨_,_,rfl,⟨.inl ⟨l,rfl⟩,?_⟩,?_⟩<;>rw[dH l]
   .exact WM.none S a sub
   .rintro c rfl w3 Z3 D TZ;have hlen:=I.wm.len;rw[n.lone Te,iO]at D;have:=nS S c (some d) w3 Z3 db m f.num (D.slot Te) U V (λ⟨d',f',e1,e2,e3⟩=>by cases e1;rw[r]at e2;cases e2;rw[n.rep,l]at e3;cases e3) (by have:=hlen.2.2 f.num;omega) (λq=>by have:=TZ _ q;omega);rw[Ug]at this;have TR:vw g m f.num=λm'=>m.put f.num (m.get f.num++ [mV m']):=funext λsm=>by unfold vw;rw[dH l]
    rw[TR];exact this
  .refine⟨_,_,rfl,⟨.inr ⟨by simpa using l,rfl⟩,?_⟩,?_⟩<;>rw[dG l]
   .have:=(jB I.wm r t.hs).2;unfold eP at this;rw[t.hm,n.rep]at this;simpa [l]using this
   .rintro c rfl w3 Z3 D TZ;have Uq:(m.without g.riv).get f.num=m.get f.num:=uJ (by rw[n.riv];exact Ga d f);have hlen:(m.without g.riv).fs.length<=a:=aL (bZ _ _) I.wm.len.1;have TS:uE (some d) f.num:=⟨d,f,rfl,r,by rw[n.rep];simp[l]⟩;have:=xy S c (some d) w3 Z3 db (m.without g.riv) f.num D U V TS Te TZ;rw[Ug,Uq]at this;have TR:vw g m f.num=λm'=>(m.without g.riv).put f.num [mV m']:=funext λsm=>by unfold vw;rw[dG l]
    rw[TR];exact this
 rw[Uh]
 have Ur:Hid (∀c,k=c+1->∀(w4:aw) (C:ax) (y:Nat×Nat) (nb p:Nat),Below B w w4->z<y.1->y.1<=y.2->y.2<=e->d6 w4 nb (b.extract 0 y.2) y.1 ((deep:Int)+1)->el S k (some sub) w4 C p u->(∀x,C x->B<=x/\x<w4.heap.size)->B<=nb->¬C nb->
   S9 83 #[ag J,ag nb,ag p] w4 (ij S c sub w4 C nb p (b.extract 0 y.2) (deep+1) (pu y.2 (fj S b F sub u y.1 y.2 (deep+1))))):=by
  rintro c rfl w4 C y nb p TM v0 W H Uz T0 hC UA TW;exact hRd w4 C sub _ y.1 y.2 (deep+1) c J gs sub.name nb p (I.cx.on TM) (Ux.O (λx q _=>TM.block x q)) Uy (hS.good.sub t.hs) (by rw[Int.natCast_succ];exact Uz) T0 hC UA TW W Te Te Te (Ui.2.V Te)
 have Us:∀w1,Below B w w1->eR w1 (λb=>b<B) mp g fb:=λw1 TT=>Q.O (λx q _=>TT.block x q)
 have hr0:=I.hr;clear Uh;obtain⟨m1,Uj⟩:=Td (m.without g.riv);rw[Uj]at hD HP;clear Uj;obtain⟨ra,rn,rc,rfl⟩:=dO Tv.1;have hf4:(g.form==4)=false:=by simpa using h4
 unfold gR at P;have⟨k1,k2⟩:=P.I;go_in
 go_wp2_with fail;refine hD.V ?_;rintro en w1 ⟨rfl,Z1',O,TG⟩;obtain⟨A,o,UB,L⟩:∃A,ez w Z rb w1.drew A/\el S (k+1) (some d) w1.drew A db m1/\∀x,A x->B<=x/\x<w1.heap.size:=⟨_,.oS O.clip.drew,TG.clip.O (λ_ _ _=>rfl),λx q=>⟨(O.grow x q.1).elim (λe=>(X x e).1) (λe=>aL TP e),q.2⟩⟩;have Ub:=P.step O Up;have Ut:d6 w1.drew rb (b.extract 0 e) z deep:=dP.step hr0 O.drew TO;clear O TG k1 k2 hD;have Y:dP w1.drew fb #[aa f.num,aa g.form,aa 16,ag J,.slice ra rn rc] 220:=Ub;have TT:Below B w w1.drew:=o.G TP (λx q=>(X x q).1) T9;have TU:¬A rb:=o.not Tz TO;have⟨k1,k2⟩:=Ub.I;have⟨k3,k4⟩:=Y.I;have TA:Hid (∀y:Nat×Nat,xJ S b F sub u deep (vw g m f.num) (.ok y)=JY (vw g m f.num) y.2 (fj S b F sub u y.1 y.2 (deep+1))):=λ_=>rfl
 rcases Ui.1 with⟨l,rfl⟩|⟨Uu,rfl⟩;have Uu:(g.form==2)=true:=by simpa using l
 clear l
 focus go_upto_region 7 with fail
 rotate_left
 focus go_upto_region 9 with fail
 all_goals
  go_region_held2 (λw'=>w'.cell? (ai fb 0)=some (aa f.num)/\w'.cell? (ai fb 3)=some (ag J))
   (first|exact⟨h5.cell 0,h5.cell 3⟩|exact⟨TL.cell 0,TL.cell 3⟩|exact⟨h3.cell 0,h3.cell 3⟩|exact⟨Y.cell 0,Y.cell 3⟩)
   (first
    |(
      go_at_call 186;refine(hL w1.drew (Us w1.drew TT)).V ?_
      rintro en w2 ⟨rfl,rfl⟩)
    |(
      go_at_call 185;refine(TQ w1.drew Ut).V ?_;intro en w3 hq;rcases hq.part with⟨x,rfl,rfl,E⟩|⟨y,nb,rfl,rfl,E,UC,T4,TI,T5⟩;.unfold dX;go_wp2;exact⟨rfl,rfl,A,o.J (.oK E)⟩
      have⟨v0,W,H,v3,v4⟩:=Ua.o y rfl;obtain⟨c,rfl⟩:∃c,k=c+1:=⟨k-1,Te⟩;have h3:=Y.kept E Tg;have v:=o.J (.oK E);have D:=ez.dr UB E TU;have hw1:w.heap.size<=w1.heap.size:=o.size;have hw3:w1.heap.size<=w3.heap.size:=E.size;have hnb1:w1.heap.size<=nb:=UC;have TB:nb<w3.heap.size:=dP.lt TI;have TC:¬A nb:=λq=>by have:=(L nb q).2;omega
      have TD:d6 w3 nb (b.extract 0 y.2) y.1 ((deep:Int)+1):=by rw[<-v4];exact TI)
    |(
      first|go_at_call 191|go_at_call 190
      refine(HP.o c rfl w3 A D (λx q=>by have:=(L x q).2;omega)).V ?_;rintro en w4 ⟨p,Z4,C,rfl,j,T0,G,UD⟩;have Uc:∀x,Z4 x->B<=x:=λx q=>(j.grow x q).elim (λe=>(L x e).1) (λe=>Te)
      have TL:=h3.step j (λq=>by have:=(L fb q).1;omega);have TV:d6 w4 nb (b.extract 0 y.2) y.1 ((deep:Int)+1):=dP.step TD j TC;have TM:Below B w w4:=⟨j.os.J v.os,j.tape.J v.tape,j.output.J v.output,aL v.size j.size,λi hi=>(j.block i Te (λq=>by have:=(L i q).1;omega)).J ((v.G TP (λx q=>(X x q).1) T9).block i hi)⟩
      have TW:¬C nb:=λq=>j.not TB TC (G.1 nb q))
    |(
      go_at_call 83;refine(Ur.o c rfl w4 C y nb p TM v0 W H TV T0 (λx q=>⟨Uc x (G.1 x q),UD x q⟩) Te TW).V ?_;intro en w5 UE;rcases UE.part with⟨x,hP,rfl,Z5,N⟩|⟨sm,hP,rfl,Z5,N,T6⟩;.unfold dX;go_wp2;rw[TA.o y,hP];exact⟨rfl,rfl,_,th v Te j G.1 N⟩
      have h5:dP w5 fb #[aa f.num,aa g.form,aa 16,ag J,.slice ra rn rc] 220:=(N.block fb TL.lt (λq=>by have:=Uc fb (G.1 fb q);omega) Te).J TL;have Uv:Hid (fj S b F sub u y.1 y.2 (deep+1)= .ok sm):=hP
      clear hP))
  all_goals
   go_wp2;go_end0;rw[TA.o y,Uv.o];exact⟨rfl,_,th v Te j G.1 N,CZ v Tz TO TB TC T4 T5 j G N T6⟩
end
section
variable {S:eE} {mp:am} {d:MT} {f:fB} {g:GF} {num:Int}
theorem Nd:gP nK AC=false/\gP nK MF=false/\gP nK eS=false/\iL nK=false:=Ti
theorem Ka {s t:au}{n:Int}(a:jd mp t=S.base t)(b:S.base t=16<->(S.msg t).isSome=true):FG S mp d ⟨s,t,eS,nK,n⟩ (lF s t n):=by
 obtain⟨e,f,g,c⟩:=Nd;refine⟨rfl,.inr (.inl rfl),by unfold fB.isMap lF;grind,by unfold fB.isRep lF;grind,by unfold lF;grind,?_,λ_=>rfl,by simp[lF],a,b,λq=>by simp[lF]at q⟩;unfold Cx lF;simp only
 have:∀o:fB,(gP o.how nK&&iL o.how&&decide (o.num≠n))=false:=λo=>by
  cases h:gP o.how nK with
  |false=>rfl
  |true=>
   have:iL o.how=false:=(by rw[show o.how=nK from ja (iu.1 h),c]);grind
 rw[List.filter_eq_nil_iff.2 (λo _=>by grind)];rfl
theorem Kc (b:FG S mp d f g)(j:g.form=4):rV S mp (eX f) [lF oe f.key 1,lF qZ f.ty 2]:=by
 have⟨k,m,o,_⟩:=b.key j;refine⟨tQ _ _,Tf,λn a=> ?_,λn l a=> ?_⟩
 .unfold eX at a;simp only[ei]at a;split at a;.cases a
  .split at a;.cases a
   .rename_i h i
    exact oW λx c=>by
     simp only[aR,cp,or_false]at c;rcases c with rfl|rfl;.exact h
     .exact i
 .unfold eX at a;simp only[ei]at a;split at a;.rename_i e;cases a;subst e;exact⟨_,CF _ _,Ka k ⟨λq=>Te,λq=>by grind⟩⟩
  .split at a;.rename_i e;cases a;subst e;exact⟨_,CG _ _,Ka b.base b.nest⟩
   grind
def yW (f:fB)(m:PM)(sm:PM):PM:=m.put f.num (iF f.key (m.get f.num) (mV (fY sm)))
theorem Gj {b:au}{F deep a z e:Nat}{m:PM}(c:FG S mp d f g)(n:D9 S)(k:g.form=4)(p:deep<=8):
  jH S b F d f m deep (fP (b.extract 0 e) a num 2 z)=xJ S b F (eX f) PM.none deep (yW f m) (nN (b.extract 0 e) z deep (kA mp g)):=by
 have h:f.isMap=true:=by rw[c.map,k];rfl
 rw[Gh c n (sub:=eX f) (by unfold fS;rw[dH h]) p];have j:eP f m=PV.none:=by unfold eP;grind
 rw[j]
 have l:(λi=>g9 S d f m (PV.none.1,PV.none.2.1,i))=yW f m:=funext λi=>by
  unfold g9 yW;rw[dH h];rfl
 rw[l];rfl
theorem ti {w w3 w5:aw}{Z Z3 Z5:ax}{rb nb eb:Nat}(a:ez w Z rb w3 Z3)(j:w.heap.size<=nb)(h:w.heap.size<=eb)(c:ez w3 (λx=>x=eb) nb w5 Z5):ez w Z rb w5 (λb=>Z3 b\/Z5 b):=
 ⟨c.os.J a.os,c.tape.J a.tape,c.output.J a.output,aL a.size c.size,λi d f g=>(c.block i (aI d a.size) Te Te).J (a.block i d f g),
  λi q=>q.elim (a.grow i) (λq=>(c.grow i q).elim (λe=> .inr Te) (λe=> .inr (aL a.size e)))⟩
theorem Ke (w:aw)(B:Nat)(S:eE)(mp:am)(k:Nat)(d:MT)(f:fB)(g:GF)(fb:Nat)(Z:ax)(rb db:Nat)(b:au)(e a z deep F:Nat)(num:Int)(m:PM)
  (I:oZ w B S mp k d Z rb db b e a z deep m) (hfa:eR w (λb=>b<B) mp g fb) (s:FG S mp d f g) (hff:ei d.fs f.num=some f) (Y:D9 S) (L:g.form=4) (hkd:k+deep=8) (hgd:kM S d) (hRd:Nb S mp B b F) (hF:e-z<=F):
  Calls prog 133 #[ag fb,aa 2,ag rb,ag db] w (ij S k d w Z rb db (b.extract 0 e) deep (jH S b F d f m deep (fP (b.extract 0 e) a num 2 z))):=by
 have hm:f.isMap=true:=by rw[s.map,L];rfl
 have Tw:fS S f=some (eX f):=by unfold fS;rw[dH hm]
 have⟨TX,Ui,Uj,Uk⟩:=tg (deep:=deep) s Y Tw Te;rw[Gj s Y L Te];have⟨UF,kq2,UG,UH⟩:=s.key L;have Up:pt S f= .ents f.key:=by unfold pt;rw[dH hm]
 have ok1:ot S (some d) f.num (.ents f.key):=λd' f' e1 e2=>by grind
 have ok2:∀kd,ot S (some d) f.num kd->kd= .ents f.key:=λkd q=>by rw[q d f rfl hff,Up]
 have⟨pv,rv,K,hfB,Tu,Ul⟩:=hfa.blk;rw[dH L]at Ul;obtain⟨N,rfl,Um⟩:=Ul;rw[s.eq]at Um;rw[Uk,s.eq,L]at K;have TL:=s.lone Te;rw[TL]at Tu;have hD:=qH S k (some d) w Z db m rv [] I.hd Tu.1 Tf (λx hx q=>by have:=Tu.2 x hx;have:=(I.hZ x q).1;omega);rw[iO]at hD;have Uq:(b.extract 0 e).size=e:=gB I.eb;have hab:=I.az;have hze:=I.ze;have Ur:=I.eb;have Us:=I.bs;have TM:=I.rB;have T0:=I.rZ;have TI:=I.hZ;have TJ:=I.cx.le;have Ut:rb<w.heap.size:=dP.lt I.hr;have hfl:=K.lt;have hL:=λw1 (h:eR w1 (λb=>b<B) mp g fb)=>sO w1 (λb=>b<B) mp g fb h
 have TN:=λw1 (h:d6 w1 rb (b.extract 0 e) z deep)=>qD w1 rb (b.extract 0 e) z deep (kA mp g) h Te Te Te Ui Uj
 have T4:=λw1 (h:eR w1 (λb=>b<B) mp g fb)=>JU w1 (λb=>b<B) mp g fb h L
 have T5:=λw1 pv=>rP w1 (S.base f.key) pv Te
 rw[s.eq,UF]at T4;rw[UH]at T5;obtain⟨W,Tx⟩:=Td (kA mp g);rw[Tx]at hL TN⊢
 have T6:Hid (∀y:Nat×Nat,nN (b.extract 0 e) z deep W= .ok y->z<y.1/\y.1<=y.2/\y.2<=e/\1<=k/\(b.extract 0 e).extract 0 y.2=b.extract 0 y.2):=λy hy=>by
  have⟨q1,q2⟩:=vZ hy;have⟨U,D,G⟩:=iS (z:=y.1) (e:=y.2) q1;rw[Uq]at G;have hlv:1<=W:=(by rw[<-Tx];unfold kA;rw[Uk];split<;>simp);exact⟨U,D,G,Te,kz Ur G⟩
 clear Tx Ui Uj TX;obtain⟨R,hR⟩:=Td (nN (b.extract 0 e) z deep W);rw[hR]at TN T6⊢;clear hR;have TO:¬Z fb:=λq=>by grind
 have hlen:=I.wm.len
 have Uu:Hid (∀c,k=c+1->∀(H:aw) (C:ax) (y:Nat×Nat) (nb p:Nat),Below B w H->z<y.1->y.1<=y.2->y.2<=e->d6 H nb (b.extract 0 y.2) y.1 ((deep:Int)+1)->el S k (some (eX f)) H C p PM.none->(∀x,C x->B<=x/\x<H.heap.size)->B<=nb->¬C nb->
   S9 83 #[ag N,ag nb,ag p] H (ij S c (eX f) H C nb p (b.extract 0 y.2) (deep+1) (pu y.2 (fj S b F (eX f) PM.none y.1 y.2 (deep+1))))):=by
  rintro c rfl H C y nb p Un U D G hrn UI hC UJ UK;exact hRd H C (eX f) _ y.1 y.2 (deep+1) c N _ eS nb p (I.cx.on Un) (Um.msg.O (λx q _=>Un.block x q)) (Kc s L) (Y.good.sub Tw) (by grind) UI hC UJ UK D Te Te Te (WM.none _ _ _)
 have TP:Hid (∀c,k=c+1->∀(w6:aw) (P E:ax) (l:Nat) (y:Nat×Nat) (o:PM),z<y.1->y.1<=y.2->y.2<=e->fj S b F (eX f) PM.none y.1 y.2 (deep+1)= .ok o->el S (k+1) (some d) w6 P db m->el S k (some (eX f)) w6 E l o->(∀x,E x->¬P x)->(∀x,P x->x<w6.heap.size)->(∀x,E x->x<w6.heap.size)->
   S9 187 #[ag db,aa f.num,.bool (eC jD f.key),ag l] w6 λA w'=>A= .returned (.tuple #[])/\∃Z',et w6 (λb=>P b\/E b) w' Z'/\el S (k+1) (some d) w' Z' db (yW f m o)):=by
  rintro c rfl w6 P E l y o U D G UL TV UM TY UN UO;have T7:=jM Y.good Us F (eX f) PM.none y.1 y.2 (deep+1) o UL (Y.good.sub Tw) D Te (WM.none _ _ _);have T8:=vS (hgd f (gZ hff).2 hm) T7;have hel:=T7.len.1;exact uI S c (some d) w6 P E db l m o f.num f.key _ TV UM.toKey UG TY UN UO ok1 ok2 rfl T8.ky (by have⟨r,hr⟩:=T8.key;grind) Te (by grind) Te
 have T9:∀w1,Below B w w1->eR w1 (λb=>b<B) mp g fb:=λw1 TQ=>hfa.O (λx q _=>TQ.block x q)
 have hr0:=I.hr;obtain⟨ra,rn,rc,rfl⟩:=dO Tu.1;unfold gR at K;have⟨Q,T⟩:=K.I;go_in
 go_wp2_with fail;refine hD.V ?_;rintro A w1 ⟨rfl,Z1',t,TG⟩;have⟨V,KE⟩:=eY w1 #[ah,ah] 183;have Ua:w.heap.size<=w1.heap.size:=t.size
 obtain⟨j,M,UP,UQ⟩:∃j,ez w Z rb (w1.alloc (ak #[ah,ah] 183)) j/\el S (k+1) (some d) (w1.alloc (ak #[ah,ah] 183)) j db m/\∀x,j x->B<=x/\x<w1.heap.size:=
  ⟨_,.oS (t.clip.G V),TG.clip.O (λx _ q=>V.block x q),λx q=>⟨(t.grow x q.1).elim (λe=>(TI x e).1) (λe=>aL TJ e),q.2⟩⟩
 have Ub:=(K.step t TO).G V (K.step t TO).lt;have Uc:d6 (w1.alloc (ak #[ah,ah] 183)) rb (b.extract 0 e) z deep:=dP.step hr0 (t.G V) T0;have Ud:=K.step t TO;clear t TG Q T hD;have⟨Q,T⟩:=Ud.I;go_upto_region 4 with fail
 have hew:w1.heap.size<(w1.alloc (ak #[ah,ah] 183)).heap.size:=KE.lt;generalize w1.alloc (ak #[ah,ah] 183)=wa at*;generalize w1.heap.size=l at*;clear Q T Ud V;have TK:dP wa.drew fb #[aa f.num,aa 4,aa 16,ag N,.slice ra rn rc] 220:=Ub;have TQ:Below B w wa:=M.G TJ (λx q=>(TI x q).1) TM;have TR:Below B w wa.drew:=TQ.drew;have TS:d6 wa.drew rb (b.extract 0 e) z deep:=Uc;have TB:¬j rb:=M.not Ut T0;have TT:el S (k+1) (some d) wa.drew j db m:=UP.O (λ_ _ _=>rfl);have Uv:dP wa.drew l #[ah,ah] 183:=KE;have TC:ez w Z rb wa.drew j:=M.J (.oB (Below.refl _ _).drew);have⟨Q,T⟩:=Ub.I;have TD:Hid (∀y:Nat×Nat,xJ S b F (eX f) PM.none deep (yW f m) (.ok y)=JY (yW f m) y.2 (fj S b F (eX f) PM.none y.1 y.2 (deep+1))):=λ_=>rfl
 go_region_held2 (λw'=>w'.cell? (ai fb 0)=some (aa f.num)/\w'.cell? (ai fb 3)=some (ag N))
  (first|exact⟨h5.cell 0,h5.cell 3⟩|exact⟨h3.cell 0,h3.cell 3⟩|exact⟨TK.cell 0,TK.cell 3⟩)
  (first
   |(
     go_at_call 186;refine(hL wa.drew (T9 wa.drew TR)).V ?_
     rintro A w2 ⟨rfl,rfl⟩)
   |(
     go_at_call 185;refine(TN wa.drew TS).V ?_;intro A w3 hq;rcases hq.part with⟨x,rfl,rfl,J⟩|⟨y,nb,rfl,rfl,J,UR,US,TZ,TH⟩;.unfold dX;go_wp2;exact⟨rfl,rfl,j,TC.J (.oK J)⟩
     have⟨U,D,G,v3,v4⟩:=T6.o y rfl;obtain⟨c,rfl⟩:∃c,k=c+1:=⟨k-1,Te⟩;have h3:=TK.kept J (by grind);have Tt:=TC.J (.oK J);have Uw:=ez.dr TT J TB;have hw3:wa.heap.size<=w3.heap.size:=J.size;have hnb1:wa.heap.size<=nb:=UR;have hnl3:nb<w3.heap.size:=dP.lt TZ;have Ux:¬j nb:=λq=>by grind
     have Uy:=Uv.kept J (by grind);have Uz:el S (c+1) (some (eX f)) w3 (λx=>x=l) l PM.none:=el.fresh Uy;have UA:Below B w w3:=Tt.G TJ (λx q=>(TI x q).1) TM
     have TE:d6 w3 nb (b.extract 0 y.2) y.1 ((deep:Int)+1):=by grind)
   |(
     go_at_call 83;refine(Uu.o c rfl w3 (λx=>x=l) y nb l UA U D G TE Uz (λx q=>Te) Te Te).V ?_;intro A n UT;rcases UT.part with⟨x,hP,rfl,X,u⟩|⟨o,hP,rfl,X,u,UU⟩;.unfold dX;go_wp2;rw[TD.o y,hP];exact⟨rfl,rfl,_,ti Tt Te Ua u⟩
     have h5:dP n fb #[aa f.num,aa 4,aa 16,ag N,.slice ra rn rc] 220:=(u.block fb h3.lt Te Te).J h3;have Ue:Hid (fj S b F (eX f) PM.none y.1 y.2 (deep+1)= .ok o):=hP
     clear hP))
 have UB:∀x,X x->x=l\/w3.heap.size<=x:=u.grow;have TU:=UU.clip;have TV:el S (c+1+1) (some d) n j db m:=Uw.O λx q hl=>u.block x hl (λe=>by grind) (λe=>Ux (e▸q))
 have Uf:d6 n rb (b.extract 0 e) y.2 deep:=(u.block rb (dP.lt TH) Te (λe=>US e.sy)).J TH;have Ug:=ti Tt Te Ua u;have UC:Below B w n:=Ug.G TJ (λx q=>(TI x q).1) TM;have TW:dP n.drew fb #[aa f.num,aa 4,aa 16,ag N,.slice ra rn rc] 220:=h5;have hw5:w3.heap.size<=n.heap.size:=u.size;clear Q T;have⟨Q,T⟩:=h5.I;go_upto_region 5 with fail
 go_region_held2 (λw'=>w'.cell? (ai fb 0)=some (aa f.num))
  (first|exact h9.cell 0|exact h8.cell 0|exact h7.cell 0|exact TW.cell 0)
  (first
   |(
     go_at_call 188;refine(T4 n.drew (T9 n.drew UC.drew)).V ?_;rintro A w7 ⟨UV,rfl,B7⟩
     have h7:=TW.G B7 TW.lt)
   |(
     go_at_call 189;refine(T5 w7 UV).V ?_;rintro A w8 ⟨rfl,B8⟩;have h8:=h7.G B8 h7.lt
     have O:aj n w8:=dL (Tb n).drew (dL B7 B8))
   |(
     go_at_call 187;refine(TP.o c rfl w8 j (λx=>X x/\x<n.heap.size) l y o U D G Ue.o (TV.O (λx _ q=>O.block x q)) (TU.O (λx _ q=>O.block x q)) (λx q1 q2=>by grind) (λx q=>by have:=(UQ x q).2;have:=O.size;omega) (λx q=>aI q.2 O.size)).V ?_;rintro A w9 ⟨rfl,Z9,v,UW⟩;have Uh:∀x,x<wa.heap.size->x≠l->¬j x->¬(j x\/(X x/\x<n.heap.size)):=λx q1 q2 q3 q=>q.elim q3 (λq=>(UB x q.1).elim q2 (λe=>Te))
     have h9:=h8.step v (Uh fb TK.lt Te (λq=>by grind))))
 all_goals
  go_wp2;go_end0;rw[TD.o y,Ue.o];have UD:d6 w8 rb (b.extract 0 e) y.2 deep:=dP.G Uf O (dP.lt Uf);have UE:ez w Z rb w8 (λx=>j x\/X x):=Ug.J (.oB O);refine⟨rfl,Z9,UE.J ⟨v.os,v.tape,v.output,v.size,λi hi q _=>v.block i hi (λe=>q (e.imp id (λe=>e.1))),λi q=>(v.grow i q).imp (λe=>e.imp id (λe=>e.1)) id⟩,UW,?_⟩;exact dP.step UD v (Uh rb (dP.lt Uc) Te TB)
end
end
end Go.Proofs.YtfebdimolnobaaaGreatDoor
