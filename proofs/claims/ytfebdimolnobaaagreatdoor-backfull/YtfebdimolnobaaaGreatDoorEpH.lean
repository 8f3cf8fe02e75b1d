import Derived.Test.YtfebdimolnobaaaGreatDoorPxE
import Derived.Test.YtfebdimolnobaaaGreatDoorPlK
set_option maxRecDepth 100000
set_option maxHeartbeats 8000000
set_option linter.all false
namespace Go.Proofs.YtfebdimolnobaaaGreatDoor
open Go.RowKit Go.Proofs.Tryz
section
open VH
structure Bz (lo:Nat)(W:aw)(on st:Bool)(t:Value)(b:Nat)(T:TypeId)(x y:Value):Prop where
 made:on=true->t=ah b/\lo<=b/\∃u v,dZ W b #[u,v] T
 put:st=true->dZ W b #[x,y] T
 dep:st=true->on=true
section
variable {lo:Nat} {W W':aw} {on st:Bool} {t:Value} {b:Nat} {T:TypeId} {x y:Value}
def Bz.start:Bz lo W false false t b T x y:=⟨nofun,nofun,nofun⟩
def Bz.G (h:Bz lo W on st t b T x y)(hb:Below W.heap.size W W'):Bz lo W' on st t b T x y:=
 ⟨λe=>by
  have⟨c,d,u,v,a⟩:=h.made e
  exact⟨c,d,u,v,a.G hb a.lt⟩,λe=>(h.put e).G hb (h.put e).lt,h.dep⟩
def Bz.alloc (h:Bz lo W on st t b T x y)(o:Obj):Bz lo (W.alloc o) on st t b T x y:=h.G ((Below.refl _ _).alloc (aE _) o)
def Bz.new (h:Bz lo W false st t b T x y)(hl:lo<=W.heap.size)(u v:Value):Bz lo (W.alloc (.cells #[u,v] T)) true st (ah W.heap.size) W.heap.size T x y:=
 ⟨λ_=>⟨rfl,hl,u,v,dZ.new _ _ _⟩,λe=>(by cases h.dep e),λe=>VB⟩
def Bz.store (h:Bz lo W true st t b T x y):Bz lo ((W.setCell (aj b 0) x).setCell (aj b 1) y) true true t b T x y:=by
 have⟨a,c,u,v,d⟩:=h.made rfl;have q:dZ ((W.setCell (aj b 0) x).setCell (aj b 1) y) b #[x,y] T:=(d.set 0 x).set 1 y;exact⟨λ_=>⟨a,c,x,y,q⟩,λ_=>q,λ_=>rfl⟩
def Bz.oth (h:Bz lo W on st t b T x y){c:Nat}(a:on=true->c≠b)(off:Nat)(z:Value):Bz lo (W.setCell (aj c off) z) on st t b T x y:=
 ⟨λe=>by
  have⟨d,f,u,v,i⟩:=h.made e
  exact⟨d,f,u,v,i.other off z (a e)⟩,λe=>(h.put e).other off z (a (h.dep e)),h.dep⟩
def Bz.lt (h:Bz lo W on st t b T x y)(e:on=true):b<W.heap.size:=by
 have⟨_,_,u,v,a⟩:=h.made e;exact a.lt
def Bx.oth {vr:Bool}(h:Bx lo W on st vr t b T x){c:Nat}(a:on=true->c≠b)(off:Nat)(z:Value):Bx lo (W.setCell (aj c off) z) on st vr t b T x:=
 ⟨λe=>by
  have⟨d,f,i⟩:=h.made e
  exact⟨d,f,i.other off z (a e)⟩,λe=>(h.put e).other off z (a (h.dep e).1),h.dep⟩
def oz.lt1 {W:aw}{on:Bool}{b:Nat}(h:on=true->b<W.heap.size):oz true on W.heap.size b:=λ_ e q=>by
 grind
end
def Un (n k t:Int):Prop:=0<=n/\n<=536870911->t=((fH n k).length:Int)
section
variable (w:aw)
def Pn (x:Int):0<=IntKind.u64.wrap x/\IntKind.u64.wrap x<=18446744073709551615:=by
 simp[IntKind.wrap,IntKind.bits,IntKind.signed];omega
def ME (op:BinOp)(x y:Int):0<=bits op .u64 x y/\bits op .u64 x y<=18446744073709551615:=by
 unfold bits;exact Pn _
def CE (x:Int):Calls prog 328 #[.int .u64 x] w λe w'=>∃t,e= .returned (aa t)/\ak w w':=by
 have⟨a,c⟩:=ME .or x 1;have d:=Er _ w a c;clear a c;go_in
 go_wp2_with fail;refine d.V ?_;rintro e w2 ⟨rfl,rfl⟩;go_wp2;go_ret;exact⟨_,rfl,Below.refl _ _⟩
def RA (n k:Int):Calls prog 316 #[.agg #[aa n,aa k]] w λe w'=>∃x,e= .returned (.int .u64 x)/\ak w w':=by
 have⟨a,c⟩:=(dZ.new w #[aa n,aa k] 237).I;go_in
 go_wp2;go_ret;exact⟨_,rfl,(Below.refl _ _).alloc (aE _) _⟩
def RB (n k:Int)(j:0<=k)(a:k<8):Calls prog 242 #[.agg #[aa n,aa k]] w λe w'=>∃t,e= .returned (aa t)/\Un n k t/\ak w w':=by
 by_cases h:0<=n/\n<=536870911;.exact(Qf w n k h.1 h.2 j a).V λe w' q=>⟨_,q.1,λ_=>rfl,q.2⟩
 .have⟨c,d⟩:=ec w #[aa n,aa k] 237;have⟨a,l⟩:=d.I;go_in
  go_wp2_with fail;refine(RA _ n k).V ?_;rintro e w2 ⟨x,rfl,f⟩;go_wp2_with fail;refine(CE _ x).V ?_;rintro e w3 ⟨m,rfl,i⟩;go_wp2;go_ret;exact⟨_,rfl,λq=>absurd q h,dW c (dW f i)⟩
end
inductive UF (w:aw)(mp:an)(g:GF)(fb:Nat)(pq iq:aC)(W:aw):Array Bool->Act->Prop where
 |mk {l0 l1 l2 l3 l4 l5 l6 l7 l8 l9 l10 VP VQ:Bool} {t5 t6 t7 t8 t9 VT VU VV VW VX VR:Value} (bP bQ:Nat) (tl:Int) (m1 m2:Nat) (f0:l0=true->t7=ah fb) (f1:l1=true->t8= .agg #[aa g.f.num,aa (AQ mp g)]) (f2:l2=true->t9=aa tl) (f3:l3=true->VT=ah fb) (f4:l4=true->VU=ah fb) (f5:l5=true->VV= .pointer (some (aj fb 2))) (f6:l6=true->VW= .agg #[aa (eK mp g),.pointer pq]) (f7:l7=true->VX= .pointer iq) (B:ak w W) (xP:Bx (w.heap.size) W l9 VP l2 t5 bP 3 t9) (xQ:Bx (w.heap.size) W l10 VQ l8 t6 bQ 262 VR) (VI:oz l9 l10 bP bQ) (VJ:Jt l9 l8 bP m1 m2) (VK:Jt l10 l8 bQ m1 m2) (V:l8=true->vM W (λb=>m1<=b/\b<m2) (eK mp g) iq VR/\w.heap.size<=m1/\m2<=W.heap.size) (sz:l2=true->Un g.f.num (AQ mp g) tl):UF w mp g fb pq iq W #[l0,l1,l2,l3,l4,l5,l6,l7,l8,l9,l10,VP,VQ] ⟨#[ah fb,.pointer iq,undef,undef,.nilFunc,t5,t6,t7,t8,t9,VT,VU,VV,VW,VX,VR,undef,undef,undef,undef],[]⟩
section
variable (w:aw) (P:ax) (mp:an) (g:GF) (fb:Nat) (iq:aC)
def wh (h:fi w P mp g fb):Calls prog 211 #[ah fb,.pointer iq] w (jO w λw' v=>Gk w' (λb=>w.heap.size<=b) mp g iq v):=by
 have hmf:= @wA;have⟨pv,rv,h1,_,VN,VZ⟩:=h.blk;obtain⟨pq,rfl⟩:=gL VZ;obtain⟨ra,rn,rc,rfl⟩:=d7 VN.1;have V7:=mg mp g;have V8:=h1.lt;have hT:∀W,ak w W->Vq 231 #[ah fb] W λe w'=>e= .returned (.agg #[aa g.f.num,aa (AQ mp g)])/\Below W.heap.size W w':=λW hW=>yD W P mp g fb (h.O (λb _ hl=>hW.block b hl))
 have⟨Wd,We⟩:=tG mp g;have hS:=λW=>RB W g.f.num (AQ mp g) Wd We
 have V9:∀W,ak w W->Vq 209 #[ah fb] W λe w'=>e= .returned (.bool (iw mp g))/\Below W.heap.size W w':=λW hW=>mT W P mp g fb (h.O (λb _ hl=>hW.block b hl))
 have Wb:=λW=>od W (eK mp g) pq iq V7
 clear VZ VN h;go_in
 go_upto_region 1 with fail
 go_cut [5,6]from 7 to 15 (λx y wx=>∃tb Y o vv,x=ah tb/\y=ah Y/\dZ wx tb #[aa o] 3/\dZ wx Y #[vv] 262/\Un g.f.num (AQ mp g) o/\vM wx (λb=>w.heap.size<=b) (eK mp g) iq vv/\w.heap.size<=tb/\w.heap.size<=Y/\ak w wx)
 case first=>
  refine kE (λL a W=>UF w mp g fb pq iq W L a) VB ⟨0,0,0,0,0,nofun,nofun,nofun,nofun,nofun,nofun,nofun,nofun,(Below.refl _ _).drew,Bx.start,Bx.start,nofun,nofun,nofun,nofun,nofun⟩ VA ?_ ?_
  .rintro L a W @⟨l0,l1,l2,l3,l4,l5,l6,l7,l8,l9,l10,VP,VQ,t5,t6,t7,t8,t9,VT,VU,VV,VW,VX,VR,s,u,o,R,U,E,F,z,G,H,I,J,M,B,i,j,r,C,D,V,A⟩ VL;obtain rfl:l2=true:=VL 2 Vy;obtain rfl:l8=true:=VL 8 Vy;obtain rfl:l9=true:=VL 9 Vy;obtain rfl:l10=true:=VL 10 Vy;obtain rfl:VP=true:=VL 11 Vy;obtain rfl:VQ=true:=VL 12 Vy;obtain⟨rfl,zP,_⟩:=i.made rfl;obtain⟨rfl,zQ,_⟩:=j.made rfl;obtain rfl:=z rfl;have⟨v1,v2,v3⟩:=V rfl;have KP:=i.put rfl;have KQ:=j.put rfl;have Q:=A rfl;go_wp2;go_meet
   case rel=>exact⟨_,_,_,_,rfl,rfl,KP,KQ,Q,v1.mV (λb q l=>⟨aM v2 q.1,rfl⟩),zP,zQ,B⟩
  refine .cons ?_ (.cons ?_ (.cons ?_ (.cons ?_ (.cons ?_ (.cons ?_ (.cons ?_ (.cons ?_ (.cons ?_ (.cons ?_ (.cons ?_ (.cons ?_ (.cons ?_ (.nil)))))))))))))
  all_goals
   rintro L a W ⟨s,u,o,R,U,E,F,z,G,H,I,J,M,B,i,j,r,C,D,V,A⟩ h0 c K m;subst h0
  .clear c;go_simp;refine m.out _ _ ?_;simp only[Vo];exact⟨s,u,o,R,U,λ_=>rfl,F,z,G,H,I,J,M,B,i,j,r,C,D,V,A⟩
  .obtain rfl:=eX (k:=0) c VA;obtain rfl:=E rfl;clear c;go_simp;go_wp2_with (first|(go_at_call 231;refine(hT _ B).V ?_;rintro e w2 ⟨rfl,b2⟩))
   refine m.out _ _ ?_;simp only[Vo];exact⟨s,u,o,R,U,λ_=>rfl,λ_=>rfl,z,G,H,I,J,M,(dW B b2),(i.G b2),(j.G b2),r,C,D,(λe=>⟨(V e).1.mV (λb q l=>⟨q,b2.block b l⟩),(V e).2.1,aM (V e).2.2 b2.size⟩),A⟩
  .obtain rfl:=eX (k:=1) c VA;obtain rfl:=F rfl;clear c;go_simp;go_wp2_with (first|(go_at_call 242;refine(hS _).V ?_;rintro e w3 ⟨t3,rfl,Q,b3⟩))
   refine m.out _ _ ?_;simp only[Vo];exact⟨s,u,t3,R,U,E,λ_=>rfl,λ_=>rfl,G,H,I,J,M,(dW B b3),((i.G b3).val _),(j.G b3),r,C,D,(λe=>⟨(V e).1.mV (λb q l=>⟨q,b3.block b l⟩),(V e).2.1,aM (V e).2.2 b3.size⟩),(λ_=>Q)⟩
  .clear c;go_simp;refine m.out _ _ ?_;simp only[Vo];exact⟨s,u,o,R,U,E,F,z,λ_=>rfl,H,I,J,M,B,i,j,r,C,D,V,A⟩
  .obtain rfl:=eX (k:=3) c VA;obtain rfl:=G rfl;clear c;go_simp;refine m.out _ _ ?_;simp only[Vo];exact⟨s,u,o,R,U,E,F,z,λ_=>rfl,λ_=>rfl,I,J,M,B,i,j,r,C,D,V,A⟩
  .obtain rfl:=eX (k:=4) c VA;obtain rfl:=H rfl;clear c;go_simp;refine m.out _ _ ?_;simp only[Vo];exact⟨s,u,o,R,U,E,F,z,G,λ_=>rfl,λ_=>rfl,J,M,B,i,j,r,C,D,V,A⟩
  .obtain rfl:=eX (k:=5) c VA;obtain rfl:=I rfl;have KF:=h1.G B V8;have⟨k1,k2⟩:=KF.I;clear c;go_simp;refine m.out _ _ ?_;simp only[Vo];exact⟨s,u,o,R,U,E,F,z,G,H,λ_=>rfl,λ_=>rfl,M,B,i,j,r,C,D,V,A⟩
  .clear c;go_simp;refine m.out _ _ ?_;simp only[Vo];exact⟨s,u,o,R,U,E,F,z,G,H,I,J,λ_=>rfl,B,i,j,r,C,D,V,A⟩
  .obtain rfl:=eX (k:=6) c VA;obtain rfl:=eX (k:=7) c VA;obtain rfl:=J rfl;obtain rfl:=M rfl;clear c;go_simp;go_wp2_with (first|(go_at_call 289;refine(Wb _).V ?_;rintro e w4 ⟨vv,rfl,Wf,b4⟩))
   refine m.out _ _ ?_;simp only[Vo];exact⟨s,u,o,W.heap.size,w4.heap.size,E,F,z,G,H,I,λ_=>rfl,λ_=>rfl,(dW B b4),(i.G b4),((j.G b4).val _),r,(λe _=> .inl (i.lt e)),(λe _=> .inl (j.lt e)),(λ_=>⟨Wf.mV (λb q l=>⟨⟨q,l⟩,rfl⟩),B.size,aE _⟩),A⟩
  .clear c;go_simp;refine m.out _ _ ?_;simp only[Vo];exact⟨W.heap.size,u,o,R,U,E,F,z,G,H,I,J,M,(B.alloc B.size _),(i.new B.size _),(j.alloc _),(oz.lt1 j.lt),(λ_ e=> .inr (V e).2.2),D,(λe=>⟨(V e).1.mV (λb q l=>⟨q,(Vt W _).block b l⟩),(V e).2.1,aM (V e).2.2 (Vt W _).size⟩),A⟩
  .clear c;go_simp;refine m.out _ _ ?_;simp only[Vo];exact⟨s,W.heap.size,o,R,U,E,F,z,G,H,I,J,M,(B.alloc B.size _),(i.alloc _),(j.new B.size _),(oz.lt1 i.lt).sy,C,(λ_ e=> .inr (V e).2.2),(λe=>⟨(V e).1.mV (λb q l=>⟨q,(Vt W _).block b l⟩),(V e).2.1,aM (V e).2.2 (Vt W _).size⟩),A⟩
  .obtain rfl:=eX (k:=9) c VA;obtain rfl:=eX (k:=2) c VA;obtain⟨rfl,zP,yP⟩:=i.made rfl;have⟨wP,cP,kP⟩:=iF yP;obtain rfl:=z rfl;clear c;go_simp;refine m.out _ _ ?_;simp only[Vo];exact⟨s,u,o,R,U,E,F,λ_=>rfl,G,H,I,J,M,(B.setCell (p:=(aj s 0)) zP _),i.store,(j.oth (λe=>r rfl e) 0 _),r,C,D,(λe=>⟨(V e).1.mV (λb q l=>⟨q,et (by have:=C rfl e;omega)⟩),(V e).2.1,by simpa using(V e).2.2⟩),A⟩
  .obtain rfl:=eX (k:=10) c VA;obtain rfl:=eX (k:=8) c VA;obtain⟨rfl,zQ,yQ⟩:=j.made rfl;have⟨wQ,cQ,kQ⟩:=iF yQ;obtain⟨vf,vcap,⟨rfl,VY⟩,hvc⟩:=(V rfl).1;clear c;go_simp;refine m.out _ _ ?_;simp only[Vo];exact⟨s,u,o,R,U,E,F,z,G,H,I,J,M,(B.setCell (p:=(aj u 0)) zQ _),(i.oth (λe=>r.sy rfl e) 0 _),j.store,r,C,D,(λe=>⟨(V e).1.mV (λb q l=>⟨q,et (by have:=D rfl e;omega)⟩),(V e).2.1,by simpa using(V e).2.2⟩),A⟩
 case rest=>
  obtain⟨tb,Y,o,vv,rfl,rfl,KP,KQ,Q,⟨af,VO,⟨rfl,VY⟩,hv⟩,zP,zQ,b3⟩:=hcut;have hq:=V9 wc b3;obtain⟨pk,VS⟩:=Vu (iw mp g);rw[VS]at hq
  have HF:Hid (∀w5,ak wc w5->∀f,(∀args w,(callFunc f args).run prog w= .ok (.enter f args) w)->f=(if pk then 290 else 291)->Gk w5 (λb=>w.heap.size<=b) mp g iq (.func (.func f) #[] #[ah tb,ah Y])):=λw5 X f hf V0=>by
   refine⟨f,[ah tb,ah Y],⟨rfl,hf⟩,λS d O n N W m hq hN fg hnm Wh=> ?_⟩;have VM:=Q (by rw[fg.eq];omega);rw[fg.eq,fg.tk]at VM;subst VM;have K1:=m.bx zP (KP.G X KP.lt);have K2:=m.bx zQ (KQ.G X KQ.lt);have L:=hv S O n N W (m.back X) (λb q l=>hq b q (aI l X.size)) hN fg.gb.sy Wh;have i1:=hq tb zP (aI KP.lt X.size);have i2:=hq Y zQ (aI KQ.lt X.size);rw[fg.pk]at VS
   cases pk with
   |true=>
    obtain rfl:=V0;have:=Mh tb Y af VO (fH O.num (oZ S O)) K1 K2 i1 i2 VY L
    exact λW' Z vv l k B q1 q2 q3 q4=>by
     have e:kN S (eI S n) O l=fH O.num (oZ S O)++fI (nH S (eI S n) O l):=by unfold kN;rw[dR VS]
     rw[e]at q4⊢
     exact this W' Z vv l k B q1 q2 q3 q4
   |false=>
    obtain rfl:=V0;have:=O7 tb Y af VO (fH O.num (oZ S O)) K1 K2 i1 i2 VY L
    exact λW' Z vv l k B q1 q2 q3 q4=>by
     have e:kN S (eI S n) O l=l.flatMap λv=>fH O.num (oZ S O)++gp S (eI S n) O v:=by unfold kN;rw[dQ (by grind)]
     rw[e]at q4⊢;exact this W' Z vv l k B q1 q2 q3 q4
  clear VS Q hv
  cases pk with
  |true=>
   go_wp2_with fail;refine hq.V ?_;rintro e w5 ⟨rfl,X⟩;go_wp2;go_ret
   exact⟨_,rfl,HF.o w5 X 290 (enters_of func290 VB rfl) rfl,dW b3 X⟩
  |false=>
   go_wp2_with fail;refine hq.V ?_;rintro e w5 ⟨rfl,X⟩;go_wp2;go_ret;exact⟨_,rfl,HF.o w5 X 291 (enters_of func291 VB rfl) rfl,dW b3 X⟩
end
end
section
variable (l:ap) {β:Type} {stop:Nat->Bool}
def Tk (ws:List W)(i:Nat)(l:List rD):Prop:=(ws.drop i).map (fun x=>x.1.data.toList)=l
def kH {α β:Type}(R:β->α->Prop):List β->List α->Prop
 | [],[]=>True
 |x::xs,y::ys=>R x y/\kH R xs ys
 |_,_=>False
theorem zD:(bl l).toList=l:=by rw[ByteArray.toList_eq,iJ]
def qN (l:ap):Int:=
 if l.length=0 then 4 else if mA (((l[0]?).map fun x=>(x.toNat:Int)).getD 0)then 2 else if !vS (((l[0]?).map fun x=>(x.toNat:Int)).getD 0)||pZ l then 0 else if jK l then 3 else 1
theorem iZ:dX (bl l)=qN l:=by
 unfold dX js qN;rw[mt,fT,zD,iJ]
section
variable {ws:List W} {i:Nat} {l:List rD} {x s:rD}
theorem Tk.len (h:Tk ws i l):l.length=ws.length-i:=by rw[<-h];simp
theorem Tk.step (h:Tk ws i (x::l)):∃p,ws[i]?=some (bl x,p)/\Tk ws (i+1) l:=by
 unfold Tk at*;have a:i<ws.length:=(by have:=congrArg List.length h;grind);rw[be a,bC]at h;injection h with h1 h2
 exact⟨ws[i].2,by rw[aO a,<-h1,CJ],h2⟩
theorem Tk.app {a:List rD}(h:Tk ws i (a++l)):Tk ws (i+a.length) l:=by
 unfold Tk at*;rw[<-List.drop_drop,List.map_drop,h];simp
theorem Tk.skip (h:Tk ws i (s::l)):gw ws s i= .ok ((),i+1)/\Tk ws (i+1) l:=by
 obtain⟨p,a,b⟩:=h.step;exact⟨by unfold gw;rw[a];simp[zD],b⟩
theorem Tk.kind {k:Int}(h:Tk ws i (x::l))(c:dX (bl x)=k):∃p,kO ws k i= .ok ((bl x,p),i+1)/\Tk ws (i+1) l:=by
 obtain⟨p,b,a⟩:=h.step;exact⟨p,by unfold kO;simp_all,a⟩
theorem Tk.type (h:Tk ws i (x::l))(hk:dX (bl x)=3\/dX (bl x)=1):∃p,pN ws i= .ok ((bl x,p),i+1)/\Tk ws (i+1) l:=by
 obtain⟨p,a,b⟩:=h.step;exact⟨p,by unfold pN;rw[a];rcases hk with hk|hk<;>simp[hk],b⟩
theorem Tk.txt (h:Tk ws i (x::l)):gy ws s i=(x==s):=by
 obtain⟨p,a,b⟩:=h.step;unfold gy;rw[a];simp only[zD]
end
theorem Va:∀k:Fin 7,qN (102::gu k.val)=1/\qN (gu (k.val+1))=2:=by decide+kernel
theorem Nt:∀t:Fin 19,qN (gI t.val)=3\/qN (gI t.val)=1:=by decide+kernel
structure wy (k:Nat)(f:F3)(fm:Int)(r:eW):Prop where
 form:r.form=fm
 key:r.key.map (·.1)=if fm=4 then some (bl (gI f.2.2))else none
 type:r.type.1=bl (gI f.1)
 name:r.name.1=bl (102::gu k)
 num:r.num.1=bl (gu (k+1))
section
variable {ws:List W} {i k n:Nat} {l:List rD} {f:F3}
theorem Tk.numP (hk:k<7)(h:Tk ws i (QA k++l)):∃p q,kY ws i= .ok (((bl (102::gu k),p),(bl (gu (k+1)),q)),i+4):=by
 obtain⟨e,g⟩:=Va ⟨k,hk⟩;obtain⟨p,a,j⟩:=Tk.kind h ((iZ _).J e);obtain⟨b,m⟩:=j.skip;obtain⟨q,c,o⟩:=m.kind ((iZ _).J g);obtain⟨d,r⟩:=o.skip;exact⟨p,q,by unfold Go.Proofs.YtfebdimolnobaaaGreatDoor.kY;rw[a];simp only[gP];rw[b];simp only;rw[c];simp only;rw[d]⟩
theorem Tk.field (hk:k<7)(hf:f.1<19)(form:Int)(g:form≠4)(h:Tk ws i (Dc k f++l)):∃r,fZ ws form i= .ok (r,i+5)/\wy k f form r:=by
 have c:=Nt ⟨f.1,hf⟩;obtain⟨p,a,d⟩:=Tk.type h (c.imp (fun e=>(iZ _).J e) fun e=>(iZ _).J e);obtain⟨q,r,b⟩:=Tk.numP hk d;exact⟨_,by unfold fZ;rw[a];simp only[gP];rw[b],rfl,by(simp;omega),rfl,rfl,rfl⟩
theorem Tk.map (hk:k<7)(hf:f.1<19)(hy:f.2.2<19)(h:Tk ws i ([109,97,112]:: [60]::gI f.2.2:: [44]::gI f.1:: [62]::(QA k++l))):∃r,nP ws i= .ok (r,i+10)/\wy k f 4 r:=by
 have t:=Nt ⟨f.1,hf⟩;have o:=Nt ⟨f.2.2,hy⟩;obtain⟨a,u⟩:=h.skip;obtain⟨b,v⟩:=u.skip;obtain⟨p,c,w⟩:=v.type (o.imp (fun e=>(iZ _).J e) fun e=>(iZ _).J e);obtain⟨d,y⟩:=w.skip;obtain⟨q,g,z⟩:=y.type (t.imp (fun e=>(iZ _).J e) fun e=>(iZ _).J e);obtain⟨j,A⟩:=z.skip;obtain⟨r,s,m⟩:=Tk.numP hk A;exact⟨_,by unfold nP;rw[a];simp only[gP];rw[b];simp only;rw[c];simp only;rw[d];simp only;rw[g];simp only;rw[j];simp only;rw[m],rfl,rfl,rfl,rfl,rfl⟩
theorem ui {α:Type}{p:Nat->oF α}{F:β->List rD}{R:β->α->Prop}{e:List rD}(b:∀i,Tk ws i e->stop i=true):
  ∀(iH:List β),(∀x∈iH,∀i l,Tk ws i (F x++l)->stop i=false/\∃a,p i= .ok (a,i+(F x).length)/\R x a)->∀n i,iH.length<=n->Tk ws i (iH.flatMap F++e)->∃ys,gJ stop p n i= .ok (ys,i+(iH.flatMap F).length)/\kH R iH ys
 | [],_,n,i,_,h=>by
  refine⟨[],?_,trivial⟩
  cases n with
  |zero=>rfl
  |succ n=>rw[gJ,if_pos (b i h)];rfl
 |x::iH,_,0,_,hn,_=>by simp at hn
 |x::iH,hp,n+1,i,hn,h=>by
  rw[bt,bj]at h;obtain⟨c,a,d,g⟩:=hp x (by simp) i _ h;obtain⟨ys,o,j⟩:=ui b iH (fun y m=>hp y (aY _ m)) n (i+(F x).length) (by simp_all) h.app;refine⟨a::ys,?_,g,j⟩;rw[gJ,if_neg (by rw[c];decide),d];simp only[gP];grind
theorem rE {F:β->List rD}:∀(iH:List β),(∀x∈iH,F x≠ [])->iH.length<=(iH.flatMap F).length
 | [],_=>aE _
 |x::iH,h=>by
  have b:=rE iH (fun y a=>h y (aY _ a));have c:=List.length_pos_iff.2 (h x (by simp));grind
end
def zI (fs:List F3)(n:Nat):List (Nat×F3):=(List.range n).map fun k=>(k,(fs[k]?).getD (0,0,0))
def sG (x:Nat×F3):Bool:=x.2.2.1==3
def nN (fs:List F3):List (Nat×F3):=(zI fs fs.length).filter fun x=> !sG x
def ones (fs:List F3):List (Nat×F3):=(zI fs fs.length).filter sG
theorem og {γ:Type}{F:β->List γ}{q:β->Bool}:∀(l:List β),(∀x∈l,q x=false->F x= [])->l.flatMap F=(l.filter q).flatMap F
 | [],_=>rfl
 |x::l,h=>by
  have ih:=og l (fun y a=>h y (aY _ a));grind
theorem zF {γ:Type}{F G:β->List γ}:∀(l:List β),(∀x∈l,F x=G x)->l.flatMap F=l.flatMap G
 | [],_=>rfl
 |x::l,h=>by rw[bt,bt,h x (by simp),zF l fun y a=>h y (aY _ a)]
theorem IH (fs:List F3):∀n,GL fs n=(zI fs n).flatMap (fun x=>JR x.1 x.2)/\GM fs n=(zI fs n).flatMap (fun x=>Sc x.1 x.2)/\pY fs n=(zI fs n).flatMap (fun x=>MU x.1 x.2)
 |0=>⟨rfl,rfl,rfl⟩
 |n+1=>by
  obtain⟨a,b,c⟩:=IH fs n;unfold zI at*;rw[GL,GM,pY,a,b,c,List.range_succ];simp
theorem uj {fs:List F3}{n:Nat}{x:Nat×F3}(h:x∈zI fs n)(b:n<=fs.length):x.1<n/\x.2∈fs/\fs[x.1]?=some x.2:=by
 obtain⟨k,a,rfl⟩:=aS.1 h;grind
def vQ (h:Nat):Int:=if h=1 then 2 else if h=2 then 1 else h
def iH (fs:List F3):List (Option (Nat×F3)):=(nN fs).map some++if ones fs= []then []else [none]
def NV (fs:List F3):Option (Nat×F3)->List rD
 |some x=>JR x.1 x.2
 |none=> [[111,110,101,111,102],[111],[123]]++((ones fs).flatMap (fun x=>Dc x.1 x.2)++ [[125]])
def Dd (fs:List F3):Option (Nat×F3)->fK->Prop
 |some x,p=>∃r,p=⟨none,[r]⟩/\wy x.1 x.2 (vQ x.2.2.1) r
 |none,p=>∃o rs,p=⟨some (bl [111],o),rs⟩/\kH (fun x r=>wy x.1 x.2 3 r) (ones fs) rs
theorem Sf (i:Nat)(fs:List F3):PQ i fs= [[109,101,115,115,97,103,101],77::gu i,[123]]++((iH fs).flatMap (NV fs)++ [[125]]):=by
 obtain⟨j,m,o⟩:=IH fs fs.length
 have d:GL fs fs.length=(nN fs).flatMap (fun x=>JR x.1 x.2):=by
  rw[j]
  exact og _ fun x _ h=>by
   have:x.2.2.1=3:=by simpa [sG]using h
   unfold JR;rw[if_neg (by omega),if_neg (by omega),if_neg (by omega),if_pos this]
 have c:∀x:Nat×F3,sG x=false->Sc x.1 x.2= []/\MU x.1 x.2= []:=fun x h=>by
  have:¬x.2.2.1=3:=by simpa [sG]using h
  unfold Sc MU
  (simp;omega)
 have p:∀x∈ones fs,Sc x.1 x.2=Dc x.1 x.2/\MU x.1 x.2≠ []:=fun x a=>by
  have:x.2.2.1=3:=by simpa [sG]using(bA.1 a).2
  unfold Sc MU;rw[if_pos this,if_pos this];exact⟨rfl,by simp[JL]⟩
 have e:GM fs fs.length=(ones fs).flatMap (fun x=>Dc x.1 x.2):=(by rw[m,og (q:=sG) _ fun x _ h=>(c x h).1];exact zF _ fun x a=>(p x a).1);have g:pY fs fs.length=(ones fs).flatMap (fun x=>MU x.1 x.2):=(by rw[o,og (q:=sG) _ fun x _ h=>(c x h).2];rfl)
 have b:pY fs fs.length= []<->ones fs= []:=by
  rw[g];refine⟨fun h=> ?_,fun h=>by rw[h];rfl⟩
  cases ho:ones fs with
  |nil=>rfl
  |cons x l=>
   rw[ho,bt]at h;simp_all
 unfold PQ iH;rw[d,e];by_cases h:ones fs= [];.rw[if_pos (b.2 h),if_pos h,bV,List.flatMap_map];rfl
 .rw[if_neg (fun q=>h (b.1 q)),if_neg h,da,List.flatMap_map];simp[NV]
theorem rF:∀t:Fin 19,(gI t.val== [125])=false/\(gI t.val== [111,110,101,111,102])=false/\(gI t.val== [109,97,112])=false/\(gI t.val== [114,101,112,101,97,116,101,100])=false/\(gI t.val== [111,112,116,105,111,110,97,108])=false:=by decide+kernel
section
variable {ws:List W} {n:Nat} {fs:List F3}
theorem PU (hn:n<=3)(h:∀f∈fs,IF n f)(h7:fs.length<=7):∀x∈iH fs,∀i l,Tk ws i (NV fs x++l)->gy ws [125] i=false/\∃a,kB ws i= .ok (a,i+(NV fs x).length)/\Dd fs x a:=by
 intro x d i l c;rcases aW.1 d with d|d
 .obtain⟨⟨k,f⟩,z,rfl⟩:=aS.1 d;obtain⟨E,v⟩:=bA.1 z;obtain⟨u,t,_⟩:=uj E (aE _);have O:¬f.2.1=3:=by simpa [sG]using v
  have q:=h f t;have j:f.1<19:=by have:=q.1;omega
  have u:k<fs.length:=u;obtain⟨T,U,V,X,Y⟩:=rF ⟨f.1,j⟩;have c:Tk ws i (JR k f++l):=c;show gy ws [125] i=false/\∃a:fK,kB ws i=Except.ok (a,i+(JR k f).length)/\∃r,a=⟨none,[r]⟩/\wy k f (vQ f.2.1) r;unfold JR at c⊢;unfold kB mB;by_cases c0:f.2.1=0;.rw[if_pos c0]at c⊢;obtain⟨r,e,g⟩:=Tk.field (by omega) j 0 (by decide) c;have b:Tk ws i (gI f.1::(QA k++l)):=c;rw[b.txt,b.txt,b.txt,b.txt,b.txt,T,U,V,X,Y];exact⟨rfl,⟨none,[r]⟩,by simp only[aU,if_false];rw[e];rfl,r,rfl,by rw[c0];exact g⟩
  .rw[if_neg c0]at c⊢;by_cases c1:f.2.1=1;.rw[if_pos c1]at c⊢;obtain⟨p,_,m⟩:=Tk.step c;obtain⟨r,e,g⟩:=Tk.field (by omega) j 2 (by decide) m;have b:Tk ws i ([114,101,112,101,97,116,101,100]::(Dc k f++l)):=c;rw[b.txt,b.txt,b.txt,b.txt,b.txt];exact⟨rfl,⟨none,[r]⟩,by simp;rw[e];rfl,r,rfl,by rw[c1];exact g⟩
   .rw[if_neg c1]at c⊢;by_cases c2:f.2.1=2;.rw[if_pos c2]at c⊢;obtain⟨p,_,m⟩:=Tk.step c;obtain⟨r,e,g⟩:=Tk.field (by omega) j 1 (by decide) m;have b:Tk ws i ([111,112,116,105,111,110,97,108]::(Dc k f++l)):=c;rw[b.txt,b.txt,b.txt,b.txt,b.txt];exact⟨rfl,⟨none,[r]⟩,by simp;rw[e];rfl,r,rfl,by rw[c2];exact g⟩
    .rw[if_neg c2,if_neg O]at c⊢;have H:f.2.1=4:=by have:=q.2.1;omega
     obtain⟨r,e,g⟩:=Tk.map (by omega) j (by have:=MW q.2.2.1;omega) c;have b:Tk ws i ([109,97,112]::([60]::gI f.2.2:: [44]::gI f.1:: [62]::(QA k++l))):=c;rw[b.txt,b.txt,b.txt,b.txt,b.txt];exact⟨rfl,⟨none,[r]⟩,by simp;rw[e];rfl,r,rfl,by rw[H];exact g⟩
 .by_cases v:ones fs= [];.simp_all
  .rw[if_neg v]at d;obtain rfl:=ba.1 d;have c:Tk ws i ([111,110,101,111,102]:: [111]:: [123]::(((ones fs).flatMap (fun x=>Dc x.1 x.2)++ [[125]])++l)):=c;have B:=c;obtain⟨I,m⟩:=c.skip;obtain⟨p,J,Z⟩:=m.kind (k:=1) ((iZ _).J (by rfl));obtain⟨K,o⟩:=Z.skip
   have Q:∀x∈ones fs,x.1<7/\x.2.1<19:=fun x d=>by
    obtain⟨u,t,_⟩:=uj (bA.1 d).1 (aE _);have:=(h _ t).1;omega
   have w:∀x∈ones fs,∀i l,Tk ws i (Dc x.1 x.2++l)->gy ws [125] i=false/\∃a,fZ ws 3 i= .ok (a,i+(Dc x.1 x.2).length)/\wy x.1 x.2 3 a:=fun x d i l c=>by
    obtain⟨S,C⟩:=Q x d;obtain⟨r,e,g⟩:=Tk.field S C 3 (by decide) c;have b:Tk ws i (gI x.2.1::(QA x.1++l)):=c;exact⟨by rw[b.txt];exact(rF ⟨_,C⟩).1,r,e,g⟩
   rw[B.txt];refine⟨rfl,?_⟩
   cases hos:ones fs with
   |nil=>simp_all
   |cons y D=>
    rw[hos]at w o;rw[bt,bj,bj]at o;obtain⟨_,r,L,g⟩:=w y (by simp) _ _ o;have A:=o.app;have b:=A.len;have P:=rE (F:=fun x:Nat×F3=>Dc x.1 x.2) D (fun _ _=>by simp[Dc]);obtain⟨rs,M,G⟩:=ui (p:=fZ ws 3) (F:=fun x:Nat×F3=>Dc x.1 x.2) (R:=fun x r=>wy x.1 x.2 3 r) (e:= [125]::l) (fun i h=>by rw[h.txt];rfl) D (fun x d=>w x (aY _ d)) ws.length _ (by grind) (by simpa using A);have b:=A.app;obtain⟨N,c⟩:=Tk.skip b;refine⟨⟨some (bl [111],p),r::rs⟩,?_,p,r::rs,rfl,by rw[hos];exact⟨g,G⟩⟩;unfold kB;rw[B.txt];simp only[beq_self_eq_true,if_true];unfold jh;rw[I];simp only[gP,nQ];rw[J];simp only;rw[K];simp only;rw[L];simp only;rw[M];simp only;rw[N];simp[NV,hos,bt];omega
end
end
end Go.Proofs.YtfebdimolnobaaaGreatDoor
