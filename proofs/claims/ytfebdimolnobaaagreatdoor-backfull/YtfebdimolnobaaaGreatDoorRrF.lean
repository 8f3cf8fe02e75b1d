import Derived.Test.YtfebdimolnobaaaGreatDoorBuG
import Derived.Test.YtfebdimolnobaaaGreatDoorDfB
set_option maxRecDepth 100000
set_option maxHeartbeats 8000000
set_option linter.all false
namespace Go.Proofs.YtfebdimolnobaaaGreatDoor
open Go.RowKit Go.Proofs.Tryz
section
open VH
def UOK (w:aw):Prop:=Lib.Utf8Tabs 2 3 w
def UOK.lt1 {w:aw}(h:UOK w):2<w.heap.size:=aV _ _ (h.1 0 Vy)
def UOK.lt2 {w:aw}(h:UOK w):3<w.heap.size:=aV _ _ (h.2 0 Vy).1
def UOK.O {w w':aw}(h:UOK w)(e:w'.heap[2]?=w.heap[2]?)(b:w'.heap[3]?=w.heap[3]?):UOK w':=
 ⟨λc f=>(bE (a:=(aj 2 c)) e).J (h.1 c f), λi d=>⟨(bE (a:=(aj 3 (2*i))) b).J (h.2 i d).1,(bE (a:=(aj 3 (2*i+1))) b).J (h.2 i d).2⟩⟩
def BO (w:aw)(s:au)(b:s.size<=2^47)(a:UOK w):Vq 325 #[ag s] w λe w'=>e= .returned (.bool (Lib.validD s.data.toList))/\ak w w':=
 Any.utf8_ValidString Tryz.laysVs s w Vv a
def Ha (s:au)(w:aw)(h:s.size<=2^47):
  Calls prog 108 #[ag s] w λe w'=>e= .returned (ag s)/\ak w w':=by
 go_in
 go_wp2_with fail;refine(AnyPu.stringslite_Clone Tryz.laysPu25 s _ Vv).V ?_;rintro e w1 ⟨rfl,a⟩;go_wp2;go_ret;exact⟨rfl,a⟩
def jw {s:au}{a z e:Nat}(h:ft s a= .ok (z,e)):a<z/\z<=e/\e<=s.size:=by
 unfold ft at h;split at h;.cases h
 .rename_i x b;have⟨c,d,f,g⟩:=jm (m:=x.1) (z:=x.2) b;split at h;.simp at h;obtain⟨rfl,rfl⟩:=h;omega
  .cases h
def Hb (s:au)(z e:Nat):(s.extract 0 e).extract z (s.extract 0 e).size=s.extract z e:=by
 apply cS;simp only[cM];apply Array.ext;.simp
 .intro i a b;simp
def oq (s:au)(a:Nat):Fx (au×Nat):=
 match ft s a with
 | .error x=> .error x
 | .ok x=> .ok (s.extract x.1 x.2,x.2)
def rQ (s:au)(a:Nat):Fx (au×Nat):=
 match ft s a with
 | .error x=> .error x
 | .ok x=>if Lib.validD (s.extract x.1 x.2).data.toList then .ok (s.extract x.1 x.2,x.2)else .error (10,x.1)
def Hc (w:aw)(rb:Nat)(s:au)(a:Nat)(deep:Int)(h:ei w rb s a deep)(m:s.size<=2^47):
  Calls prog 270 #[ah rb] w (pV w rb s deep (oq s a) Value.string):=by
 obtain⟨r,c⟩:∃r,Hid (oq s a=r):=⟨_,rfl⟩;rw[c.o];go_in
 go_wp2_with fail;refine(oN w rb s a deep h m).V ?_
 cases hv:ft s a with
 |error x=>
  rintro e w2 ⟨f,l⟩;obtain rfl:e=d5 x.1 x.2:=l;obtain rfl:r= .error x:=by rw[<-c.o,oq,hv]
  unfold d5;go_wp2
  exact⟨rfl,f,rfl⟩
 |ok x=>
  obtain⟨z,b⟩:=x;have⟨t,u,v⟩:=jw hv;obtain rfl:r= .ok (s.extract z b,b):=by rw[<-c.o,oq,hv]
  rintro e w2 ⟨f,k,rfl,o,p,d,i⟩;have d:ei w2 k (s.extract 0 b) z deep:=d;have n:(s.extract 0 b).size=b:=by rw[bf];omega
  go_wp2_with fail;have g:=Fr w2 k (s.extract 0 b) z deep d Vv;rw[Hb]at g;refine g.V ?_;rintro e w3 ⟨rfl,q,rfl⟩;go_wp2_with fail;refine(Ha (s.extract z b) _ (by rw[bf];omega)).V ?_;rintro e y ⟨rfl,j⟩;go_wp2;go_ret;exact⟨(f.drewN q).J (ee.oB j),rfl,dZ.G (i.drewN q) j (dZ.lt i)⟩
def Kx (w:aw)(rb:Nat)(s:au)(a:Nat)(deep:Int)(h:ei w rb s a deep)(M:s.size<=2^47)(m:UOK w)(n:rb≠2)(p:rb≠3):
  Calls prog 269 #[ah rb] w (pV w rb s deep (rQ s a) Value.string):=by
 obtain⟨r,f⟩:∃r,Hid (rQ s a=r):=⟨_,rfl⟩;rw[f.o];go_in
 go_wp2_with fail;refine(oN w rb s a deep h M).V ?_
 cases hv:ft s a with
 |error x=>
  rintro e w2 ⟨c,L⟩;obtain rfl:e=d5 x.1 x.2:=L;obtain rfl:r= .error x:=by rw[<-f.o,rQ,hv]
  unfold d5;go_wp2
  exact⟨rfl,c,rfl⟩
 |ok x=>
  obtain⟨z,b⟩:=x;have⟨S,T,U⟩:=jw hv;rintro e w2 ⟨c,d,rfl,O,P,g,H⟩;have g:ei w2 d (s.extract 0 b) z deep:=g;have l:(s.extract 0 b).size=b:=by rw[bf];omega
  have I:UOK w2:=m.O (c.block _ m.lt1 (by simp;exact λe=>n e.sy)) (c.block _ m.lt2 (by simp;exact λe=>p e.sy))
  have u:Hid (∀w3:aw,ei w3 d (s.extract 0 b) z deep->Vq 272 #[ah d] w3 λe w'=>e= .returned (ag (s.extract z b))/\∃q,w'=w3.drewN q):=λw3 k=>by
   have:=Fr w3 d (s.extract 0 b) z deep k Vv;rw[Hb]at this;exact this
  have i:(s.extract z b).size<=2^47:=by rw[bf];omega
  have G:Hid (∀w3:aw,UOK w3->Vq 325 #[ag (s.extract z b)] w3 λe w'=>e= .returned (.bool (Lib.validD (s.extract z b).data.toList))/\ak w3 w'):=λw3 k=>BO w3 _ i k
  have F:Hid (∀w3:aw,Vq 108 #[ag (s.extract z b)] w3 λe w'=>e= .returned (ag (s.extract z b))/\ak w3 w'):=λw3=>Ha _ w3 i
  have t:Hid (r=if Lib.validD (s.extract z b).data.toList then .ok (s.extract z b,b)else .error (10,(z:Int))):=(by show r=_;rw[<-f.o,rQ,hv]);clear f l i;generalize s.extract z b=X at*;generalize Lib.validD X.data.toList=vd at*;go_wp2_with fail;refine(u.o w2 g).V ?_;rintro e w3 ⟨rfl,q,rfl⟩;have v:=g.drewN q;have y:ei (w2.drewN q) rb s b deep:=H.drewN q;have J:=c.drewN q;have K:UOK (w2.drewN q):=I.O rfl rfl;generalize w2.drewN q=w3 at*;go_wp2_with fail;refine(G.o w3 K).V ?_;rintro e o ⟨rfl,j⟩;have A:ei o d (s.extract 0 b) z deep:=dZ.G v j (dZ.lt v);have B:ei o rb s b deep:=dZ.G y j (dZ.lt y);have C:=J.J (ee.oB j);cases vd;.obtain rfl:r= .error (10,(z:Int)):=t.o;have⟨Q,R⟩:=dZ.I A;go_wp2_with fail;refine(JQ _ _ _).V ?_;rintro e N ⟨rfl,rfl⟩;go_wp2;exact⟨rfl,C,rfl⟩
  .obtain rfl:r= .ok (X,b):=t.o;go_wp2_with fail;refine(u.o o A).V ?_;rintro e N ⟨rfl,E,rfl⟩;go_wp2_with fail;refine(F.o _).V ?_;rintro e w6 ⟨rfl,D⟩;go_wp2;go_ret;exact⟨(C.drewN E).J (ee.oB D),rfl,dZ.G (B.drewN E) D (dZ.lt B)⟩
def mf (s:au)(a:Nat)(kind:Int):Fx (Unit×Nat):=
 if kind=0 then(match iV s a s.size with| .error x=> .error x| .ok x=> .ok ((),x.2))
 else if kind=1 then(match ju s a 8 with| .error x=> .error x| .ok x=> .ok ((),x.2))
 else if kind=5 then(match ju s a 4 with| .error x=> .error x| .ok x=> .ok ((),x.2))
 else(match ft s a with| .error x=> .error x| .ok x=> .ok ((),x.2))
def Ky (w:aw)(rb:Nat)(s:au)(deep:Int)(r:Fx (Unit×Nat))(e:Ending)(w':aw):Prop:=
 ee [rb] w w'/\(match r with
 | .error x=>e=d5 x.1 x.2
 | .ok x=>e= .returned (.tuple #[])/\ei w' rb s x.2 deep)
def vy (s:au)(a k:Nat):(match pP s a k with| .error x=>Except.error x| .ok x=> .ok ((),x.2):Fx (Unit×Nat))=(match ju s a k with| .error x=> .error x| .ok x=> .ok ((),x.2)):=by
 rw[ux,ju];by_cases h:a+k<=s.size;.rw[dR h,dR h]
 .rw[dQ h,dQ h]
def BP (w:aw)(rb:Nat)(s:au)(a:Nat)(deep kind:Int)(h:ei w rb s a deep)(j:a<=s.size)(i:s.size<=2^47)(b:kind=0\/kind=1\/kind=2\/kind=5):
  Calls prog 134 #[ah rb,aa kind] w (Ky w rb s deep (mf s a kind)):=by
 have l:=xK w rb s a deep 8 h j i Vy Vy;have k:=xK w rb s a deep 4 h j i Vy Vy;rcases b with rfl|rfl|rfl|rfl
 .have d:mf s a 0=(match iV s a s.size with| .error x=> .error x| .ok x=> .ok ((),x.2)):=rfl;rw[d];obtain⟨r,c⟩:∃r,Hid ((match iV s a s.size with| .error x=> .error x| .ok x=> .ok ((),x.2):Fx (Unit×Nat))=r):=⟨_,rfl⟩;rw[c.o];go_in
  go_wp2_with fail;refine(nw w rb s a deep h i).V ?_
  cases hv:iV s a s.size with
  |error x=>
   rintro e w2 ⟨b,f⟩;obtain rfl:e=d5 x.1 x.2:=f;obtain rfl:r= .error x:=by rw[<-c.o,hv]
   unfold d5;go_wp2
   exact⟨rfl,b,rfl⟩
  |ok x=>
   rintro e w2 ⟨b,rfl,g⟩;obtain rfl:r= .ok ((),x.2):=by rw[<-c.o,hv]
   go_wp2;go_end0;exact⟨b,rfl,g⟩
 .have d:mf s a 1=(match pP s a 8 with| .error x=> .error x| .ok x=> .ok ((),x.2)):=(vy s a 8).sy;rw[d];obtain⟨r,c⟩:∃r,Hid ((match pP s a 8 with| .error x=> .error x| .ok x=> .ok ((),x.2):Fx (Unit×Nat))=r):=⟨_,rfl⟩;rw[c.o];go_in
  go_wp2_with fail;refine l.V ?_
  cases hv:pP s a 8 with
  |error x=>
   rintro e w2 ⟨b,f⟩;obtain rfl:e=d5 x.1 x.2:=f;obtain rfl:r= .error x:=by rw[<-c.o,hv]
   unfold d5;go_wp2
   exact⟨rfl,b,rfl⟩
  |ok x=>
   rintro e w2 ⟨b,rfl,g⟩;obtain rfl:r= .ok ((),x.2):=by rw[<-c.o,hv]
   go_wp2;go_end0;exact⟨b,rfl,g⟩
 .have d:mf s a 2=(match ft s a with| .error x=> .error x| .ok x=> .ok ((),x.2)):=rfl;rw[d];obtain⟨r,c⟩:∃r,Hid ((match ft s a with| .error x=> .error x| .ok x=> .ok ((),x.2):Fx (Unit×Nat))=r):=⟨_,rfl⟩;rw[c.o];go_in
  go_wp2_with fail;refine(oN w rb s a deep h i).V ?_
  cases hv:ft s a with
  |error x=>
   rintro e w2 ⟨b,f⟩;obtain rfl:e=d5 x.1 x.2:=f;obtain rfl:r= .error x:=by rw[<-c.o,hv]
   unfold d5;go_wp2
   exact⟨rfl,b,rfl⟩
  |ok x=>
   rintro e w2 ⟨b,m,rfl,_,_,_,g⟩;obtain rfl:r= .ok ((),x.2):=by rw[<-c.o,hv]
   go_wp2;go_end0;exact⟨b,rfl,g⟩
 .have d:mf s a 5=(match pP s a 4 with| .error x=> .error x| .ok x=> .ok ((),x.2)):=(vy s a 4).sy;rw[d];obtain⟨r,c⟩:∃r,Hid ((match pP s a 4 with| .error x=> .error x| .ok x=> .ok ((),x.2):Fx (Unit×Nat))=r):=⟨_,rfl⟩;rw[c.o];go_in
  go_wp2_with fail;refine k.V ?_
  cases hv:pP s a 4 with
  |error x=>
   rintro e w2 ⟨b,f⟩;obtain rfl:e=d5 x.1 x.2:=f;obtain rfl:r= .error x:=by rw[<-c.o,hv]
   unfold d5;go_wp2
   exact⟨rfl,b,rfl⟩
  |ok x=>
   rintro e w2 ⟨b,rfl,g⟩;obtain rfl:r= .ok ((),x.2):=by rw[<-c.o,hv]
   go_wp2;go_end0;exact⟨b,rfl,g⟩
end
section
variable {b:au} {e a:Nat}
theorem gK (h:e<=b.size):(b.extract 0 e).size=e:=by(simp;omega)
theorem Hd {k:Nat}(h:e<=b.size)(a:k<e):gh (b.extract 0 e) k=gh b k:=by
 unfold gh;rw[dif_pos (by(simp;omega)),dif_pos Vv];congr 2;rw[ByteArray.getElem_extract];simp
theorem He (h:e<=b.size):∀f i n,mK (b.extract 0 e) a e f i n=mK b a e f i n
 |0,i,n=>rfl
 |f+1,i,n=>by
  unfold mK;by_cases hl:a+i<e;.rw[dR hl,dR hl,Hd h hl,He h f]
  grind
theorem wJ (h:e<=b.size):iV (b.extract 0 e) a (b.extract 0 e).size=iV b a e:=by
 rw[gK h];exact He h 10 0 0
theorem kL {z k:Nat}(h:e<=b.size)(d:k<=e):(b.extract 0 e).extract z k=b.extract z k:=by
 apply cS;simp only[cM];apply Array.ext;.simp;omega
 .intro i a c;simp
theorem sZ {k:Nat}(h:e<=b.size):ju (b.extract 0 e) a k=if a+k<=e then .ok (xE (b.extract a (a+k)),a+k)else .error (6,(a:Int)):=by
 unfold ju;rw[gK h];by_cases hl:a+k<=e;.rw[dR hl,dR hl,kL h hl]
 grind
theorem DL (h:e<=b.size):ft (b.extract 0 e) a=(match iV b a e with| .error x=> .error x| .ok x=>if(x.2:Int)+x.1<=e then .ok (x.2,x.2+x.1.toNat)else .error (6,x.2)):=by
 unfold ft;rw[wJ h,gK h]
 try rfl
theorem Kz (h:e<=b.size):jY (b.extract 0 e) a=(match iV b a e with
  | .error x=> .error x
  | .ok x=>if x.1/8<1\/536870911<x.1/8 then .error (8,a)else if x.1%8=0\/x.1%8=1\/x.1%8=2\/x.1%8=5 then .ok ((x.1/8,x.1%8),x.2)else .error (9,a)):=by
 unfold jY;rw[wJ h]
 try rfl
def Oy (s:au)(a:Nat):Fx pO:=
 match jY s a with
 | .error x=> .error x
 | .ok x=>
  if x.1.2=0 then(match iV s x.2 s.size with| .error y=> .error y| .ok y=> .ok ⟨x.1.1,0,a,x.2,y.2,y.1⟩)
  else if x.1.2=1 then(match ju s x.2 8 with| .error y=> .error y| .ok y=> .ok ⟨x.1.1,1,a,x.2,y.2,y.1⟩)
  else if x.1.2=5 then(match ju s x.2 4 with| .error y=> .error y| .ok y=> .ok ⟨x.1.1,5,a,x.2,y.2,y.1⟩)
  else(match ft s x.2 with| .error y=> .error y| .ok y=> .ok ⟨x.1.1,2,a,y.1,y.2,0⟩)
theorem wL (h:e<=b.size):Oy (b.extract 0 e) a=fO b a e:=by
 unfold Oy fO;rw[Kz h]
 cases hv:iV b a e with
 |error x=>rfl
 |ok x=>
  obtain⟨t,fr⟩:=x;simp only;by_cases h1:t/8<1\/536870911<t/8;.rw[dR h1,dR h1]
  .rw[dQ h1,dQ h1];by_cases k0:t%8=0;.rw[dR (.inl k0),dR k0];simp only;rw[dR k0,wJ h];cases iV b fr e<;>rfl
   .by_cases k1:t%8=1;.rw[dR (.inr (.inl k1)),dQ k0,dR k1];simp only;rw[dQ k0,dR k1,sZ h];grind
    .by_cases k5:t%8=5;.rw[dR (.inr (.inr (.inr k5))),dQ k0,dQ k1,dR k5];simp only;rw[dQ k0,dQ k1,dR k5,sZ h];grind
     .by_cases k2:t%8=2;.rw[dR (.inr (.inr (.inl k2))),dQ k0,dQ k1,dQ k5,dR k2];simp only;rw[dQ k0,dQ k1,dQ k5,DL h];grind
      simp_all
end
section
open VH
def OD (w:aw)(v:Value)(ns:ar)(t:Int)(b:w.ownsRow 0 3 1 v ns.length (gE ns))(E:ns.length<=2199023255000):
  Calls prog 322 #[v,aa t] w λe w'=>(∃r:Int,e= .returned (aa r)/\decide (0<=r)=decide (t∈ns))/\w'=w:=by
 obtain⟨a,c,rfl⟩:=iB b
 have f:Hid (∀(i:Nat) (x:Int),ns[i]?=some x->∃g,a=some (aj g 0)/\w.cell? (aj g i)=some (aa x)):=λi x d=>by
  have D:=gl d;obtain⟨g,rfl,_,z,p⟩:=eJ b Vv;exact⟨g,rfl,p w rfl i _ (by unfold gE;rw[aT,d];rfl)⟩
 clear b;go_in
 go_wp2;go_loopw [8] (λm wr=>∃(i:Nat),i<=ns.length/\m=aa i/\Hid (∀(k:Nat) (x:Int),ns[k]?=some x->k<i->x≠t)/\wr=w) (λm _=>((ns.length:Int)-(intOf m)).toNat)
 case atStart=>exact⟨0,aP _,rfl,(λk x _ h=>Vv),rfl⟩
 case round=>
  obtain⟨i,A,rfl,n,rfl⟩:=hrel;by_cases hlt:i<ns.length
  .have⟨x,d⟩:=gx hlt;obtain⟨g,rfl,u⟩:=f.o i x d;have o:Hid (ns[i]?=some x):=d;have B:IntKind.i64.wrap ((i:Int)+1)=(i:Int)+1:=by rw[IntKind.wrap_i64];omega
   by_cases hxt:t=x;.subst hxt;clear d f;go_wp2;go_ret;refine⟨⟨i,rfl,?_⟩,rfl⟩;have:t∈ns:=aL o.o;simp[this]
   .have C:(t==x)=false:=by simpa using hxt
    have q:Hid (t≠x):=hxt;clear d f hxt;go_wp2;go_roundw
    case rel=>exact⟨i+1,Vv,rfl,(λk y l j=>by
     by_cases e:k=i;.subst e;rw[o.o]at l;obtain rfl:=Option.some.inj l;exact λe=>q.o e.sy
     .exact n.o k y l Vv),trivial⟩
    case measure=>simp[intOf];omega
  .obtain rfl:i=ns.length:=Vv;clear f;go_wp2;go_ret;refine⟨⟨-1,rfl,?_⟩,rfl⟩
   have:t∉ns:=λh=>by
    have⟨k,j⟩:=bX.1 h;have s:=gl j;exact n.o k t j s rfl
   simp[this]
def xZ (w:aw)(v:Value)(ns:ar)(t:Int)(a:w.ownsRow 0 3 1 v ns.length (gE ns))(c:ns.length<=2199023255000):
  Calls prog 238 #[v,aa t] w λe w'=>e= .returned (.bool (decide (t∈ns)))/\w'=w:=by
 have b:=OD w v ns t a c;generalize decide (t∈ns)=q at b⊢;go_in
 go_wp2_with fail;refine b.V ?_;rintro e w' ⟨⟨r,rfl,rfl⟩,rfl⟩;go_wp2;go_ret;exact⟨rfl,rfl⟩
def ye (nb:Nat):Value:= .func (.func 264) #[] #[ah nb]
def Li (w:aw)(nb:Nat)(nv:Value)(ns:ar)(x:gH)(i:dZ w nb #[nv] 35)(b:w.ownsRow 0 3 1 nv ns.length (gE ns))(j:ns.length<=2199023255000):
  Calls prog 264 #[.agg #[aa x.1,x.2.1,x.2.2.1,x.2.2.2],ah nb] w λe w'=>e= .returned (.bool (decide (x.1∈ns)))/\ak w w':=by
 have h:=i.alloc (am #[aa x.1,x.2.1,x.2.2.1,x.2.2.2] 249);have g:=b.alloc (am #[aa x.1,x.2.1,x.2.2.1,x.2.2.2] 249);have d:=xZ _ nv ns x.1 g j;have⟨k,l⟩:=h.I;obtain⟨a,n,c,rfl⟩:=d7 b;have f:ak w (w.Vn #[aa x.1,x.2.1,x.2.2.1,x.2.2.2] 249):=(Vs w).alloc (aE _) _;generalize decide (x.1∈ns)=q at d⊢;go_in
 go_wp2_with fail;refine d.V ?_;rintro e w' ⟨rfl,rfl⟩;go_wp2;go_ret;exact⟨rfl,f⟩
end
end Go.Proofs.YtfebdimolnobaaaGreatDoor
