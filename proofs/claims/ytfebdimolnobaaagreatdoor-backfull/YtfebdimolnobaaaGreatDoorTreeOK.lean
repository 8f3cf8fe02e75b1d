import Derived.Test.YtfebdimolnobaaaGreatDoorCkH
import Derived.Test.YtfebdimolnobaaaGreatDoorBuA
import Derived.Shelf.SlSortCmp.Whole1
import Derived.Lib.ValidLaws
set_option maxRecDepth 100000
set_option maxHeartbeats 8000000
set_option linter.all false
namespace Go.Proofs.YtfebdimolnobaaaGreatDoor
open Go.RowKit Go.Proofs.Tryz
section
variable {ws:List W} {i j:Nat} {form:Int} {f:eW} {α:Type} {stop:Nat->Bool} {p:fK}
structure uo (ws:List W):Prop where
 few:ws.length<=2001
 size:∀(k:Nat) (x:W),ws[k]?=some x->x.1.size<=2000
 num:∀(k:Nat) (x:W),ws[k]?=some x->dX x.1=2->lq x.1
def Le {α:Type}(ws:List W)(r:oF α):Prop:=∀a j,r= .ok (a,j)->j<=ws.length
theorem oH (ws:List W)(s:ap)(i:Nat):Le ws (gw ws s i):=λa j h=>by
 have⟨b,x,c,_⟩:=fE _ _ _ _ _ h;grind
theorem BA (H:uo ws){nm:W×W}(h:kY ws i= .ok (nm,j)):lq nm.2.1/\i+4<=j/\j<=ws.length:=by
 unfold kY at h;have⟨_,m,d,h⟩:=d8 h;have⟨_,n,e,h⟩:=d8 h;have⟨_,o,f,h⟩:=d8 h;have⟨_,p,b,h⟩:=d8 h;have g:=(iS _ _ _ _ _ d).1;have k:=(fE _ _ _ _ _ e).1;have a:=iS _ _ _ _ _ f;have l:=(fE _ _ _ _ _ b).1;have c:=oH _ _ _ _ _ b;simp at h;obtain⟨rfl,rfl⟩:=h;exact⟨H.num _ _ a.2.1 a.2.2,Vv,c⟩
theorem oI (H:uo ws)(h:fZ ws form i= .ok (f,j)):lq f.num.1/\i+5<=j/\j<=ws.length:=by
 unfold fZ at h;have⟨t,e,a,h⟩:=d8 h;have⟨nm,g,b,h⟩:=d8 h;have c:=(lY _ _ _ _ a).1;have d:=BA H b;grind
theorem Oh (H:uo ws)(h:nP ws i= .ok (f,j)):lq f.num.1/\i+5<=j/\j<=ws.length:=by
 unfold nP at h;have⟨_,s,a,h⟩:=d8 h;have⟨_,t,b,h⟩:=d8 h;have⟨_,u,c,h⟩:=d8 h;have⟨_,v,d,h⟩:=d8 h;have⟨_,w,e,h⟩:=d8 h;have⟨_,x,g,h⟩:=d8 h;have⟨_,y,k,h⟩:=d8 h;have l:=(fE _ _ _ _ _ a).1;have m:=(fE _ _ _ _ _ b).1;have n:=(lY _ _ _ _ c).1;have o:=(fE _ _ _ _ _ d).1;have p:=(lY _ _ _ _ e).1;have q:=(fE _ _ _ _ _ g).1;have r:=BA H k;grind
theorem qb {p:Nat->oF α}{Q:α->Prop}{wt:α->Nat}{N:Nat}(b:∀i a j,p i= .ok (a,j)->Q a/\i+wt a<=j/\j<=N):
  ∀n i l j,i<=N->gJ stop p n i= .ok (l,j)->(∀a∈l,Q a)/\i+(l.map wt).sum<=j/\j<=N
 |0,i,l,j,hi,h=>by simp[gJ]at h;simp_all
 |n+1,i,l,j,hi,h=>by
  unfold gJ at h;split at h;.simp_all
  .have⟨a,f,d,h⟩:=d8 h;have⟨k,g,e,h⟩:=d8 h;have c:=b _ _ _ d;have m:=qb b n f k g c.2.2 e;grind
theorem BC (l:List α):(l.map λ_=>1).sum=l.length:=by
 induction l with
 |nil=>rfl
 |cons a l ih=>(simp;omega)
theorem JX (ps:List fK):(ps.map λp=>1+p.fields.length).sum=mN ps:=by
 induction ps with
 |nil=>rfl
 |cons p ps ih=>simp only[bC,ck,ih,mN]
def BD (p:fK):Prop:=∀f∈p.fields,lq f.num.1
theorem IT (H:uo ws)(h:jh ws i= .ok (p,j)):BD p/\i+(1+p.fields.length)<=j/\j<=ws.length:=by
 unfold jh at h;have⟨_,A,m,h⟩:=d8 h;have⟨_,B,n,h⟩:=d8 h;have⟨_,C,o,h⟩:=d8 h;have⟨f,D,q,h⟩:=d8 h;have⟨l,E,r,h⟩:=d8 h;have⟨_,F,b,h⟩:=d8 h;have⟨I,G,s,t⟩:=d8 r;have u:=(fE _ _ _ _ _ m).1;have v:=(iS _ _ _ _ _ n).1;have w:=(fE _ _ _ _ _ o).1;have c:=oI H q;have d:=qb (Q:=λf=>lq f.num.1) (wt:=λ_=>1) (N:=ws.length) (λi a j h=>by have:=oI H h;grind) _ _ _ _ c.2.2 s;have y:=(fE _ _ _ _ _ b).1;have e:=oH _ _ _ _ _ b;have g:=Except.ok.inj t;have k:=Except.ok.inj h;cases k;cases g;rw[BC]at d;refine⟨?_,?_,e⟩;.intro x z;grind
 (simp;omega)
theorem JY (H:uo ws)(h:kB ws i= .ok (p,j)):BD p/\i+(1+p.fields.length)<=j/\j<=ws.length:=by
 have a:∀(k:Nat) (r:oF eW),i<=k->(∀f j,r= .ok (f,j)->lq f.num.1/\k+5<=j/\j<=ws.length)->mB r= .ok (p,j)->BD p/\i+(1+p.fields.length)<=j/\j<=ws.length:=(by intro k r d c h;have⟨f,g,b,h⟩:=d8 h;have:=c _ _ b;simp at h;obtain⟨rfl,rfl⟩:=h;refine⟨λx e=> ?_,by grind,this.2.2⟩;simp_all);unfold kB at h;split at h;.exact IT H h
 .split at h;.exact a i _ (aE _) (λf j h=>Oh H h) h
  .split at h;.exact a (i+1) _ (bH _) (λf j h=>oI H h) h
   .split at h;.exact a (i+1) _ (bH _) (λf j h=>oI H h) h
    .exact a i _ (aE _) (λf j h=>oI H h) h
theorem IU (H:uo ws){b:d9}(h:jV ws i= .ok (b,j)):pw b/\i+1<=j/\j<=ws.length:=by
 have t:=H.few;unfold jV at h;split at h;.unfold lX at h;have⟨_,u,m,h⟩:=d8 h;have⟨nm,w,n,h⟩:=d8 h;have⟨_,x,d,h⟩:=d8 h;have⟨l,y,o,h⟩:=d8 h;have⟨_,z,e,h⟩:=d8 h;have q:=(fE _ _ _ _ _ m).1;have f:=iS _ _ _ _ _ n;have r:=(fE _ _ _ _ _ d).1;have g:=oH _ _ _ _ _ d;have c:=qb (Q:=λv:W×W=>lq v.2.1) (wt:=λ_=>1) (N:=ws.length) (λi a j h=>by have:=BA H h;grind) _ _ _ _ g o;have s:=(fE _ _ _ _ _ e).1;have k:=oH _ _ _ _ _ e;simp at h;obtain⟨rfl,rfl⟩:=h;rw[BC]at c;exact⟨⟨H.size _ _ f.2.1,by(simp;omega),c.1,by simp[mN],Vw⟩,Vv,k⟩
 .unfold ij at h;have⟨_,u,m,h⟩:=d8 h;have⟨nm,w,n,h⟩:=d8 h;have⟨_,x,d,h⟩:=d8 h;have⟨l,y,o,h⟩:=d8 h;have⟨_,z,e,h⟩:=d8 h;have q:=(fE _ _ _ _ _ m).1;have f:=iS _ _ _ _ _ n;have r:=(fE _ _ _ _ _ d).1;have g:=oH _ _ _ _ _ d;have c:=qb (Q:=BD) (wt:=λp=>1+p.fields.length) (N:=ws.length) (λi a j h=>JY H h) _ _ _ _ g o;have s:=(fE _ _ _ _ _ e).1;have k:=oH _ _ _ _ _ e;simp at h;obtain⟨rfl,rfl⟩:=h;rw[JX]at c;exact⟨⟨H.size _ _ f.2.1,Vw,Vw,by(simp;omega),c.1⟩,Vv,k⟩
theorem xC (H:uo ws){bs:List d9}(h:p9 ws= .ok (bs,j)):(∀b∈bs,pw b)/\bs.length<=2001:=by
 have c:=H.few;have:=qb (Q:=pw) (wt:=λ_=>1) (N:=ws.length) (λi a j h=>IU H h) _ _ _ _ (aP _) h;rw[BC]at this;grind
end
section
attribute [local go_sem] jS jT jU
def mO {t:au}{k:Nat}{x:W}(h:(fQ t)[k]?=some x):(k<(Ah t).length/\x∈Ah t)\/(k=(Ah t).length/\x=(⟨#[]⟩,t.size)):=by
 unfold fQ at h;by_cases hk:k<(Ah t).length;.rw[cy hk]at h;exact .inl ⟨hk,aL h⟩
 .rw[cj Vv]at h;by_cases he:k-(Ah t).length=0;.rw[he]at h;simp at h;exact .inr ⟨Vv,h.sy⟩
  .rw[bg Vx]at h;cases h
def sO (t:au):(fQ t).length=(Ah t).length+1:=by simp[fQ]
def GU (t:au):(Ah t).length<=t.size:=by have:=p7 t t.size 0;simpa [Ah]using this
def P8 (t:au):∀n k,k<=t.size->∀i,k<=i->i<jc mA t n k->mA (gh t i)=true
 |0,k,_,i,h1,h2=>by simp[jc]at h2;omega
 |n+1,k,hk,i,h1,h2=>by
  unfold jc at h2;by_cases hc:(decide (k<t.size)&&mA (gh t k))=true
  .rw[dR hc]at h2;have a:k<t.size/\mA (gh t k)=true:=by simpa using hc
   by_cases he:i=k;.subst he;exact a.2
   .exact P8 t n (k+1) a.1 i Vv h2
  .rw[dQ hc]at h2;omega
def Ds {t:au}{a e i:Nat}(h:a+i<e)(c:e<=t.size):gh (t.extract a e) i=gh t (a+i):=by
 have b:i<(t.extract a e).size:=by rw[bf];omega
 rw[<-jL b,<-jL (by omega:a+i<t.size)];congr 2;exact ByteArray.getElem_extract _
def SE {t:au}{a:Nat}(h:a<t.size)(c:mA (gh t a)=true):∀i,a<=i->i<ir t a->mA (gh t i)=true:=by
 intro i e b;have d:vS (gh t a)=false:=(by unfold mA at c;unfold vS;simp at c⊢;omega);by_cases he:i=a;.subst he;exact c
 .unfold ir at b;simp only[d,c,df,aU,if_false]at b;split at b;.exact P8 t t.size (a+1) h i Vv b
  .omega
def uq (t:au):∀n a,∀x∈ld t n a,∃c,c<t.size/\x=(t.extract c (ir t c),c)/\Do (gh t c)=false
 |0,a,x,h=>by simp[ld]at h
 |n+1,a,x,h=>by
  unfold ld at h;by_cases ha:a<t.size
  .rw[dR ha]at h;by_cases hg:Do (gh t a)=true;.rw[dR hg]at h;exact uq t n (a+1) x h
   .rw[dQ hg]at h;rcases aR.1 h with rfl|h;.exact⟨a,ha,rfl,by simpa using hg⟩
    .exact uq t n _ x h
  .rw[dQ ha]at h;simp at h
def rL (M:Nat):∀(l:ap) (acc:Nat),(∀c∈l,48<=c.toNat/\c.toNat<=57)->(∃u,Lib.parseUintM M acc l= .ok u)\/Lib.parseUintM M acc l= .range
 | [],acc,_=> .inl ⟨acc,rfl⟩
 |c::l,acc,h=>by
  have a:=h c Vw;unfold Lib.parseUintM;rw[dR a];split;.exact .inr rfl
  .split;.exact .inr rfl
   .exact rL M l _ (λc a=>h c (by simp[a]))
def Oi {s:au}{i:Nat}{c:UInt8}(h:s.data.toList[i]?=some c):gh s i=(c.toNat:Int):=by
 have a:i<s.size:=by
  by_cases a:i<s.data.toList.length;.simpa using a
  .rw[bg Vv]at h;cases h
 rw[<-jL a];have:s.data.toList[i]?=some s[i]:=(by rw[aO (by simpa using a)];rfl);rw[this]at h;rw[Option.some.inj h]
def Oj {c:Int}:mA c=true<->48<=c/\c<=57:=by simp[mA]
def JZ {s:au}(j:s.size<=2000)(k:0<s.size)(h:∀i,i<s.size->mA (gh s i)=true):lq s:=by
 refine⟨j,?_⟩
 have b:s.data.toList≠ []:=by
  intro e;have:s.data.toList.length=0:=by rw[e];rfl
  have f:s.data.toList.length=s.size:=Vw;omega
 unfold Lib.parseUintB;rw[dQ b];refine rL _ _ _ λc g=> ?_
 have⟨i,a⟩:=bX.1 g;have f:=Oi a
 have d:i<s.size:=by
  by_cases hi2:i<s.data.toList.length;.simpa using hi2
  .rw[bg Vv]at a;cases a
 have l:=Oj.1 (h i d);omega
def Dt {t:au}{x:W}(f:x∈Ah t)(a:mA (gh x.1 0)=true):∀i,i<x.1.size->mA (gh x.1 i)=true:=by
 obtain⟨c,b,rfl,_⟩:=uq t t.size 0 x f;have e:=pj t c b;intro i d;simp only at d a⊢;rw[bf]at d;rw[Ds Vv e.2]at a⊢;exact SE b (by simpa using a) (c+i) Vv Vv
def J8 {s:au}(h:dX s=2):mA (gh s 0)=true:=by
 unfold dX js at h;split at h;.omega
 .split at h;.assumption
  .split at h;.omega
   .split at h<;>omega
def qd (t:au)(c:t.size<=2000):uo (fQ t):=by
 refine⟨?_,?_,?_⟩;.rw[sO];have:=GU t;omega
 .intro k x a;rcases mO a with⟨_,h⟩|⟨_,rfl⟩;.have:=p6 t t.size 0 x h;omega
  .show(ByteArray.mk #[]).size<=2000;decide
 .intro k x a b;rcases mO a with⟨_,h⟩|⟨_,rfl⟩;.have:=p6 t t.size 0 x h;exact JZ Vv Vv (Dt h (J8 b))
  .have:dX (ByteArray.mk #[])=4:=rfl;rw[this]at b;omega
end
section
open Go.Maps
attribute [local go_sem] jS jT jU
def iU (t:ByteArray):Except (Int×Nat) (List d9):=
 if 2000<t.size then .error (2,0)
 else
  match p9 (fQ t)with
  | .error p=> .error (2,p)
  | .ok (bs,_)=>
   match fR (fL bs) [] 0 bs with
   | .error p=> .error (3,p)
   | .ok _=> .ok bs
def IV {w:World}{base rb:Nat}{t:ByteArray}{v:Value}(p:t.size<=2000)(i:w.ownsRow base 148 3 v (fQ t).length ((fQ t).flatMap xw))(f:dZ w rb #[v,.int .i64 0] 158)(m:∀b,v.ownBlock=some b->b≠rb):∃wb,Rd w rb wb (fQ t) 0:=by
 have hlen:=sO t;have q:=GU t;obtain⟨a,n,c,rfl⟩:=d7 i;have r:=fj i;subst r;obtain⟨g,rfl,z,u,o⟩:=eJ i Vv;have j:=o w rfl;have W:=qd t p;refine⟨g,Vv,Vv,λe=>m g rfl e.sy,⟨c,by simpa using f.cell 0⟩,by simpa using f.cell 1,f.I.2 1,λk x d=> ?_,λk x d s=> ?_,λk x d=> ?_⟩
 .have l:∀x,(xw x).length=3:=λ_=>rfl
  refine⟨?_,?_,?_⟩;.have:=j (k*3+0) _ ((gd xw 3 l _ k x d 0 Vv).J rfl);simpa using this
  .exact j (k*3+1) _ ((gd xw 3 l _ k x d 1 Vv).J rfl)
  .exact j (k*3+2) _ ((gd xw 3 l _ k x d 2 Vv).J rfl)
 .rcases mO d with⟨y,_⟩|⟨_,rfl⟩;.omega
  .exact absurd (show 0<(ByteArray.mk #[]).size from s) Vy
 .refine⟨W.size k x d,?_⟩;rcases mO d with⟨_,h⟩|⟨_,rfl⟩;.have:=p6 t t.size 0 x h;omega
  .exact p
def Ok (w:World)(r:Except (Int×Nat) (List d9))(e:Ending)(w':World):Prop:=
 (match r with
 | .error (k,p)=>e=d5 k p
 | .ok bs=>∃a n c cs,e= .returned (.agg #[.slice a n c])/\eP w' (λx=>w.heap.size<=x) 152 6 (.slice a n c) bs.length cs/\fx w' (λx=>w.heap.size<=x) cs bs)/\Below w.heap.size w w'
def U2 (w:World)(t:ByteArray)(X:t.size<=2^47)(W:GOK w):
  Calls prog 36 #[.string t] w (Ok w (iU t)):=by
 have⟨C,I⟩:=ec w #[.slice none 0 0] 87;generalize hr:iU t=r;have G:Hid (iU t=r):=hr;clear hr;by_cases hl:2000<t.size
 .have U:(2000:Int)<(t.size:Int):=Vv;obtain rfl:r= .error (2,0):=by rw[<-G.o,iU,dR hl]
  go_in
  go_wp2_with fail;refine(JQ _ _ _).V ?_;rintro e w2 ⟨rfl,rfl⟩;go_wp2;exact⟨rfl,rfl,C⟩
 .have x:t.size<=2000:=Vv;have U:decide ((2000:Int)<(t.size:Int))=false:=Vx
  have m:Hid ((match p9 (fQ t)with
   | .error p=> .error (2,p)
   | .ok (bs,_)=>
    match fR (fL bs) [] 0 bs with
    | .error p=> .error (3,p)
    | .ok _=> .ok bs)=r):=by
   have:=G.o;rw[iU,dQ hl]at this;exact this
  clear hl;go_in
  go_wp2_with fail;refine(UK t _ x).V ?_;rintro e w1 ⟨v,rfl,i,l⟩;obtain⟨y,B,z,rfl⟩:=d7 i;have D:Below w.heap.size w w1:=C.J (l.V Vw);have J:=I.G l I.lt;have E:=D.alloc D.size (Obj.cells #[.slice y B z,.int .i64 0] 158);have K:=J.alloc (Obj.cells #[.slice y B z,.int .i64 0] 158);have⟨c,a⟩:=IV (rb:=w1.heap.size) x (i.alloc (Obj.cells #[.slice y B z,.int .i64 0] 158)) (dZ.new w1 _ _) (λb d=>by have:=(i.lt b d).2;omega);have f:=J.lt;clear i l U;go_wp2_with fail;refine(UQ _ w1.heap.size c (fQ t) a).V ?_
  cases h3:p9 (fQ t)with
  |error p=>
   rintro e w3 ⟨rfl,j,A⟩;obtain rfl:r= .error (2,p):=by rw[<-m.o,h3]
   unfold d5;go_wp2;refine⟨rfl,rfl,E.J ⟨A.os,A.tape,A.output,A.size,λk f=> ?_⟩⟩
   rw[Below.block A k Vx,Dh,dY,dQ Vv]
  |ok q=>
   obtain⟨bs,j⟩:=q;rintro e w3 ⟨⟨a,n,c,cs,rfl,T,S⟩,g,A⟩
   have F:Below w.heap.size w w3:=E.J ⟨A.os,A.tape,A.output,A.size,λk f=>by
    rw[Below.block A k Vx,Dh,dY,dQ Vv]⟩
   have f:=K.adv_ A K.lt Vv;have h:w1.heap.size+1<=w3.heap.size:=by have:=A.size;simpa using this
   have O:=T.V (S':=λb=>w.heap.size<b) (λb d _=>by simp at d;omega);have P:=S.V (S':=λb=>w.heap.size<b) (λb d _=>by simp at d;omega);have N:=xC (qd t x) h3;have h:=F.alloc F.size (Obj.cells #[.slice a n c] 87);have L:=f.alloc (Obj.cells #[.slice a n c] 87);have H:=dZ.new w3 #[.slice a n c] 87;have Q:=O.O (w':=w3.Vn #[.slice a n c] 87) (λb _ d=>Below.l _ _ _ d);have R:=P.O (w':=w3.Vn #[.slice a n c] 87) (λb _ d=>Below.l _ _ _ d);have f:GOK (w3.Vn #[.slice a n c] 87):=W.O (h.block _ W.lt);clear T S g O P;go_wp2_with fail;refine(U1 _ a n c bs cs _ Q R N.2 N.1 f).V ?_
   cases h4:fR (fL bs) [] 0 bs with
   |error p=>
    rintro e g ⟨s,f⟩;obtain rfl:e=d5 3 p:=s;obtain rfl:r= .error (3,p):=by rw[<-m.o,h3];simp only[h4]
    unfold d5;go_wp2
    exact⟨rfl,rfl,h.J (f.V h.size)⟩
   |ok u=>
    rintro e g ⟨s,f⟩;obtain rfl:e= .returned (.tuple #[]):=s;obtain rfl:r= .ok bs:=by rw[<-m.o,h3];simp only[h4]
    have V:=h.J (f.V h.size);have M:=L.G f L.lt;have Z:=H.G f H.lt;have h:=Q.O (w':=g) (λb _ d=>f.block b d);have i:=R.O (w':=g) (λb _ d=>f.block b d);have⟨e,f⟩:=M.I;have⟨e,f⟩:=Z.I;go_wp2;have e:=M.sets_all [.slice a n c] rfl;have Y:Below w.heap.size w (g.setCells w.heap.size 0 [.slice a n c]):=V.J ((Below.refl w.heap.size g).setCell (p:=⟨w.heap.size,0,none⟩) (aE _) (.slice a n c));refine dU (ew results36 _ _ rfl e underlying87 VA) rfl ⟨⟨a,n,c,cs,rfl,?_,?_⟩,Y⟩;.have o:=h.O (w':=g.setCells w.heap.size 0 [.slice a n c]) (λb d _=>ji _ _ (by have:w.heap.size<b:=d;omega) _ _);exact o.V (λb d _=>by have:w.heap.size<b:=d;omega)
    .have o:=i.O (w':=g.setCells w.heap.size 0 [.slice a n c]) (λb d _=>ji _ _ (by have:w.heap.size<b:=d;omega) _ _);exact o.V (λb d _=>by have:w.heap.size<b:=d;omega)
def el (bs:List d9):List ByteArray:=(bs.filter λb=> !b.enum).map λb=>b.name.1
def U3 (w:World)(ta:Option Addr)(tn tc:Nat)(bs:List d9)(cs:List Value)(S:Nat->Prop)(E:eP w S 152 6 (.slice ta tn tc) bs.length cs)(W:fx w S cs bs)(hlen:bs.length<=2001)(q:∀b∈bs,pw b):
  Calls prog 66 #[.agg #[.slice ta tn tc]] w λe w'=>∃v,e= .returned v/\w'.ownsRow w.heap.size 9 1 v (el bs).length (fU (el bs))/\Below w.heap.size w w':=by
 have X:=fj E.1;subst X;have⟨M,Z,j,u,H⟩:=info_parts Tryz.info9;have C:=(Vs w).alloc (aE _) (Obj.cells #[.slice ta bs.length tc] 87);go_in
 go_wp2;go_loopw [3,9] (λv i wr=>∃(k:Nat) (l:List ByteArray),k<=bs.length/\i= .int .i64 k/\l.length<=k/\Hid (l++el (bs.drop k)=el bs)/\wr.ownsRow w.heap.size 9 1 v l.length (fU l)/\Below w.heap.size w wr) (λ_ i _=>bs.length-(intOf i).toNat)
 case atStart=>exact⟨0,[],aP _,rfl,aE _,by simp[Hid],br _ _ _ _,C⟩
 case round=>
  clear C;obtain⟨k,l,c,rfl,a,p,I,m⟩:=hrel;by_cases hlt:k<bs.length
  .have⟨b,f⟩:=gx hlt;have Y:=q b (aL f);have n:bs.drop k=b::bs.drop (k+1):=(by rw[be hlt];rw[aO hlt]at f;rw[Option.some.inj f]);obtain⟨g,rfl,_,T,F⟩:=eJ E.1 Vv;have⟨s,x,t,z,B,A,r,N,O,P,Q,R,d⟩:=W.get f;have a:=F wr (m.block g T);rw[Nat.add_zero]at r;have y:=a _ _ r;have g:=a _ _ N;have i:=a _ _ O;have q:=a _ _ P;have C:=a _ _ Q;have E:=a _ _ R;have D:=dZ.new wr #[.bool b.enum,.int .i64 (dX b.name.1),.string b.name.1,.int .i64 b.name.2,.slice s x t,.slice z B A] 152;have c:=m.alloc m.size (Obj.cells #[.bool b.enum,.int .i64 (dX b.name.1),.string b.name.1,.int .i64 b.name.2,.slice s x t,.slice z B A] 152);have o:=I.alloc (Obj.cells #[.bool b.enum,.int .i64 (dX b.name.1),.string b.name.1,.int .i64 b.name.2,.slice s x t,.slice z B A] 152);clear F a r N O P Q R f d;cases hen:b.enum
   .rw[hen]at y D c o;have d:Hid ((l++ [b.name.1])++el (bs.drop (k+1))=el bs):=(by have:=p.o;rw[n]at this;simpa [el,hen,Hid]using this);clear n;go_wp2_with fail;refine(UU _ _ Y.name).V ?_;rintro e a ⟨rfl,J⟩;have h:=c.J (J.V c.size);have G:=eZ J o;clear y g i q C E;go_wp2_with (first|(at_builtin;refine wpList_append_own_at _ rfl _ _ 30 rfl w.heap.size 9 M _ 1 16 underlying30 Z j u H rfl Vy u3 _ _ rfl (G.alloc _) _ 1 1 [_] rfl rfl (cell_one_new _ _ _) ?h1 ?h63 ?hby ?hba ?_;rotate_right;intro v' a U V L K))
    case h1=>intro u M;simp at M;subst M;rfl
    case h63=>unfold maxLen;omega
    case hby=>omega
    case hba=>have:=h.size;simp;omega
    refine⟨⟨k+1,l++ [b.name.1],Vv,by go_num,Vx,d,?_,?_⟩,by simp[intOf];omega⟩;.simpa [fU]using U
    .exact(h.alloc h.size _).grown V (by have:=h.size;simp;omega) (λj a=>(G.lt j a).1)
   .rw[hen]at y D c o;have d:Hid (l++el (bs.drop (k+1))=el bs):=(by have:=p.o;rw[n]at this;simpa [el,hen,Hid]using this);clear n;go_wp2;go_roundw
    case rel=>exact⟨k+1,l,Vv,by go_num,Vv,d,o,c⟩
    case measure=>simp[intOf];omega
  .have H:bs.drop k= []:=by rw[cU];omega
   have d:Hid (l=el bs):=(by have:=p.o;rw[H]at this;simpa [el,Hid]using this);clear H;go_wp2;go_ret;refine⟨_,rfl,?_,m⟩;rw[<-d.o];exact I
end
section
variable {stop:Nat->Bool} {ws:List W} {form:Int} {i j:Nat} {f:eW} {p:fK}
structure ur (f:eW):Prop where
 size:f.type.1.size<=2000
 kind:dX f.type.1=3\/dX f.type.1=1
 key:f.form=4<->f.key.isSome=true
def ut (p:fK):Prop:=
 (∀f∈p.fields,ur f)/\((∃o,p.oneof=some o/\dX o.1=1/\∀f∈p.fields,f.form=3)\/(p.oneof=none/\∃f,p.fields= [f]/\(f.form=0\/f.form=1\/f.form=2\/f.form=4)))
def BE (b:d9):Prop:=∀p∈b.parts,ut p
theorem oJ {α:Type}{p:Nat->oF α}{Q:α->Prop}(d:∀i a j,p i= .ok (a,j)->Q a):∀(n i:Nat) (l:List α) (j:Nat),gJ stop p n i= .ok (l,j)->∀a∈l,Q a
 |0,i,l,j,h=>by
  simp[gJ]at h
  simp_all
 |n+1,i,l,j,h=>by
  unfold gJ at h;split at h;.simp_all
  .have⟨a,k,f,h⟩:=d8 h;have⟨r,e,c,h⟩:=d8 h;simp at h;obtain⟨rfl,_⟩:=h;intro x b;rcases aR.1 b with rfl|b;.grind
   .exact oJ d n k r e c x b
theorem lu (H:uo ws)(e:form≠4)(h:fZ ws form i= .ok (f,j)):ur f/\f.form=form:=by
 unfold fZ at h;have⟨t,g,a,h⟩:=d8 h;have⟨nm,k,d,h⟩:=d8 h;simp at h;obtain⟨rfl,_⟩:=h;have⟨_,b,c⟩:=lY _ _ _ _ a;exact⟨⟨H.size _ _ b,c,by grind⟩,rfl⟩
theorem Fl (H:uo ws)(h:nP ws i= .ok (f,j)):ur f/\f.form=4:=by
 unfold nP at h;have⟨_,d,_,h⟩:=d8 h;have⟨_,e,_,h⟩:=d8 h;have⟨k,g,_,h⟩:=d8 h;have⟨_,l,_,h⟩:=d8 h;have⟨t,m,c,h⟩:=d8 h;have⟨_,n,_,h⟩:=d8 h;have⟨nm,o,_,h⟩:=d8 h;simp at h;obtain⟨rfl,_⟩:=h;have⟨_,a,b⟩:=lY _ _ _ _ c;exact⟨⟨H.size _ _ a,b,Vw⟩,rfl⟩
theorem BF (H:uo ws)(h:jh ws i= .ok (p,j)):ut p:=by
 unfold jh at h;have⟨_,t,_,h⟩:=d8 h;have⟨o,u,e,h⟩:=d8 h;have⟨_,v,_,h⟩:=d8 h;have⟨f,w,g,h⟩:=d8 h;have⟨l,y,k,h⟩:=d8 h;have⟨_,z,_,h⟩:=d8 h;have⟨q,A,m,d⟩:=d8 k;simp at h;obtain⟨rfl,_⟩:=h;simp at d;obtain⟨rfl,_⟩:=d;have r:=lu H Vy g;have s:=oJ (Q:=λf=>ur f/\f.form=3) (λi a j h=>lu H Vy h) _ _ _ _ m;have n:=(iS _ _ _ _ _ e).2.2;have b:∀x∈f::q,ur x/\x.form=3:=(by simp_all);exact⟨λx c=>(b x c).1,.inl ⟨o,rfl,n,λx c=>(b x c).2⟩⟩
theorem mP {r:oF eW}(b:∀f j,r= .ok (f,j)->ur f/\(f.form=0\/f.form=1\/f.form=2\/f.form=4))(h:mB r= .ok (p,j)):ut p:=by
 have⟨f,c,a,h⟩:=d8 h;simp at h;obtain⟨rfl,_⟩:=h;have:=b _ _ a;exact⟨by simp_all,.inr ⟨rfl,f,rfl,this.2⟩⟩
theorem Du (H:uo ws)(h:kB ws i= .ok (p,j)):ut p:=by
 unfold kB at h;split at h;.exact BF H h
 .split at h;.exact mP (λf j a=>by have:=Fl H a;simp_all) h
  .split at h;.exact mP (λf j a=>by have:=lu H Vy a;simp_all) h
   .split at h;.exact mP (λf j a=>by have:=lu H Vy a;simp_all) h
    .exact mP (λf j a=>by have:=lu H Vy a;simp_all) h
theorem Dv (H:uo ws){bs:List d9}(h:p9 ws= .ok (bs,j)):∀b∈bs,BE b:=by
 refine oJ (Q:=BE) (λi b j a=> ?_) _ _ _ _ h;unfold jV at a;split at a;.unfold lX at a;have⟨_,e,_,a⟩:=d8 a;have⟨n,f,_,a⟩:=d8 a;have⟨_,g,_,a⟩:=d8 a;have⟨l,k,_,a⟩:=d8 a;have⟨_,m,_,a⟩:=d8 a;simp at a;obtain⟨rfl,_⟩:=a;intro p c;simp at c
 .unfold ij at a;have⟨_,e,_,a⟩:=d8 a;have⟨n,f,_,a⟩:=d8 a;have⟨_,g,_,a⟩:=d8 a;have⟨l,k,d,a⟩:=d8 a;have⟨_,m,_,a⟩:=d8 a;simp at a;obtain⟨rfl,_⟩:=a;exact oJ (Q:=ut) (λi p j c=>Du H c) _ _ _ _ d
end
end Go.Proofs.YtfebdimolnobaaaGreatDoor
namespace Go.Proofs
open Go.Shelf
theorem Tryz.bShelfSrt {f:FuncId}{B:Func}(h:((prog.funcs[f]?).elim "" Func.name== "runtime.NumGoroutine")=false)(k:prog.funcs[f]?=some {B with name:=(prog.funcs[f]?).elim "" Func.name}):Bears prog f B:=⟨_,h,k⟩
def Tryz.sortF_ren:Go.Shelf.Ren:=⟨fun|6=>112|15=>169|14=>168|28=>254|29=>255|20=>246|21=>247|22=>248|23=>249|24=>250|25=>251|26=>252|27=>253|46=>331|47=>332|48=>333|49=>334|50=>335|57=>400|n=>n,fun|22=>106|24=>212|25=>222|3=>3|39=>295|0=>0|53=>164|55=>53|4=>4|46=>367|45=>366|50=>331|5=>5|9=>9|66=>428|70=>431|76=>468|77=>469|n=>n,fun|n=>n⟩
theorem Tryz.sortF:Go.Proofs.SlLaysF.n6 Tryz.prog Tryz.sortF_ren:=by constructor<;>first|kernel_rfl|(intro w;kernel_rfl)|(apply Tryz.bShelfSrt<;>kernel_rfl)
end Go.Proofs
namespace Go.Proofs.YtfebdimolnobaaaGreatDoor
open Go.RowKit Go.Proofs.Tryz
section
open Go.Maps Go.Sort
open VH
def QM (a b:Nat)(x y:Int)(w:aw)(f:w.cell? (aj a 0)=some (aa x))(g:w.cell? (aj b 0)=some (aa y)):
  Calls prog 113 #[ah a,ah b] w λe w'=>e= .returned (aa (lG x y))/\∃q,w'=w.drewN q:=by
 have d:=qS x y;generalize lG x y=c at d⊢;have h:w.drew.cell? (aj a 0)=some (aa x):=f;have i:w.drew.cell? (aj b 0)=some (aa y):=g;go_in
 go_wp2;go_region_with (first|(go_at_call 114;refine(d _).V ?_;rintro e w' ⟨rfl,rfl⟩))
 all_goals
  go_wp2;go_ret;exact⟨rfl,1,rfl⟩
end
section
open Go.Maps
open VH
section
variable {f:eW} {p:fK} {w' w:aw} {P:ax} {mp:an} {tb:Int} {tv:Value}
def RS (f:eW)(p:fK)(fa:aC)(fc c9 pb:Nat)(w':aw):Prop:=w'.cell? (aj c9 0)=some (aa f.form)/\w'.cell? (aj c9 1)=some (aa (mX f.key))/\w'.cell? (aj c9 2)=some (ag (jM f.key))/\w'.cell? (aj c9 3)=some (aa (nU f.key))/\w'.cell? (aj c9 4)=some (aa (dX f.type.1))/\w'.cell? (aj c9 5)=some (ag f.type.1)/\w'.cell? (aj c9 6)=some (aa f.type.2)/\w'.cell? (aj c9 7)=some (aa (dX f.name.1))/\w'.cell? (aj c9 8)=some (ag f.name.1)/\w'.cell? (aj c9 9)=some (aa f.name.2)/\w'.cell? (aj c9 10)=some (aa (dX f.num.1))/\w'.cell? (aj c9 11)=some (ag f.num.1)/\w'.cell? (aj c9 12)=some (aa f.num.2)/\w'.cell? (aj pb 0)=some (aa (mX p.oneof))/\w'.cell? (aj pb 1)=some (ag (jM p.oneof))/\w'.cell? (aj pb 2)=some (aa (nU p.oneof))/\w'.cell? (aj pb 3)=some (.slice fa p.fields.length fc)
theorem RS.of {fa:aC}{fc c9 pb:Nat}(h:dZ w' c9 (FC f) 211)(k:dZ w' pb #[aa (mX p.oneof),ag (jM p.oneof),aa (nU p.oneof),.slice fa p.fields.length fc] 208):RS f p fa fc c9 pb w':=
 ⟨h.cell 0,h.cell 1,h.cell 2,h.cell 3,h.cell 4,h.cell 5,h.cell 6,h.cell 7,h.cell 8,h.cell 9,h.cell 10,h.cell 11,h.cell 12,k.cell 0,k.cell 1,k.cell 2,k.cell 3⟩
def rJ (w':aw)(P:ax)(mp:an)(f:eW)(tb:Int)(tv:Value):Prop:=
 if f.form=4 then tb=16/\∃eb,tv=ii (some eb)/\mM w' P mp (jM f.key) f.type.1 eb else tb=jC mp f.type.1/\tv=ii (zJ mp f.type.1)
theorem rJ.O (i:∀b,P b->b<w.heap.size->w'.heap[b]?=w.heap[b]?)(h:rJ w P mp f tb tv):rJ w' P mp f tb tv:=by
 unfold rJ at h⊢;split at h;.rename_i a;rw[dR a];obtain⟨d,c,e,g⟩:=h;exact⟨d,c,e,g.O i⟩
 .rename_i a;rw[dQ a];exact h
theorem rJ.V {Q:ax}(i:∀b,P b->b<w.heap.size->Q b)(h:rJ w P mp f tb tv):rJ w Q mp f tb tv:=by
 unfold rJ at h⊢;split at h;.rename_i a;rw[dR a];obtain⟨d,c,e,g⟩:=h;exact⟨d,c,e,g.V i⟩
 .rename_i a;rw[dQ a];exact h
theorem BI (w:aw)(b n:Nat)(mp:an)(f:eW)(i:Fo f)(H:gr w b n mp)(h:BOK w):
  Vq 110 #[.map (some b),.agg (FC f)] w λe w'=>∃tb tv,e= .returned (.agg #[aa tb,tv])/\rJ w' (λb=>w.heap.size<=b) mp f tb tv/\ak w w':=by
 refine(DD w b n mp f i H h).V ?_;rintro e w' ⟨a,c⟩;unfold Kj at a;by_cases h0:f.form=4;.rw[dR h0]at a;obtain⟨d,rfl,g⟩:=a;exact⟨16,_,rfl,by unfold rJ;rw[dR h0];exact⟨rfl,d,rfl,g⟩,c⟩
 .rw[dQ h0]at a;exact⟨_,_,a,by unfold rJ;rw[dQ h0];exact⟨rfl,rfl⟩,c⟩
theorem Kl {fb:Nat}{rv:Value}(c:dZ w fb #[aa (jE f),aa f.form,aa tb,tv,rv] 220)(d:P fb)
  (e:eP w P 3 1 rv (qf p f).length (gE (qf p f))) (b:rJ w P mp f tb tv):fi w P mp (sP p f) fb:=by
 unfold rJ at b;unfold fi;show if f.form=4 then _ else _;split at b;.rename_i a;rw[dR a];obtain⟨rfl,g,rfl,h⟩:=b;rw[a]at c;exact⟨rv,g,c,d,e,h⟩
 .rename_i a;rw[dQ a];obtain⟨rfl,rfl⟩:=b;exact⟨rv,c,d,e⟩
end
end
section
open Go.Lib
def th (s:au)(k:Nat):gh s k=((s.data.toList.getD k 0).toNat:Int):=by
 have a:s.data.size=s.size:=rfl;unfold gh;by_cases h:k<s.size;.rw[dif_pos h,cr,bS,bU (show k<s.data.size from h)];rfl
 .rw[dif_neg h,cr,bS,cL Vv];rfl
def sj (n:Nat)(b0 b1 b2 b3:Int):Option Nat:=
 if 240<=b0 then
  (if n<4 then none else if b1<128\/191<b1 then none else if b2<128\/191<b2 then none else if b3<128\/191<b3 then none else
   if 64*(64*(64*(b0-240)+b1-128)+b2-128)+b3-128<65536\/1114111<64*(64*(64*(b0-240)+b1-128)+b2-128)+b3-128\/(55296<=64*(64*(64*(b0-240)+b1-128)+b2-128)+b3-128/\64*(64*(64*(b0-240)+b1-128)+b2-128)+b3-128<=57343)then none else some 4)
 else if 224<=b0 then
  (if n<3 then none else if b1<128\/191<b1 then none else if b2<128\/191<b2 then none else
   if 64*(64*(b0-224)+b1-128)+b2-128<2048\/1114111<64*(64*(b0-224)+b1-128)+b2-128\/(55296<=64*(64*(b0-224)+b1-128)+b2-128/\64*(64*(b0-224)+b1-128)+b2-128<=57343)then none else some 3)
 else if 192<=b0 then
  (if n<2 then none else if b1<128\/191<b1 then none else
   if 64*(b0-192)+b1-128<128\/1114111<64*(b0-192)+b1-128\/(55296<=64*(b0-192)+b1-128/\64*(b0-192)+b1-128<=57343)then none else some 2)
 else if 128<=b0 then none
 else(if n<1 then none else if b0<0\/1114111<b0\/(55296<=b0/\b0<=57343)then none else some 1)
def SI (s:au):TM s=sj s.size (gh s 0) (gh s 1) (gh s 2) (gh s 3):=by
 unfold TM sj SF;by_cases h1:240<=gh s 0
 .rw[dR h1,dR h1];by_cases h2:s.size<4;.rw[dR h2,dR h2]
  .rw[dQ h2,dQ h2];show(match J9 s 3 1 (gh s 0-240)with|none=>none|some c=>_)=_;unfold J9;by_cases g1:gh s 1<128\/191<gh s 1;.rw[dR g1,dR g1]
   .rw[dQ g1,dQ g1];unfold J9;by_cases g2:gh s 2<128\/191<gh s 2;.rw[dR g2,dR g2]
    .rw[dQ g2,dQ g2];unfold J9;by_cases g3:gh s 3<128\/191<gh s 3;.rw[dR g3,dR g3]
     .rw[dQ g3,dQ g3];rfl
 .rw[dQ h1,dQ h1];by_cases h3:224<=gh s 0
  .rw[dR h3,dR h3];by_cases h2:s.size<3;.rw[dR h2,dR h2]
   .rw[dQ h2,dQ h2];show(match J9 s 2 1 (gh s 0-224)with|none=>none|some c=>_)=_;unfold J9;by_cases g1:gh s 1<128\/191<gh s 1;.rw[dR g1,dR g1]
    .rw[dQ g1,dQ g1];unfold J9;by_cases g2:gh s 2<128\/191<gh s 2;.rw[dR g2,dR g2]
     .rw[dQ g2,dQ g2];rfl
  .rw[dQ h3,dQ h3];by_cases h4:192<=gh s 0
   .rw[dR h4,dR h4];by_cases h2:s.size<2;.rw[dR h2,dR h2]
    .rw[dQ h2,dQ h2];show(match J9 s 1 1 (gh s 0-192)with|none=>none|some c=>_)=_;unfold J9;by_cases g1:gh s 1<128\/191<gh s 1;.rw[dR g1,dR g1]
     .rw[dQ g1,dQ g1];rfl
   .rw[dQ h4,dQ h4];rfl
def xM {n b0 b1 b2 b3:Nat}(a:decodeN n b0 b1 b2 b3=(65533,1))(b:sj n b0 b1 b2 b3=none):
  sj n b0 b1 b2 b3=if(decodeN n b0 b1 b2 b3).1=65533/\(decodeN n b0 b1 b2 b3).2=1 then none else some (decodeN n b0 b1 b2 b3).2:=by grind
def Hf {n b0 b1 b2 b3 c k:Nat}(b:decodeN n b0 b1 b2 b3=(c,k))(d:sj n b0 b1 b2 b3=some k)(a:¬(c=65533/\k=1)):
  sj n b0 b1 b2 b3=if(decodeN n b0 b1 b2 b3).1=65533/\(decodeN n b0 b1 b2 b3).2=1 then none else some (decodeN n b0 b1 b2 b3).2:=by
 rw[d,b,dQ a]
def KX (n b0 b1 b2 b3:Nat)(r:0<n)(j:b0<256)(h1:b1<256)(m:b2<256)(p:b3<256):
  sj n b0 b1 b2 b3=if(decodeN n b0 b1 b2 b3).1=65533/\(decodeN n b0 b1 b2 b3).2=1 then none else some (decodeN n b0 b1 b2 b3).2:=by
 by_cases c0:b0<128
 .refine Hf (c:=b0) (k:=1) ?_ ?_ Vv;.unfold decodeN;rw[dR c0]
  .unfold sj;rw[dQ Vv,dQ Vv,dQ Vv,dQ Vv,dQ Vv,dQ Vv]
 .by_cases c1:b0<192
  .refine xM ?_ ?_;.unfold decodeN;rw[dQ c0,dQ (λq=>Vv),dQ (λq=>Vv),dQ (λq=>Vv)]
   .unfold sj;rw[dQ Vv,dQ Vv,dQ Vv,dR Vv]
  .by_cases c2:b0<224
   .have a:b0/32=6:=Vv
    have b:sj n b0 b1 b2 b3=if n<2 then none else if(b1:Int)<128\/191<(b1:Int)then none else
      if 64*((b0:Int)-192)+b1-128<128\/1114111<64*((b0:Int)-192)+b1-128\/(55296<=64*((b0:Int)-192)+b1-128/\64*((b0:Int)-192)+b1-128<=57343)then none else some 2:=by
     unfold sj;rw[dQ Vv,dQ Vv,dR Vv]
    by_cases g:1<n/\b1/64=2
    .by_cases q:b0%32*64+b1%64>=128
     .refine Hf (c:=b0%32*64+b1%64) (k:=2) ?_ ?_ Vv;.unfold decodeN;rw[dQ c0,dR ⟨a,g⟩,dR q]
      grind
     .refine xM ?_ ?_;.unfold decodeN;rw[dQ c0,dR ⟨a,g⟩,dQ q]
      grind
    .refine xM ?_ ?_;.unfold decodeN;rw[dQ c0,dQ (λq=>g q.2),dQ (λq=>Vv),dQ (λq=>Vv)]
     grind
   .by_cases c3:b0<240
    .have a:b0/16=14:=Vv
     have b:sj n b0 b1 b2 b3=if n<3 then none else if(b1:Int)<128\/191<(b1:Int)then none else if(b2:Int)<128\/191<(b2:Int)then none else
       if 64*(64*((b0:Int)-224)+b1-128)+b2-128<2048\/1114111<64*(64*((b0:Int)-224)+b1-128)+b2-128\/(55296<=64*(64*((b0:Int)-224)+b1-128)+b2-128/\64*(64*((b0:Int)-224)+b1-128)+b2-128<=57343)then none else some 3:=by
      unfold sj;rw[dQ Vv,dR Vv]
     by_cases g:(1<n/\b1/64=2)/\(2<n/\b2/64=2);.obtain⟨⟨d,e⟩,f,h⟩:=g;have i:decodeN n b0 b1 b2 b3=if b0%16*4096+b1%64*64+b2%64>=2048/\(b0%16*4096+b1%64*64+b2%64<55296\/(57344<=b0%16*4096+b1%64*64+b2%64/\b0%16*4096+b1%64*64+b2%64<=1114111))then(b0%16*4096+b1%64*64+b2%64,3)else(65533,1):=(by unfold decodeN;rw[dQ c0,dQ (λq=>Vv),dR ⟨a,⟨d,e⟩,f,h⟩]);grind
     .refine xM ?_ ?_;.unfold decodeN;rw[dQ c0,dQ (λq=>Vv),dQ (λq=>g q.2),dQ (λq=>Vv)]
      grind
    .have b:sj n b0 b1 b2 b3=if n<4 then none else if(b1:Int)<128\/191<(b1:Int)then none else if(b2:Int)<128\/191<(b2:Int)then none else if(b3:Int)<128\/191<(b3:Int)then none else
       if 64*(64*(64*((b0:Int)-240)+b1-128)+b2-128)+b3-128<65536\/1114111<64*(64*(64*((b0:Int)-240)+b1-128)+b2-128)+b3-128\/(55296<=64*(64*(64*((b0:Int)-240)+b1-128)+b2-128)+b3-128/\64*(64*(64*((b0:Int)-240)+b1-128)+b2-128)+b3-128<=57343)then none else some 4:=by
      unfold sj;rw[dR Vv]
     by_cases g:b0/8=30/\(1<n/\b1/64=2)/\(2<n/\b2/64=2)/\(3<n/\b3/64=2);.have i:decodeN n b0 b1 b2 b3=if b0%8*262144+b1%64*4096+b2%64*64+b3%64>=65536/\(b0%8*262144+b1%64*4096+b2%64*64+b3%64<55296\/(57344<=b0%8*262144+b1%64*4096+b2%64*64+b3%64/\b0%8*262144+b1%64*4096+b2%64*64+b3%64<=1114111))then(b0%8*262144+b1%64*4096+b2%64*64+b3%64,4)else(65533,1):=(by unfold decodeN;rw[dQ c0,dQ (λq=>Vv),dQ (λq=>Vv),dR g]);grind
     .refine xM ?_ ?_;.unfold decodeN;rw[dQ c0,dQ (λq=>Vv),dQ (λq=>Vv),dQ g]
      .rw[b];by_cases q:n<4;.rw[dR q]
       .rw[dQ q];by_cases q1:(b1:Int)<128\/191<(b1:Int);.rw[dR q1]
        .rw[dQ q1];by_cases q2:(b2:Int)<128\/191<(b2:Int);.rw[dR q2]
         .rw[dQ q2];by_cases q3:(b3:Int)<128\/191<(b3:Int);.rw[dR q3]
          .rw[dQ q3,dR Vv]
def Aw:∀(f:Nat) (s:au),s.size<=f->SG f s=validD s.data.toList
 |0,s,h=>by
  have e:s.data.toList= []:=bF (by rw[Array.length_toList];exact Nat.le_zero.1 h);rw[e]
  rfl
 |f+1,s,h=>by
  unfold SG;by_cases h0:s.size=0;.rw[dR h0];have e:s.data.toList= []:=bF (by rw[Array.length_toList];exact h0);rw[e];rfl
  .rw[dQ h0];have a:s.data.toList.length=s.size:=VB;have b:s.data.toList≠ []:=λe=>by grind
   rw[validD_step _ b,SI,th,th,th,th,decodeL_N,a];rw[KX s.size _ _ _ _ Vv (UInt8.toNat_lt _) (UInt8.toNat_lt _) (UInt8.toNat_lt _) (UInt8.toNat_lt _)];have c:=decodeL_width s.data.toList;rw[decodeL_N,a]at c;generalize decodeN s.size (s.data.toList.getD 0 0).toNat (s.data.toList.getD 1 0).toNat (s.data.toList.getD 2 0).toNat (s.data.toList.getD 3 0).toNat=D at*;by_cases hD:D.1=65533/\D.2=1;.rw[dR hD,dR hD]
   .rw[dQ hD,dQ hD];show SG f (s.extract D.2 s.size)=_;rw[Aw f _ (by rw[bf];omega)];congr 1;rw[cM,Array.toList_extract];simp[List.extract];rw[ch (by grind)]
def uA (s:au):Tw s=validD s.data.toList:=Aw s.size s (aE _)
end
structure fP (w:aw)(S:ax)(w':aw)(S':ax):Prop where
 os:w'.os=w.os
 tape:w'.tape=w.tape
 output:w'.output=w.output
 size:w.heap.size<=w'.heap.size
 block:∀b,b<w.heap.size->¬S b->w'.heap[b]?=w.heap[b]?
 grow:∀b,S' b->S b\/w.heap.size<=b
def fP.refl (w:aw)(S:ax):fP w S w S:=⟨rfl,rfl,rfl,aE _,λ_ _ _=>rfl,λ_ h=> .inl h⟩
def fP.J {a b c:aw}{S T U:ax}(h:fP a S b T)(k:fP b T c U):fP a S c U:=
 ⟨k.os.J h.os,k.tape.J h.tape,k.output.J h.output,aM h.size k.size,
  λi d e=>(k.block i (aI d h.size) (λf=>(h.grow i f).elim e (λx=>Vv))).J (h.block i d e),
  λi d=>(k.grow i d).elim (λx=>h.grow i x) (λx=> .inr (aM h.size x))⟩
def fP.G {a b c:aw}{S T:ax}(h:fP a S b T)(k:Below b.heap.size b c):fP a S c T:=
 h.J ⟨k.os,k.tape,k.output,k.size,λi d _=>k.block i d,λ_ x=> .inl x⟩
def fP.alloc {a b:aw}{S T:ax}(h:fP a S b T)(o:Obj):fP a S (b.alloc o) T:=h.G ((Below.refl _ _).alloc (aE _) o)
def fP.drew {a b:aw}{S T:ax}(h:fP a S b T):fP a S b.drew T:=h.G (Below.refl _ _).drew
def dZ.step {w w1:aw}{S T:ax}{b:Nat}{cs:aq}{ty:TypeId}(h:dZ w b cs ty)(a:fP w S w1 T)(c:¬S b):dZ w1 b cs ty:=(a.block b h.lt c).J h
def fP.not {w w1:aw}{S T:ax}{b:Nat}(a:fP w S w1 T)(d:b<w.heap.size)(c:¬S b):¬T b:=λx=>(a.grow b x).elim c (λy=>Vv)
def kU {w:aw}{lo:Nat}{T:TypeId}{k n:Nat}{v:Value}{xs:ay}(h:w.ownsRow lo T k v n xs){b:Nat}(a:v.ownBlock=some b):∃cs,dZ w b cs T:=by
 rcases h.2 with⟨rfl,_⟩|⟨g,d,c,rfl,_,e,_⟩;.cases a
 .simp[Value.ownBlock]at a;subst a;exact⟨c,e⟩
end Go.Proofs.YtfebdimolnobaaaGreatDoor
