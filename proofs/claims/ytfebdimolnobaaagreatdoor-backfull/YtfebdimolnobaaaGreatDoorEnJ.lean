import Derived.Test.YtfebdimolnobaaaGreatDoorPlK
import Derived.Test.YtfebdimolnobaaaGreatDoorKpA
set_option maxRecDepth 100000
set_option maxHeartbeats 8000000
set_option linter.all false
namespace Go.Proofs.YtfebdimolnobaaaGreatDoor
open Go.RowKit Go.Proofs.Tryz
section
open VH
def qF (S:eF)(R:MT->PM->Bool)(d:MT)(ahead:List PF)(x:PF):Bool:=
 match ed d.fs x.1 with
 |none=>false
 |some f=>kx (lx d f) x.1 ahead&&fG S R f x.2
def yM {S:eF}{R:MT->PM->Bool}{d:MT}{fs:List PF}{i:Nat}{x:PF}(a:fs[i]?=some x):
  gX S R d (fs.take i) (fs.drop i)=(qF S R d (fs.take i) x&&gX S R d (fs.take (i+1)) (fs.drop (i+1))):=by
 have b:i<fs.length:=(bn.1 a).1;have e:fs[i]=x:=(bn.1 a).2;rw[be b,e,gX,bT,a];rfl
section
variable {mp:an}
def Ro (w:aw)(P:ax)(mb pb:Nat)(nm:au)(gs:List GF)(num kind:Int)(h:jk w P mp mb nm gs)(m:gs.Pairwise (λx y=>x.f.num<=y.f.num))(c:gs.length<=2001)(i:dZ w pb #[ah mb] 105):
  Vq 161 #[.agg #[aa num,aa kind],ah pb] w λe w'=>e= .returned (.bool (tf mp gs num kind).isSome)/\ak w w':=by
 have⟨a,k⟩:=ec w #[aa num,aa kind] 237;have l:=i.G a i.lt;have j:=Av _ P mp mb nm gs num kind (h.O (λb _ c=>a.block b c)) m c;have⟨o,p⟩:=k.I;have⟨q,s⟩:=l.I;generalize tf mp gs num kind=r at*;go_enter func161,ntmps161;go_wp2_with fail;refine j.V ?_;rintro e w2 ⟨f,d⟩
 cases r with
 |none=>
  obtain rfl:e= .returned (.pointer none):=f;go_wp2;go_ret
  exact⟨rfl,dW a d⟩
 |some g=>
  obtain⟨n,rfl,_⟩:=f;go_wp2;go_ret;exact⟨rfl,dW a d⟩
end
def Pg {S:eF}{mp:an}{B:Nat}:∀n,Rf S mp B n:=by
 intro n
 induction n with
 |zero=>
  intro w Z v m d s f nm deep k p g o L b h;obtain⟨a,c,rfl⟩:=L.form;obtain rfl:deep=9:=Vv;have⟨P,E,A⟩:=gN w #[ah s] #[.slice a m.fs.length c,ag m.unk] 105 49;go_enter func101,ntmps101;go_wp2_with (go_at_call 157;refine(io _).V ?_;rintro e w2 ⟨rfl,rfl⟩;unfold d5)
  exact⟨rfl,eH.no P⟩
 |succ n ih=>
  intro w Z v m d s f nm deep k p g o L b h
  cases k with
  |zero=>exact L.elim
  |succ k=>
  obtain⟨cs,N,C⟩:=L;obtain⟨a,c,rfl⟩:=N.form;have h:=N.cap;obtain⟨We,q,D⟩:=b;have⟨P,E,A⟩:=gN w #[ah s] #[.slice a m.fs.length c,ag m.unk] 105 49;have b:(deep:Int)<=8:=Vv;obtain⟨X,h⟩:∃X,Hid (gX S (d6 S n) d [] m.fs=X):=⟨_,rfl⟩;have H:Hid (d6 S (n+1) d m=(X&&pW (o0 S d) m.unk)):=(by show d6 S (n+1) d m=_;rw[d6,h.o])
  have HU:Hid (∀(W:aw),ak w W->dZ W w.heap.size #[ah s] 105->Vq 160 #[ag m.unk,.func (.func 161) #[] #[ah w.heap.size]] W (eH (pW (o0 S d) m.unk) W)):=λW l j=>
   AT W m.unk 161 [ah w.heap.size] (o0 S d) q (enters_of func161 VA rfl) λr num kind i=>by
    have:=Ro r (λb=>b<B) s w.heap.size nm f num kind (g.O λb _ q=>(dW l i).block b q) o.srt o.len (j.G i j.lt);rw[Md o]at this;exact this
  generalize pW (o0 S d) m.unk=Y at*;go_enter func101,ntmps101;have⟨j,r⟩:=A.I;go_wp2_with (go_at_call 157;refine(iy _).V ?_;rintro e w2 ⟨rfl,rfl⟩)
  generalize(w.alloc (am #[ah s] 105)).alloc (am #[.slice a m.fs.length c,ag m.unk] 49)=w1 at*;go_loopw [6,7,8,15] (λ_ _ _ a wr=>∃i:Nat,a=aa i/\i<=m.fs.length/\Hid (gX S (d6 S n) d (m.fs.take i) (m.fs.drop i)=X)/\ak w1 wr) (λ_ _ _ a _=>m.fs.length-(intOf a).toNat)
  case atStart=>exact⟨0,rfl,aP _,h,Below.refl _ _⟩
  case round=>
   obtain⟨i,rfl,a,HI,G⟩:=hrel;clear j r;have u:=dW P G;by_cases VN:i<m.fs.length
   .have⟨x,O⟩:=gx VN;have⟨a,p1,r,z⟩:=C.get O;obtain⟨v,L,rfl⟩:=p1.form;obtain⟨a,rfl,j,h,T⟩:=N.at Vv;have j:=T wr (u.block _ h) _ _ r;have j:=lK (T wr (u.block _ h) _ _ z);have⟨Q,R⟩:=ec wr #[aa x.1,.slice v x.2.length L] 58;have t:=dW u Q;have U:=dW G Q;have V:=E.G U E.lt;have h:=A.G U A.lt;have y:=qW _ (λb=>b<B) mp s nm f x.1 (g.O λb _ q=>t.block b q) o.srt o.len;have I:Hid (X=(qF S (d6 S n) d (m.fs.take i) x&&gX S (d6 S n) d (m.fs.take (i+1)) (m.fs.drop (i+1)))):=(by show X=_;rw[<-HI.o,yM O]);have⟨k3,k4⟩:=V.I;have⟨k5,k6⟩:=R.I;have f:(i:Int)<(m.fs.length:Int):=Vv;have V0:=D x (aL O);clear T r z Q O;go_wp2_with fail;refine y.V ?_;rintro e w3 ⟨M,rfl⟩;generalize wr.alloc (am #[aa x.1,.slice v x.2.length L] 58)=w2 at*;generalize wr.heap.size=vb at*
    cases hfd:ed d.fs x.1 with
    |none=>
     rw[o.no _ hfd]at M;obtain rfl:e= .returned (.pointer none):=M;have j:Hid (d6 S (n+1) d m=false):=(by show d6 S (n+1) d m=false;rw[H.o,I.o,qF,hfd];rfl);go_wp2_with (go_at_call 157;refine(io _).V ?_;rintro e w2 ⟨rfl,rfl⟩;unfold d5)
     rw[j.o]
     exact⟨rfl,eH.no t⟩
    |some f=>
     have⟨g,Q,K⟩:=o.yes _ _ hfd;rw[Q]at M;obtain⟨F,rfl,O⟩:=M;have s:=(fD hfd).1;have D:Hid (qF S (d6 S n) d (m.fs.take i) x=(kx g.riv g.f.num (m.fs.take i)&&fG S (d6 S n) f x.2)):=(by show qF S (d6 S n) d (m.fs.take i) x=_;unfold qF;rw[hfd,K.riv,K.eq,s]);have⟨o,r,J,_,M,P⟩:=O.blk;obtain⟨o,rfl⟩:=gL P;obtain⟨o,r,rfl⟩:=iB M.1;have z:=Mb w2.drew (some a) c c m.fs cs i g.f.num (.slice o g.riv.length r) g.riv (N.O λb _ q=>t.drew.block b q) (tH.G t.drew (aE _) C) Vv We (M.O λb _ q=>(Vs w2).drew.block b q) K.rlen;obtain⟨q,C⟩:=Vu (kx g.riv g.f.num (m.fs.take i));rw[C]at z D;clear C Q hfd s y P;have s:(i:Int)<=(c:Int):=Vv;go_upto_region 7 with(go_at_call 157;refine(iy _).V ?_;rintro e w2 ⟨rfl,rfl⟩)
     have l:w2.drew.cell? (aj (w.heap.size+1) 0)=some (.slice (some a) m.fs.length c)/\w2.drew.cell? (aj F 0)=some (aa g.f.num)/\w2.drew.cell? (aj F 4)=some (.slice o g.riv.length r):=
      ⟨h.drew.cell 0,J.drew.cell 0,J.drew.cell 4⟩
     go_region_held2 (λW=>W.cell? (aj (w.heap.size+1) 0)=some (.slice (some a) m.fs.length c)/\W.cell? (aj F 0)=some (aa g.f.num)/\W.cell? (aj F 4)=some (.slice o g.riv.length r))
      (first|exact l|exact⟨c.cell 0,a.cell 0,a.cell 4⟩)
      (first
       |(
         go_at_call 158;refine z.V ?_;intro e w3 o;rcases o.part with⟨rfl,rfl,l⟩|⟨rfl,y,z,rfl,l⟩;rotate_left;.have C:=dW t.drew l;have j:Hid (d6 S (n+1) d m=false):=(by show d6 S (n+1) d m=false;rw[H.o,I.o,D.o];rfl);unfold d5;go_wp2;rw[j.o];exact⟨rfl,eH.no C⟩
         have a:=J.G (w:=w2.drew) l J.lt
         have c:=h.G (w:=w2.drew) l h.lt))
     have C:=dW t.drew l;have c:=dW U.drew l;have o:=R.G (w:=w2.drew) l R.lt;have a:=Ct ih w3 Z (.slice v x.2.length L) x.2 d f g F deep k (p.on (eh C p.le)) (O.O (w':=w3) λb _ q=>show w3.heap[b]?=w2.heap[b]? from l.block b q) K (pS.G C (aE _) p1) V0 Vv;obtain⟨r,b⟩:=Vu (fG S (d6 S n) f x.2);rw[b]at a D;clear b k3 k4 k5 k6;have⟨k5,k6⟩:=o.I;go_wp2_with fail;refine a.V ?_;intro e f a;rcases a.part with⟨rfl,rfl,p⟩|⟨rfl,y,z,rfl,p⟩
     .have b:Hid (gX S (d6 S n) d (m.fs.take (i+1)) (m.fs.drop (i+1))=X):=(by show _=X;rw[I.o,D.o];rfl);go_wp2;go_roundw
      case rel=>exact⟨i+1,by go_num,Vv,b,dW c p⟩
      case measure=>simp[intOf];omega
     .have j:Hid (d6 S (n+1) d m=false):=(by show d6 S (n+1) d m=false;rw[H.o,I.o,D.o];rfl);unfold d5;go_wp2;rw[j.o];exact⟨rfl,eH.no (dW C p)⟩
   .obtain rfl:i=m.fs.length:=Vv;have j:Hid (d6 S (n+1) d m=Y):=(by show d6 S (n+1) d m=Y;rw[H.o,<-HI.o,cD];rfl);have V:=E.G G E.lt;have h:=A.G G A.lt;have b:=HU.o wr u V;have⟨k3,k4⟩:=h.I;go_wp2_with fail;refine b.V ?_;intro e f a;rcases a.part with⟨rfl,rfl,p⟩|⟨rfl,y,z,rfl,p⟩;.go_wp2;go_end0;rw[j.o];exact eH.ok (dW u p)
    .unfold d5;go_wp2;rw[j.o];exact⟨rfl,eH.no (dW u p)⟩
def kX (ok:Bool)(v:Value)(w:aw)(e:Ending)(w':aw):Prop:=ak w w'/\if ok=true then e= .returned v else∃(x:Nz) (y:Int),e=d5 x.1 y
def kX.ok {w w':aw}{v:Value}(b:ak w w'):kX true v w (.returned v) w':=⟨b,rfl⟩
def kX.no {w w':aw}{v:Value}{x y:Int}(b:ak w w')(a:x≠0:=by first|decide|exact Nz.ne _):kX false v w (d5 x y) w':=⟨b,⟨x,a⟩,_,rfl⟩
def kX.part {ok:Bool}{w:aw}{v:Value}{e:Ending}{w':aw}(h:kX ok v w e w'):(ok=true/\e= .returned v/\ak w w')\/(ok=false/\∃(x:Nz) (y:Int),e=d5 x.1 y/\ak w w'):=by
 obtain⟨b,a⟩:=h;cases ok;.rw[dQ Vw]at a;obtain⟨x,y,q⟩:=a;exact .inr ⟨rfl,x,y,q,b⟩
 .exact .inl ⟨rfl,a,b⟩
section
variable {S:eF} {mp:an} {B:Nat}
def yN (hN:Ew S)(w:aw)(Z:ax)(v:Value)(m:PM)(d:MT)(mb:Nat)(gs:List GF)(nm:au)(k:Nat)(h:tz w B S mp)(hm:jk w (λb=>b<B) mp mb nm gs)(p:lJ S mp d gs)(n:NQ d)(j:gV k w Z v m)(r:pi k m)(D:(eI S 8 d m).length<=2^47):
  Calls prog 58 #[ah mb,.agg #[v,ag m.unk]] w (kX (d6 S 8 d m) (aa (eI S 8 d m).length) w):=by
 obtain⟨a,c,rfl⟩:=j.form;have⟨f,i⟩:=ec w #[.slice a m.fs.length c,ag m.unk] 49;have u:=Pg (S:=S) (mp:=mp) (B:=B) 8 _ Z _ m d mb gs nm 1 k (h.on (eh f h.le)) (hm.O λb _ q=>f.block b q) p (j.G f (aE _)) r rfl
 have x:Hid (∀W,ak w W->d6 S 8 d m=true->Vq 102 #[ah mb,.agg #[.slice a m.fs.length c,ag m.unk]] W (ip (eI S 8 d m) W)):=λW l F=>
  uY hN 8 W Z _ m d mb gs nm k (h.on (eh l h.le)) (hm.O λb _ q=>l.block b q) p n (j.G l (aE _)) r F D
 generalize eI S 8 d m=y at*;generalize d6 S 8 d m=ok at*;have⟨s,t⟩:=i.I;go_in
 go_wp2_with fail;refine u.V ?_;intro e w2 E;generalize w.alloc (am #[.slice a m.fs.length c,ag m.unk] 49)=w1 at*;rcases E.part with⟨rfl,rfl,g⟩|⟨rfl,y,z,rfl,g⟩;.have A:=i.G g i.lt;clear s t;have⟨s,t⟩:=A.I;have o:=dW f g;go_wp2_with fail;refine(x.o w2 o trivial).V ?_;rintro e w3 ⟨rfl,C⟩;go_wp2;go_ret;exact kX.ok (dW o C)
 .unfold d5;go_wp2;exact⟨rfl,kX.no (dW f g)⟩
def Mq (hN:Ew S)(w:aw)(Z:ax)(v:Value)(m:PM)(d:MT)(mb:Nat)(gs:List GF)(nm:au)(k:Nat)(h:tz w B S mp)(hm:jk w (λb=>b<B) mp mb nm gs)(t:lJ S mp d gs)(j:NQ d)(p:gV k w Z v m)(u:pi k m)(r:(eI S 8 d m).length<=2^47):
  Calls prog 54 #[ah mb,.agg #[v,ag m.unk]] w (kX (d6 S 8 d m) (ag ⟨(eI S 8 d m).toArray⟩) w):=by
 obtain⟨a,c,rfl⟩:=p.form;have⟨f,l⟩:=ec w #[.slice a m.fs.length c,ag m.unk] 49;have E:=yN hN _ Z _ m d mb gs nm k (h.on (eh f h.le)) (hm.O λb _ q=>f.block b q) t j (p.G f (aE _)) u r;have H:=p.V (Y:=λb=>b<w.heap.size) λ_ _ q=>q
 have F:Hid (∀W N b,ak w W->w.heap.size<=N->N<=W.heap.size->d6 S 8 d m=true->fJ W N b (eG b) []->Vq 97 #[ah mb,.agg #[.slice a m.fs.length c,ag m.unk],eG b] W (ja N b [] (eI S 8 d m) W)):=λW N b o L I O U=>
  Jl hN 8 W _ _ m d mb gs nm k N b [] (h.on (eh o h.le)) (hm.O λb _ q=>o.block b q) t j (H.G o (aE _)) (λi q=>Vv) (by have:=h.le;omega) I u O U (by simpa using r)
 generalize eI S 8 d m=y at*;generalize d6 S 8 d m=ok at*;have⟨x,A⟩:=l.I;have P:w.heap.size+1=(w.alloc (am #[.slice a m.fs.length c,ag m.unk] 49)).heap.size:=Vw;go_in
 go_wp2_with fail;refine E.V ?_;intro e w2 M;generalize w.alloc (am #[.slice a m.fs.length c,ag m.unk] 49)=w1 at*;rcases M.part with⟨rfl,rfl,g⟩|⟨rfl,y,z,rfl,g⟩;.have Q:=g.size;go_wp2_with fail;refine(vK (B:=w.heap.size+1) y.length r Vv).V ?_;rintro e w3 ⟨b,rfl,V,J,n⟩;have G:dZ w3 w.heap.size _ _:=(n.block _ Vv).J (l.G g l.lt);have R:=n.size;have s:ak w w3:=(dW f g).J (eh n Vv);clear x A;have⟨x,A⟩:=G.I;go_wp2_with fail;refine(F.o w3 (w.heap.size+1) b s Vv Vv trivial J).V ?_;rintro e X ⟨rfl,C,D⟩;rw[aX]at C;have T:=D.bel.size;go_wp2_with fail;refine(AO C Vv).V ?_;rintro e a ⟨rfl,K⟩;go_wp2;go_ret;exact kX.ok (s.J (eh (D.bel.J K) Vv))
 .unfold d5;go_wp2;exact⟨rfl,kX.no (dW f g)⟩
end
def oA (form:Int)(m:PM)(n:Int)(sm:PM):PM:=if form=2 then m.put n (m.get n++ [mV sm])else m.put n [mV sm]
def lB (form:Int)(m:PM)(n:Int):PM:=if form=2 then PM.none else((m.get n).headD PV.none).2.2
def yS (form:Int)(args:aq)(w:aw):(callFunc (jN form) args).run prog w= .ok (.enter (jN form) args) w:=by
 unfold jN;split;.exact enters_of func190 VA rfl args w
 .exact enters_of func191 VA rfl args w
def Ac {S:eF}{mp:an}{d:MT}{f:fw}{g:GF}{sub:MT}(r:FG S mp d f g)(a:ed d.fs f.num=some f)(t:D5 S d f sub)(k:Nat)(w:aw)(Z:ax)(db:Nat)(m:PM)(h:eQ S (k+1+1) (some d) w Z db m)(u:m.fs.length<2199023254999)(n:(m.get f.num).length<2199023255000)(s:∀b,Z b->b<w.heap.size):
  Vq (jN g.form) #[ah db,aa f.num] w (tt S (k+1) (some d) w Z db (some sub) (lB g.form m f.num) (oA g.form m f.num)):=by
 have⟨j,l,p⟩:=t.kind a;by_cases h2:g.form=2
 .have i:jN g.form=190:=by unfold jN;rw[dR h2]
  have c:lB g.form m f.num=PM.none:=by unfold lB;rw[dR h2]
  have e:oA g.form m f.num=λo=>m.put f.num (m.get f.num++ [mV o]):=funext λv=>by unfold oA;rw[dR h2]
  rw[i,c,e,<-p];exact ow S k (some d) w Z db m f.num (h.slot Vv) j l (λ⟨x,y,i,c,e⟩=>by cases i;rw[a]at c;cases c;rw[r.rep,h2]at e;cases e) n (λq=>by have:=s _ q;omega)
 .have i:jN g.form=191:=by unfold jN;rw[dQ h2]
  have c:lB g.form m f.num=((m.get f.num).headD PV.none).2.2:=by unfold lB;rw[dQ h2]
  have e:oA g.form m f.num=λo=>m.put f.num [mV o]:=funext λv=>by unfold oA;rw[dQ h2]
  rw[i,c,e,<-p];exact xY S k (some d) w Z db m f.num h j l ⟨d,f,rfl,a,by rw[r.rep];simp[h2]⟩ u s
def SZ (w:aw)(B:Nat)(S:eF)(mp pm:an)(k:Nat)(d:MT)(f:fw)(g:GF)(Z:ax)(rb db:Nat)(b:au)(e a z deep F:Nat)(kind:Int)(m:PM)(sub:MT)(v:Value)
  (I:pE w B S mp k d Z rb db b e a z deep m) (E:nT w (λb=>b<B) S mp pm) (hv:Rk w (λb=>b<B) mp pm g v) (A:FG S mp d f g) (D:ed d.fs f.num=some f) (hS:Fj S) (r:D5 S d f sub) (hkd:k+deep=8) (hRd:Mj S mp pm B b F) (hF:e-z<=F):
  mH v [aa kind,ah rb,ah db] w (iE S k d w Z rb db (b.extract 0 e) deep (yq S b F sub (lB g.form m f.num) deep (oA g.form m f.num) (oo (b.extract 0 e) z deep (ly mp g)))):=by
 obtain⟨P,Q,T,U,G,rfl,h1,L,h3,h4,Wl,q1,q2,q3,q4⟩:=hv;refine⟨419,[_,_,_,_],rfl,enters_of func419 VA rfl,?_⟩;show Vq 419 #[aa kind,ah rb,ah db,ah P,ah Q,ah T,ah U] w _;have Wp:g.form≠4:=λq=>by have:=r.hm;rw[A.map,q]at this;cases this
 have⟨VZ,Wm,Wn,WE⟩:=tC (deep:=deep) A hS r.hs Vv;rw[A.eq]at h4 Wl;have VS:S.msg f.ty=some sub:=by have:=r.hs;unfold fC at this;rw[r.hm]at this;exact this
 have⟨V0,gs,Wo,WF,WG⟩:=E _ _ Wl;obtain rfl:sub=V0:=by rw[VS]at Wo;exact Option.some.inj Wo
 have Wq:(b.extract 0 e).size=e:=gK I.eb;have hab:=I.az;have hze:=I.ze;have Ws:=I.eb;have hbs:=I.bs;have hrb:=I.rB;have Wb:=I.rZ;have K:=I.hZ;have Wu:=I.cx.le;have Wv:rb<w.heap.size:=dZ.lt I.hr;have VT:=qV w.drew rb (b.extract 0 e) z deep (ly mp g) (I.hr:ei w.drew rb (b.extract 0 e) z deep) Vv Vv Vv Wm Wn;obtain⟨o,VL⟩:=Vu (ly mp g);rw[VL]at L VT⊢
 have Wd:Hid (∀y:Nat×Nat,oo (b.extract 0 e) z deep o= .ok y->z<y.1/\y.1<=y.2/\y.2<=e/\1<=k/\(b.extract 0 e).extract 0 y.2=b.extract 0 y.2):=λy hy=>by
  have⟨q1,q2⟩:=wX hy;have⟨V,H,t⟩:=jw (z:=y.1) (e:=y.2) q1;rw[Wq]at t;have hlv:1<=o:=(by rw[<-VL];unfold ly;rw[dQ (λq=>Wp q.1),dR WE];exact dj _);exact⟨V,H,t,Vv,kL Ws t⟩
 clear VL Wm Wn VZ;obtain⟨R,hR⟩:=Vu (oo (b.extract 0 e) z deep o);rw[hR]at VT Wd⊢;clear hR;have hlen:=I.wm.len
 have We:WM S a sub (lB g.form m f.num):=by
  unfold lB;split;.exact WM.none S a sub
  .rename_i L;have:=(mY I.wm D r.hs).2;unfold fh at this;rw[r.hm,A.rep]at this;simpa [L]using this
 have HP:Hid (∀h,k=h+1->∀(w3:aw),eQ S (k+1) (some d) w3 Z db m->w.heap.size<=w3.heap.size->Vq (jN g.form) #[ah db,aa f.num] w3 (tt S k (some d) w3 Z db (some sub) (lB g.form m f.num) (oA g.form m f.num))):=(by rintro h rfl w3 VV WH;exact Ac A D r h w3 Z db m VV Vv (by have:=hlen.2.2 f.num;omega) (λx q=>aI (K x q).2 WH))
 have Ww:Hid (∀h,k=h+1->∀(l:aw) (C:ax) (y:Nat×Nat) (c p:Nat),Below B w l->z<y.1->y.1<=y.2->y.2<=e->ei l c (b.extract 0 y.2) y.1 ((deep:Int)+1)->eQ S k (some sub) l C p (lB g.form m f.num)->(∀x,C x->B<=x/\x<l.heap.size)->B<=c->¬C c->
   Vq 89 #[ah G,ah c,ah p] l (iE S h sub l C c p (b.extract 0 y.2) (deep+1) (pR y.2 (eY S b F sub (lB g.form m f.num) y.1 y.2 (deep+1))))):=by
  rintro h rfl l C y c p X V H t WJ Y hC WK VY;exact hRd l C sub _ y.1 y.2 (deep+1) h G gs c p (I.cx.on X) (E.O (λx q _=>X.block x q)) (WF.O (λx q _=>X.block x q) (λ_ _ q=>q)) WG (hS.good.sub r.hs) (by rw[Int.natCast_succ];exact WJ) Y hC WK VY H Vv Vv Vv (We.V Vv)
 have ep:=yS g.form;have Wx:eQ S (k+1) (some d) w.drew Z db m:=I.hd.O (λ_ _ _=>rfl);clear We hlen;generalize lB g.form m f.num=m0 at*;generalize oA g.form m f.num=M at*;generalize jN g.form=pf at*;unfold Dk at h3;have Wy:dZ w.drew P #[ah G] 116:=h1;have Wz:dZ w.drew Q #[aa o] 3:=L;have WA:dZ w.drew T #[.func (.func pf) #[] #[]] 477:=h3;have WB:dZ w.drew U #[aa f.num] 3:=h4
 have J:Hid (∀W:aw,Below B w.drew W->W.cell? (aj P 0)=some (ah G)/\W.cell? (aj Q 0)=some (aa o)/\W.cell? (aj T 0)=some (.func (.func pf) #[] #[])/\W.cell? (aj U 0)=some (aa f.num)):=λW O=>
  ⟨(Wy.G O q1).cell 0,(Wz.G O q2).cell 0,(WA.G O q3).cell 0,(WB.G O q4).cell 0⟩
 have VM:Hid (∀y:Nat×Nat,yq S b F sub m0 deep M (.ok y)=Lx M y.2 (eY S b F sub m0 y.1 y.2 (deep+1))):=λ_=>rfl
 have b0:Below B w w.drew:=(Below.refl _ _).drew;have Wf:eU w Z rb w.drew Z:= .oB (Below.refl _ _).drew;go_enter func419,ntmps419;go_upto_region 0 with fail
 go_region_held2 (λW=>W.cell? (aj P 0)=some (ah G)/\W.cell? (aj Q 0)=some (aa o)/\W.cell? (aj T 0)=some (.func (.func pf) #[] #[])/\W.cell? (aj U 0)=some (aa f.num))
  (first|exact J.o _ b5|exact J.o _ b4|exact J.o _ b3|exact J.o _ (Below.refl _ _))
  (first
   |(
     go_at_call 185;refine VT.V ?_;intro en w3 hq;rcases hq.part with⟨x,rfl,rfl,n⟩|⟨y,c,rfl,rfl,n,WL,WN,VP,V9⟩;.unfold d5;go_wp2;exact⟨rfl,rfl,Z,Wf.J (.oK n)⟩
     have⟨V,H,t,v3,v4⟩:=Wd.o y rfl;obtain⟨h,rfl⟩:∃h,k=h+1:=⟨k-1,Vv⟩;have VU:=Wf.J (.oK n);have VV:=eU.dr Wx n Wb;have WC:w.heap.size<=w3.heap.size:=n.size;have hnb1:w.heap.size<=c:=WL;have VN:c<w3.heap.size:=dZ.lt VP;have VW:¬Z c:=λq=>by have:=(K c q).2;omega
     have b3:Below B w.drew w3:=⟨n.os,n.tape,n.output,n.size,λi hi=>n.block i (aI hi Wu) Vx⟩
     have VO:ei w3 c (b.extract 0 y.2) y.1 ((deep:Int)+1):=by rw[<-v4];exact VP)
   |(
     go_at_call 89;refine(Ww.o h rfl l C y c p (b0.J b4) V H t VX Y (λx q=>⟨Wh x (s.1 x q),WQ x q⟩) Vv VY).V ?_;intro en w5 WO;rcases WO.part with⟨x,N,rfl,Z5,u⟩|⟨sm,N,rfl,Z5,u,WP⟩;.unfold d5;go_wp2;rw[VM.o y,N];exact⟨rfl,rfl,_,tD VU Vv j s.1 u⟩
     have b5:Below B w.drew w5:=b4.J (u.G (by have:=j.size;omega) (λx q=>Wh x (s.1 x q)) Vv);have WD:Hid (eY S b F sub m0 y.1 y.2 (deep+1)= .ok sm):=N
     clear N)
   |(
     refine(HP.o h rfl w3 VV WC).V ?_;rintro en l ⟨p,Z4,C,rfl,j,Y,s,WQ⟩;have Wh:∀x,Z4 x->B<=x:=λx q=>(j.grow x q).elim (λe=>(K x e).1) (λe=>Vv)
     have VX:ei l c (b.extract 0 y.2) y.1 ((deep:Int)+1):=dZ.step VO j VW;have b4:Below B w.drew l:=b3.J ⟨j.os,j.tape,j.output,j.size,λi hi=>j.block i Vv (λq=>by have:=(K i q).1;omega)⟩
     have VY:¬C c:=λq=>j.not VN VW (s.1 c q)))
 all_goals
  go_wp2;go_end0;rw[VM.o y,WD.o];exact⟨rfl,_,tD VU Vv j s.1 u,D6 VU Wv Wb VN VW WN V9 j s u WP⟩
section
variable {S:eF} {mp:an} {b:au} {deep:Nat} {num:Int} {d:MT} {f:fw} {g:GF} {m:PM} (w:aw)
theorem ED {F a z e:Nat}(c:FG S mp d f g)(j:g.form=2)(h:S.base f.ty<=15)(i:e<=b.size):
  kz S b F d f m deep (fN (b.extract 0 e) a num (eM (S.base f.ty)) z)=Lu m f.num (gG (b.extract 0 e) z (S.base f.ty)):=by
 rw[Hq c j h i];all_goals (cases gG (b.extract 0 e) z (S.base f.ty)<;>rfl)
theorem Jx {F a z e:Nat}(c:FG S mp d f g)(h:g.form=2)(i:eM (S.base f.ty)≠2):
  kz S b F d f m deep (fN (b.extract 0 e) a num 2 z)=rU (S.base f.ty) b f.num m (ft (b.extract 0 e) z):=by
 rw[D3 c h i]
 cases ft (b.extract 0 e) z with
 |error x=>rfl
 |ok y=>simp only[rU];cases fY b (S.base f.ty) y.2 (y.2-y.1) (m.get f.num) y.1<;>rfl
theorem Qm (B:Nat)(S:eF)(mp pm:an)(k:Nat)(d:MT)(f:fw)(g:GF)(Z:ax)(rb db:Nat)(b:au)(e a z deep F kn:Nat)(num:Int)(m:PM)(v:Value)
  (I:pE w B S mp k d Z rb db b e a z deep (m.without g.riv)) (D:WM S a d m) (t:nT w (λb=>b<B) S mp pm) (i:mr w (λb=>b<B) mp pm g v) (c:FG S mp d f g) (j:ed d.fs f.num=some f) (y:Fj S) (s:k+deep=8) (C:mj S d) (p:Mj S mp pm B b F) (H:e-z<=F) (r:mh mp g kn=true):
  mH v [aa kn,ah rb,ah db] w (iE S k d w Z rb db (b.extract 0 e) deep (kz S b F d f m deep (fN (b.extract 0 e) a num kn z))):=by
 have u:=(oW c).1 r;have N:=Ci S f.ty;unfold mr at i;by_cases h4:g.form=4
 .rw[dR h4]at i;have o:f.isMap=true:=by rw[c.map,h4];rfl
  obtain rfl:kn=2:=by
   rcases u with h|⟨h,_⟩;.rw[h];unfold fX;rw[dR o]
   .exact h
  rw[c.lone Vv,jr]at I;have n:=Hw (b:=b) (F:=F) (deep:=deep) (a:=a) (z:=z) (e:=e) (num:=num) (m:=m) c y h4 Vv;rw[show((2:Nat):Int)=2 from rfl,n];exact S0 w B S mp pm k d f g Z rb db b e a z deep F _ m v I t i c j y h4 s C p H
 .rw[dQ h4]at i;unfold Dm at i;rw[c.eq,c.base]at i;have o:f.isMap=false:=by rw[c.map];simp[h4]
  have x:fX S f=eM (S.base f.ty):=by unfold fX eF.wire;rw[o];rfl
  have E:eK mp g=S.base f.ty:=by unfold eK;rw[dQ h4,c.eq,c.base]
  by_cases hb:S.base f.ty=16
  .rw[dR hb]at i
   obtain rfl:kn=2:=by
    rcases u with h|⟨h,_⟩;.rw[h,x,hb];rfl
    .exact h
   have:=c.nest.1 hb;have⟨sub,J⟩:=co.1 this;have G:D5 S d f sub:=⟨by unfold fC;rw[o];exact J,o⟩;have n:=Hv (b:=b) (F:=F) (deep:=deep) (z:=z) (e:=e) (num:=num) c y G Vv j D;have L:(if g.form=2 then PM.none else((m.get f.num).headD PV.none).2.2)=lB g.form (m.without g.riv) f.num:=(by unfold lB;rw[vG (by rw[c.riv];exact Hm d f)])
   have M:vX g m f.num=oA g.form (m.without g.riv) f.num:=funext λP=>by
    unfold vX oA;by_cases h2:g.form=2;.rw[dR h2,dR h2,c.lone Vv,jr]
    .rw[dQ h2,dQ h2]
   rw[L,M]at n;rw[show((2:Nat):Int)=2 from rfl,n];exact SZ w B S mp pm k d f g Z rb db b e a z deep F _ _ sub v I t i c j y G s p H
  .rw[dQ hb]at i;have l:S.base f.ty<=15:=Vv;by_cases h2:g.form=2
   .have O:=c.lone Vv;rw[O,jr]at I;by_cases hn:fo (S.base f.ty)=true
    .rw[dR (by unfold iw;rw[E,h2];simpa using hn)]at i;have A:=(uK l).1 hn;rcases u with h|⟨h,_⟩;.rw[x]at h;subst h;rw[ED c h2 l I.eb];exact Rp w B S mp k d f g Z rb db b e a z deep m v I i c h2 l j
     .subst h;rw[show((2:Nat):Int)=2 from rfl,Jx c h2 A];exact Rr w B S mp k d f g Z rb db b e a z deep m v I i c h2 l A j
    .rw[dQ (by unfold iw;rw[E];simp[hn])]at i
     have A:eM (S.base f.ty)=2:=by
      by_cases q:eM (S.base f.ty)=2;.exact q
      .exact absurd ((uK l).2 q) hn
     obtain rfl:kn=eM (S.base f.ty):=by
      rcases u with h|⟨h,_⟩;.rw[h,x]
      .omega
     rw[ED c h2 l I.eb,<-Ms h2];exact Ql w B S mp k d f g Z rb db b e a z deep _ m v I i c h4 l j
   .rw[dQ (by unfold iw;simp[h2])]at i;have K:f.isRep=false:=by rw[c.rep];simp[h2]
    obtain rfl:kn=eM (S.base f.ty):=by
     rcases u with h|⟨_,h⟩;.rw[h,x]
     .rw[K]at h;cases h
    have n:=Ht (F:=F) (deep:=deep) (a:=a) (z:=z) (num:=num) (m:=m) c h4 h2 l I.eb;rw[n,<-Mr h2];exact Ql w B S mp k d f g Z rb db b e a z deep _ _ v I i c h4 l j
theorem Jy (B:Nat)(S:eF)(mp pm:an)(k:Nat)(d:MT)(f:fw)(g:GF)(Z:ax)(rb db:Nat)(b:au)(e a z deep F kn:Nat)(num:Int)(m:PM)(v:Value)
  (I:pE w B S mp k d Z rb db b e a z deep m) (y:nT w (λb=>b<B) S mp pm) (A:xf w (λb=>b<B) (mr w (λb=>b<B) mp pm) g v) (D:FG S mp d f g) (r:ed d.fs f.num=some f) (N:Fj S) (t:k+deep=8) (s:mj S d) (p:Mj S mp pm B b F) (M:e-z<=F) (h:mh mp g kn=true):
  mH v [aa kn,ah rb,ah db] w (iE S k d w Z rb db (b.extract 0 e) deep (kz S b F d f m deep (fN (b.extract 0 e) a num kn z))):=by
 unfold xf at A;by_cases h0:g.riv= []
 .rw[dR h0]at A;have c:m.without g.riv=m:=by rw[h0,jr]
  exact Qm w B S mp pm k d f g Z rb db b e a z deep F kn num m v (by rw[c];exact I) I.wm y A D r N t s p M h
 .rw[dQ h0]at A;obtain⟨i,O,l,u,rfl,X,E,Y,j,n,c⟩:=A;refine⟨296,[_,_],rfl,enters_of func296 rfl rfl,?_⟩;show Vq 296 #[aa kn,ah rb,ah db,ah i,ah O] w _;have j:=ri S k (some d) w Z db m l g.riv I.hd E.1 D.rlen (λx i q=>by have:=E.2 x i;have:=(I.hZ x q).1;omega)
  obtain⟨l,C,rfl,i,_⟩:∃l C,u= .func (.func l) #[] (List.toArray C)/\(∀args w,(callFunc l args).run prog w= .ok (.enter l args) w)/\True:=by
   have i:=c;unfold mr at c;split at c;.obtain⟨_,_,_,_,_,rfl,_⟩:=c;exact⟨418,[_,_,_,_],rfl,enters_of func418 rfl rfl,trivial⟩
   .unfold Dm at c;split at c;.obtain⟨_,_,_,_,_,rfl,_⟩:=c;exact⟨419,[_,_,_,_],rfl,enters_of func419 rfl rfl,trivial⟩
    .split at c;.obtain⟨_,_,_,_,rfl,_⟩:=c;exact⟨421,[_,_,_],rfl,enters_of func421 rfl rfl,trivial⟩
     .obtain⟨_,_,_,_,rfl,_⟩:=c;exact⟨422,[_,_,_],rfl,enters_of func422 rfl rfl,trivial⟩
  have K:Hid (∀w1 i,fP w Z w1 i->eQ S (k+1) (some d) w1 i db (m.without g.riv)->Vq l (([aa kn,ah rb,ah db]:ay)++C).toArray w1 (iE S k d w Z rb db (b.extract 0 e) deep (kz S b F d f m deep (fN (b.extract 0 e) a num kn z)))):=λw1 i P H=>by
   have G:eU w Z rb w1 i:= .oS P;have L:=G.G I.cx.le (λx q=>(I.hZ x q).1) I.rB;have Q:=I.on G H (dZ.step I.hr P I.rZ) (by have:=I.wm.without f;rw[<-D.riv]at this;exact this);have⟨V,T,n,_,J⟩:=Qm w1 B S mp pm k d f g _ rb db b e a z deep F kn num m _ Q I.wm (y.O (λx q _=>L.block x q)) (mr.O (λx q _=>L.block x q) (λ_ _ q=>q) c) D r N t s p M h
   obtain⟨rfl,rfl⟩:l=V/\C=T:=by
    injection n with n _ e3
    injection n with n
    exact⟨n,by simpa using e3⟩
   exact J.V λ_ _ q=>q.pre G.clip
  obtain⟨R,c⟩:=Vu (kz S b F d f m deep (fN (b.extract 0 e) a num kn z));rw[c]at K⊢;obtain⟨c,l,h,rfl⟩:=d7 E.1;have⟨h,l⟩:=X.I;have c:=I.hZ;go_enter func296,ntmps296;go_wp2_with fail;refine j.V ?_;rintro W w1 ⟨rfl,i,o,H⟩;have U:=Y.step o (λq=>by have:=(c O q).1;omega);have⟨h,l⟩:=U.I;have J:=K.o w1 i o H;go_wp2_with fail;refine J.V ?_;intro W w2 j
  cases R with
  |error x=>
   obtain⟨rfl,j⟩:=j;unfold d5;go_wp2
   exact⟨rfl,rfl,j⟩
  |ok x=>
   obtain⟨rfl,j⟩:=j;go_wp2;go_end0;exact⟨rfl,j⟩
end
section
variable {mp:ByteArray->Option Nat} {g:GF} {kind num:Int} {v:Value} {w:World} {Q:Nat->Prop}
theorem Ik:Mt kind (eM (eK mp g)) (iw mp g)=mh mp g kind:=by
 rfl
theorem Jm.one (h:Jm v):v.oneCell'=true:=by
 obtain⟨f,a,rfl⟩:=h;rfl
theorem xf.fn {pm:ByteArray->Option Nat}(h:xf w Q (mr w Q mp pm) g v):Jm v:=by
 unfold xf at h;split at h
 .unfold mr at h;split at h;.obtain⟨_,_,_,_,_,rfl,_⟩:=h;exact⟨_,_,rfl⟩
  .unfold Dm at h;split at h;.obtain⟨_,_,_,_,_,rfl,_⟩:=h;exact⟨_,_,rfl⟩
   .split at h;.obtain⟨_,_,_,_,rfl,_⟩:=h;exact⟨_,_,rfl⟩
    .obtain⟨_,_,_,_,rfl,_⟩:=h;exact⟨_,_,rfl⟩
 .obtain⟨_,_,_,_,rfl,_⟩:=h;exact⟨_,_,rfl⟩
theorem nI.one {pm:ByteArray->Option Nat}{x:sD}(h:nI w Q mp (mr w Q mp pm) (je w Q mp pm) g x):x.c1.oneCell'=true/\x.c2.oneCell'=true/\x.c3.oneCell'=true/\x.c4.oneCell'=true/\x.c5.oneCell'=true/\x.c6.oneCell'=true/\x.c7.oneCell'=true:=by
 have⟨a,n,c,b⟩:=d7 h.riv.1;have⟨_,_,⟨_,_,d,_⟩,⟨_,_,e,_⟩,_,_,f,_⟩:=h.enc;refine⟨by rw[h.kind];rfl,by rw[h.packs];rfl,by rw[b];rfl,by rw[d.eq];rfl,by rw[e.eq];rfl,by rw[f.eq];rfl,h.read.fn.one⟩
def EE (w:World)(Q:Nat->Prop)(mp pm:ByteArray->Option Nat)(gs:List GF)(num:Int)(e:Ending):Prop:=
 match iL gs num with
 |none=>e= .returned (.pointer none)
 |some g=>∃gb j v,e= .returned (.pointer (some ⟨gb,j,none⟩))/\Q gb/\gb<w.heap.size/\xf w Q (mr w Q mp pm) g v/\∀W:World,W.heap[gb]?=w.heap[gb]?->W.cell? ⟨gb,j+1,none⟩=some (.int .i64 (eM (eK mp g)))/\W.cell? ⟨gb,j+2,none⟩=some (.bool (iw mp g))/\W.cell? ⟨gb,j+7,none⟩=some v
def Cz (w:World)(Q:Nat->Prop)(mp pm:ByteArray->Option Nat)(gs:List GF)(num:Int)(e:Ending):Prop:=
 match iL gs num with
 |none=>e= .returned (.pointer none)
 |some g=>∃gb j x,e= .returned (.pointer (some ⟨gb,j,none⟩))/\Q gb/\gb<w.heap.size/\nI w Q mp (mr w Q mp pm) (je w Q mp pm) g x/\∀W:World,W.heap[gb]?=w.heap[gb]?->∀i c,(jg x)[i]?=some c->W.cell? ⟨gb,j+i,none⟩=some c
theorem Cz.is {pm:ByteArray->Option Nat}{gs:List GF}{e:Ending}(h:Cz w Q mp pm gs num e):EE w Q mp pm gs num e:=by
 unfold Cz at h;unfold EE
 cases hf:iL gs num with
 |none=>grind
 |some g=>
  rw[hf]at h;obtain⟨d,j,x,f,i,k,a,b⟩:=h;exact⟨d,j,x.c7,f,i,k,a.read,λW c=>⟨by rw[<-a.kind];exact b W c 1 _ rfl,by rw[<-a.packs];exact b W c 2 _ rfl,b W c 7 _ rfl⟩⟩
theorem tM (w:World)(Q:Nat->Prop)(mp pm:ByteArray->Option Nat)(gs:List GF)(pb:Nat)(num:Int)(h:iP w Q mp pm gs pb)(X:gs.Pairwise (λx y=>x.f.num<=y.f.num))(U:gs.length<=2001):
  Vq 141 #[.pointer (some ⟨pb,0,none⟩),.int .i64 num] w λe w'=>Cz w Q mp pm gs num e/\Below w.heap.size w w':=by
 obtain⟨v,l,H,T,p,d⟩:=h;obtain⟨Y,vn,Z,rfl⟩:=d7 p.1;have V:=d.nums;have N:=d.len
 have C:l.Pairwise (λa b=>a.n<=b.n):=by
  have:(l.map (·.n)).Pairwise (·<=·):=by grind
  grind
 refine(Q7 w pb _ l num 0 H p.1 (λx o=> ?_) C Vv).V ?_;.have⟨i,r⟩:=bX.1 o;have⟨g,_,n⟩:=d.get r;exact n.one
 .rintro e w' ⟨O,J⟩;refine⟨?_,J⟩;unfold Cz;rcases O with⟨i,G,x,o,P,E,F,rfl⟩|⟨S,rfl⟩
  .have⟨g,n,u⟩:=d.get o
   have K:iL gs num=some g:=xL n (by rw[<-u.n];omega) (λk y R M=>by
    have s:k<l.length:=(by grind);have⟨m,f,q⟩:=d.get (aO s);rw[R]at f;obtain rfl:=Option.some.inj f;have:=E k _ (aO s) M;rw[q.n]at this
    omega)
   rw[K];have L:=gl o;obtain⟨m,rfl,_,B,A⟩:=eJ p.1 Vv;obtain rfl:m=G:=by simpa [Value.ownBlock]using F
   refine⟨m,i*8,x,rfl,p.2 m rfl,B,u,λW I j c z=> ?_⟩;have t:=gl z;rw[qB]at t;exact A W I _ _ ((gd jg 8 qB l i x o j t).J z)
  .rw[pz λg n=>by
    have⟨i,r⟩:=bX.1 n;have D:i<l.length:=(by grind);have⟨m,f,q⟩:=d.get (aO D);rw[r]at f;obtain rfl:=Option.some.inj f;rw[<-q.n]
    grind]
theorem Ph (w:World)(Q:Nat->Prop)(mp pm:ByteArray->Option Nat)(gs:List GF)(pb:Nat)(num:Int)(h:iP w Q mp pm gs pb)(b:gs.Pairwise (λx y=>x.f.num<=y.f.num))(a:gs.length<=2001):
  Vq 141 #[.pointer (some ⟨pb,0,none⟩),.int .i64 num] w λe w'=>EE w Q mp pm gs num e/\Below w.heap.size w w':=(tM w Q mp pm gs pb num h b a).V λ_ _ q=>⟨q.1.is,q.2⟩
theorem Gm (S:eF)(mp pm:ByteArray->Option Nat)(B:Nat)(b:ByteArray)(hS:Fj S)(hbs:b.size<=1800000000000):∀F,Mj S mp pm B b F:=by
 intro F
 induction F using Nat.strongRecOn with
 |_ F ih=>
 intro w Z d m a e deep k pb gs rb s cx Xp hM hG W6 hr hd hZ Wz Xq Xr L hF Xs Xt;have WP:(b.extract 0 e).size=e:=gK L;have WC:=cx.le;have Xe:rb<w.heap.size:=dZ.lt hr;obtain⟨P,hP⟩:=Vu (eY S b F d m a e deep);rw[hP];have O0:zY S k d B w w Z Z rb s b e deep F a m P:=⟨eU.refl _ _ _,hr,hd,Xr,Xt,hF,hP.sy,hZ⟩;clear hP;go_enter func89,ntmps89;go_wp2;go_loopw [9] (λ_ wr=>∃l c n F',F'<=F/\zY S k d B w wr Z l rb s b e deep F' c n P) (λ_ wr=>mF wr rb e)
 case atStart=>grind
 case round=>
  obtain⟨l,c,n,F',hFF,O⟩:=hrel;have WQ:=si wr rb _ c deep O.rr;rw[WP]at WQ;have hhi:=O.hi;have hfu:=O.fu;go_wp2_with fail;refine WQ.V ?_;rintro t w4 ⟨rfl,q,rfl⟩;by_cases hlt:c<e
  .have Xf:decide (c<e)=true:=decide_eq_true hlt;obtain⟨p,rfl⟩:∃p,F'=p+1:=⟨F'-1,Vv⟩;have WR:ei (wr.drewN q) rb (b.extract 0 e) c deep:=O.rr;have Xg:eQ S (k+1) (some d) (wr.drewN q) l s n:=O.dr.O (λ_ _ _=>rfl);have WS:eU w Z rb (wr.drewN q) l:=O.st.J (.oB (iu (Below.refl _ _) q));have Xh:=SH (wr.drewN q) rb _ c deep WR;have WT:=Kv (wr.drewN q) rb _ c deep WR Vv;have WD:∀x,l x->B<=x/\x<(wr.drewN q).heap.size:=O.zz;have V9:¬l rb:=O.st.not Xe Xq;have HM:Hid (mF wr rb e=e-c):=iA O.rr;have Wl:∀x,Z x->B<=x:=λx q=>(hZ x q).1
   obtain⟨T,hT⟩:=Vu (jY (b.extract 0 e) c);rw[hT]at WT;have HT:Hid (jY (b.extract 0 e) c=T):=hT;clear hT;generalize wr.drewN q=w4 at*;go_wp2_with fail;refine Xh.V ?_;rintro t w5 ⟨rfl,rfl⟩;go_wp2_with fail;refine WT.V ?_;intro t w6 Xu;rcases Xu.part with⟨x,rfl,rfl,We⟩|⟨x,rfl,rfl,We,WJ⟩;.have HB:Hid (P= .error x):=(by show P=_;rw[O.eq.o,D8 L hlt HT.o]);unfold d5;go_wp2;rw[HB.o];exact⟨rfl,rfl,l,WS.J (.oK We)⟩
   obtain⟨⟨num,kind⟩,z⟩:=x;have⟨kn,W7,WA,W8,WK⟩:=FX HT.o;simp only at W7 W8 WK WJ;subst W7;rw[WP]at WK;have⟨B7,KT⟩:=ec w6 #[.int .i64 num,.int .i64 kn] 237;have WU:ei (w6.alloc (Obj.cells #[.int .i64 num,.int .i64 kn] 237)) rb (b.extract 0 e) z deep:=dZ.alloc WJ _;have WV:=(WS.J (.oK We)).J (.oB B7);have Xi:=(eU.dr Xg We V9).O (λx _ q=>B7.block x q);have Xj:Below B w (w6.alloc (Obj.cells #[.int .i64 num,.int .i64 kn] 237)):=WV.G WC Wl Wz;have Xk:=Ph (w6.alloc (Obj.cells #[.int .i64 num,.int .i64 kn] 237)) (λb=>b<B) mp pm gs pb num (hM.O (λx q _=>Xj.block x q) (λ_ _ q=>q)) hG.srt hG.len;have WW:∀x,l x->B<=x/\x<(w6.alloc (Obj.cells #[.int .i64 num,.int .i64 kn] 237)).heap.size:=λx q=>⟨(WD x q).1,aI (aI (WD x q).2 We.size) B7.size⟩
   have Xl:¬l w6.heap.size:=λq=>by have:=(WD _ q).2;have:=We.size;omega
   have⟨M,N⟩:=KT.I;have hrw:rb<w6.heap.size:=dZ.lt WJ;have hBt:B<=w6.heap.size:=Vv;go_wp2_with fail;generalize w6.alloc (Obj.cells #[.int .i64 num,.int .i64 kn] 237)=w7 at*;generalize w6.heap.size=tb at*;refine Xk.V ?_;rintro t E ⟨Wf,A⟩;have Wm:ei E rb (b.extract 0 e) z deep:=dZ.G WU A (dZ.lt WU);have Wn:=WV.J (.oB A);have WE:=Xi.O (λx _ q=>A.block x q);have hb8:Below B w E:=Wn.G WC Wl Wz;have X:=KT.G A KT.lt;have WX:∀x,l x->B<=x/\x<E.heap.size:=λx q=>⟨(WW x q).1,aI (WW x q).2 A.size⟩
   have hul:=O.wm.len;have Y:zY S k d B w wr Z l rb s b e deep (p+1) c n P:=O;clear M N O
   cases hfind:iL gs num with
   |none=>
    have Wy:∀f,ed d.fs num=some f->¬(kn=fX S f\/(kn=2/\f.isRep=true)):=λf hf hq=>by
     have⟨g,q1,q2⟩:=hG.yes num f hf;rw[hfind]at q1;cases q1
    unfold EE at Wf;rw[hfind]at Wf;obtain rfl:t= .returned (.pointer none):=Wf;have Wo:=BP E rb _ z deep kn Wm Vv Vv Vv;obtain⟨R,r⟩:=Vu (mf (b.extract 0 e) z kn);have Q:Hid (P=LD S b p d n c e deep R):=(by have h:=uM (S:=S) (F:=p) (deep:=deep) (d:=d) (m:=n) L hlt HT.o WA Wy;rw[r]at h;show P=_;rw[Y.eq.o,h];rfl)
    have HW:Hid (∀y,R= .ok y->z<y.2/\y.2<=e):=λy hy=>by
     have:=wY (r.J hy);omega
    rw[r]at Wo;clear r hfind;have⟨M,N⟩:=X.I;go_wp2_with fail;refine Wo.V ?_;intro t o Wv;rcases Wv.part with⟨x,rfl,rfl,H⟩|⟨y,rfl,rfl,H,U⟩;.unfold d5;go_wp2;rw[Q.o];exact⟨rfl,rfl,l,Wn.J (.oK H)⟩
    have⟨W9,V⟩:=HW.o y rfl;have Wp:=wG o rb _ y.2 deep c U Vv Vv;have Wq:=eU.dr WE H V9;have hex:(b.extract 0 e).extract c y.2=b.extract c y.2:=kL L V;rw[hex]at Wp;clear M N;go_wp2_with fail;refine Wp.V ?_;rintro t Xv ⟨rfl,J,rfl⟩;have VU:eQ S (k+1) (some d) (o.drewN J) l s n:=Wq.O (λ_ _ _=>rfl);have WF:=Ce S k (some d) (o.drewN J) l s n (b.extract c y.2) VU (by rw[bf];omega);go_wp2_with fail;refine WF.V ?_;rintro t K ⟨rfl,Ww,VN,V8⟩;have VV:ei (o.drewN J) rb (b.extract 0 e) y.2 deep:=U;have VL:ei K rb (b.extract 0 e) y.2 deep:=dZ.step VV VN V9;have D:eU w Z rb K Ww:=((Wn.J (.oK H)).J (.oB (iu (Below.refl _ _) J))).J (.oS VN)
    have O9:zY S k d B w K Z (λi=>Ww i/\i<K.heap.size) rb s b e deep p y.2 (n.O (b.extract c y.2)) P:=
     ⟨D.clip,VL,V8.clip,V,Y.wm.O _ (by rw[bf];omega),Vv,Q,λx q=>⟨(D.grow x q.1).elim (Wl x) (λe=>Vv),q.2⟩⟩
    go_wp2;go_roundw
    case rel=>grind
    case measure=>rw[HM.o,iA VL];omega
   |some g=>
    unfold EE at Wf;rw[hfind]at Wf;obtain⟨C,j,v,rfl,hgB,Wd,WL,VI⟩:=Wf
    obtain⟨f,WB,fg⟩:∃f,ed d.fs num=some f/\FG S mp d f g:=by
     cases hf:ed d.fs num with
     |none=>rw[hG.no num hf]at hfind;cases hfind
     |some f=>
      have⟨g2,q1,q2⟩:=hG.yes num f hf;rw[hfind]at q1;cases q1;exact⟨f,rfl,q2⟩
    have⟨c1,c2,_⟩:=VI E (A.block C Wd);have Ws:=Mu E C j kn _ _ c1 c2;rw[Ik]at Ws;have WG:xf E (λb=>b<B) (mr E (λb=>b<B) mp pm) g v:=WL.O (λx _ q=>A.block x q) (λv hv=>mr.O (λx _ q=>A.block x q) (λ_ _ q=>q) hv);clear c1 c2 hfind
    cases hft:mh mp g kn with
    |false=>
     rw[hft]at Ws
     have Wy:∀f,ed d.fs num=some f->¬(kn=fX S f\/(kn=2/\f.isRep=true)):=λf' Xa hq=>by
      rw[WB]at Xa;cases Xa;rw[(oW fg).2 hq]at hft;cases hft
     clear hft;have⟨M,N⟩:=X.I;go_wp2_with fail;refine Ws.V ?_;rintro t u ⟨rfl,Wh⟩;have VW:ei u rb (b.extract 0 e) z deep:=dZ.G Wm Wh (dZ.lt Wm);have VJ:=Wn.J (.oB Wh);have VX:=WE.O (λx _ q=>Wh.block x q);have VM:=X.G Wh X.lt;have Wo:=BP u rb _ z deep kn VW Vv Vv Vv;obtain⟨R,r⟩:=Vu (mf (b.extract 0 e) z kn);have Q:Hid (P=LD S b p d n c e deep R):=(by have h:=uM (S:=S) (F:=p) (deep:=deep) (d:=d) (m:=n) L hlt HT.o WA Wy;rw[r]at h;show P=_;rw[Y.eq.o,h];rfl)
     have HW:Hid (∀y,R= .ok y->z<y.2/\y.2<=e):=λy hy=>by
      have:=wY (r.J hy);omega
     rw[r]at Wo;clear r M N;have⟨M,N⟩:=VM.I;go_wp2_with fail;refine Wo.V ?_;intro t o Wv;rcases Wv.part with⟨x,rfl,rfl,H⟩|⟨y,rfl,rfl,H,U⟩;.unfold d5;go_wp2;rw[Q.o];exact⟨rfl,rfl,l,VJ.J (.oK H)⟩
     have⟨W9,V⟩:=HW.o y rfl;have Wp:=wG o rb _ y.2 deep c U Vv Vv;have Wq:=eU.dr VX H V9;have hex:(b.extract 0 e).extract c y.2=b.extract c y.2:=kL L V;rw[hex]at Wp;clear M N;go_wp2_with fail;refine Wp.V ?_;rintro t Xv ⟨rfl,J,rfl⟩;have VU:eQ S (k+1) (some d) (o.drewN J) l s n:=Wq.O (λ_ _ _=>rfl);have WF:=Ce S k (some d) (o.drewN J) l s n (b.extract c y.2) VU (by rw[bf];omega);go_wp2_with fail;refine WF.V ?_;rintro t K ⟨rfl,Ww,VN,V8⟩;have VV:ei (o.drewN J) rb (b.extract 0 e) y.2 deep:=U;have VL:ei K rb (b.extract 0 e) y.2 deep:=dZ.step VV VN V9;have D:eU w Z rb K Ww:=((VJ.J (.oK H)).J (.oB (iu (Below.refl _ _) J))).J (.oS VN)
     have O9:zY S k d B w K Z (λi=>Ww i/\i<K.heap.size) rb s b e deep p y.2 (n.O (b.extract c y.2)) P:=
      ⟨D.clip,VL,V8.clip,V,Y.wm.O _ (by rw[bf];omega),Vv,Q,λx q=>⟨(D.grow x q.1).elim (Wl x) (λe=>Vv),q.2⟩⟩
     go_wp2;go_roundw
     case rel=>grind
     case measure=>rw[HM.o,iA VL];omega
    |true=>
     rw[hft]at Ws;have⟨M,N⟩:=X.I;have WY:Hid (mh mp g kn=true):=hft;clear hft;go_wp2_with fail;refine Ws.V ?_;rintro t u ⟨rfl,Wh⟩;have G:Below E.heap.size E u.drew:=Wh.drew;have VW:ei u.drew rb (b.extract 0 e) z deep:=dZ.G Wm G (dZ.lt Wm);have VJ:=Wn.J (.oB G);have VX:=WE.O (λx _ q=>G.block x q);have VM:=X.G G X.lt;have VY:Below B w u.drew:=VJ.G WC Wl Wz;have VZ:∀x,l x->B<=x/\x<u.drew.heap.size:=λx q=>⟨(WX x q).1,aI (WX x q).2 G.size⟩
     have WH:f.num=num:=(fD WB).1;have I:pE u.drew B S mp k d l rb s b e c z deep n:=⟨cx.on VY,VW,VX,VZ,Wz,V9,W8,WK,L,hbs,Y.wm⟩;obtain⟨uf,Wx,rfl,eg,Xb⟩:=Jy u.drew B S mp pm k d f g l rb s b e c z deep p kn num n v I (Xp.O (λx q _=>VY.block x q)) (WG.O (λx _ q=>G.block x q) (λv hv=>mr.O (λx _ q=>G.block x q) (λ_ _ q=>q) hv)) fg (by rw[WH];omega) hS Xs W6 (ih p Vv) Vv WY.o;have hit:=(oW fg).1 WY.o;obtain⟨R,r⟩:=Vu (kz S b p d f n deep (fN (b.extract 0 e) c num kn z));have Q:Hid (P=Qc S b p d e deep R):=(by have h:=D7 (S:=S) (F:=p) (deep:=deep) (d:=d) (m:=n) L hlt HT.o WA WB hit;rw[r]at h;show P=_;rw[Y.eq.o,h];rfl);have HW:Hid (∀y,R= .ok y->WM S y.2 d y.1/\z<y.2/\y.2<=e):=λy hy=>Hx hS hbs W6 L Y.wm HT.o WA WB hit (r.J hy)
     rw[r]at Xb;clear r M N hit;have WZ:u.drew.heap[C]?=w7.heap[C]?:=(G.block C (aI Wd A.size)).J (A.block C Wd);have⟨_,_,c7⟩:=VI u.drew WZ;have Xm:C<u.drew.heap.size:=aI Wd (aM A.size G.size);have W5:=VM.cell 1;simp only[cG,cp,cq]at W5;go_upto_region 5 with fail
     go_region_held2 (λW=>W.cell? ⟨C,j+7,none⟩=some (.func (.func uf) #[] Wx.toArray)/\W.cell? ⟨tb,1,none⟩=some (.int .i64 kn))
      (first|exact c9|exact⟨c7,W5⟩)
      (
       first |(
        refine Xb.V ?_;intro t o Wv;rcases Wv.part2 with⟨x,rfl,rfl,Z9,Wk⟩|⟨y,rfl,rfl,Z9,Wk,Wq,U⟩;.unfold d5;go_wp2;rw[Q.o];exact⟨rfl,rfl,Z9,VJ.J Wk⟩
        have c9:o.cell? ⟨C,j+7,none⟩=some (.func (.func uf) #[] Wx.toArray)/\o.cell? ⟨tb,1,none⟩=some (.int .i64 kn):=⟨(VI o ((Wk.block C Xm (λq=>by have:=(VZ C q).1;omega) Vv).J WZ)).2.2,(show dZ o tb #[.int .i64 num,.int .i64 kn] 237 from(Wk.block tb VM.lt Xl Vv).J VM).cell 1⟩))
     have⟨Xw,W9,V⟩:=HW.o y rfl
     have O9:zY S k d B w o Z (λi=>Z9 i/\i<o.heap.size) rb s b e deep p y.2 y.1 P:=
      ⟨(VJ.J Wk).clip,U,Wq.clip,V,Xw,Vv,Q,λx q=>⟨(Wk.grow x q.1).elim (λe=>(VZ x e).1) (λe=>by have:=VY.size;omega),q.2⟩⟩
     go_wp2;go_roundw
     case rel=>exact⟨_,_,_,_,Vv,O9⟩
     case measure=>rw[HM.o,iA U];omega
  .have Xf:decide (c<e)=false:=decide_eq_false hlt;obtain rfl:c=e:=Vv;have HE:Hid (P= .ok n):=(by show P=_;rw[O.eq.o,iR hlt]);go_wp2;go_end0;rw[HE.o];exact⟨rfl,l,O.st.J (.oB (iu (Below.refl _ _) q)),O.dr.O (λ_ _ _=>rfl),O.rr⟩
end
section
variable {w:aw} {B:Nat} {S:eF} {mp pm:an} {d:MT} {f:fw} {g:GF} {iq:aC}
theorem CB (j:nT w (λb=>b<B) S mp pm)(a:FG S mp d f g)(c:je w (λb=>b<B) mp pm g (.pointer iq))(i:fB S f=16):
  ∃t p gs,fC S f=some t/\iq=some (aj p 0)/\iP w (λb=>b<B) mp pm gs p/\lJ S mp t gs:=by
 unfold je at c;by_cases h4:g.form=4
 .rw[dR h4]at c;obtain⟨p,l,e⟩:=c;have h:f.isMap=true:=by rw[a.map,h4];rfl
  refine⟨eR f,p,_,by unfold fC;rw[dR h],by grind,EC e,?_⟩;rw[a.eq];exact Ch a h4
 .rw[dQ h4]at c;have h:f.isMap=false:=by rw[a.map];grind
  have m:jC mp g.f.ty=16:=(by unfold fB at i;rw[h]at i;rw[a.eq,a.base];grind);rw[dR m,a.eq]at c;obtain⟨p,l,e⟩:=c;have⟨k,gs,q,n,o⟩:=j _ _ e;exact⟨k,p,gs,by unfold fC;grind,by grind,n,o⟩
section
variable {mp pm:an}
theorem Pi (w:aw)(Q:ax)(pb xb:Nat)(gs:List GF)(num kind:Int)(h:iP w Q mp pm gs pb)(C:gs.Pairwise (λx y=>x.f.num<=y.f.num))(k:gs.length<=2001)(s:dZ w xb #[ah pb] 116):
  Vq 163 #[.agg #[aa num,aa kind],ah xb] w λe w'=>e= .returned (.bool (tf mp gs num kind).isSome)/\ak w w':=by
 have⟨d,f⟩:=ec w #[aa num,aa kind] 237;have A:=s.G d s.lt;have c:=tM _ Q mp pm gs pb num (h.O (λb _ k=>d.block b k) λ_ _ q=>q) C k;have⟨u,v⟩:=f.I;have⟨D,E⟩:=A.I;unfold tf;unfold Cz at c
 cases hf:iL gs num with
 |none=>
  rw[hf]at c;go_enter func163,ntmps163;go_wp2_with fail;refine c.V ?_;rintro e w2 ⟨rfl,a⟩;go_wp2;go_ret
  exact⟨rfl,dW d a⟩
 |some g=>
  rw[hf]at c;have t:(if mh mp g kind=true then some g else none).isSome=mh mp g kind:=by split<;>simp_all
  simp only[t];go_enter func163,ntmps163;go_wp2_with fail;refine c.V ?_;rintro e w2 ⟨⟨i,j,x,rfl,_,n,m,r⟩,a⟩;have o:=r w2 (a.block i n) 1 _ rfl;have p:=r w2 (a.block i n) 2 _ rfl;rw[m.kind]at o;rw[m.packs]at p;have l:=Mu w2 i j kind _ _ o p;rw[Ik]at l;have z:=f.G a f.lt;clear u v D E t;have⟨u,v⟩:=z.I;go_wp2_with fail;refine l.V ?_;rintro e w3 ⟨rfl,B⟩;go_wp2;go_ret;exact⟨rfl,dW d (dW a B)⟩
end
def S1 (S:eF)(mp pm:an)(B n:Nat):Prop:=
 ∀(w:aw) (Z:ax) (v:Value) (m:PM) (d:MT) (pb:Nat) (gs:List GF) (deep k:Nat),tz w B S mp->nT w (λb=>b<B) S mp pm->iP w (λb=>b<B) mp pm gs pb->lJ S mp d gs->gV k w Z v m->pi k m->n+deep=9->
  Vq 103 #[ah pb,.agg #[v,ag m.unk],aa deep] w (eH (d6 S n d m) w)
theorem iP.on {w':aw}{gs:List GF}{pb:Nat}(h:iP w (λb=>b<B) mp pm gs pb)(a:Below B w w'):iP w' (λb=>b<B) mp pm gs pb:=h.O (λb q _=>a.block b q) λ_ _ q=>q
theorem nT.on {w':aw}(h:nT w (λb=>b<B) S mp pm)(a:Below B w w'):nT w' (λb=>b<B) S mp pm:=h.O λb q _=>a.block b q
theorem S2 {n:Nat}(ih:S1 S mp pm B n)(e:tz w B S mp)(c:nT w (λb=>b<B) S mp pm)(q:FG S mp d f g)(h:je w (λb=>b<B) mp pm g (.pointer iq))(i:fB S f=16):∃t,fC S f=some t/\Jh S iq n t w:=by
 obtain⟨t,p,l,o,rfl,r,s⟩:=CB c q h i;refine⟨t,o,λj Z v m k deep y u x z=> ?_⟩;have a:=eh y e.le;exact ih j Z v m t p l deep k (e.on a) (c.on a) (r.on a) s u x z
theorem Mw:∀n,S1 S mp pm B n:=by
 intro n
 induction n with
 |zero=>
  intro w Z v m d A j deep k F VO h s b g i;obtain⟨a,c,rfl⟩:=b.form;obtain rfl:deep=9:=Vv;have⟨f,K,E⟩:=gN w #[ah A] #[.slice a m.fs.length c,ag m.unk] 116 49;go_enter func103,ntmps103;go_wp2_with (go_at_call 157;refine(AX _).V ?_;rintro e w2 ⟨rfl,rfl⟩;unfold d5)
  exact⟨rfl,eH.no f⟩
 |succ n ih=>
  intro w Z v m d A j deep k F VO h s b g i
  cases k with
  |zero=>exact b.elim
  |succ k=>
  obtain⟨cs,o,N⟩:=b;obtain⟨a,c,rfl⟩:=o.form;have b:=o.cap;obtain⟨U,b,z⟩:=g;have⟨f,K,E⟩:=gN w #[ah A] #[.slice a m.fs.length c,ag m.unk] 116 49;have g:(deep:Int)<=8:=Vv;obtain⟨X,g⟩:∃X,Hid (gX S (d6 S n) d [] m.fs=X):=⟨_,rfl⟩;have T:Hid (d6 S (n+1) d m=(X&&pW (o0 S d) m.unk)):=(by show d6 S (n+1) d m=_;rw[d6,g.o])
  have HU:Hid (∀(W:aw),ak w W->dZ W w.heap.size #[ah A] 116->Vq 160 #[ag m.unk,.func (.func 163) #[] #[ah w.heap.size]] W (eH (pW (o0 S d) m.unk) W)):=λW u l=>
   AT W m.unk 163 [ah w.heap.size] (o0 S d) b (enters_of func163 VB rfl) λp num kind i=>by
    have:=Pi p (λb=>b<B) A w.heap.size j num kind (h.on (eh (dW u i) F.le)) s.srt s.len (l.G i l.lt);rw[Md s]at this;exact this
  generalize pW (o0 S d) m.unk=Y at*;go_enter func103,ntmps103;have⟨l,p⟩:=E.I;go_wp2_with (go_at_call 157;refine(AW _).V ?_;rintro e w2 ⟨rfl,rfl⟩)
  generalize(w.alloc (am #[ah A] 116)).alloc (am #[.slice a m.fs.length c,ag m.unk] 49)=w1 at*;go_loopw [6,7,8,15] (λ_ _ _ a wr=>∃i:Nat,a=aa i/\i<=m.fs.length/\Hid (gX S (d6 S n) d (m.fs.take i) (m.fs.drop i)=X)/\ak w1 wr) (λ_ _ _ a _=>m.fs.length-(intOf a).toNat)
  case atStart=>exact⟨0,rfl,aP _,g,Below.refl _ _⟩
  case round=>
   obtain⟨i,rfl,a,HI,R⟩:=hrel;clear l p;have D:=dW f R;by_cases hlt:i<m.fs.length
   .have⟨x,a⟩:=gx hlt;have⟨f,p1,q,t⟩:=N.get a;obtain⟨G,H,rfl⟩:=p1.form;obtain⟨r,rfl,l,f,g⟩:=o.at Vv;have l:=g wr (D.block _ f) _ _ q;have l:=lK (g wr (D.block _ f) _ _ t);have⟨f,y⟩:=ec wr #[aa x.1,.slice G x.2.length H] 58;have l:=dW D f;have p:=dW R f;have VX:=K.G p K.lt;have HF:=tM _ (λb=>b<B) mp pm j A x.1 (h.on (eh l F.le)) s.srt s.len;have v:Hid (X=(qF S (d6 S n) d (m.fs.take i) x&&gX S (d6 S n) d (m.fs.take (i+1)) (m.fs.drop (i+1)))):=(by show X=_;rw[<-HI.o,yM a]);have⟨k3,k4⟩:=VX.I;have⟨k5,k6⟩:=y.I;have h:(i:Int)<(m.fs.length:Int):=Vv;have Wv:=z x (aL a);clear g q t f a;go_wp2_with fail;refine HF.V ?_;rintro e w3 ⟨O,t⟩;generalize wr.alloc (am #[aa x.1,.slice G x.2.length H] 58)=w2 at*;generalize wr.heap.size=vb at*;have I:=dW l t;have Wl:=dW p t;unfold Cz at O
    cases hfd:ed d.fs x.1 with
    |none=>
     rw[s.no _ hfd]at O;obtain rfl:e= .returned (.pointer none):=O;have p:Hid (d6 S (n+1) d m=false):=(by show d6 S (n+1) d m=false;rw[T.o,v.o,qF,hfd];rfl);go_wp2_with (go_at_call 157;refine(AX _).V ?_;rintro e w2 ⟨rfl,rfl⟩;unfold d5)
     rw[p.o]
     exact⟨rfl,eH.no I⟩
    |some f=>
     have⟨g,hg,M⟩:=s.yes _ _ hfd;rw[hg]at O;obtain⟨h,j,s,rfl,q,L,a,l⟩:=O;have VR:=(fD hfd).1;have J:Hid (qF S (d6 S n) d (m.fs.take i) x=(kx g.riv g.f.num (m.fs.take i)&&fG S (d6 S n) f x.2)):=(by show qF S (d6 S n) d (m.fs.take i) x=_;unfold qF;rw[hfd,M.riv,M.eq,VR]);have⟨z,O,⟨s,V,⟨e4,q⟩,Ws⟩,_,_⟩:=a.enc;have hn:=a.n;have z:=a.riv.O (w':=w3.drew) λb _ q=>t.drew.block b q
     have⟨P,Q,C⟩:=iB z.1;rw[C]at z;have Wm:=Mb w3.drew (some r) c c m.fs cs i g.f.num (.slice P g.riv.length Q) g.riv (o.O λb _ q=>I.drew.block b q) (tH.G I.drew (aE _) N) Vv U z M.rlen;obtain⟨q,hq⟩:=Vu (kx g.riv g.f.num (m.fs.take i));rw[hq]at Wm J;have o:w3.heap[h]?=w2.heap[h]?:=t.block h L;have A:=(E.G Wl E.lt);have Wn:=y.G t y.lt
     have N:∀W:aw,W.heap[h]?=w3.heap[h]?->W.cell? (aj h j)=some (aa g.f.num)/\W.cell? (aj h (j+3))=some (.slice P g.riv.length Q)/\W.cell? (aj h (j+4))=some (.func (.func s) #[] V.toArray):=λW u=>by
      have y:=l W (u.J o) 0 _ rfl;have z:=l W (u.J o) 3 _ rfl;have U:=l W (u.J o) 4 _ rfl;rw[hn]at y;rw[C]at z;rw[e4]at U;exact⟨y,z,U⟩
     have U:h<w3.heap.size:=aI L t.size;clear hq hg hfd VR HF l a e4 C hn;have a:(i:Int)<=(c:Int):=Vv;go_upto_region 7 with(go_at_call 157;refine(AW _).V ?_;rintro e w2 ⟨rfl,rfl⟩)
     have a:=N w3.drew rfl
     have u:w3.drew.cell? (aj (w.heap.size+1) 0)=some (.slice (some r) m.fs.length c)/\w3.drew.cell? (aj h j)=some (aa g.f.num)/\w3.drew.cell? (aj h (j+3))=some (.slice P g.riv.length Q):=
      ⟨A.drew.cell 0,a.1,a.2.1⟩
     go_region_held2 (λW=>W.cell? (aj (w.heap.size+1) 0)=some (.slice (some r) m.fs.length c)/\W.cell? (aj h j)=some (aa g.f.num)/\W.cell? (aj h (j+3))=some (.slice P g.riv.length Q))
      (first|exact u|omega)
      (first
       |(
         go_at_call 158;refine Wm.V ?_;intro e o u;rcases u.part with⟨rfl,rfl,l⟩|⟨rfl,y,z,rfl,l⟩;rotate_left;.have C:=dW I.drew l;have p:Hid (d6 S (n+1) d m=false):=(by show d6 S (n+1) d m=false;rw[T.o,v.o,J.o];rfl);unfold d5;go_wp2;rw[p.o];exact⟨rfl,eH.no C⟩
         have a:o.cell? (aj (w.heap.size+1) 0)=some (.slice (some r) m.fs.length c)/\o.cell? (aj h j)=some (aa g.f.num)/\o.cell? (aj h (j+3))=some (.slice P g.riv.length Q):=⟨(A.drew.G l A.drew.lt).cell 0,(N o (l.block h U)).1,(N o (l.block h U)).2.1⟩))
     have C:=dW I.drew l;have P:=dW Wl.drew l;have c:ak w2 o:=dW t.drew l;have g:=Wn.G (w:=w3.drew) l Wn.lt;have a:=F.on (eh C F.le);have I:=VO.on (eh C F.le);have w:=O.mV (.O (w':=o) λb q r=>c.block b r) λ_ _ q=>q
     have t:=Ws S d f n o (λb q r=>c.block b r) M (λQ F=>(a.on (eh F a.le)).u) (λA=>S2 ih a I M w A) o.drew Z (.slice G x.2.length H) x.2 k deep (Below.refl _ _).drew (pS.G C.drew (aE _) p1) Wv Vv;obtain⟨r,a⟩:=Vu (fG S (d6 S n) f x.2);rw[a]at t J;clear a k3 k4 k5 k6 Ws O w;have f:h<o.heap.size:=aI L c.size;have b:=N o.drew (l.block h U);go_upto_region 8 with fail
     have c:o.drew.cell? (aj h (j+4))=some (.func (.func s) #[] V.toArray)/\o.drew.cell? (aj vb 1)=some (.slice G x.2.length H):=⟨b.2.2,g.drew.cell 1⟩
     go_region_held2 (λW=>W.cell? (aj h (j+4))=some (.func (.func s) #[] V.toArray)/\W.cell? (aj vb 1)=some (.slice G x.2.length H))
      (first|exact c|omega)
      (first
       |(
         refine t.V ?_;intro e b a;rcases a.part with⟨rfl,rfl,L⟩|⟨rfl,y,z,rfl,L⟩;rotate_left;.have a:=dW C.drew L;have p:Hid (d6 S (n+1) d m=false):=(by show d6 S (n+1) d m=false;rw[T.o,v.o,J.o];rfl);unfold d5;go_wp2;rw[p.o];exact⟨rfl,eH.no a⟩
         have a:b.cell? (aj h (j+4))=some (.func (.func s) #[] V.toArray)/\b.cell? (aj vb 1)=some (.slice G x.2.length H):=⟨(N b ((L.block h f).J (l.block h U))).2.2,(g.drew.G L g.drew.lt).cell 1⟩))
     have a:Hid (gX S (d6 S n) d (m.fs.take (i+1)) (m.fs.drop (i+1))=X):=(by show _=X;rw[v.o,J.o];rfl);go_wp2;go_roundw
     case rel=>exact⟨i+1,by go_num,Vv,a,dW P.drew L⟩
     case measure=>simp[intOf];omega
   .obtain rfl:i=m.fs.length:=Vv;have p:Hid (d6 S (n+1) d m=Y):=(by show d6 S (n+1) d m=Y;rw[T.o,<-HI.o,cD];rfl);have VX:=K.G R K.lt;have a:=E.G R E.lt;have b:=HU.o wr D VX;have⟨k3,k4⟩:=a.I;go_wp2_with fail;refine b.V ?_;intro e o u;rcases u.part with⟨rfl,rfl,l⟩|⟨rfl,y,z,rfl,l⟩;.go_wp2;go_end0;rw[p.o];exact eH.ok (dW D l)
    .unfold d5;go_wp2;rw[p.o];exact⟨rfl,eH.no (dW D l)⟩
end
def Rs (S:eF)(mp pm:an)(B n:Nat):Prop:=
 ∀(w:aw) (Z:ax) (v:Value) (m:PM) (d:MT) (pb:Nat) (gs:List GF) (k:Nat),tz w B S mp->nT w (λb=>b<B) S mp pm->iP w (λb=>b<B) mp pm gs pb->lJ S mp d gs->NQ d->gV k w Z v m->pi k m->d6 S n d m=true->(eI S n d m).length<=2^47->
  Vq 104 #[ah pb,.agg #[v,ag m.unk]] w (ip (eI S n d m) w)
def S3 (S:eF)(mp pm:an)(B n:Nat):Prop:=
 ∀(w:aw) (Z:ax) (v:Value) (m:PM) (d:MT) (pb:Nat) (gs:List GF) (k N b:Nat) (l:ap),tz w B S mp->nT w (λb=>b<B) S mp pm->iP w (λb=>b<B) mp pm gs pb->lJ S mp d gs->NQ d->gV k w Z v m->(∀i,Z i->i<N)->B<=N->N<=w.heap.size->pi k m->d6 S n d m=true->fJ w N b (eG b) l->l.length+(eI S n d m).length<=2^47->
  Vq 99 #[ah pb,.agg #[v,ag m.unk],eG b] w (ja N b l (eI S n d m) w)
section
variable {w:aw} {B n:Nat} {S:eF} {mp pm:an} {d:MT} {f:fw} {g:GF} {x:sD}
def Ta (hN:Ew S)(ih:Rs S mp pm B n)(cx:tz w B S mp)(VM:nT w (λb=>b<B) S mp pm)(fg:FG S mp d f g)(hnm:0<=f.num/\f.num<=536870911)(VK:nI w (λb=>b<B) mp (mr w (λb=>b<B) mp pm) (je w (λb=>b<B) mp pm) g x):
  ∃cf VI,Me x.c5 cf VI/\∀N,B<=N->N<=w.heap.size->O6 (kN S (eI S n) f) (eE S (d6 S n) f) N cf VI w:=by
 have⟨F,e,_,⟨cf,VI,l,o⟩,_⟩:=VK.enc;refine⟨cf,VI,l,λN r C=>o S d f n N w (λ_ _ _=>rfl) (λb q _=>Vv) C fg hnm λh=> ?_⟩;obtain⟨t,p,j,c,rfl,D,E⟩:=CB VM fg e h;refine⟨t,c,λi Z v m k y s u A z=> ?_⟩;have a:=eh y r;exact ih i Z v m t p j k (cx.on a) (VM.on a) (D.on a) E (uX hN c) s u A z
def Tb (hN:Ew S)(ih:Rs S mp pm B n)(ih2:S3 S mp pm B n)(cx:tz w B S mp)(VM:nT w (λb=>b<B) S mp pm)(fg:FG S mp d f g)(hnm:0<=f.num/\f.num<=536870911)(VK:nI w (λb=>b<B) mp (mr w (λb=>b<B) mp pm) (je w (λb=>b<B) mp pm) g x):
  ∃cf VI,Me x.c6 cf VI/\∀N,B<=N->N<=w.heap.size->TB (kN S (eI S n) f) (eE S (d6 S n) f) N cf VI w:=by
 have⟨I,A,_,_,⟨cf,VI,E,F⟩⟩:=VK.enc;refine⟨cf,VI,E,λN h u=>F S d f n N w (λ_ _ _=>rfl) (λb q _=>Vv) u fg hnm λC=> ?_⟩;obtain⟨t,p,s,r,rfl,y,z⟩:=CB VM fg A C;refine⟨t,r,λe Z v m k c i j o l=> ?_,λe Z v m k b H c i G j o D l=> ?_⟩;.have a:=eh c h;exact ih e Z v m t p s k (cx.on a) (VM.on a) (y.on a) z (uX hN r) i j o l
 .have a:=eh c h;exact ih2 e Z v m t p s k N b H (cx.on a) (VM.on a) (y.on a) z (uX hN r) i G h (aM u c.size) j o D l
end
def yT {S:eF}{mp pm:an}{B:Nat}(hN:Ew S):∀n,Rs S mp pm B n:=by
 intro n
 induction n with
 |zero=>
  intro w Z v m d pb gs k y T Y E VT L hO z
  cases z
 |succ n ih=>
  intro w Z v m d pb gs k y T Y E VT L hO z F
  cases k with
  |zero=>exact L.elim
  |succ k=>
  obtain⟨cs,hr,V9⟩:=L;obtain⟨a,c,rfl⟩:=hr.form;obtain⟨Wv,Ww,Wb⟩:=hO;rw[d6,aQ]at z;have hX:=λx h=>yE (x:=x) z.1 h
  have⟨B0,K1⟩:=ec w #[.slice a m.fs.length c,ag m.unk] 49;rw[eI]at F;unfold ip;rw[eI];rw[aN]at F⊢;rw[show m.unk.data.toList.length=m.unk.size by simp]at F⊢
  have HC:Hid (∀(o W:aw) (x:PF) (f:fw) (g:GF) (p:sD) (v:Value),ak w o->Below o.heap.size o W->x∈m.fs->ed d.fs x.1=some f->FG S mp d f g->nI o (λb=>b<B) mp (mr o (λb=>b<B) mp pm) (je o (λb=>b<B) mp pm) g p->pS (gV k w Z) w Z v x.2->∃u s,Me p.c5 u s/\Vq u (v::s).toArray W (ip (kj S (eI S n) d x) W)):=λo W x f g p v J r h q K t M=>by
   have⟨f',q1,q2⟩:=hX x h;obtain rfl:f=f':=by grind
   have hb:kj S (eI S n) d x=kN S (eI S n) f x.2:=by unfold kj;rw[q]
   have Wf:(kj S (eI S n) d x).length<=2^47:=aM (wZ h) Vv;rw[hb]at Wf⊢;have X:=eh J y.le;have⟨u,s,h1,h2⟩:=Ta hN ih (y.on X) (T.on X) K (VT _ _ q) t;exact⟨u,s,h1,h2 o.heap.size (aM y.le J.size) (aE _) W Z v x.2 k r (pS.G (dW J r) (aE _) M) (Wb x h) (λv M=>yF q2 M) Wf⟩
  have HT:Hid (∀i,((m.fs.take i).flatMap (kj S (eI S n) d)).length+m.unk.size<=2^47):=λi=>by
   have:=iX (g:=kj S (eI S n) d) (l:=m.fs) i;omega
  generalize kj S (eI S n) d=bx at*;clear F z;have⟨k1,k2⟩:=K1.I;go_enter func104,ntmps104;go_wp2;generalize w.alloc (am #[.slice a m.fs.length c,ag m.unk] 49)=w1 at*;go_loopw [5,7,14] (λsv _ N wr=>∃i:Nat,N=aa i/\i<=m.fs.length/\sv=aa (((m.fs.take i).flatMap bx).length+m.unk.size:Nat)/\ak w1 wr) (λ_ _ N _=>m.fs.length-(intOf N).toNat)
  case atStart=>exact⟨0,rfl,aP _,Vw,Below.refl _ _⟩
  case round=>
   obtain⟨i,rfl,hi,rfl,R⟩:=hrel;clear k1 k2;have A:=dW B0 R;by_cases hlt:i<m.fs.length
   .have⟨x,h⟩:=gx hlt;have⟨vv,p1,p2,p3⟩:=V9.get h;obtain⟨O,P,rfl⟩:=p1.form;obtain⟨g0,rfl,VU,V,I⟩:=hr.at Vv;have t0:=I wr (A.block _ V) _ _ p2;have t1:=lK (I wr (A.block _ V) _ _ p3);have⟨G,C⟩:=ec wr #[aa x.1,.slice O x.2.length P] 58;have Q:=dW A G;have Wm:=dW R G;have U:=aL h;have⟨f,q,_⟩:=hX x U;have⟨g,hg,K⟩:=E.yes _ _ q;have H:=tM _ (λb=>b<B) mp pm gs pb x.1 (Y.on (eh Q.drew y.le)) E.srt E.len;unfold Cz at H;rw[hg]at H;have HZ:=λW p r t=>HC.o _ W x f g p _ Q.drew r U q K t p1
    have hT:=HT.o (i+1);rw[gi h,aN]at hT;have HS:Hid (((m.fs.take (i+1)).flatMap bx).length+m.unk.size=((m.fs.take i).flatMap bx).length+m.unk.size+(bx x).length):=(by show((m.fs.take (i+1)).flatMap bx).length+m.unk.size=_;rw[gi h,aN];omega);have Wh:((m.fs.take i).flatMap bx).length+m.unk.size+(bx x).length<=2^47:=Vv;generalize((m.fs.take i).flatMap bx).length+m.unk.size=sz at*;have Wn:(i:Int)<(m.fs.length:Int):=Vv;have hsum:IntKind.i64.wrap ((sz:Int)+((bx x).length:Int))=(sz:Int)+((bx x).length:Int):=yG Vv Vv;clear I p2 p3 G h hg q hT;go_upto_region 5 with fail
    generalize wr.alloc (am #[aa x.1,.slice O x.2.length P] 58)=w2 at*;generalize wr.heap.size=vb at*;have r:w2.drew.cell? (aj vb 0)=some (aa x.1)/\w2.drew.cell? (aj vb 1)=some (.slice O x.2.length P):=⟨C.drew.cell 0,C.drew.cell 1⟩;obtain⟨r0,r1⟩:=r
    go_region_with
     (first
      |(
        go_at_call 141;refine H.V ?_;rintro e w3 ⟨⟨gb,j,p,rfl,Wx,Wd,t,hc⟩,D⟩;have⟨u,s,⟨e5,Wy⟩,HL⟩:=HZ w3 p D t;have c5:=hc w3 (D.block gb Wd) 5 _ rfl;rw[e5]at c5;have VY:=C.drew.G D C.drew.lt;have r3:=VY.cell 1
        simp only[cG,cp,cq]at r3)
      |(
        refine HL.V ?_
        rintro e w4 ⟨rfl,b4⟩))
    all_goals
     go_wp2;go_roundw
     case rel=>exact⟨i+1,by go_num,Vv,by rw[HS.o,dG],dW Wm.drew (dW D b4)⟩
     case measure=>simp[intOf];omega
   .obtain rfl:i=m.fs.length:=Vv;rw[bB];go_wp2;go_ret;exact⟨rfl,A⟩
def Gn {S:eF}{mp pm:an}{B:Nat}(hN:Ew S):∀n,S3 S mp pm B n:=by
 intro n
 induction n with
 |zero=>
  intro w Z v m d pb gs k N b l cx VM VS L VT hM O J K hO E
  cases E
 |succ n ih=>
  intro w Z v m d pb gs k N b l cx VM VS L VT hM O J K hO E t hl
  cases k with
  |zero=>exact hM.elim
  |succ k=>
  obtain⟨cs,hr,V9⟩:=hM;obtain⟨a,c,rfl⟩:=hr.form;obtain⟨Wv,Ww,Wb⟩:=hO;rw[d6,aQ]at E;have hX:=λx o=>yE (x:=x) E.1 o
  have⟨B0,K1⟩:=ec w #[.slice a m.fs.length c,ag m.unk] 49;have p:=Wr.of B0 K;have H:=t.on B0;rw[eI]at hl⊢;rw[aN]at hl
  have HC:Hid (∀(p W:aw) (x:PF) (f:fw) (g:GF) (q:sD) (v:Value) (F:ap),Below N w p->Below N p W->x∈m.fs->ed d.fs x.1=some f->FG S mp d f g->nI p (λb=>b<B) mp (mr p (λb=>b<B) mp pm) (je p (λb=>b<B) mp pm) g q->pS (gV k w Z) w Z v x.2->F.length+(kj S (eI S n) d x).length<=2^47->∃A y,Me q.c6 A y/\(fJ W N b (eG b) F->Vq A (v::eG b::y).toArray W (ja N b F (kj S (eI S n) d x) W))):=λp W x f g q v F H t o r fg z hv Wl=>by
   have⟨f',q1,u⟩:=hX x o;obtain rfl:f=f':=by grind
   have hb:kj S (eI S n) d x=kN S (eI S n) f x.2:=by unfold kj;rw[r]
   rw[hb]at Wl⊢;have VR:=eh H J;have⟨A,y,C,D⟩:=Tb hN (yT hN n) ih (cx.on VR) (VM.on VR) fg (VT _ _ r) z;exact⟨A,y,C,λhw=>D N J (aM K H.size) W Z v x.2 k b F t (hv.under (H.J t) O) O (Wb x o) (λv hv=>yF u hv) hw Wl⟩
  have HT:Hid (∀i,l.length+((m.fs.take i).flatMap (kj S (eI S n) d)).length+m.unk.data.toList.length<=2^47):=λi=>by
   have:=iX (g:=kj S (eI S n) d) (l:=m.fs) i;omega
  generalize kj S (eI S n) d=bx at*;clear hl E;have⟨k1,k2⟩:=K1.I;go_enter func99,ntmps99;go_wp2;generalize w.alloc (am #[.slice a m.fs.length c,ag m.unk] 49)=w1 at*;go_loopw [7,11] (λ_ iv wr=>∃i:Nat,iv=aa i/\i<=m.fs.length/\fJ wr N b (eG b) (l++(m.fs.take i).flatMap bx)/\Wr N w1 wr) (λ_ iv _=>m.fs.length-(intOf iv).toNat)
  case atStart=>exact⟨0,rfl,aP _,by grind,Wr.refl _ _⟩
  case round=>
   obtain⟨i,rfl,hi,X,Y⟩:=hrel;clear k1 k2;have V:=p.J Y;have hsz:=V.bel.size;by_cases hlt:i<m.fs.length
   .have⟨x,o⟩:=gx hlt;have⟨vv,p1,p2,p3⟩:=V9.get o;obtain⟨va,vc,rfl⟩:=p1.form;obtain⟨g0,rfl,VU,VQ,R⟩:=hr.at Vv;have U:=V.bel.block _ (O _ VU);have t0:=R wr U _ _ p2;have t1:=lK (R wr U _ _ p3);have⟨B1,G⟩:=ec wr #[aa x.1,.slice va x.2.length vc] 58;have I:=Y.J (Wr.of B1 Vv);have Q:=p.J I;have Wo:=X.on B1.drew;have VO:=aL o;have⟨f,r,_⟩:=hX x VO;have⟨g,hg,fg⟩:=L.yes _ _ r;have P:=tM _ (λb=>b<B) mp pm gs pb x.1 (VS.on (eh Q.bel.drew J)) L.srt L.len;unfold Cz at P;rw[hg]at P;have M:=HT.o (i+1);rw[gi o,aN]at M;have Wh:(l++(m.fs.take i).flatMap bx).length+(bx x).length<=2^47:=by grind
    have HZ:=λW q t z=>HC.o _ W x f g q _ _ Q.bel.drew t VO r fg z p1 Wh
    have HS:Hid (l++(m.fs.take (i+1)).flatMap bx=l++(m.fs.take i).flatMap bx++bx x):=(by show l++(m.fs.take (i+1)).flatMap bx=_;rw[gi o,bj]);generalize l++(m.fs.take i).flatMap bx=li at*;have Wn:(i:Int)<(m.fs.length:Int):=Vv;have Wp:=Q.bel.size;clear R p2 p3 o hg r M U;go_upto_region 4 with fail
    generalize wr.alloc (am #[aa x.1,.slice va x.2.length vc] 58)=w2 at*;generalize wr.heap.size=vb at*;have hC:w2.drew.cell? (aj vb 0)=some (aa x.1)/\w2.drew.cell? (aj vb 1)=some (.slice va x.2.length vc):=⟨G.drew.cell 0,G.drew.cell 1⟩;obtain⟨r0,r1⟩:=hC;have Wk:N<=w2.drew.heap.size:=aM K Wp
    go_region_with
     (first
      |(
        go_at_call 141;refine P.V ?_;rintro e w3 ⟨⟨gb,j,q,rfl,Wx,Wd,z,hc⟩,s⟩;have⟨A,y,⟨e6,Wy⟩,HL⟩:=HZ w3 q (eh s Wk) z;have c6:=hc w3 (s.block gb Wd) 6 _ rfl;rw[e6]at c6;have VY:=G.drew.G s G.drew.lt;have Wq:=HL (Wo.on s);have r3:=VY.cell 1
        simp only[cG,cp,cq]at r3)
      |(
        refine Wq.V ?_;rintro e w4 ⟨rfl,q1,u⟩
        have Ws:Wr N w1 w4:=⟨(I.bel.drew.J (eh s Wk)).J u.bel,λi cs T C D h=>u.fr i cs T C D ((I.fr i cs T C D h).drew.G s (I.fr i cs T C D h).lt)⟩))
    all_goals
     go_wp2;go_roundw
     case rel=>exact⟨i+1,by go_num,Vv,by rw[HS.o];exact q1,Ws⟩
     case measure=>simp[intOf];omega
   .obtain rfl:i=m.fs.length:=Vv;have M:=HT.o m.fs.length;rw[bB]at X M;have K2:=Y.fr _ _ _ Vy Vy K1;have⟨k3,k4⟩:=K2.I;have HR:=uU m.unk X (by grind) Vv;go_wp2_with fail;refine HR.V ?_;rintro e w3 ⟨rfl,q1,u⟩;go_wp2;go_end0;exact⟨rfl,by grind,V.J u⟩
section
variable {S:eF} {mp pm:an} {B:Nat}
def yU (hN:Ew S)(w:aw)(Z:ax)(v:Value)(m:PM)(d:MT)(pb:Nat)(gs:List GF)(k:Nat)(f:tz w B S mp)(h:nT w (λb=>b<B) S mp pm)(i:iP w (λb=>b<B) mp pm gs pb)(r:lJ S mp d gs)(q:NQ d)(p:gV k w Z v m)(s:pi k m)(E:(eI S 8 d m).length<=2^47):
  Calls prog 59 #[ah pb,.agg #[v,ag m.unk]] w (kX (d6 S 8 d m) (aa (eI S 8 d m).length) w):=by
 obtain⟨a,c,rfl⟩:=p.form;have⟨g,n⟩:=ec w #[.slice a m.fs.length c,ag m.unk] 49;have x:=Mw (S:=S) (mp:=mp) (pm:=pm) (B:=B) 8 _ Z _ m d pb gs 1 k (f.on (eh g f.le)) (h.on (eh g f.le)) (i.on (eh g f.le)) r (p.G g (aE _)) s rfl
 have A:Hid (∀W,ak w W->d6 S 8 d m=true->Vq 104 #[ah pb,.agg #[.slice a m.fs.length c,ag m.unk]] W (ip (eI S 8 d m) W)):=λW l G=>
  yT hN 8 W Z _ m d pb gs k (f.on (eh l f.le)) (h.on (eh l f.le)) (i.on (eh l f.le)) r q (p.G l (aE _)) s G E
 generalize eI S 8 d m=y at*;generalize d6 S 8 d m=ok at*;have⟨t,u⟩:=n.I;go_in
 go_wp2_with fail;refine x.V ?_;intro e w2 F;generalize w.alloc (am #[.slice a m.fs.length c,ag m.unk] 49)=w1 at*;rcases F.part with⟨rfl,rfl,j⟩|⟨rfl,y,z,rfl,j⟩;.have C:=n.G j n.lt;clear t u;have⟨t,u⟩:=C.I;have o:=dW g j;go_wp2_with fail;refine(A.o w2 o trivial).V ?_;rintro e w3 ⟨rfl,D⟩;go_wp2;go_ret;exact kX.ok (dW o D)
 .unfold d5;go_wp2;exact⟨rfl,kX.no (dW g j)⟩
def Mx (hN:Ew S)(w:aw)(Z:ax)(v:Value)(m:PM)(d:MT)(pb:Nat)(gs:List GF)(k:Nat)(f:tz w B S mp)(n:nT w (λb=>b<B) S mp pm)(p:iP w (λb=>b<B) mp pm gs pb)(x:lJ S mp d gs)(j:NQ d)(s:gV k w Z v m)(A:pi k m)(t:(eI S 8 d m).length<=2^47):
  Calls prog 55 #[ah pb,.agg #[v,ag m.unk]] w (kX (d6 S 8 d m) (ag ⟨(eI S 8 d m).toArray⟩) w):=by
 obtain⟨a,c,rfl⟩:=s.form;have⟨g,o⟩:=ec w #[.slice a m.fs.length c,ag m.unk] 49;have G:=yU hN _ Z _ m d pb gs k (f.on (eh g f.le)) (n.on (eh g f.le)) (p.on (eh g f.le)) x j (s.G g (aE _)) A t;have J:=s.V (Y:=λb=>b<w.heap.size) λ_ _ q=>q
 have H:Hid (∀W N b,ak w W->w.heap.size<=N->N<=W.heap.size->d6 S 8 d m=true->fJ W N b (eG b) []->Vq 99 #[ah pb,.agg #[.slice a m.fs.length c,ag m.unk],eG b] W (ja N b [] (eI S 8 d m) W)):=λW N b l O K Q X=>
  Gn hN 8 W _ _ m d pb gs k N b [] (f.on (eh l f.le)) (n.on (eh l f.le)) (p.on (eh l f.le)) x j (J.G l (aE _)) (λi q=>Vv) (by have:=f.le;omega) K A Q X (by simpa using t)
 generalize eI S 8 d m=y at*;generalize d6 S 8 d m=ok at*;have⟨C,D⟩:=o.I;have R:w.heap.size+1=(w.alloc (am #[.slice a m.fs.length c,ag m.unk] 49)).heap.size:=Vw;go_in
 go_wp2_with fail;refine G.V ?_;intro e w2 P;generalize w.alloc (am #[.slice a m.fs.length c,ag m.unk] 49)=w1 at*;rcases P.part with⟨rfl,rfl,h⟩|⟨rfl,y,z,rfl,h⟩;.have T:=h.size;go_wp2_with fail;refine(vK (B:=w.heap.size+1) y.length t Vv).V ?_;rintro e w3 ⟨b,rfl,a,L,r⟩;have I:dZ w3 w.heap.size _ _:=(r.block _ Vv).J (o.G h o.lt);have U:=r.size;have u:ak w w3:=(dW g h).J (eh r Vv);clear C D;have⟨C,D⟩:=I.I;go_wp2_with fail;refine(H.o w3 (w.heap.size+1) b u Vv Vv trivial L).V ?_;rintro e a ⟨rfl,E,F⟩;rw[aX]at E;have V:=F.bel.size;go_wp2_with fail;refine(AO E Vv).V ?_;rintro e a ⟨rfl,M⟩;go_wp2;go_ret;exact kX.ok (u.J (eh (F.bel.J M) Vv))
 .unfold d5;go_wp2;exact⟨rfl,kX.no (dW g h)⟩
end
end
end Go.Proofs.YtfebdimolnobaaaGreatDoor
