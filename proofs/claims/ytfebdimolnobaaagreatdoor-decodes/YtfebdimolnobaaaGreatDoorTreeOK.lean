import Derived.Test.YtfebdimolnobaaaGreatDoorWkA
set_option maxRecDepth 100000
set_option maxHeartbeats 8000000
set_option linter.all false
namespace Go.Proofs.YtfebdimolnobaaaGreatDoor
open Go.RowKit Go.Proofs.Tryz
section
variable {ws:List W} {i j:Nat} {form:Int} {f:ek} {α:Type} {stop:Nat->Bool} {p:ft}
structure tI (ws:List W):Prop where
 few:ws.length<=2001
 size:∀(k:Nat) (x:W),ws[k]?=some x->x.1.size<=2000
 num:∀(k:Nat) (x:W),ws[k]?=some x->dN x.1=2->jL x.1
def Le {α:Type}(ws:List W)(r:mX α):Prop:=∀a j,r= .ok (a,j)->j<=ws.length
theorem nZ (ws:List W)(s:an)(i:Nat):Le ws (fU ws s i):=λa j h=>by
 have⟨b,x,c,_⟩:=eA _ _ _ _ _ h;grind
theorem Au (H:tI ws){nm:W×W}(h:jx ws i= .ok (nm,j)):jL nm.2.1/\i+4<=j/\j<=ws.length:=by
 unfold jx at h;have⟨_,m,d,h⟩:=dQ h;have⟨_,n,e,h⟩:=dQ h;have⟨_,o,f,h⟩:=dQ h;have⟨_,p,b,h⟩:=dQ h;have g:=(gJ _ _ _ _ _ d).1;have k:=(eA _ _ _ _ _ e).1;have a:=gJ _ _ _ _ _ f;have l:=(eA _ _ _ _ _ b).1;have c:=nZ _ _ _ _ _ b;simp at h;obtain⟨rfl,rfl⟩:=h;exact⟨H.num _ _ a.2.1 a.2.2,Te,c⟩
theorem ob (H:tI ws)(h:fF ws form i= .ok (f,j)):jL f.num.1/\i+5<=j/\j<=ws.length:=by
 unfold fF at h;have⟨t,e,a,h⟩:=dQ h;have⟨nm,g,b,h⟩:=dQ h;have c:=(ke _ _ _ _ a).1;have d:=Au H b;grind
theorem Mz (H:tI ws)(h:lS ws i= .ok (f,j)):jL f.num.1/\i+5<=j/\j<=ws.length:=by
 unfold lS at h;have⟨_,s,a,h⟩:=dQ h;have⟨_,t,b,h⟩:=dQ h;have⟨_,u,c,h⟩:=dQ h;have⟨_,v,d,h⟩:=dQ h;have⟨_,w,e,h⟩:=dQ h;have⟨_,x,g,h⟩:=dQ h;have⟨_,y,k,h⟩:=dQ h;have l:=(eA _ _ _ _ _ a).1;have m:=(eA _ _ _ _ _ b).1;have n:=(ke _ _ _ _ c).1;have o:=(eA _ _ _ _ _ d).1;have p:=(ke _ _ _ _ e).1;have q:=(eA _ _ _ _ _ g).1;have r:=Au H k;grind
theorem pN {p:Nat->mX α}{Q:α->Prop}{wt:α->Nat}{N:Nat}(b:∀i a j,p i= .ok (a,j)->Q a/\i+wt a<=j/\j<=N):
  ∀n i l j,i<=N->fC stop p n i= .ok (l,j)->(∀a∈l,Q a)/\i+(l.map wt).sum<=j/\j<=N
 |0,i,l,j,hi,h=>by simp[fC]at h;simp_all
 |n+1,i,l,j,hi,h=>by
  unfold fC at h;split at h;.simp_all
  .have⟨a,f,d,h⟩:=dQ h;have⟨k,g,e,h⟩:=dQ h;have c:=b _ _ _ d;have m:=pN b n f k g c.2.2 e;grind
theorem Av (l:List α):(l.map λ_=>1).sum=l.length:=by
 induction l with
 |nil=>rfl
 |cons a l ih=>(simp;omega)
theorem IS (ps:List ft):(ps.map λp=>1+p.fields.length).sum=lk ps:=by
 induction ps with
 |nil=>rfl
 |cons p ps ih=>simp only[cu,List.sum_cons,ih,lk]
def Aw (p:ft):Prop:=∀f∈p.fields,jL f.num.1
theorem G8 (H:tI ws)(h:ie ws i= .ok (p,j)):Aw p/\i+(1+p.fields.length)<=j/\j<=ws.length:=by
 unfold ie at h;have⟨_,A,m,h⟩:=dQ h;have⟨_,B,n,h⟩:=dQ h;have⟨_,C,o,h⟩:=dQ h;have⟨f,D,q,h⟩:=dQ h;have⟨l,E,r,h⟩:=dQ h;have⟨_,F,b,h⟩:=dQ h;have⟨I,G,s,t⟩:=dQ r;have u:=(eA _ _ _ _ _ m).1;have v:=(gJ _ _ _ _ _ n).1;have w:=(eA _ _ _ _ _ o).1;have c:=ob H q;have d:=pN (Q:=λf=>jL f.num.1) (wt:=λ_=>1) (N:=ws.length) (λi a j h=>by have:=ob H h;grind) _ _ _ _ c.2.2 s;have y:=(eA _ _ _ _ _ b).1;have e:=nZ _ _ _ _ _ b;have g:=Except.ok.inj t;have k:=Except.ok.inj h;cases k;cases g;rw[Av]at d;refine⟨?_,?_,e⟩;.intro x z;grind
 (simp;omega)
theorem IT (H:tI ws)(h:jg ws i= .ok (p,j)):Aw p/\i+(1+p.fields.length)<=j/\j<=ws.length:=by
 have a:∀(k:Nat) (r:mX ek),i<=k->(∀f j,r= .ok (f,j)->jL f.num.1/\k+5<=j/\j<=ws.length)->kN r= .ok (p,j)->Aw p/\i+(1+p.fields.length)<=j/\j<=ws.length:=(by intro k r d c h;have⟨f,g,b,h⟩:=dQ h;have:=c _ _ b;simp at h;obtain⟨rfl,rfl⟩:=h;refine⟨λx e=> ?_,by grind,this.2.2⟩;simp_all);unfold jg at h;split at h;.exact G8 H h
 .split at h;.exact a i _ (aD _) (λf j h=>Mz H h) h
  .split at h;.exact a (i+1) _ (bC _) (λf j h=>ob H h) h
   .split at h;.exact a (i+1) _ (bC _) (λf j h=>ob H h) h
    .exact a i _ (aD _) (λf j h=>ob H h) h
theorem G9 (H:tI ws){b:dS}(h:ir ws i= .ok (b,j)):oU b/\i+1<=j/\j<=ws.length:=by
 have t:=H.few;unfold ir at h;split at h;.unfold j9 at h;have⟨_,u,m,h⟩:=dQ h;have⟨nm,w,n,h⟩:=dQ h;have⟨_,x,d,h⟩:=dQ h;have⟨l,y,o,h⟩:=dQ h;have⟨_,z,e,h⟩:=dQ h;have q:=(eA _ _ _ _ _ m).1;have f:=gJ _ _ _ _ _ n;have r:=(eA _ _ _ _ _ d).1;have g:=nZ _ _ _ _ _ d;have c:=pN (Q:=λv:W×W=>jL v.2.1) (wt:=λ_=>1) (N:=ws.length) (λi a j h=>by have:=Au H h;grind) _ _ _ _ g o;have s:=(eA _ _ _ _ _ e).1;have k:=nZ _ _ _ _ _ e;simp at h;obtain⟨rfl,rfl⟩:=h;rw[Av]at c;exact⟨⟨H.size _ _ f.2.1,by(simp;omega),c.1,by simp[lk],Tf⟩,Te,k⟩
 .unfold gz at h;have⟨_,u,m,h⟩:=dQ h;have⟨nm,w,n,h⟩:=dQ h;have⟨_,x,d,h⟩:=dQ h;have⟨l,y,o,h⟩:=dQ h;have⟨_,z,e,h⟩:=dQ h;have q:=(eA _ _ _ _ _ m).1;have f:=gJ _ _ _ _ _ n;have r:=(eA _ _ _ _ _ d).1;have g:=nZ _ _ _ _ _ d;have c:=pN (Q:=Aw) (wt:=λp=>1+p.fields.length) (N:=ws.length) (λi a j h=>IT H h) _ _ _ _ g o;have s:=(eA _ _ _ _ _ e).1;have k:=nZ _ _ _ _ _ e;simp at h;obtain⟨rfl,rfl⟩:=h;rw[IS]at c;exact⟨⟨H.size _ _ f.2.1,Tf,Tf,by(simp;omega),c.1⟩,Te,k⟩
theorem wI (H:tI ws){bs:List dS}(h:nY ws= .ok (bs,j)):(∀b∈bs,oU b)/\bs.length<=2001:=by
 have c:=H.few;have:=pN (Q:=oU) (wt:=λ_=>1) (N:=ws.length) (λi a j h=>G9 H h) _ _ _ _ (aM _) h;rw[Av]at this;grind
end
structure et (w:aw)(S:ax)(w':aw)(S':ax):Prop where
 os:w'.os=w.os
 tape:w'.tape=w.tape
 output:w'.output=w.output
 size:w.heap.size<=w'.heap.size
 block:∀b,b<w.heap.size->¬S b->w'.heap[b]?=w.heap[b]?
 grow:∀b,S' b->S b\/w.heap.size<=b
def et.refl (w:aw)(S:ax):et w S w S:=⟨rfl,rfl,rfl,aD _,λ_ _ _=>rfl,λ_ h=> .inl h⟩
def et.J {a b c:aw}{S T U:ax}(h:et a S b T)(k:et b T c U):et a S c U:=
 ⟨k.os.J h.os,k.tape.J h.tape,k.output.J h.output,aL h.size k.size,
  λi d e=>(k.block i (aI d h.size) (λf=>(h.grow i f).elim e (λx=>Te))).J (h.block i d e),
  λi d=>(k.grow i d).elim (λx=>h.grow i x) (λx=> .inr (aL h.size x))⟩
def et.G {a b c:aw}{S T:ax}(h:et a S b T)(k:Below b.heap.size b c):et a S c T:=
 h.J ⟨k.os,k.tape,k.output,k.size,λi d _=>k.block i d,λ_ x=> .inl x⟩
def et.kept {a b c:aw}{S T:ax}{bs:aB}(h:et a S b T)(k:dY bs b c)(f:∀x∈bs,T x):et a S c T:=
 h.J ⟨k.os,k.tape,k.output,k.size,λi d e=>k.block i d (λg=>e (f i g)),λ_ x=> .inl x⟩
def et.alloc {a b:aw}{S T:ax}(h:et a S b T)(o:Obj):et a S (b.alloc o) T:=h.G ((Below.refl _ _).alloc (aD _) o)
def et.drew {a b:aw}{S T:ax}(h:et a S b T):et a S b.drew T:=h.G (Below.refl _ _).drew
def et.drewN {a b:aw}{S T:ax}(h:et a S b T)(n:Nat):et a S (b.drewN n) T:=h.G (gN (Below.refl _ _) n)
def et.more {a b:aw}{S T:ax}(h:et a S b T)(E:ax):et a (λx=>S x\/E x) b (λx=>T x\/E x):=
 ⟨h.os,h.tape,h.output,h.size,λi c d=>h.block i c (λx=>d (.inl x)),λi c=>c.elim (λx=>(h.grow i x).elim (λy=> .inl (.inl y)) .inr) (λx=> .inl (.inr x))⟩
def et.to_below {a b:aw}{S T:ax}{n:Nat}(h:et a S b T)(e:n<=a.heap.size)(c:∀x,S x->n<=x):Below n a b:=
 ⟨h.os,h.tape,h.output,h.size,λi d=>h.block i Te (λx=>by have:=c i x;omega)⟩
def dP.step {w w1:aw}{S T:ax}{b:Nat}{cs:aq}{ty:TypeId}(h:dP w b cs ty)(a:et w S w1 T)(c:¬S b):dP w1 b cs ty:=(a.block b h.lt c).J h
def et.not {w w1:aw}{S T:ax}{b:Nat}(a:et w S w1 T)(d:b<w.heap.size)(c:¬S b):¬T b:=λx=>(a.grow b x).elim c (λy=>Te)
def dP.ty {w:aw}{b:Nat}{cs cs':aq}{T T':TypeId}(h:dP w b cs T)(a:dP w b cs' T'):T=T':=by
 unfold dP at h a;rw[h]at a;injection a with a
 injection a
def eo {w:aw}{lo:Nat}{T:TypeId}{k n:Nat}{v:Value}{xs:ay}(h:w.ownsRow lo T k v n xs){b:Nat}(a:v.ownBlock=some b):∃cs,dP w b cs T:=by
 rcases h.2 with⟨rfl,_⟩|⟨g,d,c,rfl,_,e,_⟩;.cases a
 .simp[Value.ownBlock]at a;subst a;exact⟨c,e⟩
structure PS where
 i:Nat
 bad:Int
 wrong:Int
 used:List W
 names:aA
 msgs:List MT
 enums:aA
structure lB where
 sb:Nat
 wv:Value
 uv:Value
 nv:Value
 mv:Value
 ev:Value
 fz:ax
def lB.D (M:lB)(rb:Nat)(b:Nat):Prop:=b=rb\/b=M.sb\/M.uv.ownBlock=some b\/M.nv.ownBlock=some b\/M.mv.ownBlock=some b\/M.ev.ownBlock=some b\/M.fz b
structure fx (w:aw)(rb:Nat)(M:lB)(ws:List W)(p:PS):Prop where
 rd:dP w rb #[M.wv,aa p.i,aa p.bad,aa p.wrong,ag M.sb,M.uv,M.nv,ah] 100
 sc:dP w M.sb #[M.mv,M.ev] 98
 hw:w.ownsRow 0 102 2 M.wv ws.length (ws.flatMap Cy)
 hu:w.ownsRow 0 102 2 M.uv p.used.length (p.used.flatMap Cy)
 hn:w.ownsRow 0 9 1 M.nv p.names.length (eh p.names)
 he:w.ownsRow 0 9 1 M.ev p.enums.length (eh p.enums)
 hm:∃cs,w.ownsRow 0 111 2 M.mv p.msgs.length cs/\mE w M.fz cs p.msgs
 wu:∀b,M.wv.ownBlock=some b->M.uv.ownBlock≠some b
 ne:∀b,M.nv.ownBlock=some b->M.ev.ownBlock≠some b
 fzt:∀b,M.fz b->∃cs,dP w b cs 178
def fx.lt {w:aw}{rb:Nat}{M:lB}{ws:List W}{p:PS}(h:fx w rb M ws p){b:Nat}(a:M.D rb b):b<w.heap.size:=by
 rcases a with rfl|rfl|a|a|a|a|a;.exact h.rd.lt
 .exact h.sc.lt
 .exact(h.hu.lt b a).2
 .exact(h.hn.lt b a).2
 .have⟨cs,c,_⟩:=h.hm;exact(c.lt b a).2
 .exact(h.he.lt b a).2
 .have⟨cs,K⟩:=h.fzt b a;exact K.lt
def fx.O {w w':aw}{rb:Nat}{M:lB}{ws:List W}{p:PS}(h:fx w rb M ws p)(c:∀b,b<w.heap.size->M.D rb b\/M.wv.ownBlock=some b->w'.heap[b]?=w.heap[b]?):fx w' rb M ws p:=by
 refine⟨(c _ h.rd.lt (.inl (.inl rfl))).J h.rd,(c _ h.sc.lt (.inl (.inr (.inl rfl)))).J h.sc,dR h.hw λb a=>c b (h.hw.lt b a).2 (.inr a),
  dR h.hu λb a=>c b (h.hu.lt b a).2 (.inl (.inr (.inr (.inl a)))),dR h.hn λb a=>c b (h.hn.lt b a).2 (.inl (.inr (.inr (.inr (.inl a))))),
  dR h.he λb a=>c b (h.he.lt b a).2 (.inl (.inr (.inr (.inr (.inr (.inr (.inl a))))))),?_,h.wu,h.ne,λb a=> ?_⟩
 .have⟨cs,d,e⟩:=h.hm;exact⟨cs,dR d λb a=>c b (d.lt b a).2 (.inl (.inr (.inr (.inr (.inr (.inl a)))))),e.O λb a f=>c b f (.inl (.inr (.inr (.inr (.inr (.inr (.inr a)))))))⟩
 .have⟨cs,K⟩:=h.fzt b a;exact⟨cs,(c b K.lt (.inl (.inr (.inr (.inr (.inr (.inr (.inr a)))))))).J K⟩
def fx.G {w w':aw}{rb:Nat}{M:lB}{ws:List W}{p:PS}(h:fx w rb M ws p)(c:aj w w'):fx w' rb M ws p:=h.O λb a _=>c.block b a
def fx.alloc {w:aw}{rb:Nat}{M:lB}{ws:List W}{p:PS}(h:fx w rb M ws p)(o:Obj):fx (w.alloc o) rb M ws p:=h.G ((Below.refl _ _).alloc (aD _) o)
def fx.drew {w:aw}{rb:Nat}{M:lB}{ws:List W}{p:PS}(h:fx w rb M ws p):fx w.drew rb M ws p:=h.G (Below.refl _ _).drew
def fx.drewN {w:aw}{rb:Nat}{M:lB}{ws:List W}{p:PS}(h:fx w rb M ws p)(n:Nat):fx (w.drewN n) rb M ws p:=h.G (gN (Below.refl _ _) n)
def fx.turn {w w':aw}{rb:Nat}{M:lB}{ws:List W}{p:PS}(h:fx w rb M ws p)(m:dY [rb] w w'){i:Nat}{bad wrong:Int}
  (q:dP w' rb #[M.wv,aa i,aa bad,aa wrong,ag M.sb,M.uv,M.nv,ah] 100):fx w' rb M ws {p with i:=i,bad:=bad,wrong:=wrong}:=by
 have d:∀{b:Nat} {cs:aq} {T:TypeId},dP w b cs T->T≠100->w'.heap[b]?=w.heap[b]?:=fun{b cs T} K e=>m.block b K.lt (by
  intro j;rw[bn]at j;subst j
  exact e (K.ty h.rd))
 have a:∀{T:TypeId} {k n:Nat} {v:Value} {xs:ay},w.ownsRow 0 T k v n xs->T≠100->w'.ownsRow 0 T k v n xs:=fun{T k n v xs} g e=>dR g λb c=>by
  have⟨cs,K⟩:=eo g c;exact d K e
 refine⟨q,(d h.sc Th).J h.sc,a h.hw Th,a h.hu Th,a h.hn Th,a h.he Th,?_,h.wu,h.ne,λb c=> ?_⟩;.have⟨cs,o,l⟩:=h.hm;refine⟨cs,a o Th,l.O λb c _=> ?_⟩;have⟨f,K⟩:=h.fzt b c;exact d K Th
 .have⟨f,K⟩:=h.fzt b c;exact⟨f,(d K Th).J K⟩
def et.rb {w w':aw}{rb:Nat}{M:lB}(h:dY [rb] w w'):et w (M.D rb) w' (M.D rb):=(et.refl _ _).kept h (λx a=>by rw[bn]at a;exact .inl a)
def gh (ws:List W)(p:PS):W:=ws.getD p.i (⟨#[]⟩,0)
def fZ {ws:List W}{p:PS}(h:p.i<ws.length):ws[p.i]?=some (gh ws p):=by
 unfold gh;rw[cD,aP h];rfl
def gM (ws:List W)(so:Int)(s:au)(p:PS):W:=sW so s (gh ws p)
def fG (ws:List W)(so:Int)(s:au)(p:PS):PS:={p with i:=mA so s (gh ws p) p.i,bad:=mB so s (gh ws p) p.bad}
def sY (x:W)(p:PS):PS:={p with wrong:=fA p.wrong x.2}
def xq (x:W)(p:PS):PS:={p with wrong:=ko p.wrong x}
def tV (ws:List W)(s:au)(p:PS):Bool:=decide (p.bad<0)&&(gh ws p).1.toList==s.toList
structure jY (ws:List W):Prop where
 len:ws.length<=2001
 last:∀(k:Nat) (x:W),ws[k]?=some x->0<x.1.size->k+1<ws.length
 size:∀(k:Nat) (x:W),ws[k]?=some x->x.1.size<=2000
def Eu {so:Int}{s x:au}(h:gT so s x=true):0<x.size:=by
 rcases Nat.eq_zero_or_pos x.size with b|b
 .exfalso;have c:dN x=4:=by unfold dN;rw[dH b]
  have d:x.toList= []:=by have:=lY x;rw[b]at this;simpa using this
  unfold gT at h;split at h
  .rw[d]at h
   cases hs:s.toList with
   |nil=>rw[hs]at h;simp at h
   |cons a l=>rw[hs]at h;simp at h
  .rw[c]at h;split at h;.simp at h
   .split at h<;>simp at h
 .exact b
def rT {ws:List W}(H:jY ws){p:PS}(h:p.i<ws.length)(so:Int)(s:au):(fG ws so s p).i<ws.length:=by
 show mA so s (gh ws p) p.i<ws.length;unfold mA;split;.next hs=>exact H.last _ _ (fZ h) (Eu hs)
 .exact h
def MY {w:aw}{rb:Nat}{M:lB}{ws:List W}{p:PS}(h:fx w rb M ws p)(x:W):
  S9 42 #[ag rb,sX x] w λe w'=>e= .returned (.tuple #[])/\fx w' rb M ws (sY x p)/\et w (M.D rb) w' (M.D rb):=by
 refine(RA w rb _ _ _ _ _ _ _ _ x.1 x.2 h.rd).V ?_;rintro e w' ⟨rfl,K,k⟩;exact⟨rfl,h.turn k K,et.rb k⟩
def Qy {w:aw}{rb:Nat}{M:lB}{ws:List W}{p:PS}(h:fx w rb M ws p)(x:W):
  S9 75 #[ag rb,sX x] w λe w'=>e= .returned (.tuple #[])/\fx w' rb M ws (xq x p)/\et w (M.D rb) w' (M.D rb):=by
 refine(SL w rb _ _ _ _ _ _ _ _ x.1 x.2 h.rd).V ?_;rintro e w' ⟨rfl,K,k⟩;exact⟨rfl,h.turn k K,et.rb k⟩
def vo {w:aw}{rb:Nat}{M:lB}{ws:List W}{p:PS}(h:fx w rb M ws p)(H:jY ws)(b:p.i<ws.length)(so:Int)(a:so=0\/so=1\/so=2\/so=3)(s:au):
  S9 74 #[ag rb,aa so,ae s] w λe w'=>e= .returned (sX (gM ws so s p))/\fx w' rb M ws (fG ws so s p)/\et w (M.D rb) w' (M.D rb):=by
 refine(SN w rb _ _ _ _ _ _ _ _ _ ws (gh ws p) so a s H.len h.rd h.hw (fZ b)).V ?_;rintro e w' ⟨rfl,K,k⟩;exact⟨rfl,h.turn k K,et.rb k⟩
def QR {w:aw}{rb:Nat}{M:lB}{ws:List W}{p:PS}(h:fx w rb M ws p)(a:p.i<ws.length)(s:au):
  S9 76 #[ag rb,ae s] w λe w'=>e= .returned (.bool (tV ws s p))/\aj w w':=by
 exact RB w rb _ _ _ _ _ _ _ _ _ ws (gh ws p) s h.rd h.hw (fZ a)
section
variable {w:aw} {rb:Nat} {M:lB} {ws:List W} {p:PS}
def Ea (ws:List W)(p:PS):W:=gM ws 3 ⟨#[]⟩ p
def nh (ws:List W)(p:PS):PS:=
 if dN (Ea ws p).1==1 then{xq (Ea ws p) (fG ws 3 ⟨#[]⟩ p)with used:=p.used++ [Ea ws p]}else fG ws 3 ⟨#[]⟩ p
theorem fx.use {w':aw}(h:fx w rb M ws p){x:W}{v:Value}(f:w.grownBy w' M.uv.ownBlock)(A:w'.ownsRow 0 102 2 v (p.used.length+1) (p.used.flatMap Cy++Cy x))(t:∀b,v.ownBlock=some b->M.uv.ownBlock=some b\/w.heap.size<=b):
  fx (w'.setCell (ai rb 5) v) rb {M with uv:=v} ws {p with used:=p.used++ [x]}/\et w (M.D rb) (w'.setCell (ai rb 5) v) (({M with uv:=v}:lB).D rb):=by
 have m:∀{b:Nat} {cs:aq} {T:TypeId},dP w b cs T->T≠102->dP w' b cs T:=fun{b cs T} K d=>K.grown f (by
  intro i;have⟨B,q⟩:=eo h.hu i.sy
  exact d (K.ty q))
 have s:dP w' rb _ 100:=m h.rd Th;have j:∀{b:Nat} {cs:aq} {T:TypeId},dP w' b cs T->T≠100->dP (w'.setCell (ai rb 5) v) b cs T:=fun{b cs T} K d=>K.other _ _ (by rintro rfl;exact d (K.ty s))
 have l:∀{T:TypeId} {k n:Nat} {u:Value} {xs:ay},w.ownsRow 0 T k u n xs->T≠100->(∀b,u.ownBlock=some b->M.uv.ownBlock≠some b)->(w'.setCell (ai rb 5) v).ownsRow 0 T k u n xs:=fun{T k n u xs} o d g=>dR o λb a=>by
  have⟨cs,K⟩:=eo o a;exact(j (K.grown f (λe=>g b a e.sy)) d).J K.sy
 have g:∀{T:TypeId} {k n:Nat} {u:Value} {xs:ay},w.ownsRow 0 T k u n xs->T≠102->(∀b,u.ownBlock=some b->M.uv.ownBlock≠some b):=fun{T k n u xs} o d b a i=>by
  have⟨cs,K⟩:=eo o a;have⟨B,q⟩:=eo h.hu i;exact d (K.ty q)
 refine⟨⟨s.set 5 v,j (m h.sc Th) Th,l h.hw Th h.wu,?_,l h.hn Th (g h.hn Th),l h.he Th (g h.he Th),?_,?_,h.ne,λb a=>(h.fzt b a).imp λ_ K=>j (m K Th) Th⟩,?_⟩
 .have:(w'.setCell (ai rb 5) v).ownsRow 0 102 2 v (p.used.length+1) (p.used.flatMap Cy++Cy x):=dR A λb a=>by
   have⟨cs,K⟩:=eo A a;exact(j K Th).J K.sy
  simpa using this
 .have⟨cs,y,C⟩:=h.hm;refine⟨cs,l y Th (g y Th),C.O λb a _=> ?_⟩;have⟨D,K⟩:=h.fzt b a;exact(j (m K Th) Th).J K.sy
 .intro b a i;rcases t b i with c|c;.exact h.wu b a c
  .have:=(h.hw.lt b a).2;omega
 .refine⟨f.os,f.tape,f.output,by simpa [World.setCell]using f.size,λb a z=> ?_,λb a=> ?_⟩;.rw[Below.heap_setCell _ _ _ _ (λe=>z (.inl e))];exact f.block b a (λe=>z (.inr (.inr (.inl e.sy))))
  .rcases a with c|c|c|c|c|c;.exact .inl (.inl c)
   .exact .inl (.inr (.inl c))
   .rcases t b c with r|r;.exact .inl (.inr (.inr (.inl r)))
    .exact .inr r
   .exact .inl (.inr (.inr (.inr (.inl c))))
   .exact .inl (.inr (.inr (.inr (.inr (.inl c)))))
   .exact .inl (.inr (.inr (.inr (.inr (.inr c)))))
theorem QD (h:fx w rb M ws p)(H:jY ws)(Z:p.i<ws.length)(a:p.used.length<=2001):
  Calls prog 80 #[ag rb] w λe w'=>e= .returned (ae (Ea ws p).1)/\∃M',fx w' rb M' ws (nh ws p)/\et w (M.D rb) w' (M'.D rb):=by
 have⟨o,N,O,P,Q⟩:=info_parts Tryz.info102;obtain⟨x,G⟩:=Td (Ea ws p);have f:Hid (Ea ws p=x):=G;clear G;go_in
 go_wp2_with fail;refine(vo h H Z 3 Te ⟨#[]⟩).V ?_;rintro e w1 ⟨rfl,d,k⟩;have V:gM ws 3 ⟨#[]⟩ p=x:=f.o;rw[V];unfold sX;have c:=dP.new w1 #[ae x.1,aa x.2] 102;have g:=d.alloc (ak #[ae x.1,aa x.2] 102);have a:=k.alloc (ak #[ae x.1,aa x.2] 102);have D:¬M.D rb w1.heap.size:=λj=>by have:=d.lt j;omega
 clear d k;go_wp2_with fail;refine(Rz _ x.1).V ?_;rintro e w3 ⟨rfl,m⟩;replace g:=g.G m;replace a:=a.G m;replace c:=c.G m c.lt;clear m;have⟨q,r⟩:=c.I;cases hk:(dN x.1==1)
 .have s:Hid (nh ws p=fG ws 3 ⟨#[]⟩ p):=by unfold nh;rw[f.o,hk];rfl
  go_wp2;go_ret;exact⟨by rw[f.o];rfl,M,by rw[s.o];exact g,a⟩
 .have s:Hid (nh ws p={xq x (fG ws 3 ⟨#[]⟩ p)with used:=p.used++ [x]}):=by unfold nh;rw[f.o,hk];rfl
  go_wp2_with fail;clear q r;refine(Qy g x).V ?_;rintro e C ⟨rfl,i,v⟩;replace c:=c.step v D;have K:=a.J v;clear a v g;have⟨q,r⟩:=c.I;have⟨z,B,A,n⟩:=dO i.hu;have l:=i.rd;rw[n]at l;have⟨g,k⟩:=l.I;have u:=i.hu;rw[n]at u
  have E:∀b,(Value.slice z B A).ownBlock=some b->b≠rb:=λb j e=>by
   subst e;have⟨cs,J⟩:=eo u j;exact absurd (J.ty i.rd) Th
  have I:Hid (some rb≠(Value.slice z B A).ownBlock):=λe=>E rb e.sy rfl
  clear E;have⟨m,v⟩:=(l.alloc (ak #[ae x.1,aa x.2] 102)).I;go_wp2_with fail;go_cut []from 14 to 23 (λwr=>∃M',fx wr rb M' ws (nh ws p)/\et w (M.D rb) wr (M'.D rb)/\dP wr w1.heap.size #[ae x.1,aa x.2] 102)
  case first=>
   go_region_law (first|(refine step_append_lies _ Tk _ _ _ Tk 0 102 o _ 2 24 underlying94 N O P Q rfl Te (.slice z B A) p.used.length (p.used.flatMap Cy) Tk (u.alloc _) (ai C.heap.size 0) 1 1 [_,_] Tk Tk (aY (t:=102) (fr:=(0,0)) (heap_alloc_new C _)) Tm Te Tl Te Te (C.heap.size+1) Tf ?_;intro X U E T F R a;have⟨y,G⟩:=((l.alloc _).drew.grown F I.o).I))
   all_goals
    go_wp2;go_meet
    case rel=>
     have Y:=(i.alloc (ak #[ae x.1,aa x.2] 102)).drew
     have⟨y,o⟩:=Y.use (x:=x) (w':=E) (by rw[n];exact F) T (λb j=>by
      have L:X=b:=by simpa [Value.ownBlock]using j
      subst L;rcases R with d|d;.left;rw[n];exact d
      .right;simp;omega)
     exact⟨_,by rw[s.o];exact y,(K.alloc _).drew.J o,(c.alloc _).drew.step o D⟩
  case rest=>
   obtain⟨M',y,o,S⟩:=hcut;clear q r g k m v;have⟨q,r⟩:=S.I;go_wp2;go_ret;exact⟨by rw[f.o];rfl,M',y,o⟩
end
end Go.Proofs.YtfebdimolnobaaaGreatDoor
