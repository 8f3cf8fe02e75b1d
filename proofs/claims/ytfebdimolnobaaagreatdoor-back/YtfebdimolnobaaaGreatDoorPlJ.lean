import Derived.Test.YtfebdimolnobaaaGreatDoorPlI
import Derived.Test.YtfebdimolnobaaaGreatDoorEpE
set_option maxRecDepth 100000
set_option maxHeartbeats 8000000
set_option linter.all false
namespace Go.Proofs.YtfebdimolnobaaaGreatDoor
open Go.RowKit Go.Proofs.Tryz
def mm (form:Int):Nat:=if form=0 then 193 else if form=2 then 268 else 195
def jL (form:Int):Nat:=if form=2 then 190 else 191
def Jh (v:Value):Prop:=∃f cap,v= .func (.func f) #[] cap
def Q1 (w:World)(Q:Nat->Prop)(mp:ByteArray->Option Nat)(g:GF)(v:Value):Prop:=
 ∃pb nb vb vv,v= .func (.func 422) #[] #[.pointer (some ⟨pb,0,none⟩),.pointer (some ⟨nb,0,none⟩),.pointer (some ⟨vb,0,none⟩)]/\dX w pb #[Dh (mm g.form)] 480/\dX w nb #[.int .i64 g.f.num] 3/\dX w vb #[vv] 478/\nE w Q (jB mp g.f.ty) vv/\Q pb/\Q nb/\Q vb
def O3 (w:World)(Q:Nat->Prop)(mp:ByteArray->Option Nat)(g:GF)(v:Value):Prop:=
 ∃ab nb vb vv,v= .func (.func 421) #[] #[.pointer (some ⟨ab,0,none⟩),.pointer (some ⟨nb,0,none⟩),.pointer (some ⟨vb,0,none⟩)]/\dX w ab #[.int .i64 (eJ (jB mp g.f.ty))] 235/\dX w nb #[.int .i64 g.f.num] 3/\dX w vb #[vv] 478/\nE w Q (jB mp g.f.ty) vv/\Q ab/\Q nb/\Q vb
def Q2 (w:World)(Q:Nat->Prop)(mp pm:ByteArray->Option Nat)(g:GF)(v:Value):Prop:=
 ∃ib lb pb nb p,v= .func (.func 419) #[] #[.pointer (some ⟨ib,0,none⟩),.pointer (some ⟨lb,0,none⟩),.pointer (some ⟨pb,0,none⟩),.pointer (some ⟨nb,0,none⟩)]/\dX w ib #[.pointer (some ⟨p,0,none⟩)] 116/\dX w lb #[.int .i64 (lw mp g)] 3/\dX w pb #[Dh (jL g.form)] 477/\dX w nb #[.int .i64 g.f.num] 3/\pm g.f.ty=some p/\Q ib/\Q lb/\Q pb/\Q nb
def P8 (w:World)(Q:Nat->Prop)(mp:ByteArray->Option Nat)(A:Nat->Prop)(g:GF)(v:Value):Prop:=
 ∃ib lb nb sb p,v= .func (.func 418) #[] #[.pointer (some ⟨ib,0,none⟩),.pointer (some ⟨lb,0,none⟩),.pointer (some ⟨nb,0,none⟩),.pointer (some ⟨sb,0,none⟩)]/\dX w ib #[.pointer (some ⟨p,0,none⟩)] 116/\dX w lb #[.int .i64 (lw mp g)] 3/\dX w nb #[.int .i64 g.f.num] 3/\dX w sb #[.bool (iJ (jB mp g.f.key))] 4/\A p/\Q ib/\Q lb/\Q nb/\Q sb
def Dj (w:World)(Q:Nat->Prop)(mp pm:ByteArray->Option Nat)(g:GF)(v:Value):Prop:=
 if jB mp g.f.ty=16 then Q2 w Q mp pm g v else if io mp g=true then O3 w Q mp g v else Q1 w Q mp g v
def wW (w:World)(Q:Nat->Prop)(R:GF->Value->Prop)(g:GF)(v:Value):Prop:=
 if g.riv= []then R g v else∃vb rb rv u,v= .func (.func 296) #[] #[.pointer (some ⟨vb,0,none⟩),.pointer (some ⟨rb,0,none⟩)]/\dX w vb #[rv] 35/\eO w Q 3 1 rv g.riv.length (gB g.riv)/\dX w rb #[u] 266/\Q vb/\Q rb/\R g u
def NI (mp pm:ByteArray->Option Nat)(g:GF)(iv:Value):Prop:=if jB mp g.f.ty=16 then∃p,iv= .pointer (some ⟨p,0,none⟩)/\pm g.f.ty=some p else iv= .pointer none
structure nG (w:World)(Q:Nat->Prop)(mp:ByteArray->Option Nat)(R L:GF->Value->Prop)(g:GF)(x:sC):Prop where
 n:x.n=g.f.num
 kind:x.c1= .int .i64 (eJ (eI mp g))
 packs:x.c2= .bool (io mp g)
 riv:eO w Q 3 1 x.c3 g.riv.length (gB g.riv)
 enc:∃iq,L g (.pointer iq)/\Jf w Q mp g iq x.c4/\Gh w Q mp g iq x.c5/\Eu w Q mp g iq x.c6
 read:wW w Q R g x.c7
def iM (w:World)(Q:Nat->Prop)(mp:ByteArray->Option Nat)(R L:GF->Value->Prop):List GF->List sC->Prop
 | [],l=>l= []
 |g::gs,l=>∃x r,l=x::r/\nG w Q mp R L g x/\iM w Q mp R L gs r
def rU (w:World)(Q:Nat->Prop)(mp:ByteArray->Option Nat)(R L:GF->Value->Prop)(gs:List GF)(pb:Nat):Prop:=
 ∃v l,dX w pb #[v] 254/\Q pb/\eO w Q 268 8 v l.length (l.flatMap jf)/\iM w Q mp R L gs l
def mo (w:World)(Q:Nat->Prop)(mp pm:ByteArray->Option Nat)(g:GF)(v:Value):Prop:=
 if g.form=4 then P8 w Q mp (rU w Q mp (Dj w Q mp pm) (NI mp pm) [lL oe g.f.key 1,lL p9 g.f.ty 2]) g v else Dj w Q mp pm g v
def jd (w:World)(Q:Nat->Prop)(mp pm:ByteArray->Option Nat)(g:GF)(iv:Value):Prop:=
 if g.form=4 then∃p,iv= .pointer (some ⟨p,0,none⟩)/\rU w Q mp (Dj w Q mp pm) (NI mp pm) [lL oe g.f.key 1,lL p9 g.f.ty 2] p
 else if jB mp g.f.ty=16 then∃p,iv= .pointer (some ⟨p,0,none⟩)/\pm g.f.ty=some p
 else iv= .pointer none
def iN (w:World)(Q:Nat->Prop)(mp pm:ByteArray->Option Nat)(gs:List GF)(pb:Nat):Prop:=rU w Q mp (mo w Q mp pm) (jd w Q mp pm) gs pb
section
variable {w w':World} {Q Q':Nat->Prop} {mp pm pm':ByteArray->Option Nat} {R R' L L':GF->Value->Prop} {g:GF} {v:Value}
def eO.mV (hk:Mv w Q w' Q'){T:TypeId}{k n:Nat}{v:Value}{xs:List Value}(h:eO w Q T k v n xs):eO w' Q' T k v n xs:=
 ⟨ew h.1 λb hb=>(hk b (h.2 b hb) (h.1.lt b hb).2).2,λb hb=>(hk b (h.2 b hb) (h.1.lt b hb).2).1⟩
def Mv.bx (hk:Mv w Q w' Q'){b:Nat}{cs:Array Value}{T:TypeId}(h:dX w b cs T)(q:Q b):dX w' b cs T:=(hk b q h.lt).2.J h
def nD.mV (hk:Mv w Q w' Q'){k:Nat}(h:nD w Q k v):nD w' Q' k v:=by
 rcases h with h|⟨t,nb,bb,h1,h2,h3,h4,h5,h6⟩;.exact .inl h
 .exact .inr ⟨t,nb,bb,h1,h2,hk.bx h3 h5,hk.bx h4 h6,(hk _ h5 h3.lt).1,(hk _ h6 h4.lt).1⟩
def nE.mV (hk:Mv w Q w' Q'){k:Nat}(h:nE w Q k v):nE w' Q' k v:=by
 rcases h with h|h|⟨h0,nb,nv,h1,h2,h3,h4⟩;.exact .inl h
 .exact .inr (.inl h)
 .exact .inr (.inr ⟨h0,nb,nv,h1,hk.bx h2 h3,(hk _ h3 h2.lt).1,h4.mV hk⟩)
def Q1.mV (hk:Mv w Q w' Q')(h:Q1 w Q mp g v):Q1 w' Q' mp g v:=by
 obtain⟨pb,nb,vb,vv,h1,h2,h3,h4,h5,q1,q2,q3⟩:=h;exact⟨pb,nb,vb,vv,h1,hk.bx h2 q1,hk.bx h3 q2,hk.bx h4 q3,h5.mV hk,(hk _ q1 h2.lt).1,(hk _ q2 h3.lt).1,(hk _ q3 h4.lt).1⟩
def O3.mV (hk:Mv w Q w' Q')(h:O3 w Q mp g v):O3 w' Q' mp g v:=by
 obtain⟨pb,nb,vb,vv,h1,h2,h3,h4,h5,q1,q2,q3⟩:=h;exact⟨pb,nb,vb,vv,h1,hk.bx h2 q1,hk.bx h3 q2,hk.bx h4 q3,h5.mV hk,(hk _ q1 h2.lt).1,(hk _ q2 h3.lt).1,(hk _ q3 h4.lt).1⟩
def Q2.mV (hk:Mv w Q w' Q')(hp:∀t p,pm t=some p->pm' t=some p)(h:Q2 w Q mp pm g v):Q2 w' Q' mp pm' g v:=by
 obtain⟨ib,lb,pb,nb,p,h1,h2,h3,h4,h5,h6,q1,q2,q3,q4⟩:=h;exact⟨ib,lb,pb,nb,p,h1,hk.bx h2 q1,hk.bx h3 q2,hk.bx h4 q3,hk.bx h5 q4,hp _ _ h6,(hk _ q1 h2.lt).1,(hk _ q2 h3.lt).1,(hk _ q3 h4.lt).1,(hk _ q4 h5.lt).1⟩
def P8.mV {A A':Nat->Prop}(hk:Mv w Q w' Q')(ha:∀p,A p->A' p)(h:P8 w Q mp A g v):P8 w' Q' mp A' g v:=by
 obtain⟨ib,lb,pb,nb,p,h1,h2,h3,h4,h5,h6,q1,q2,q3,q4⟩:=h;exact⟨ib,lb,pb,nb,p,h1,hk.bx h2 q1,hk.bx h3 q2,hk.bx h4 q3,hk.bx h5 q4,ha _ h6,(hk _ q1 h2.lt).1,(hk _ q2 h3.lt).1,(hk _ q3 h4.lt).1,(hk _ q4 h5.lt).1⟩
def Dj.mV (hk:Mv w Q w' Q')(hp:∀t p,pm t=some p->pm' t=some p)(h:Dj w Q mp pm g v):Dj w' Q' mp pm' g v:=by
 unfold Dj at*;split at h;.rename_i h0;rw[dP h0];exact Q2.mV hk hp h
 .rename_i h0;rw[dO h0];split at h;.rename_i h1;rw[dP h1];exact O3.mV hk h
  .rename_i h1;rw[dO h1];exact Q1.mV hk h
def wW.mV (hk:Mv w Q w' Q')(hR:∀v,R g v->R' g v)(h:wW w Q R g v):wW w' Q' R' g v:=by
 unfold wW at*;split at h;.rename_i h0;rw[dP h0];exact hR v h
 .rename_i h0;rw[dO h0];obtain⟨vb,rb,rv,u,h1,h2,h3,h4,q1,q2,h5⟩:=h;exact⟨vb,rb,rv,u,h1,hk.bx h2 q1,h3.mV hk,hk.bx h4 q2,(hk _ q1 h2.lt).1,(hk _ q2 h4.lt).1,hR u h5⟩
def NI.mV (hp:∀t p,pm t=some p->pm' t=some p)(h:NI mp pm g v):NI mp pm' g v:=by
 unfold NI at*;split at h;.rename_i h1;rw[dP h1];obtain⟨p,h2,h3⟩:=h;exact⟨p,h2,hp _ _ h3⟩
 .rename_i h1;rw[dO h1];exact h
def nG.mV (hk:Mv w Q w' Q')(hR:∀v,R g v->R' g v)(hL:∀v,L g v->L' g v){x:sC}(h:nG w Q mp R L g x):nG w' Q' mp R' L' g x:=
 ⟨h.n,h.kind,h.packs,h.riv.mV hk,h.enc.imp λ_ q=>⟨hL _ q.1,q.2.1.mV hk,q.2.2.1.mV hk,q.2.2.2.mV hk⟩,h.read.mV hk hR⟩
def iM.mV (hk:Mv w Q w' Q'):∀{gs:List GF} {l:List sC},(∀g∈gs,∀v,R g v->R' g v)->(∀g∈gs,∀v,L g v->L' g v)->iM w Q mp R L gs l->iM w' Q' mp R' L' gs l
 | [],_,_,_,h=>h
 |g::_,_,hR,hL,⟨x,r,h1,h2,h3⟩=>⟨x,r,h1,h2.mV hk (hR g Vd) (hL g Vd),iM.mV hk (λg hg=>hR g (by simp[hg])) (λg hg=>hL g (by simp[hg])) h3⟩
def rU.mV (hk:Mv w Q w' Q'){gs:List GF}{pb:Nat}(hR:∀g∈gs,∀v,R g v->R' g v)(hL:∀g∈gs,∀v,L g v->L' g v)(h:rU w Q mp R L gs pb):rU w' Q' mp R' L' gs pb:=by
 obtain⟨v,l,h1,h2,h3,h4⟩:=h;exact⟨v,l,hk.bx h1 h2,(hk _ h2 h1.lt).1,h3.mV hk,h4.mV hk hR hL⟩
def mo.mV (hk:Mv w Q w' Q')(hp:∀t p,pm t=some p->pm' t=some p)(h:mo w Q mp pm g v):mo w' Q' mp pm' g v:=by
 unfold mo at*;split at h;.rename_i h0;rw[dP h0];exact P8.mV hk (λp hq=>hq.mV hk (λg _ v h=>h.mV hk hp) λg _ v h=>h.mV hp) h
 .rename_i h0;rw[dO h0];exact Dj.mV hk hp h
def jd.mV (hk:Mv w Q w' Q')(hp:∀t p,pm t=some p->pm' t=some p)(h:jd w Q mp pm g v):jd w' Q' mp pm' g v:=by
 unfold jd at*;split at h;.rename_i h0;rw[dP h0];obtain⟨p,h1,h2⟩:=h;exact⟨p,h1,h2.mV hk (λ_ _ _ q=>q.mV hk hp) λ_ _ _ q=>q.mV hp⟩
 .rename_i h0;rw[dO h0];exact NI.mV hp h
def jd.lk (h4:g.form≠4):jd w Q mp pm g v<->NI mp pm g v:=by
 unfold jd;rw[dO h4];exact Iff.rfl
def iN.mV (hk:Mv w Q w' Q')(hp:∀t p,pm t=some p->pm' t=some p){gs:List GF}{pb:Nat}(h:iN w Q mp pm gs pb):iN w' Q' mp pm' gs pb:=rU.mV hk (λ_ _ _ h=>mo.mV hk hp h) (λ_ _ _ h=>jd.mV hk hp h) h
def iN.O (hk:∀b,Q b->b<w.heap.size->w'.heap[b]?=w.heap[b]?)(hp:∀t p,pm t=some p->pm' t=some p){gs:List GF}{pb:Nat}(h:iN w Q mp pm gs pb):iN w' Q mp pm' gs pb:=h.mV (.O hk) hp
def mo.O (hk:∀b,Q b->b<w.heap.size->w'.heap[b]?=w.heap[b]?)(hp:∀t p,pm t=some p->pm' t=some p)(h:mo w Q mp pm g v):mo w' Q mp pm' g v:=h.mV (.O hk) hp
def wW.O (hk:∀b,Q b->b<w.heap.size->w'.heap[b]?=w.heap[b]?)(hR:∀v,R g v->R' g v)(h:wW w Q R g v):wW w' Q R' g v:=h.mV (.O hk) hR
def iM.len:∀{gs:List GF} {l:List sC},iM w Q mp R L gs l->l.length=gs.length
 | [],_,h=>by rw[show _= []from h];rfl
 |_::_,_,⟨b,r,h1,_,h3⟩=>by rw[h1];simp[h3.len]
def iM.snoc {g:GF}{x:sC}(h2:nG w Q mp R L g x):∀{gs:List GF} {l:List sC},iM w Q mp R L gs l->iM w Q mp R L (gs++ [g]) (l++ [x])
 | [],_,h=>by rw[show _= []from h];exact⟨x,[],rfl,h2,rfl⟩
 |_::_,_,⟨c,r,h1,h3,h4⟩=>by rw[h1];exact⟨c,r++ [x],rfl,h3,iM.snoc h2 h4⟩
def iM.get:∀{gs:List GF} {l:List sC},iM w Q mp R L gs l->∀{i:Nat} {x:sC},l[i]?=some x->∃g,gs[i]?=some g/\nG w Q mp R L g x
 | [],_,h,i,x,hx=>by rw[show _= []from h]at hx;simp at hx
 |g::_,_,⟨b,r,h1,h3,h4⟩,0,x,h=>by
  subst h1;simp at h;subst h
  exact⟨g,rfl,h3⟩
 |_::_,_,⟨b,r,h1,h3,h4⟩,i+1,x,h=>by
  subst h1;have⟨c,q1,q2⟩:=h4.get (i:=i) (x:=x) (by simpa using h);exact⟨c,by simpa using q1,q2⟩
def iM.nums:∀{gs:List GF} {l:List sC},iM w Q mp R L gs l->l.map (·.n)=gs.map (·.f.num)
 | [],_,h=>by rw[show _= []from h];rfl
 |_::_,_,⟨b,r,h1,h2,h3⟩=>by rw[h1];simp[h3.nums,h2.n]
end
def nR (w:World)(Q:Nat->Prop)(S:eD)(mp pm:ByteArray->Option Nat):Prop:=∀t p,pm t=some p->∃d gs,S.msg t=some d/\iN w Q mp pm gs p/\lH S mp d gs
def nR.O {w w':World}{Q:Nat->Prop}{S:eD}{mp pm:ByteArray->Option Nat}(h:nR w Q S mp pm)(hk:∀b,Q b->b<w.heap.size->w'.heap[b]?=w.heap[b]?):nR w' Q S mp pm:=λt p hp=>by
 have⟨d,gs,h1,h2,h3⟩:=h t p hp;exact⟨d,gs,h1,h2.O hk (λ_ _ q=>q),h3⟩
def Md (S:eD)(mp pm:ByteArray->Option Nat)(B:Nat)(b:ByteArray)(F:Nat):Prop:=
 ∀(w:World) (Z:Nat->Prop) (sub:MT) (m:PM) (a e deep k pb:Nat) (gs:List GF) (rb db:Nat),tu w B S mp->nR w (λb=>b<B) S mp pm->iN w (λb=>b<B) mp pm gs pb->lH S mp sub gs->mg S sub->ee w rb (b.extract 0 e) a deep->eM S (k+1) (some sub) w Z db m->
  (∀x,Z x->B<=x/\x<w.heap.size)->B<=rb->¬Z rb->a<=e->e<=b.size->e-a<F->k+deep=8->WM S a sub m->
  U8 89 #[.pointer (some ⟨pb,0,none⟩),.pointer (some ⟨rb,0,none⟩),.pointer (some ⟨db,0,none⟩)] w (iD S k sub w Z rb db (b.extract 0 e) deep (pN e (eW S b F sub m a e deep)))
section
open Vo
section
variable {w:aw} {b c n:Nat} {T:TypeId} {v:Value}
theorem Ji (w:aw)(o:Obj)(b:Nat)(cs:aq)(T:TypeId):dX (w.alloc o) b cs T<->if b=w.heap.size then o= .cells cs T (0,0)else dX w b cs T:=by
 unfold dX;by_cases h:b=w.heap.size;.subst h;rw[dP rfl,heap_alloc_new];simp
 .rw[dO h];by_cases hl:b<w.heap.size;.rw[Below.l w o b hl]
  .rw[cI Ve,cI Vc]
theorem Me (w:aw)(b:Nat)(cs:aq)(T:TypeId):dX w.drew b cs T<->dX w b cs T:=Iff.rfl
theorem dX.deep {cs:aq}(h:dX w b cs T):
  (∀off,w.cell? (aj b off)=cs[off]?)/\(∀o1 off,(w.alloc o1).cell? (aj b off)=cs[off]?)/\(∀o1 o2 off,((w.alloc o1).alloc o2).cell? (aj b off)=cs[off]?)/\(∀o1 o2 o3 off,(((w.alloc o1).alloc o2).alloc o3).cell? (aj b off)=cs[off]?)/\(∀o1 o2 o3 o4 off,((((w.alloc o1).alloc o2).alloc o3).alloc o4).cell? (aj b off)=cs[off]?):=
 ⟨h.cell,λ_=>(h.alloc _).cell,λ_ _=>((h.alloc _).alloc _).cell,λ_ _ _=>(((h.alloc _).alloc _).alloc _).cell,λ_ _ _ _=>((((h.alloc _).alloc _).alloc _).alloc _).cell⟩
theorem nE.form {Q:ax}{k:Nat}(h:nE w Q k v):Jh v:=by
 rcases h with⟨_,rfl⟩|⟨_,rfl⟩|⟨_,_,_,rfl,_⟩;.exact⟨_,_,rfl⟩
 .exact⟨_,_,rfl⟩
 .exact⟨_,_,rfl⟩
theorem Below.a2 (w:aw)(o1 o2:Obj):ak w ((w.alloc o1).alloc o2):=((Below.refl _ _).alloc (aE _) _).alloc Vd _
theorem Below.a3 (w:aw)(o1 o2 o3:Obj):ak w (((w.alloc o1).alloc o2).alloc o3):=(Below.a2 w o1 o2).alloc Ve _
theorem Below.a4 (w:aw)(o1 o2 o3 o4:Obj):ak w ((((w.alloc o1).alloc o2).alloc o3).alloc o4):=(Below.a3 w o1 o2 o3).alloc Ve _
theorem er {off:Nat}(h:c≠b):(w.setCell (aj c off) v).heap[b]?=w.heap[b]?:=by rw[dW,dO h]
def jl (w:aw)(b:Nat)(T:TypeId):Prop:=∃u,dX w b #[u] T
theorem dX.set1 (h:jl w b T)(v:Value):dX (w.setCell (aj b 0) v) b #[v] T:=by
 obtain⟨u,h⟩:=h;simpa using h.set 0 v
theorem jl.newAt (h:n=w.heap.size)(v:Value)(T:TypeId):jl (w.alloc (.cells #[v] T)) n T:=⟨_,dX.newAt h _ _⟩
theorem jl.alloc (h:jl w b T)(o:Obj):jl (w.alloc o) b T:=h.imp λ_ q=>q.alloc o
theorem jl.drew (h:jl w b T):jl w.drew b T:=h
theorem jl.other (h:jl w b T)(off:Nat)(v:Value)(hne:c≠b):jl (w.setCell (aj c off) v) b T:=h.imp λ_ q=>q.other off v hne
theorem jl.G {w1:aw}(h:jl w b T)(hb:Below n w w1)(hn:b<n):jl w1 b T:=h.imp λ_ q=>q.G hb hn
theorem Ev {w':aw}(h:Below n w w'):(∀b off,b<n->w'.cell? (aj b off)=w.cell? (aj b off))/\(∀b off,b<n->w'.frozen? (aj b off)=w.frozen? (aj b off)):=⟨λb off hb=>h.cell (p:=(aj b off)) hb,λb off hb=>h.frozen (p:=(aj b off)) hb⟩
theorem Q3 {p q:Prop}(h:p)(k:p->q):q:=k h
theorem TS {fb:Nat}{a b c d e:Value}(h:dX w fb #[a,b,c,d,e] T):w.cell? (aj fb 0)=some a/\w.cell? (aj fb 2)=some c/\w.cell? (aj fb 3)=some d:=⟨h.cell 0,h.cell 2,h.cell 3⟩
def jM (w:aw)(A:aw->Value->Prop)(e:Ending)(w':aw):Prop:=∃v,e= .returned v/\A w' v/\ak w w'
section
variable (w:aw) (Q P:ax) (mp pm:an) (g:GF) (fb:Nat)
theorem yG (hQ:∀b,w.heap.size<=b->Q b)(h:eZ w P mp g fb)(h4:g.form≠4)(hb:jB mp g.f.ty<=15):Calls prog 380 #[ah fb] w (jM w λw' v=>Q1 w' Q mp g v):=by
 have hmf:= @wo;have⟨pv,rv,h1,_,Vp,Vt⟩:=h.blk;have Vu:eI mp g=jB mp g.f.ty:=by unfold eI;rw[dO h4]
 rw[Vu]at h1;obtain⟨pq,rfl⟩:=gK Vt;obtain⟨ra,rn,rc,rfl⟩:=d5 Vp.1;have hV:=λW=>AK W (jB mp g.f.ty) (.pointer pq) hb
 clear Vt Vp h
 have Vr:(g.form==0)=true/\mm g.form=193\/(g.form==0)=false/\(g.form==2)=true/\mm g.form=268\/(g.form==0)=false/\(g.form==2)=false/\mm g.form=195:=by
  unfold mm;by_cases h0:g.form=0;.exact .inl ⟨by simp[h0],by rw[dP h0]⟩
  .by_cases h2:g.form=2;.exact .inr (.inl ⟨by simp[h0],by simp[h2],by rw[dO h0,dP h2]⟩)
   .exact .inr (.inr ⟨by simp[h0],by simp[h2],by rw[dO h0,dO h2]⟩)
 have⟨k0,k1,k2,k3,k4⟩:=h1.deep;have Vv:=h1.lt;go_in
 go_upto_region 1 with fail
 go_cut [3,4]from 6 to 14 (λx y wx=>∃vb nb vv,x=ah vb/\y=ah nb/\dX wx vb #[vv] 478/\dX wx nb #[aa g.f.num] 3/\dX wx fb #[aa g.f.num,aa g.form,aa (jB mp g.f.ty),.pointer pq,.slice ra rn rc] 220/\nE wx Q (jB mp g.f.ty) vv/\w.heap.size<=vb/\w.heap.size<=nb/\ak w wx)
 case first=>
  go_region_held2 (λW=>W.cell? (aj fb 0)=some (aa g.f.num)/\W.cell? (aj fb 2)=some (aa (jB mp g.f.ty))/\W.cell? (aj fb 3)=some (.pointer pq))
   ((go_light;refine TS (b:=aa g.form) (e:= .slice ra rn rc) (T:=220) ?_;repeat (first|exact K2|exact h1|refine dX.alloc ?_ _|refine dX.drew ?_|refine dX.other ?_ _ _ Vc)))
   (first|(go_at_call 420;refine(hV _).V ?_;rintro e w2 ⟨vv,rfl,Vq,b2⟩;obtain⟨vf,Vs,rfl⟩:=Vq.form;refine Q3 (p:=dX w2 fb #[aa g.f.num,aa g.form,aa (jB mp g.f.ty),.pointer pq,.slice ra rn rc] 220) ?_ ?_;(first|exact dX.G h1.drew b2 Vv|exact dX.G (h1.alloc _).drew b2 (h1.alloc _).lt|exact dX.G ((h1.alloc _).alloc _).drew b2 ((h1.alloc _).alloc _).lt);intro K2;have z2:=K2.lt;have⟨k5,k6,k7,k8,k9⟩:=K2.deep;have⟨y7,y8⟩:=Ev b2;(try simp only[ci,World.size_drew]at y7 y8);(first|(refine Q3 (p:=w.heap.size+1<w2.heap.size/\w.heap.size<w2.heap.size) ?_ ?_;(have q:=b2.size;simp at q;omega);rintro⟨z3,z4⟩;have⟨a1,a2,a3,a4⟩:=gT (w:=w2) (b:=w.heap.size) z4;have⟨a5,a6,a7,a8⟩:=gT (w:=w2) (b:=w.heap.size+1) z3;have c1:=λoff=>y7 w.heap.size off Vc;have c2:=λoff=>y8 w.heap.size off Vc;have c3:=λoff=>y7 (w.heap.size+1) off Vc;have c4:=λoff=>y8 (w.heap.size+1) off Vc)|(refine Q3 (p:=w.heap.size<w2.heap.size) ?_ ?_;(have q:=b2.size;simp at q;omega);intro z3;have⟨a1,a2,a3,a4⟩:=gT (w:=w2) (b:=w.heap.size) z3;have c1:=λoff=>y7 w.heap.size off Vc;have c2:=λoff=>y8 w.heap.size off Vc)|skip);clear y7 y8))
  all_goals
   go_wp2;go_meet
   case rel=>
    go_light;have hw:w.heap.size<=w2.heap.size:=by have q:=b2.size;simp at q;omega
    refine⟨_,_,_,rfl,rfl,?_,?_,?_,Vq.mV (λb q l=>⟨hQ b (by simp at q;omega),?_⟩),Vc,Vc,?_⟩;.repeat (first|exact dX.newAt Vl _ _|exact jl.newAt Vl _ _|refine dX.set1 ?_ _|refine dX.other ?_ _ _ Vc|refine dX.alloc ?_ _|refine jl.other ?_ _ _ Vc|refine jl.G ?_ b2 Vl|refine jl.drew ?_|refine jl.alloc ?_ _)
    .repeat (first|exact dX.newAt Vl _ _|exact jl.newAt Vl _ _|refine dX.set1 ?_ _|refine dX.other ?_ _ _ Vc|refine dX.alloc ?_ _|refine jl.other ?_ _ _ Vc|refine jl.G ?_ b2 Vl|refine jl.drew ?_|refine jl.alloc ?_ _)
    .repeat (first|exact K2|refine dX.alloc ?_ _|refine dX.other ?_ _ _ Vc)
    .simp at q;repeat (first|rfl|(rw[Below.l _ _ b Vl])|(rw[er Vc]))
    .repeat (first|exact Below.refl _ _|refine dU ?_ b2|refine Below.drew ?_|refine Below.alloc ?_ Vl _|refine Below.setCell ?_ Vl _)
 case rest=>
  obtain⟨vb,nb,vv,rfl,rfl,h5,h6,h7,Vq,q1,q2,b3⟩:=hcut;obtain⟨vf,Vs,rfl⟩:=Vq.form;have⟨k5,k6,k7,k8,k9⟩:=h7.deep;clear k0 k1 k2 k3 k4;have Vw:=b3.size;rcases Vr with⟨f0,hp⟩|⟨f0,f2,hp⟩|⟨f0,f2,hp⟩
  all_goals
   go_wp2;go_ret;have BW:∀o,ak wc (wc.alloc o):=λo=>(Below.refl _ _).alloc (aE _) _
   refine⟨_,rfl,⟨_,_,_,_,rfl,?_,h6.alloc _,h5.alloc _,Vq.mV (λb q l=>⟨q,(BW _).block b l⟩),hQ _ Vw,hQ _ q2,hQ _ q1⟩,dU b3 (BW _)⟩;rw[hp];exact dX.new _ _ _
end
end
end
end Go.Proofs.YtfebdimolnobaaaGreatDoor
