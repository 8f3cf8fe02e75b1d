import Derived.Test.YtfebdimolnobaaaGreatDoorPxE
import Derived.Test.YtfebdimolnobaaaGreatDoorEpE
set_option maxRecDepth 100000
set_option maxHeartbeats 8000000
set_option linter.all false
namespace Go.Proofs.YtfebdimolnobaaaGreatDoor
open Go.RowKit Go.Proofs.Tryz
def mm (form:Int):Nat:=if form=0 then 193 else if form=2 then 268 else 195
def jL (form:Int):Nat:=if form=2 then 190 else 191
def Jh (v:Value):Prop:=∃f cap,v= .func (.func f) #[] cap
def Q1 (w:World)(Q:Nat->Prop)(mp:ByteArray->Option Nat)(g:GF)(v:Value):Prop:=
 ∃pb nb vb vv,v= .func (.func 422) #[] #[.pointer (some ⟨pb,0,none⟩),.pointer (some ⟨nb,0,none⟩),.pointer (some ⟨vb,0,none⟩)]/\dX w pb #[Dh (mm g.form)] 480/\dX w nb #[.int .i64 g.f.num] 3/\dX w vb #[vv] 478/\nE w Q (jB mp g.f.ty) vv/\Q pb/\Q nb/\Q vb
def O3 (w:World)(Q:Nat->Prop)(mp:ByteArray->Option Nat)(g:GF)(v:Value):Prop:=
 ∃ab nb vb vv,v= .func (.func 421) #[] #[.pointer (some ⟨ab,0,none⟩),.pointer (some ⟨nb,0,none⟩),.pointer (some ⟨vb,0,none⟩)]/\dX w ab #[.int .i64 (eJ (jB mp g.f.ty))] 235/\dX w nb #[.int .i64 g.f.num] 3/\dX w vb #[vv] 478/\nE w Q (jB mp g.f.ty) vv/\Q ab/\Q nb/\Q vb
def Q2 (w:World)(Q:Nat->Prop)(mp pm:ByteArray->Option Nat)(g:GF)(v:Value):Prop:=
 ∃ib lb pb nb p,v= .func (.func 419) #[] #[.pointer (some ⟨ib,0,none⟩),.pointer (some ⟨lb,0,none⟩),.pointer (some ⟨pb,0,none⟩),.pointer (some ⟨nb,0,none⟩)]/\dX w ib #[.pointer (some ⟨p,0,none⟩)] 116/\dX w lb #[.int .i64 (lw mp g)] 3/\dX w pb #[Dh (jL g.form)] 477/\dX w nb #[.int .i64 g.f.num] 3/\pm g.f.ty=some p/\Q ib/\Q lb/\Q pb/\Q nb
def P8 (w:World)(Q:Nat->Prop)(mp:ByteArray->Option Nat)(A:Nat->Prop)(g:GF)(v:Value):Prop:=
 ∃ib lb nb sb p,v= .func (.func 418) #[] #[.pointer (some ⟨ib,0,none⟩),.pointer (some ⟨lb,0,none⟩),.pointer (some ⟨nb,0,none⟩),.pointer (some ⟨sb,0,none⟩)]/\dX w ib #[.pointer (some ⟨p,0,none⟩)] 116/\dX w lb #[.int .i64 (lw mp g)] 3/\dX w nb #[.int .i64 g.f.num] 3/\dX w sb #[.bool (iJ (jB mp g.f.key))] 4/\A p/\Q ib/\Q lb/\Q nb/\Q sb
def Dj (w:World)(Q:Nat->Prop)(mp pm:ByteArray->Option Nat)(g:GF)(v:Value):Prop:=
 if jB mp g.f.ty=16 then Q2 w Q mp pm g v else if io mp g=true then O3 w Q mp g v else Q1 w Q mp g v
def wW (w:World)(Q:Nat->Prop)(R:GF->Value->Prop)(g:GF)(v:Value):Prop:=
 if g.riv= []then R g v else∃vb rb rv u,v= .func (.func 296) #[] #[.pointer (some ⟨vb,0,none⟩),.pointer (some ⟨rb,0,none⟩)]/\dX w vb #[rv] 35/\eO w Q 3 1 rv g.riv.length (gB g.riv)/\dX w rb #[u] 266/\Q vb/\Q rb/\R g u
def NI (mp pm:ByteArray->Option Nat)(g:GF)(iv:Value):Prop:=if jB mp g.f.ty=16 then∃p,iv= .pointer (some ⟨p,0,none⟩)/\pm g.f.ty=some p else iv= .pointer none
structure nG (w:World)(Q:Nat->Prop)(mp:ByteArray->Option Nat)(R L:GF->Value->Prop)(g:GF)(x:sC):Prop where
 n:x.n=g.f.num
 kind:x.c1= .int .i64 (eJ (eI mp g))
 packs:x.c2= .bool (io mp g)
 riv:eO w Q 3 1 x.c3 g.riv.length (gB g.riv)
 enc:∃iq,L g (.pointer iq)/\Jf w Q mp g iq x.c4/\Gh w Q mp g iq x.c5/\Eu w Q mp g iq x.c6
 read:wW w Q R g x.c7
def iM (w:World)(Q:Nat->Prop)(mp:ByteArray->Option Nat)(R L:GF->Value->Prop):List GF->List sC->Prop
 | [],l=>l= []
 |g::gs,l=>∃x r,l=x::r/\nG w Q mp R L g x/\iM w Q mp R L gs r
def rU (w:World)(Q:Nat->Prop)(mp:ByteArray->Option Nat)(R L:GF->Value->Prop)(gs:List GF)(pb:Nat):Prop:=
 ∃v l,dX w pb #[v] 254/\Q pb/\eO w Q 268 8 v l.length (l.flatMap jf)/\iM w Q mp R L gs l
def mo (w:World)(Q:Nat->Prop)(mp pm:ByteArray->Option Nat)(g:GF)(v:Value):Prop:=
 if g.form=4 then P8 w Q mp (rU w Q mp (Dj w Q mp pm) (NI mp pm) [lL oe g.f.key 1,lL p9 g.f.ty 2]) g v else Dj w Q mp pm g v
def jd (w:World)(Q:Nat->Prop)(mp pm:ByteArray->Option Nat)(g:GF)(iv:Value):Prop:=
 if g.form=4 then∃p,iv= .pointer (some ⟨p,0,none⟩)/\rU w Q mp (Dj w Q mp pm) (NI mp pm) [lL oe g.f.key 1,lL p9 g.f.ty 2] p
 else if jB mp g.f.ty=16 then∃p,iv= .pointer (some ⟨p,0,none⟩)/\pm g.f.ty=some p
 else iv= .pointer none
def iN (w:World)(Q:Nat->Prop)(mp pm:ByteArray->Option Nat)(gs:List GF)(pb:Nat):Prop:=rU w Q mp (mo w Q mp pm) (jd w Q mp pm) gs pb
section
variable {w w':World} {Q Q':Nat->Prop} {mp pm pm':ByteArray->Option Nat} {R R' L L':GF->Value->Prop} {g:GF} {v:Value}
def eO.mV (hk:Mv w Q w' Q'){T:TypeId}{k n:Nat}{v:Value}{xs:List Value}(h:eO w Q T k v n xs):eO w' Q' T k v n xs:=
 ⟨ew h.1 λb hb=>(hk b (h.2 b hb) (h.1.lt b hb).2).2,λb hb=>(hk b (h.2 b hb) (h.1.lt b hb).2).1⟩
def Mv.bx (hk:Mv w Q w' Q'){b:Nat}{cs:Array Value}{T:TypeId}(h:dX w b cs T)(q:Q b):dX w' b cs T:=(hk b q h.lt).2.J h
def nD.mV (hk:Mv w Q w' Q'){k:Nat}(h:nD w Q k v):nD w' Q' k v:=by
 rcases h with h|⟨t,nb,bb,h1,h2,h3,h4,h5,h6⟩;.exact .inl h
 .exact .inr ⟨t,nb,bb,h1,h2,hk.bx h3 h5,hk.bx h4 h6,(hk _ h5 h3.lt).1,(hk _ h6 h4.lt).1⟩
def nE.mV (hk:Mv w Q w' Q'){k:Nat}(h:nE w Q k v):nE w' Q' k v:=by
 rcases h with h|h|⟨h0,nb,nv,h1,h2,h3,h4⟩;.exact .inl h
 .exact .inr (.inl h)
 .exact .inr (.inr ⟨h0,nb,nv,h1,hk.bx h2 h3,(hk _ h3 h2.lt).1,h4.mV hk⟩)
def Q1.mV (hk:Mv w Q w' Q')(h:Q1 w Q mp g v):Q1 w' Q' mp g v:=by
 obtain⟨pb,nb,vb,vv,h1,h2,h3,h4,h5,q1,q2,q3⟩:=h;exact⟨pb,nb,vb,vv,h1,hk.bx h2 q1,hk.bx h3 q2,hk.bx h4 q3,h5.mV hk,(hk _ q1 h2.lt).1,(hk _ q2 h3.lt).1,(hk _ q3 h4.lt).1⟩
def O3.mV (hk:Mv w Q w' Q')(h:O3 w Q mp g v):O3 w' Q' mp g v:=by
 obtain⟨pb,nb,vb,vv,h1,h2,h3,h4,h5,q1,q2,q3⟩:=h;exact⟨pb,nb,vb,vv,h1,hk.bx h2 q1,hk.bx h3 q2,hk.bx h4 q3,h5.mV hk,(hk _ q1 h2.lt).1,(hk _ q2 h3.lt).1,(hk _ q3 h4.lt).1⟩
def Q2.mV (hk:Mv w Q w' Q')(hp:∀t p,pm t=some p->pm' t=some p)(h:Q2 w Q mp pm g v):Q2 w' Q' mp pm' g v:=by
 obtain⟨ib,lb,pb,nb,p,h1,h2,h3,h4,h5,h6,q1,q2,q3,q4⟩:=h;exact⟨ib,lb,pb,nb,p,h1,hk.bx h2 q1,hk.bx h3 q2,hk.bx h4 q3,hk.bx h5 q4,hp _ _ h6,(hk _ q1 h2.lt).1,(hk _ q2 h3.lt).1,(hk _ q3 h4.lt).1,(hk _ q4 h5.lt).1⟩
def P8.mV {A A':Nat->Prop}(hk:Mv w Q w' Q')(ha:∀p,A p->A' p)(h:P8 w Q mp A g v):P8 w' Q' mp A' g v:=by
 obtain⟨ib,lb,pb,nb,p,h1,h2,h3,h4,h5,h6,q1,q2,q3,q4⟩:=h;exact⟨ib,lb,pb,nb,p,h1,hk.bx h2 q1,hk.bx h3 q2,hk.bx h4 q3,hk.bx h5 q4,ha _ h6,(hk _ q1 h2.lt).1,(hk _ q2 h3.lt).1,(hk _ q3 h4.lt).1,(hk _ q4 h5.lt).1⟩
def Dj.mV (hk:Mv w Q w' Q')(hp:∀t p,pm t=some p->pm' t=some p)(h:Dj w Q mp pm g v):Dj w' Q' mp pm' g v:=by
 unfold Dj at*;split at h;.rename_i h0;rw[dP h0];exact Q2.mV hk hp h
 .rename_i h0;rw[dO h0];split at h;.rename_i h1;rw[dP h1];exact O3.mV hk h
  .rename_i h1;rw[dO h1];exact Q1.mV hk h
def wW.mV (hk:Mv w Q w' Q')(hR:∀v,R g v->R' g v)(h:wW w Q R g v):wW w' Q' R' g v:=by
 unfold wW at*;split at h;.rename_i h0;rw[dP h0];exact hR v h
 .rename_i h0;rw[dO h0];obtain⟨vb,rb,rv,u,h1,h2,h3,h4,q1,q2,h5⟩:=h;exact⟨vb,rb,rv,u,h1,hk.bx h2 q1,h3.mV hk,hk.bx h4 q2,(hk _ q1 h2.lt).1,(hk _ q2 h4.lt).1,hR u h5⟩
def NI.mV (hp:∀t p,pm t=some p->pm' t=some p)(h:NI mp pm g v):NI mp pm' g v:=by
 unfold NI at*;split at h;.rename_i h1;rw[dP h1];obtain⟨p,h2,h3⟩:=h;exact⟨p,h2,hp _ _ h3⟩
 .rename_i h1;rw[dO h1];exact h
def nG.mV (hk:Mv w Q w' Q')(hR:∀v,R g v->R' g v)(hL:∀v,L g v->L' g v){x:sC}(h:nG w Q mp R L g x):nG w' Q' mp R' L' g x:=
 ⟨h.n,h.kind,h.packs,h.riv.mV hk,h.enc.imp λ_ q=>⟨hL _ q.1,q.2.1.mV hk,q.2.2.1.mV hk,q.2.2.2.mV hk⟩,h.read.mV hk hR⟩
def iM.mV (hk:Mv w Q w' Q'):∀{gs:List GF} {l:List sC},(∀g∈gs,∀v,R g v->R' g v)->(∀g∈gs,∀v,L g v->L' g v)->iM w Q mp R L gs l->iM w' Q' mp R' L' gs l
 | [],_,_,_,h=>h
 |g::_,_,hR,hL,⟨x,r,h1,h2,h3⟩=>⟨x,r,h1,h2.mV hk (hR g Vd) (hL g Vd),iM.mV hk (λg hg=>hR g (by simp[hg])) (λg hg=>hL g (by simp[hg])) h3⟩
def rU.mV (hk:Mv w Q w' Q'){gs:List GF}{pb:Nat}(hR:∀g∈gs,∀v,R g v->R' g v)(hL:∀g∈gs,∀v,L g v->L' g v)(h:rU w Q mp R L gs pb):rU w' Q' mp R' L' gs pb:=by
 obtain⟨v,l,h1,h2,h3,h4⟩:=h;exact⟨v,l,hk.bx h1 h2,(hk _ h2 h1.lt).1,h3.mV hk,h4.mV hk hR hL⟩
def mo.mV (hk:Mv w Q w' Q')(hp:∀t p,pm t=some p->pm' t=some p)(h:mo w Q mp pm g v):mo w' Q' mp pm' g v:=by
 unfold mo at*;split at h;.rename_i h0;rw[dP h0];exact P8.mV hk (λp hq=>hq.mV hk (λg _ v h=>h.mV hk hp) λg _ v h=>h.mV hp) h
 .rename_i h0;rw[dO h0];exact Dj.mV hk hp h
def jd.mV (hk:Mv w Q w' Q')(hp:∀t p,pm t=some p->pm' t=some p)(h:jd w Q mp pm g v):jd w' Q' mp pm' g v:=by
 unfold jd at*;split at h;.rename_i h0;rw[dP h0];obtain⟨p,h1,h2⟩:=h;exact⟨p,h1,h2.mV hk (λ_ _ _ q=>q.mV hk hp) λ_ _ _ q=>q.mV hp⟩
 .rename_i h0;rw[dO h0];exact NI.mV hp h
def jd.lk (h4:g.form≠4):jd w Q mp pm g v<->NI mp pm g v:=by
 unfold jd;rw[dO h4];exact Iff.rfl
def iN.mV (hk:Mv w Q w' Q')(hp:∀t p,pm t=some p->pm' t=some p){gs:List GF}{pb:Nat}(h:iN w Q mp pm gs pb):iN w' Q' mp pm' gs pb:=rU.mV hk (λ_ _ _ h=>mo.mV hk hp h) (λ_ _ _ h=>jd.mV hk hp h) h
def iN.O (hk:∀b,Q b->b<w.heap.size->w'.heap[b]?=w.heap[b]?)(hp:∀t p,pm t=some p->pm' t=some p){gs:List GF}{pb:Nat}(h:iN w Q mp pm gs pb):iN w' Q mp pm' gs pb:=h.mV (.O hk) hp
def mo.O (hk:∀b,Q b->b<w.heap.size->w'.heap[b]?=w.heap[b]?)(hp:∀t p,pm t=some p->pm' t=some p)(h:mo w Q mp pm g v):mo w' Q mp pm' g v:=h.mV (.O hk) hp
def wW.O (hk:∀b,Q b->b<w.heap.size->w'.heap[b]?=w.heap[b]?)(hR:∀v,R g v->R' g v)(h:wW w Q R g v):wW w' Q R' g v:=h.mV (.O hk) hR
def iM.len:∀{gs:List GF} {l:List sC},iM w Q mp R L gs l->l.length=gs.length
 | [],_,h=>by rw[show _= []from h];rfl
 |_::_,_,⟨b,r,h1,_,h3⟩=>by rw[h1];simp[h3.len]
def iM.snoc {g:GF}{x:sC}(h2:nG w Q mp R L g x):∀{gs:List GF} {l:List sC},iM w Q mp R L gs l->iM w Q mp R L (gs++ [g]) (l++ [x])
 | [],_,h=>by rw[show _= []from h];exact⟨x,[],rfl,h2,rfl⟩
 |_::_,_,⟨c,r,h1,h3,h4⟩=>by rw[h1];exact⟨c,r++ [x],rfl,h3,iM.snoc h2 h4⟩
def iM.get:∀{gs:List GF} {l:List sC},iM w Q mp R L gs l->∀{i:Nat} {x:sC},l[i]?=some x->∃g,gs[i]?=some g/\nG w Q mp R L g x
 | [],_,h,i,x,hx=>by rw[show _= []from h]at hx;simp at hx
 |g::_,_,⟨b,r,h1,h3,h4⟩,0,x,h=>by
  subst h1;simp at h;subst h
  exact⟨g,rfl,h3⟩
 |_::_,_,⟨b,r,h1,h3,h4⟩,i+1,x,h=>by
  subst h1;have⟨c,q1,q2⟩:=h4.get (i:=i) (x:=x) (by simpa using h);exact⟨c,by simpa using q1,q2⟩
def iM.nums:∀{gs:List GF} {l:List sC},iM w Q mp R L gs l->l.map (·.n)=gs.map (·.f.num)
 | [],_,h=>by rw[show _= []from h];rfl
 |_::_,_,⟨b,r,h1,h2,h3⟩=>by rw[h1];simp[h3.nums,h2.n]
end
def nR (w:World)(Q:Nat->Prop)(S:eD)(mp pm:ByteArray->Option Nat):Prop:=∀t p,pm t=some p->∃d gs,S.msg t=some d/\iN w Q mp pm gs p/\lH S mp d gs
def nR.O {w w':World}{Q:Nat->Prop}{S:eD}{mp pm:ByteArray->Option Nat}(h:nR w Q S mp pm)(hk:∀b,Q b->b<w.heap.size->w'.heap[b]?=w.heap[b]?):nR w' Q S mp pm:=λt p hp=>by
 have⟨d,gs,h1,h2,h3⟩:=h t p hp;exact⟨d,gs,h1,h2.O hk (λ_ _ q=>q),h3⟩
def Md (S:eD)(mp pm:ByteArray->Option Nat)(B:Nat)(b:ByteArray)(F:Nat):Prop:=
 ∀(w:World) (Z:Nat->Prop) (sub:MT) (m:PM) (a e deep k pb:Nat) (gs:List GF) (rb db:Nat),tu w B S mp->nR w (λb=>b<B) S mp pm->iN w (λb=>b<B) mp pm gs pb->lH S mp sub gs->mg S sub->ee w rb (b.extract 0 e) a deep->eM S (k+1) (some sub) w Z db m->
  (∀x,Z x->B<=x/\x<w.heap.size)->B<=rb->¬Z rb->a<=e->e<=b.size->e-a<F->k+deep=8->WM S a sub m->
  U8 89 #[.pointer (some ⟨pb,0,none⟩),.pointer (some ⟨rb,0,none⟩),.pointer (some ⟨db,0,none⟩)] w (iD S k sub w Z rb db (b.extract 0 e) deep (pN e (eW S b F sub m a e deep)))
section
open Vo
section
variable {w:aw} {b c n:Nat} {T:TypeId} {v:Value}
theorem Ji (w:aw)(o:Obj)(b:Nat)(cs:aq)(T:TypeId):dX (w.alloc o) b cs T<->if b=w.heap.size then o= .cells cs T (0,0)else dX w b cs T:=by
 unfold dX;by_cases h:b=w.heap.size;.subst h;rw[dP rfl,heap_alloc_new];simp
 .rw[dO h];by_cases hl:b<w.heap.size;.rw[Below.l w o b hl]
  .rw[cI Ve,cI Vc]
theorem Me (w:aw)(b:Nat)(cs:aq)(T:TypeId):dX w.drew b cs T<->dX w b cs T:=Iff.rfl
theorem dX.deep {cs:aq}(h:dX w b cs T):
  (∀off,w.cell? (aj b off)=cs[off]?)/\(∀o1 off,(w.alloc o1).cell? (aj b off)=cs[off]?)/\(∀o1 o2 off,((w.alloc o1).alloc o2).cell? (aj b off)=cs[off]?)/\(∀o1 o2 o3 off,(((w.alloc o1).alloc o2).alloc o3).cell? (aj b off)=cs[off]?)/\(∀o1 o2 o3 o4 off,((((w.alloc o1).alloc o2).alloc o3).alloc o4).cell? (aj b off)=cs[off]?):=
 ⟨h.cell,λ_=>(h.alloc _).cell,λ_ _=>((h.alloc _).alloc _).cell,λ_ _ _=>(((h.alloc _).alloc _).alloc _).cell,λ_ _ _ _=>((((h.alloc _).alloc _).alloc _).alloc _).cell⟩
theorem nE.form {Q:ax}{k:Nat}(h:nE w Q k v):Jh v:=by
 rcases h with⟨_,rfl⟩|⟨_,rfl⟩|⟨_,_,_,rfl,_⟩;.exact⟨_,_,rfl⟩
 .exact⟨_,_,rfl⟩
 .exact⟨_,_,rfl⟩
theorem Below.a2 (w:aw)(o1 o2:Obj):ak w ((w.alloc o1).alloc o2):=((Below.refl _ _).alloc (aE _) _).alloc Vd _
theorem Below.a3 (w:aw)(o1 o2 o3:Obj):ak w (((w.alloc o1).alloc o2).alloc o3):=(Below.a2 w o1 o2).alloc Ve _
theorem Below.a4 (w:aw)(o1 o2 o3 o4:Obj):ak w ((((w.alloc o1).alloc o2).alloc o3).alloc o4):=(Below.a3 w o1 o2 o3).alloc Ve _
theorem er {off:Nat}(h:c≠b):(w.setCell (aj c off) v).heap[b]?=w.heap[b]?:=by rw[dW,dO h]
def jl (w:aw)(b:Nat)(T:TypeId):Prop:=∃u,dX w b #[u] T
theorem dX.set1 (h:jl w b T)(v:Value):dX (w.setCell (aj b 0) v) b #[v] T:=by
 obtain⟨u,h⟩:=h;simpa using h.set 0 v
theorem jl.newAt (h:n=w.heap.size)(v:Value)(T:TypeId):jl (w.alloc (.cells #[v] T)) n T:=⟨_,dX.newAt h _ _⟩
theorem jl.alloc (h:jl w b T)(o:Obj):jl (w.alloc o) b T:=h.imp λ_ q=>q.alloc o
theorem jl.drew (h:jl w b T):jl w.drew b T:=h
theorem jl.other (h:jl w b T)(off:Nat)(v:Value)(hne:c≠b):jl (w.setCell (aj c off) v) b T:=h.imp λ_ q=>q.other off v hne
theorem jl.G {w1:aw}(h:jl w b T)(hb:Below n w w1)(hn:b<n):jl w1 b T:=h.imp λ_ q=>q.G hb hn
theorem Ev {w':aw}(h:Below n w w'):(∀b off,b<n->w'.cell? (aj b off)=w.cell? (aj b off))/\(∀b off,b<n->w'.frozen? (aj b off)=w.frozen? (aj b off)):=⟨λb off hb=>h.cell (p:=(aj b off)) hb,λb off hb=>h.frozen (p:=(aj b off)) hb⟩
theorem Q3 {p q:Prop}(h:p)(k:p->q):q:=k h
theorem TS {fb:Nat}{a b c d e:Value}(h:dX w fb #[a,b,c,d,e] T):w.cell? (aj fb 0)=some a/\w.cell? (aj fb 2)=some c/\w.cell? (aj fb 3)=some d:=⟨h.cell 0,h.cell 2,h.cell 3⟩
def jM (w:aw)(A:aw->Value->Prop)(e:Ending)(w':aw):Prop:=∃v,e= .returned v/\A w' v/\ak w w'
section
variable (w:aw) (Q P:ax) (mp pm:an) (g:GF) (fb:Nat)
theorem yG (hQ:∀b,w.heap.size<=b->Q b)(h:eZ w P mp g fb)(h4:g.form≠4)(hb:jB mp g.f.ty<=15):Calls prog 380 #[ah fb] w (jM w λw' v=>Q1 w' Q mp g v):=by
 have hmf:= @wo;have⟨pv,rv,h1,_,Vp,Vt⟩:=h.blk;have Vu:eI mp g=jB mp g.f.ty:=by unfold eI;rw[dO h4]
 rw[Vu]at h1;obtain⟨pq,rfl⟩:=gK Vt;obtain⟨ra,rn,rc,rfl⟩:=d5 Vp.1;have hV:=λW=>AK W (jB mp g.f.ty) (.pointer pq) hb
 clear Vt Vp h
 have Vr:(g.form==0)=true/\mm g.form=193\/(g.form==0)=false/\(g.form==2)=true/\mm g.form=268\/(g.form==0)=false/\(g.form==2)=false/\mm g.form=195:=by
  unfold mm;by_cases h0:g.form=0;.exact .inl ⟨by simp[h0],by rw[dP h0]⟩
  .by_cases h2:g.form=2;.exact .inr (.inl ⟨by simp[h0],by simp[h2],by rw[dO h0,dP h2]⟩)
   .exact .inr (.inr ⟨by simp[h0],by simp[h2],by rw[dO h0,dO h2]⟩)
 have⟨k0,k1,k2,k3,k4⟩:=h1.deep;have Vv:=h1.lt;go_in
 go_upto_region 1 with fail
 go_cut [3,4]from 6 to 14 (λx y wx=>∃vb nb vv,x=ah vb/\y=ah nb/\dX wx vb #[vv] 478/\dX wx nb #[aa g.f.num] 3/\dX wx fb #[aa g.f.num,aa g.form,aa (jB mp g.f.ty),.pointer pq,.slice ra rn rc] 220/\nE wx Q (jB mp g.f.ty) vv/\w.heap.size<=vb/\w.heap.size<=nb/\ak w wx)
 case first=>
  go_region_held2 (λW=>W.cell? (aj fb 0)=some (aa g.f.num)/\W.cell? (aj fb 2)=some (aa (jB mp g.f.ty))/\W.cell? (aj fb 3)=some (.pointer pq))
   ((go_light;refine TS (b:=aa g.form) (e:= .slice ra rn rc) (T:=220) ?_;repeat (first|exact K2|exact h1|refine dX.alloc ?_ _|refine dX.drew ?_|refine dX.other ?_ _ _ Vc)))
   (first|(go_at_call 420;refine(hV _).V ?_;rintro e w2 ⟨vv,rfl,Vq,b2⟩;obtain⟨vf,Vs,rfl⟩:=Vq.form;refine Q3 (p:=dX w2 fb #[aa g.f.num,aa g.form,aa (jB mp g.f.ty),.pointer pq,.slice ra rn rc] 220) ?_ ?_;(first|exact dX.G h1.drew b2 Vv|exact dX.G (h1.alloc _).drew b2 (h1.alloc _).lt|exact dX.G ((h1.alloc _).alloc _).drew b2 ((h1.alloc _).alloc _).lt);intro K2;have z2:=K2.lt;have⟨k5,k6,k7,k8,k9⟩:=K2.deep;have⟨y7,y8⟩:=Ev b2;(try simp only[ci,World.size_drew]at y7 y8);(first|(refine Q3 (p:=w.heap.size+1<w2.heap.size/\w.heap.size<w2.heap.size) ?_ ?_;(have q:=b2.size;simp at q;omega);rintro⟨z3,z4⟩;have⟨a1,a2,a3,a4⟩:=gT (w:=w2) (b:=w.heap.size) z4;have⟨a5,a6,a7,a8⟩:=gT (w:=w2) (b:=w.heap.size+1) z3;have c1:=λoff=>y7 w.heap.size off Vc;have c2:=λoff=>y8 w.heap.size off Vc;have c3:=λoff=>y7 (w.heap.size+1) off Vc;have c4:=λoff=>y8 (w.heap.size+1) off Vc)|(refine Q3 (p:=w.heap.size<w2.heap.size) ?_ ?_;(have q:=b2.size;simp at q;omega);intro z3;have⟨a1,a2,a3,a4⟩:=gT (w:=w2) (b:=w.heap.size) z3;have c1:=λoff=>y7 w.heap.size off Vc;have c2:=λoff=>y8 w.heap.size off Vc)|skip);clear y7 y8))
  all_goals
   go_wp2;go_meet
   case rel=>
    go_light;have hw:w.heap.size<=w2.heap.size:=by have q:=b2.size;simp at q;omega
    refine⟨_,_,_,rfl,rfl,?_,?_,?_,Vq.mV (λb q l=>⟨hQ b (by simp at q;omega),?_⟩),Vc,Vc,?_⟩;.repeat (first|exact dX.newAt Vl _ _|exact jl.newAt Vl _ _|refine dX.set1 ?_ _|refine dX.other ?_ _ _ Vc|refine dX.alloc ?_ _|refine jl.other ?_ _ _ Vc|refine jl.G ?_ b2 Vl|refine jl.drew ?_|refine jl.alloc ?_ _)
    .repeat (first|exact dX.newAt Vl _ _|exact jl.newAt Vl _ _|refine dX.set1 ?_ _|refine dX.other ?_ _ _ Vc|refine dX.alloc ?_ _|refine jl.other ?_ _ _ Vc|refine jl.G ?_ b2 Vl|refine jl.drew ?_|refine jl.alloc ?_ _)
    .repeat (first|exact K2|refine dX.alloc ?_ _|refine dX.other ?_ _ _ Vc)
    .simp at q;repeat (first|rfl|(rw[Below.l _ _ b Vl])|(rw[er Vc]))
    .repeat (first|exact Below.refl _ _|refine dU ?_ b2|refine Below.drew ?_|refine Below.alloc ?_ Vl _|refine Below.setCell ?_ Vl _)
 case rest=>
  obtain⟨vb,nb,vv,rfl,rfl,h5,h6,h7,Vq,q1,q2,b3⟩:=hcut;obtain⟨vf,Vs,rfl⟩:=Vq.form;have⟨k5,k6,k7,k8,k9⟩:=h7.deep;clear k0 k1 k2 k3 k4;have Vw:=b3.size;rcases Vr with⟨f0,hp⟩|⟨f0,f2,hp⟩|⟨f0,f2,hp⟩
  all_goals
   go_wp2;go_ret;have BW:∀o,ak wc (wc.alloc o):=λo=>(Below.refl _ _).alloc (aE _) _
   refine⟨_,rfl,⟨_,_,_,_,rfl,?_,h6.alloc _,h5.alloc _,Vq.mV (λb q l=>⟨q,(BW _).block b l⟩),hQ _ Vw,hQ _ q2,hQ _ q1⟩,dU b3 (BW _)⟩;rw[hp];exact dX.new _ _ _
end
end
end
section
variable {lo b:Nat} {W:aw} {t v:Value} {T:TypeId}
structure Bx (lo:Nat)(W:aw)(on st vr:Bool)(t:Value)(b:Nat)(T:TypeId)(v:Value):Prop where
 made:on=true->t=ah b/\lo<=b/\jl W b T
 put:st=true->dX W b #[v] T
 dep:st=true->on=true/\vr=true
section
variable {lo:Nat} {W W':aw} {on st vr:Bool} {t:Value} {b:Nat} {T:TypeId} {v:Value}
theorem Bx.start:Bx lo W false false false t b T v:=⟨nofun,nofun,nofun⟩
theorem Bx.G (h:Bx lo W on st vr t b T v)(hb:Below W.heap.size W W'):Bx lo W' on st vr t b T v:=
 ⟨λe=>by
  have⟨h1,h2,u,h3⟩:=h.made e
  exact⟨h1,h2,u,h3.G hb h3.lt⟩,λe=>(h.put e).G hb (h.put e).lt,h.dep⟩
theorem Bx.alloc (h:Bx lo W on st vr t b T v)(o:Obj):Bx lo (W.alloc o) on st vr t b T v:=h.G ((Below.refl _ _).alloc (aE _) o)
theorem Bx.val (h:Bx lo W on st false t b T v)(v':Value):Bx lo W on st true t b T v':=
 ⟨h.made,λe=>(by cases(h.dep e).2),λe=>(by cases(h.dep e).2)⟩
theorem Bx.new (h:Bx lo W false st vr t b T v)(hl:lo<=W.heap.size)(u:Value):Bx lo (W.alloc (.cells #[u] T)) true st vr (ah W.heap.size) W.heap.size T v:=
 ⟨λ_=>⟨rfl,hl,u,dX.new _ _ _⟩,λe=>(by cases(h.dep e).1),λe=>(by cases(h.dep e).1)⟩
theorem Bx.store (h:Bx lo W true st true t b T v):Bx lo (W.setCell (aj b 0) v) true true true t b T v:=by
 have⟨h1,h2,h3⟩:=h.made rfl;have q:=dX.set1 h3 v;exact⟨λ_=>⟨h1,h2,v,q⟩,λ_=>q,λ_=>⟨rfl,rfl⟩⟩
theorem Bx.other (h:Bx lo W on st vr t b T v){c:Nat}(hne:on=true->c≠b)(x:Value):Bx lo (W.setCell (aj c 0) x) on st vr t b T v:=
 ⟨λe=>by
  have⟨h1,h2,h3⟩:=h.made e
  exact⟨h1,h2,h3.other 0 x (hne e)⟩,λe=>(h.put e).other 0 x (hne (h.dep e).1),h.dep⟩
theorem Bx.lt (h:Bx lo W on st vr t b T v)(e:on=true):b<W.heap.size:=by
 have⟨_,_,u,h3⟩:=h.made e;exact h3.lt
end
def ox (on1 on2:Bool)(b1 b2:Nat):Prop:=on1=true->on2=true->b1≠b2
theorem ox.sy {on1 on2:Bool}{b1 b2:Nat}(h:ox on1 on2 b1 b2):ox on2 on1 b2 b1:=λe1 e2 e=>h e2 e1 e.sy
theorem ox.new1 {on st vr:Bool}(h:Bx lo W on st vr t b T v):ox true on W.heap.size b:=λ_ e q=>by
 have:=h.lt e;omega
theorem ox.new2 {on st vr:Bool}(h:Bx lo W on st vr t b T v):ox on true b W.heap.size:=(ox.new1 h).sy
def Jo (on vr:Bool)(b n1 n2:Nat):Prop:=on=true->vr=true->b<n1\/n2<=b
section
variable {lo:Nat} {W W':aw} {on:Bool} {t:Value} {b:Nat} {T:TypeId} {n:Nat}
end
theorem iE (h:jl W b T):∃u,(∀off,W.cell? (aj b off)=(#[u]:aq)[off]?)/\(∀off,W.frozen? (aj b off)=false):=by
 obtain⟨u,h⟩:=h;exact⟨u,h.I⟩
end
section
open Vo
inductive Uk (wa:aw)(mp:an)(g:GF)(fb p wn:Nat)(Vt:Int)(sg:Bool)(W:aw):Array Bool->Act->Prop where
 |mk {l0 l1 l2 l3 l4 l5 l6 l7 l8 l9 l10 Vu Vx Vy Vz:Bool} {t5 t6 t7 t8 t9 VF VA VG VB VH VI VC:Value} (bP bQ bR:Nat) (pv:Value) (f0:l0=true->t8=ah fb) (f1:l1=true->t9=ah fb) (f2:l2=true->VF=ah fb) (f3:l3=true->VA=aa g.f.num) (f4:l4=true->VG=ah fb) (f5:l5=true->VB=aa Vt) (f6:l6=true->VH=ah fb) (f7:l7=true->VI= .agg #[aa (jB mp g.f.key),pv]) (f8:l8=true->VC= .bool sg) (B:Below wa.heap.size wa W) (xP:Bx (wa.heap.size) W l9 Vx l3 t5 bP 3 VA) (xQ:Bx (wa.heap.size) W l10 Vy l5 t6 bQ 3 VB) (xR:Bx (wa.heap.size) W Vu Vz l8 t7 bR 4 VC) (Vq:ox l9 l10 bP bQ) (Vr:ox l9 Vu bP bR) (Vs:ox l10 Vu bQ bR):Uk wa mp g fb p wn Vt sg W #[l0,l1,l2,l3,l4,l5,l6,l7,l8,l9,l10,Vu,Vx,Vy,Vz] ⟨#[ah fb,ah p,undef,ah wn,.nilFunc,t5,t6,t7,t8,t9,VF,VA,VG,VB,VH,VI,VC,undef],[]⟩
section
variable (w:aw) (Q P:ax) (mp:an) (g:GF) (fb p:Nat)
def yJ (hQ:∀b,w.heap.size<=b->Q b)(h:eZ w P mp g fb)(h4:g.form=4):Calls prog 377 #[ah fb,ah p] w (jM w λw' v=>P8 w' Q mp (λx=>x=p) g v):=by
 have hmf:= @wo;have⟨pv,rv,h0,_,Vv,VL⟩:=h.blk;obtain⟨pq,rfl⟩:=gK VL;obtain⟨ra,rn,rc,rfl⟩:=d5 Vv.1;have⟨B1,KI⟩:=d8 w #[ah p] 116;have Vw:eZ (w.alloc (am #[ah p] 116)) P mp g fb:=h.O (λb _ hl=>B1.block b hl);have h1:=h0.alloc (am #[ah p] 116);have VJ:=h1.lt;obtain⟨Vt,VD⟩:=Y9 (lw mp g);obtain⟨sg,VO⟩:=Y9 (iJ (jB mp g.f.key));have VK:=λW pv=>pr W (jB mp g.f.key) pv (uo mp _)
 rw[VO]at VK;clear VL Vv h;go_in
 go_upto_region 1 with fail
 obtain⟨wa,VE⟩:=Y9 (w.alloc (am #[ah p] 116));rw[VE]at B1 KI Vw h1 VJ;simp only[VE];have VM:w.heap.size<wa.heap.size:=KI.lt;clear VE h0
 have hL:∀W,Below wa.heap.size wa W->U8 186 #[ah fb] W λe w'=>e= .returned (aa Vt)/\w'=W:=λW hW=>by
  rw[<-VD];exact sX W P mp g fb (Vw.O (λb _ hl=>hW.block b hl))
 have VN:∀W,Below wa.heap.size wa W->U8 188 #[ah fb] W λe w'=>∃pv,e= .returned (.agg #[aa (jB mp g.f.key),pv])/\Below W.heap.size W w':=λW hW=>Hm W P mp g fb (Vw.O (λb _ hl=>hW.block b hl)) h4
 clear Vw;go_cut [5,6,7]from 8 to 16 (λx y z wx=>∃nb lb sb,x=ah nb/\y=ah lb/\z=ah sb/\dX wx nb #[aa g.f.num] 3/\dX wx lb #[aa Vt] 3/\dX wx sb #[.bool sg] 4/\wa.heap.size<=nb/\wa.heap.size<=lb/\wa.heap.size<=sb/\Below wa.heap.size wa wx)
 case first=>
  refine kD (λL a W=>Uk wa mp g fb p w.heap.size Vt sg W L a) Vi ⟨0,0,0,undef,nofun,nofun,nofun,nofun,nofun,nofun,nofun,nofun,nofun,(Below.refl _ _).drew,Bx.start,Bx.start,Bx.start,nofun,nofun,nofun⟩ Vh ?_ ?_;.rintro L a W @⟨l0,l1,l2,l3,l4,l5,l6,l7,l8,l9,l10,Vu,Vx,Vy,Vz,t5,t6,t7,t8,t9,VF,VA,VG,VB,VH,VI,VC,bP,bQ,bR,pv,f0,f1,f2,f3,f4,f5,f6,f7,f8,B,xP,xQ,xR,Vq,Vr,Vs⟩ Vp;obtain rfl:l3=true:=Vp 3 Vf;obtain rfl:l5=true:=Vp 5 Vf;obtain rfl:l8=true:=Vp 8 Vf;obtain rfl:l9=true:=Vp 9 Vf;obtain rfl:l10=true:=Vp 10 Vf;obtain rfl:Vu=true:=Vp 11 Vf;obtain rfl:Vx=true:=Vp 12 Vf;obtain rfl:Vy=true:=Vp 13 Vf;obtain rfl:Vz=true:=Vp 14 Vf;obtain⟨rfl,zP,_⟩:=xP.made rfl;obtain⟨rfl,zQ,_⟩:=xQ.made rfl;obtain⟨rfl,zR,_⟩:=xR.made rfl;obtain rfl:=f3 rfl;obtain rfl:=f5 rfl;obtain rfl:=f8 rfl;have KP:=xP.put rfl;have KQ:=xQ.put rfl;have KR:=xR.put rfl;go_wp2;go_meet;grind
  refine .cons ?_ (.cons ?_ (.cons ?_ (.cons ?_ (.cons ?_ (.cons ?_ (.cons ?_ (.cons ?_ (.cons ?_ (.cons ?_ (.cons ?_ (.cons ?_ (.cons ?_ (.cons ?_ (.cons ?_ .nil))))))))))))))
  all_goals
   rintro L a W ⟨bP,bQ,bR,pv,f0,f1,f2,f3,f4,f5,f6,f7,f8,B,xP,xQ,xR,Vq,Vr,Vs⟩ h0 hd K hK;subst h0
  .clear hd;go_simp;refine hK.out _ _ ?_;simp only[U6];exact⟨bP,bQ,bR,pv,λ_=>rfl,f1,f2,f3,f4,f5,f6,f7,f8,B,xP,xQ,xR,Vq,Vr,Vs⟩
  .obtain rfl:=eV (k:=0) hd Vh;obtain rfl:=f0 rfl;clear hd;go_simp;refine hK.out _ _ ?_;simp only[U6];exact⟨bP,bQ,bR,pv,λ_=>rfl,λ_=>rfl,f2,f3,f4,f5,f6,f7,f8,B,xP,xQ,xR,Vq,Vr,Vs⟩
  .obtain rfl:=eV (k:=1) hd Vh;obtain rfl:=f1 rfl;clear hd;go_simp;refine hK.out _ _ ?_;simp only[U6];exact⟨bP,bQ,bR,pv,f0,λ_=>rfl,λ_=>rfl,f3,f4,f5,f6,f7,f8,B,xP,xQ,xR,Vq,Vr,Vs⟩
  .obtain rfl:=eV (k:=2) hd Vh;obtain rfl:=f2 rfl;have KF:=h1.G B VJ;have⟨k1,k2⟩:=KF.I;clear hd;go_simp;refine hK.out _ _ ?_;simp only[U6];exact⟨bP,bQ,bR,pv,f0,f1,λ_=>rfl,λ_=>rfl,f4,f5,f6,f7,f8,B,(xP.val _),xQ,xR,Vq,Vr,Vs⟩
  .clear hd;go_simp;refine hK.out _ _ ?_;simp only[U6];exact⟨bP,bQ,bR,pv,f0,f1,f2,f3,λ_=>rfl,f5,f6,f7,f8,B,xP,xQ,xR,Vq,Vr,Vs⟩
  .obtain rfl:=eV (k:=4) hd Vh;obtain rfl:=f4 rfl;clear hd;go_simp;go_wp2_with (first|(go_at_call 186;refine(hL _ B).V ?_;rintro e _ ⟨rfl,rfl⟩))
   refine hK.out _ _ ?_;simp only[U6];exact⟨bP,bQ,bR,pv,f0,f1,f2,f3,λ_=>rfl,λ_=>rfl,f6,f7,f8,(dU B (Below.refl _ _)),(xP.G (Below.refl _ _)),((xQ.G (Below.refl _ _)).val _),(xR.G (Below.refl _ _)),Vq,Vr,Vs⟩
  .clear hd;go_simp;refine hK.out _ _ ?_;simp only[U6];exact⟨bP,bQ,bR,pv,f0,f1,f2,f3,f4,f5,λ_=>rfl,f7,f8,B,xP,xQ,xR,Vq,Vr,Vs⟩
  .obtain rfl:=eV (k:=6) hd Vh;obtain rfl:=f6 rfl;clear hd;go_simp;go_wp2_with (first|(go_at_call 188;refine(VN _ B).V ?_;rintro e w2 ⟨VP,rfl,b2⟩))
   refine hK.out _ _ ?_;simp only[U6];exact⟨bP,bQ,bR,VP,f0,f1,f2,f3,f4,f5,λ_=>rfl,λ_=>rfl,f8,(dU B b2),(xP.G b2),(xQ.G b2),(xR.G b2),Vq,Vr,Vs⟩
  .obtain rfl:=eV (k:=7) hd Vh;obtain rfl:=f7 rfl;clear hd;go_simp;go_wp2_with (first|(go_at_call 189;refine(VK _ pv).V ?_;rintro e w3 ⟨rfl,b3⟩))
   refine hK.out _ _ ?_;simp only[U6];exact⟨bP,bQ,bR,pv,f0,f1,f2,f3,f4,f5,f6,λ_=>rfl,λ_=>rfl,(dU B b3),(xP.G b3),(xQ.G b3),((xR.G b3).val _),Vq,Vr,Vs⟩
  .clear hd;go_simp;refine hK.out _ _ ?_;simp only[U6];exact⟨W.heap.size,bQ,bR,pv,f0,f1,f2,f3,f4,f5,f6,f7,f8,(B.alloc B.size _),(xP.new B.size _),(xQ.alloc _),(xR.alloc _),(ox.new1 xQ),(ox.new1 xR),Vs⟩
  .clear hd;go_simp;refine hK.out _ _ ?_;simp only[U6];exact⟨bP,W.heap.size,bR,pv,f0,f1,f2,f3,f4,f5,f6,f7,f8,(B.alloc B.size _),(xP.alloc _),(xQ.new B.size _),(xR.alloc _),(ox.new2 xP),Vr,(ox.new1 xR)⟩
  .clear hd;go_simp;refine hK.out _ _ ?_;simp only[U6];exact⟨bP,bQ,W.heap.size,pv,f0,f1,f2,f3,f4,f5,f6,f7,f8,(B.alloc B.size _),(xP.alloc _),(xQ.alloc _),(xR.new B.size _),Vq,(ox.new2 xP),(ox.new2 xQ)⟩
  .obtain rfl:=eV (k:=9) hd Vh;obtain rfl:=eV (k:=3) hd Vh;obtain⟨rfl,zP,yP⟩:=xP.made rfl;have⟨uP,cP,kP⟩:=iE yP;obtain rfl:=f3 rfl;clear hd;go_simp;refine hK.out _ _ ?_;simp only[U6];exact⟨bP,bQ,bR,pv,f0,f1,f2,λ_=>rfl,f4,f5,f6,f7,f8,(B.setCell (p:=(aj bP 0)) zP _),xP.store,(xQ.other (λe=>Vq rfl e) _),(xR.other (λe=>Vr rfl e) _),Vq,Vr,Vs⟩
  .obtain rfl:=eV (k:=10) hd Vh;obtain rfl:=eV (k:=5) hd Vh;obtain⟨rfl,zQ,yQ⟩:=xQ.made rfl;have⟨uQ,cQ,kQ⟩:=iE yQ;obtain rfl:=f5 rfl;clear hd;go_simp;refine hK.out _ _ ?_;simp only[U6];exact⟨bP,bQ,bR,pv,f0,f1,f2,f3,f4,λ_=>rfl,f6,f7,f8,(B.setCell (p:=(aj bQ 0)) zQ _),(xP.other (λe=>Vq.sy rfl e) _),xQ.store,(xR.other (λe=>Vs rfl e) _),Vq,Vr,Vs⟩
  .obtain rfl:=eV (k:=11) hd Vh;obtain rfl:=eV (k:=8) hd Vh;obtain⟨rfl,zR,yR⟩:=xR.made rfl;have⟨uR,cR,kR⟩:=iE yR;obtain rfl:=f8 rfl;clear hd;go_simp;refine hK.out _ _ ?_;simp only[U6];exact⟨bP,bQ,bR,pv,f0,f1,f2,f3,f4,f5,f6,f7,λ_=>rfl,(B.setCell (p:=(aj bR 0)) zR _),(xP.other (λe=>Vr.sy rfl e) _),(xQ.other (λe=>Vs.sy rfl e) _),xR.store,Vq,Vr,Vs⟩
 case rest=>
  obtain⟨nb,lb,sb,rfl,rfl,rfl,h5,h6,h7,q1,q2,q3,b3⟩:=hcut;go_wp2;go_ret;exact⟨_,rfl,⟨_,_,_,_,p,rfl,KI.G b3 VM,by grind,h5,by grind,rfl,hQ _ (aE _),hQ _ Vc,hQ _ Vc,hQ _ Vc⟩,dU B1 b3⟩
end
end
section
open Go.Maps
open Vo
def Rb (S:eD)(b:au)(w:aw)(d:MT)(pb:Nat)
  (h:∀(w3:aw) (Z:ax) (rb db:Nat),ak w w3->ee w3 rb (b.extract 0 b.size) 0 1->eM S 8 (some d) w3 Z db PM.none->(∀x,Z x->w.heap.size<=x/\x<w3.heap.size)->w.heap.size<=rb->¬Z rb->
   U8 89 #[ah pb,ah rb,ah db] w3 (iD S 7 d w3 Z rb db (b.extract 0 b.size) 1 (pN b.size (eW S b (b.size+1) d PM.none 0 b.size 1)))):
  Calls prog 49 #[ah pb,ag b] w (mD w (eW S b (b.size+1) d PM.none 0 b.size 1)):=by
 have hex:b.extract 0 b.size=b:=Vd;have B1:ak w (w.U5 #[ai,U7] 49):=(Below.refl _ _).alloc (aE _) _;have B2:=B1.alloc Vd (am #[ai,ai] 183);have B3:=B2.alloc Ve (am #[ag b,aa 0,aa 1] 244);have KR:=((dX.new w #[ai,U7] 49).alloc (am #[ai,ai] 183)).alloc (am #[ag b,aa 0,aa 1] 244);have KD:=(dX.newAt (w:=w.alloc (am #[ai,U7] 49)) (n:=w.heap.size+1) Vd #[ai,ai] 183).alloc (am #[ag b,aa 0,aa 1] 244);have KW:=dX.newAt (w:=(w.alloc (am #[ai,U7] 49)).alloc (am #[ai,ai] 183)) (n:=w.heap.size+1+1) Vd #[ag b,aa 0,aa 1] 244;have Vp:=Kn ((w.U5 #[ai,U7] 49).U5 #[ai,ai] 183) b;simp only[ci]at Vp;go_in
 go_wp2_with fail;refine Vp.V ?_;rintro e w' ⟨rfl,rfl⟩;have hsz:w.heap.size+3=(((w.alloc (am #[ai,U7] 49)).alloc (am #[ai,ai] 183)).alloc (am #[ag b,aa 0,aa 1] 244)).heap.size:=Vd;clear Vp B1 B2;go_wp2_with fail;generalize(((w.alloc (am #[ai,U7] 49)).alloc (am #[ai,ai] 183)).alloc (am #[ag b,aa 0,aa 1] 244))=w3 at*;have Vr:=h w3 (λx=>x=w.heap.size+1) (w.heap.size+1+1) (w.heap.size+1) B3 (by rw[hex];exact KW) (eM.fresh KD) (λx hx=>by subst hx;omega) Vc Vc;refine Vr.V ?_;intro e w4 hq;rcases hq.part with⟨x,hP,rfl,Z',st⟩|⟨m',hP,rfl,Z',st,hdr⟩;.unfold dY;go_wp2;exact⟨rfl,rfl,B3.J (st.belowW Vc (λx hx=>Vc) Vc)⟩
 .have B4:ak w w4:=B3.J (st.belowW Vc (λx hx=>Vc) Vc);have Vs:dX w4 w.heap.size #[ai,U7] 49:=(st.block w.heap.size Vc Vc Vc).J KR;have z4:=st.size;have hg:=st.grow;clear Vr hq st;go_wp2_with fail;refine(yx (S:=S) 8 (some d) w4 Z' (w.heap.size+1) m' hdr).V ?_;rintro e w5 ⟨v,Z2,rfl,hm,Vv,Vw⟩;obtain⟨va,vc,rfl⟩:=hm.form;have Vt:=Vs.G Vw Vs.lt;have⟨r1,r2⟩:=Vt.I
  have Vq:∀x,Z2 x->w.heap.size<x:=λx hx=>by
   rcases(Vv x hx).2 with h|h
   .rcases hg x h with h|h;.omega
    .omega
   .omega
  go_wp2
  have Vx:∀x,Z2 x->x<w5.heap.size->((w5.setCell (aj w.heap.size 0) (.slice va m'.fs.length vc)).setCell (aj w.heap.size 1) (ag m'.unk)).heap[x]?=w5.heap[x]?:=λx hx _=>by
   have Vu:w.heap.size≠x:=by have:=Vq x hx;omega
   rw[dW,dO Vu,dW,dO Vu]
  rw[hP];refine dR (el results49 _ _ rfl ((Vt.set 0 _).set 1 _) underlying49 Vh) rfl ⟨_,Z2,rfl,hm.O Vx,λx hx=>⟨cq (Vq x hx),by simp only[cD];exact(Vv x hx).1⟩,?_⟩;exact((dU B4 Vw).setCell (p:=(aj w.heap.size 0)) (aE _) _).setCell (p:=(aj w.heap.size 1)) (aE _) _
end
section
open Vo
section
variable {S:eD} {R:MT->PM->Bool} {f:fo} {l:List PV}
def Ii (n:Nat):((n==1)||decide (1<n))=decide (0<n):=by
 rw[cy];simp;omega
def Jw (hm:f.isMap=false)(hr:f.isRep=false)(hz:¬(gN f.how eS=true/\fB S f≠16)):fE S R f l=((l.length==1)&&l.all (eC S R f)):=by
 unfold fE nP ku;rw[hm,hr,dO hz];simp
def Jx (hm:f.isMap=false)(hr:f.isRep=false)(hz:gN f.how eS=true/\fB S f≠16):fE S R f l=((l.length==1)&&l.all λx=> !(decide (x.1=0)&&ou x.2.1)&&eC S R f x):=by
 unfold fE nP ku;rw[hm,hr,dP hz];by_cases h1:l.length=1;.obtain⟨x,rfl⟩:=List.length_eq_one_iff.1 h1;simp[Bool.and_comm]
 .have e:(l.length==1)=false:=by simpa using h1
  simp[e]
def Jy (hm:f.isMap=false)(hr:f.isRep=true)(hz:gN f.how eS=false):fE S R f l=(decide (0<l.length)&&l.all (eC S R f)):=by
 unfold fE nP ku;rw[hm,hr,hz,<-Ii];simp
def Jz (hm:f.isMap=true):fE S R f l=((decide (0<l.length)&&l.all (eC S R f))&&jG (iJ (S.base f.key)) none l):=by
 unfold fE nP ku;rw[hm,<-Ii];simp
def OQ.as {q q':List PV->Bool}{n g:Nat}{cap:ay}{W:aw}(h:OQ q n g cap W)(he:∀l,q' l=q l):OQ q' n g cap W:=by
 obtain rfl:q'=q:=funext he;exact h
end
def vJ (k:Nat):Nat:=if k=0\/k=4\/k=9\/k=15 then 347 else if k=2\/k=7\/k=11 then 348 else if k=6 then 351 else 411
def Mu (k:Nat)(x:Int):Int:=if k=0\/k=4\/k=9\/k=15 then mN x else if k=2\/k=7\/k=11 then x%4294967296 else if k=6 then(if 0<x then 1 else 0)else x
def yU (a b:Int):(a==b)=(b==a):=by rw[cy];simp;exact eq_comm
def Rh (k:Nat)(x:Int):(Mu k x==x)=zF k x:=by
 unfold Mu zF;split;.exact yU _ _
 .split;.exact yU _ _
  .split;.exact yU _ _
   .simp
def Gl (k:Nat):∀args w,(callFunc (vJ k) args).run prog w= .ok (.enter (vJ k) args) w:=by
 unfold vJ;split;.exact enters_of func347 Vh rfl
 .split;.exact enters_of func348 Vh rfl
  .split;.exact enters_of func351 Vh rfl
   .exact enters_of func411 Vh rfl
def JA (k:Nat)(W:aw)(x:Int)(h0:0<=x):Calls prog (vJ k) #[.int .u64 x] W λe w'=>e= .returned (.int .u64 (Mu k x))/\W=w':=by
 unfold vJ Mu;split;.exact(pp W x).V λ_ _ h=>⟨h.1,h.2.sy⟩
 .split;.exact(sV W x).V λ_ _ h=>⟨h.1,h.2.sy⟩
  .split;.exact(wD W x h0).V λ_ _ h=>⟨h.1,h.2.sy⟩
   .go_in
    go_wp2;go_ret;exact⟨rfl,rfl⟩
def Kp.back {Q:ax}{w w' W:aw}(h:Kp Q w' W)(b:ak w w'):Kp Q w W:=λi q hi=>(h i q (aI hi b.size)).J (b.block i hi)
def Kp.less {Q Q':ax}{w W:aw}(h:Kp Q w W)(hq:∀b,Q' b->Q b):Kp Q' w W:=λi q hi=>h i (hq i q) hi
section
variable (w:aw)
def SP (k:Nat)(hk:k<=16):Calls prog 363 #[aa k] w λe w'=>e= .returned (.func (.func (vJ k)) #[] #[])/\w=w':=by
 rcases AQ hk with rfl|rfl|rfl|rfl|rfl|rfl|rfl|rfl|rfl|rfl|rfl|rfl|rfl|rfl|rfl|rfl|rfl
 all_goals
  go_in
  go_wp2;go_ret;exact⟨rfl,rfl⟩
def vX (k:Nat)(pq iq:aC)(hk:k<=16):Calls prog 284 #[.agg #[aa k,.pointer pq],.pointer iq] w (jM w λw' v=>SD w' (λb=>w.heap.size<=b) k iq v):=by
 have Vq:= @wo;have hC:=λW=>SP W k hk
 have⟨B0,K1,K2⟩:=gY w #[aa k,.pointer pq] #[.pointer iq] 216 116;have⟨k1,k2⟩:=K1.I;by_cases h16:k=16
 .subst h16;go_in
  go_wp2;go_ret;refine⟨_,rfl,⟨360,[ah (w.heap.size+1)],⟨rfl,enters_of func360 Vh rfl⟩,λS fl n W hK hb hu Vp=> ?_⟩,B0⟩;have⟨t,h1,h2⟩:=Vp hb;exact TC _ iq t (hK.bx Vc K2) h2 hb h1
 .by_cases h13:k=13
  .subst h13;go_in
   go_wp2;go_ret;exact⟨_,rfl,⟨361,[],⟨rfl,enters_of func361 Vh rfl⟩,λS fl n W hK hb hu Vp=>TD hu hb⟩,B0⟩
  .by_cases h14:k=14
   .subst h14;go_in
    go_wp2;go_ret;exact⟨_,rfl,⟨362,[],⟨rfl,enters_of func362 Vh rfl⟩,λS fl n W hK hb hu Vp=>TE hb⟩,B0⟩
   .have e16:((k:Int)==16)=false:=Ve;have e13:((k:Int)==13)=false:=Ve;have e14:((k:Int)==14)=false:=Ve;go_in
    go_wp2_with fail;refine(hC _).V ?_;rintro e w2 ⟨rfl,rfl⟩;go_wp2;go_ret;have B1:=(Below.refl _ _).alloc (aE _) (w:=(w.U5 #[aa k,.pointer pq] 216).U5 #[.pointer iq] 116) (am #[.func (.func (vJ k)) #[] #[]] 423);refine⟨_,rfl,⟨364,_,⟨rfl,enters_of func364 Vh rfl⟩,λS fl n W hK hb hu Vp=> ?_⟩,dU B0 B1⟩;refine TF _ (vJ k) (Mu k) (hK.bx (b:=w.heap.size+1+1) Vc (dX.newAt Vd _ _)) (Gl k) (λW x h0 _=>JA k W x h0) (λx=>by rw[hb];exact Rh k x) (by rw[hb];exact h16) (by rw[hb];exact h13) (by rw[hb];exact h14)
def Mw (f:FuncId)(cap:aq):Calls prog 287 #[.func (.func f) #[] cap] w λe w'=>e= .returned (.func (.func 367) #[] #[ah w.heap.size])/\w.U5 #[.func (.func f) #[] cap] 398=w':=by
 have Vq:= @wo;go_in
 go_wp2;go_ret;exact⟨rfl,rfl⟩
def Mx (f:FuncId)(cap:aq):Calls prog 286 #[.func (.func f) #[] cap] w λe w'=>e= .returned (.func (.func 366) #[] #[ah w.heap.size])/\w.U5 #[.func (.func f) #[] cap] 398=w':=by
 have Vq:= @wo;go_in
 go_wp2;go_ret;exact⟨rfl,rfl⟩
def JB (f:FuncId)(cap:aq)(sg:Bool):Calls prog 285 #[.func (.func f) #[] cap,.bool sg] w λe w'=>
  ∃eb sb vb,e= .returned (.func (.func 365) #[] #[ah eb,ah sb])/\w.heap.size<=eb/\w.heap.size<=sb/\w.heap.size<=vb/\dX w' eb #[.func (.func 366) #[] #[ah vb]] 260/\dX w' sb #[.bool sg] 4/\dX w' vb #[.func (.func f) #[] cap] 398/\ak w w':=by
 have Vq:= @wo;have hE:=λW=>Mx W f cap
 go_in
 go_wp2_with fail;refine(hE _).V ?_;rintro e w2 ⟨rfl,rfl⟩;have⟨B2,K1,K2⟩:=gY w #[.bool sg] #[.func (.func f) #[] cap] 4 398;have s1:(w.alloc (am #[.bool sg] 4)).heap.size=w.heap.size+1:=Vd;rw[s1];go_wp2;go_ret;exact⟨w.heap.size+1+1,w.heap.size,w.heap.size+1,rfl,Vc,Vc,Vc,dX.newAt Vd _ _,K1.alloc _,K2.alloc _,dU B2 ((Below.refl _ _).alloc (aE _) _)⟩
end
end
end Go.Proofs.YtfebdimolnobaaaGreatDoor
