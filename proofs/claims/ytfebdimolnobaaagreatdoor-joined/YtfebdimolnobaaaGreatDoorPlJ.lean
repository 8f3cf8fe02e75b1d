import Derived.Test.YtfebdimolnobaaaGreatDoorEnI
import Derived.Conc.MuLone
set_option maxRecDepth 100000
set_option maxHeartbeats 8000000
set_option linter.all false
namespace Go.Proofs.YtfebdimolnobaaaGreatDoor
open Go.RowKit Go.Proofs.Tryz
def lz (form:Int):Nat:=if form=0 then 193 else if form=2 then 268 else 195
def jk (form:Int):Nat:=if form=2 then 190 else 191
def Ie (v:Value):Prop:=∃f cap,v= .func (.func f) #[] cap
def P7 (w:World)(Q:Nat->Prop)(mp:ByteArray->Option Nat)(g:GF)(v:Value):Prop:=
 ∃pb nb vb vv,v= .func (.func 422) #[] #[.pointer (some ⟨pb,0,none⟩),.pointer (some ⟨nb,0,none⟩),.pointer (some ⟨vb,0,none⟩)]/\dM w pb #[Cp (lz g.form)] 480/\dM w nb #[.int .i64 g.f.num] 3/\dM w vb #[vv] 478/\mF w Q (i8 mp g.f.ty) vv/\Q pb/\Q nb/\Q vb
def NQ (w:World)(Q:Nat->Prop)(mp:ByteArray->Option Nat)(g:GF)(v:Value):Prop:=
 ∃ab nb vb vv,v= .func (.func 421) #[] #[.pointer (some ⟨ab,0,none⟩),.pointer (some ⟨nb,0,none⟩),.pointer (some ⟨vb,0,none⟩)]/\dM w ab #[.int .i64 (ee (i8 mp g.f.ty))] 235/\dM w nb #[.int .i64 g.f.num] 3/\dM w vb #[vv] 478/\mF w Q (i8 mp g.f.ty) vv/\Q ab/\Q nb/\Q vb
def P8 (w:World)(Q:Nat->Prop)(mp pm:ByteArray->Option Nat)(g:GF)(v:Value):Prop:=
 ∃ib lb pb nb p,v= .func (.func 419) #[] #[.pointer (some ⟨ib,0,none⟩),.pointer (some ⟨lb,0,none⟩),.pointer (some ⟨pb,0,none⟩),.pointer (some ⟨nb,0,none⟩)]/\dM w ib #[.pointer (some ⟨p,0,none⟩)] 116/\dM w lb #[.int .i64 (kt mp g)] 3/\dM w pb #[Cp (jk g.form)] 477/\dM w nb #[.int .i64 g.f.num] 3/\pm g.f.ty=some p/\Q ib/\Q lb/\Q pb/\Q nb
def O1 (w:World)(Q:Nat->Prop)(mp:ByteArray->Option Nat)(A:Nat->Prop)(g:GF)(v:Value):Prop:=
 ∃ib lb nb sb p,v= .func (.func 418) #[] #[.pointer (some ⟨ib,0,none⟩),.pointer (some ⟨lb,0,none⟩),.pointer (some ⟨nb,0,none⟩),.pointer (some ⟨sb,0,none⟩)]/\dM w ib #[.pointer (some ⟨p,0,none⟩)] 116/\dM w lb #[.int .i64 (kt mp g)] 3/\dM w nb #[.int .i64 g.f.num] 3/\dM w sb #[.bool (jI (i8 mp g.f.key))] 4/\A p/\Q ib/\Q lb/\Q nb/\Q sb
def Cs (w:World)(Q:Nat->Prop)(mp pm:ByteArray->Option Nat)(g:GF)(v:Value):Prop:=
 if i8 mp g.f.ty=16 then P8 w Q mp pm g v else if gR mp g=true then NQ w Q mp g v else P7 w Q mp g v
def vX (w:World)(Q:Nat->Prop)(R:GF->Value->Prop)(g:GF)(v:Value):Prop:=
 if g.riv= []then R g v else∃vb rb rv u,v= .func (.func 296) #[] #[.pointer (some ⟨vb,0,none⟩),.pointer (some ⟨rb,0,none⟩)]/\dM w vb #[rv] 35/\eD w Q 3 1 rv g.riv.length (gd g.riv)/\dM w rb #[u] 266/\Q vb/\Q rb/\R g u
def MC (mp pm:ByteArray->Option Nat)(g:GF)(iv:Value):Prop:=if i8 mp g.f.ty=16 then∃p,iv= .pointer (some ⟨p,0,none⟩)/\pm g.f.ty=some p else iv= .pointer none
structure mH (w:World)(Q:Nat->Prop)(mp:ByteArray->Option Nat)(R L:GF->Value->Prop)(g:GF)(x:rE):Prop where
 n:x.n=g.f.num
 kind:x.c1= .int .i64 (ee (eh mp g))
 packs:x.c2= .bool (gR mp g)
 riv:eD w Q 3 1 x.c3 g.riv.length (gd g.riv)
 enc:∃iq,L g (.pointer iq)/\Ic w Q mp g iq x.c4/\Fg w Q mp g iq x.c5/\DJ w Q mp g iq x.c6
 read:vX w Q R g x.c7
def ii (w:World)(Q:Nat->Prop)(mp:ByteArray->Option Nat)(R L:GF->Value->Prop):List GF->List rE->Prop
 | [],l=>l= []
 |g::gs,l=>∃x r,l=x::r/\mH w Q mp R L g x/\ii w Q mp R L gs r
def qZ (w:World)(Q:Nat->Prop)(mp:ByteArray->Option Nat)(R L:GF->Value->Prop)(gs:List GF)(pb:Nat):Prop:=
 ∃v l,dM w pb #[v] 254/\Q pb/\eD w Q 268 8 v l.length (l.flatMap iB)/\ii w Q mp R L gs l
def lA (w:World)(Q:Nat->Prop)(mp pm:ByteArray->Option Nat)(g:GF)(v:Value):Prop:=
 if g.form=4 then O1 w Q mp (qZ w Q mp (Cs w Q mp pm) (MC mp pm) [kJ nt g.f.key 1,kJ po g.f.ty 2]) g v else Cs w Q mp pm g v
def iz (w:World)(Q:Nat->Prop)(mp pm:ByteArray->Option Nat)(g:GF)(iv:Value):Prop:=
 if g.form=4 then∃p,iv= .pointer (some ⟨p,0,none⟩)/\qZ w Q mp (Cs w Q mp pm) (MC mp pm) [kJ nt g.f.key 1,kJ po g.f.ty 2] p
 else if i8 mp g.f.ty=16 then∃p,iv= .pointer (some ⟨p,0,none⟩)/\pm g.f.ty=some p
 else iv= .pointer none
def ij (w:World)(Q:Nat->Prop)(mp pm:ByteArray->Option Nat)(gs:List GF)(pb:Nat):Prop:=qZ w Q mp (lA w Q mp pm) (iz w Q mp pm) gs pb
section
variable {w w':World} {Q Q':Nat->Prop} {mp pm pm':ByteArray->Option Nat} {R R' L L':GF->Value->Prop} {g:GF} {v:Value}
def eD.move (hk:Mv w Q w' Q'){T:TypeId}{k n:Nat}{v:Value}{xs:List Value}(h:eD w Q T k v n xs):eD w' Q' T k v n xs:=
 ⟨d6 h.1 λb hb=>(hk b (h.2 b hb) (h.1.lt b hb).2).2,λb hb=>(hk b (h.2 b hb) (h.1.lt b hb).2).1⟩
def Mv.bx (hk:Mv w Q w' Q'){b:Nat}{cs:Array Value}{T:TypeId}(h:dM w b cs T)(q:Q b):dM w' b cs T:=(hk b q h.lt).2.trans h
def mE.move (hk:Mv w Q w' Q'){k:Nat}(h:mE w Q k v):mE w' Q' k v:=by
 rcases h with h|⟨t,nb,bb,h1,h2,h3,h4,h5,h6⟩
 ·exact .inl h
 ·exact .inr ⟨t,nb,bb,h1,h2,hk.bx h3 h5,hk.bx h4 h6,(hk _ h5 h3.lt).1,(hk _ h6 h4.lt).1⟩
def mF.move (hk:Mv w Q w' Q'){k:Nat}(h:mF w Q k v):mF w' Q' k v:=by
 rcases h with h|h|⟨h0,nb,nv,h1,h2,h3,h4⟩
 ·exact .inl h
 ·exact .inr (.inl h)
 ·exact .inr (.inr ⟨h0,nb,nv,h1,hk.bx h2 h3,(hk _ h3 h2.lt).1,h4.move hk⟩)
def P7.move (hk:Mv w Q w' Q')(h:P7 w Q mp g v):P7 w' Q' mp g v:=by
 obtain⟨pb,nb,vb,vv,h1,h2,h3,h4,h5,q1,q2,q3⟩:=h;exact⟨pb,nb,vb,vv,h1,hk.bx h2 q1,hk.bx h3 q2,hk.bx h4 q3,h5.move hk,(hk _ q1 h2.lt).1,(hk _ q2 h3.lt).1,(hk _ q3 h4.lt).1⟩
def NQ.move (hk:Mv w Q w' Q')(h:NQ w Q mp g v):NQ w' Q' mp g v:=by
 obtain⟨pb,nb,vb,vv,h1,h2,h3,h4,h5,q1,q2,q3⟩:=h;exact⟨pb,nb,vb,vv,h1,hk.bx h2 q1,hk.bx h3 q2,hk.bx h4 q3,h5.move hk,(hk _ q1 h2.lt).1,(hk _ q2 h3.lt).1,(hk _ q3 h4.lt).1⟩
def P8.move (hk:Mv w Q w' Q')(hp:∀t p,pm t=some p->pm' t=some p)(h:P8 w Q mp pm g v):P8 w' Q' mp pm' g v:=by
 obtain⟨ib,lb,pb,nb,p,h1,h2,h3,h4,h5,h6,q1,q2,q3,q4⟩:=h;exact⟨ib,lb,pb,nb,p,h1,hk.bx h2 q1,hk.bx h3 q2,hk.bx h4 q3,hk.bx h5 q4,hp _ _ h6,(hk _ q1 h2.lt).1,(hk _ q2 h3.lt).1,(hk _ q3 h4.lt).1,(hk _ q4 h5.lt).1⟩
def O1.move {A A':Nat->Prop}(hk:Mv w Q w' Q')(ha:∀p,A p->A' p)(h:O1 w Q mp A g v):O1 w' Q' mp A' g v:=by
 obtain⟨ib,lb,pb,nb,p,h1,h2,h3,h4,h5,h6,q1,q2,q3,q4⟩:=h;exact⟨ib,lb,pb,nb,p,h1,hk.bx h2 q1,hk.bx h3 q2,hk.bx h4 q3,hk.bx h5 q4,ha _ h6,(hk _ q1 h2.lt).1,(hk _ q2 h3.lt).1,(hk _ q3 h4.lt).1,(hk _ q4 h5.lt).1⟩
def Cs.move (hk:Mv w Q w' Q')(hp:∀t p,pm t=some p->pm' t=some p)(h:Cs w Q mp pm g v):Cs w' Q' mp pm' g v:=by
 unfold Cs at*
 split at h
 ·rename_i h0;rw[dE h0];exact P8.move hk hp h
 ·rename_i h0
  rw[dD h0]
  split at h
  ·rename_i h1;rw[dE h1];exact NQ.move hk h
  ·rename_i h1;rw[dD h1];exact P7.move hk h
def vX.move (hk:Mv w Q w' Q')(hR:∀v,R g v->R' g v)(h:vX w Q R g v):vX w' Q' R' g v:=by
 unfold vX at*
 split at h
 ·rename_i h0;rw[dE h0];exact hR v h
 ·rename_i h0
  rw[dD h0];obtain⟨vb,rb,rv,u,h1,h2,h3,h4,q1,q2,h5⟩:=h;exact⟨vb,rb,rv,u,h1,hk.bx h2 q1,h3.move hk,hk.bx h4 q2,(hk _ q1 h2.lt).1,(hk _ q2 h4.lt).1,hR u h5⟩
def MC.move (hp:∀t p,pm t=some p->pm' t=some p)(h:MC mp pm g v):MC mp pm' g v:=by
 unfold MC at*
 split at h
 ·rename_i h1
  rw[dE h1];obtain⟨p,h2,h3⟩:=h;exact⟨p,h2,hp _ _ h3⟩
 ·rename_i h1
  rw[dD h1];exact h
def mH.move (hk:Mv w Q w' Q')(hR:∀v,R g v->R' g v)(hL:∀v,L g v->L' g v){x:rE}(h:mH w Q mp R L g x):mH w' Q' mp R' L' g x:=
 ⟨h.n,h.kind,h.packs,h.riv.move hk,h.enc.imp λ_ q=>⟨hL _ q.1,q.2.1.move hk,q.2.2.1.move hk,q.2.2.2.move hk⟩,h.read.move hk hR⟩
def ii.move (hk:Mv w Q w' Q'):∀{gs:List GF} {l:List rE},(∀g∈gs,∀v,R g v->R' g v)->(∀g∈gs,∀v,L g v->L' g v)->ii w Q mp R L gs l->ii w' Q' mp R' L' gs l
 | [],_,_,_,h=>h
 |g::_,_,hR,hL,⟨x,r,h1,h2,h3⟩=>⟨x,r,h1,h2.move hk (hR g Uf) (hL g Uf),ii.move hk (λg hg=>hR g (by simp[hg])) (λg hg=>hL g (by simp[hg])) h3⟩
def qZ.move (hk:Mv w Q w' Q'){gs:List GF}{pb:Nat}(hR:∀g∈gs,∀v,R g v->R' g v)(hL:∀g∈gs,∀v,L g v->L' g v)(h:qZ w Q mp R L gs pb):qZ w' Q' mp R' L' gs pb:=by
 obtain⟨v,l,h1,h2,h3,h4⟩:=h;exact⟨v,l,hk.bx h1 h2,(hk _ h2 h1.lt).1,h3.move hk,h4.move hk hR hL⟩
def lA.move (hk:Mv w Q w' Q')(hp:∀t p,pm t=some p->pm' t=some p)(h:lA w Q mp pm g v):lA w' Q' mp pm' g v:=by
 unfold lA at*
 split at h
 ·rename_i h0;rw[dE h0];exact O1.move hk (λp hq=>hq.move hk (λg _ v h=>h.move hk hp) λg _ v h=>h.move hp) h
 ·rename_i h0;rw[dD h0];exact Cs.move hk hp h
def iz.move (hk:Mv w Q w' Q')(hp:∀t p,pm t=some p->pm' t=some p)(h:iz w Q mp pm g v):iz w' Q' mp pm' g v:=by
 unfold iz at*
 split at h
 ·rename_i h0
  rw[dE h0];obtain⟨p,h1,h2⟩:=h;exact⟨p,h1,h2.move hk (λ_ _ _ q=>q.move hk hp) λ_ _ _ q=>q.move hp⟩
 ·rename_i h0
  rw[dD h0];exact MC.move hp h
def iz.lk (h4:g.form≠4):iz w Q mp pm g v<->MC mp pm g v:=by
 unfold iz;rw[dD h4];exact Iff.rfl
def ij.move (hk:Mv w Q w' Q')(hp:∀t p,pm t=some p->pm' t=some p){gs:List GF}{pb:Nat}(h:ij w Q mp pm gs pb):ij w' Q' mp pm' gs pb:=qZ.move hk (λ_ _ _ h=>lA.move hk hp h) (λ_ _ _ h=>iz.move hk hp h) h
def ij.keep (hk:∀b,Q b->b<w.heap.size->w'.heap[b]?=w.heap[b]?)(hp:∀t p,pm t=some p->pm' t=some p){gs:List GF}{pb:Nat}(h:ij w Q mp pm gs pb):ij w' Q mp pm' gs pb:=h.move (.keep hk) hp
def lA.keep (hk:∀b,Q b->b<w.heap.size->w'.heap[b]?=w.heap[b]?)(hp:∀t p,pm t=some p->pm' t=some p)(h:lA w Q mp pm g v):lA w' Q mp pm' g v:=h.move (.keep hk) hp
def vX.keep (hk:∀b,Q b->b<w.heap.size->w'.heap[b]?=w.heap[b]?)(hR:∀v,R g v->R' g v)(h:vX w Q R g v):vX w' Q R' g v:=h.move (.keep hk) hR
def ii.len:∀{gs:List GF} {l:List rE},ii w Q mp R L gs l->l.length=gs.length
 | [],_,h=>by rw[show _= []from h];rfl
 |_::_,_,⟨b,r,h1,_,h3⟩=>by rw[h1];simp[h3.len]
def ii.snoc {g:GF}{x:rE}(h2:mH w Q mp R L g x):∀{gs:List GF} {l:List rE},ii w Q mp R L gs l->ii w Q mp R L (gs++ [g]) (l++ [x])
 | [],_,h=>by rw[show _= []from h];exact⟨x,[],rfl,h2,rfl⟩
 |_::_,_,⟨c,r,h1,h3,h4⟩=>by rw[h1];exact⟨c,r++ [x],rfl,h3,ii.snoc h2 h4⟩
def ii.get:∀{gs:List GF} {l:List rE},ii w Q mp R L gs l->∀{i:Nat} {x:rE},l[i]?=some x->∃g,gs[i]?=some g/\mH w Q mp R L g x
 | [],_,h,i,x,hx=>by rw[show _= []from h]at hx;simp at hx
 |g::_,_,⟨b,r,h1,h3,h4⟩,0,x,h=>by
  subst h1;simp at h;subst h;exact⟨g,rfl,h3⟩
 |_::_,_,⟨b,r,h1,h3,h4⟩,i+1,x,h=>by
  subst h1;have⟨c,q1,q2⟩:=h4.get (i:=i) (x:=x) (by simpa using h);exact⟨c,by simpa using q1,q2⟩
def ii.nums:∀{gs:List GF} {l:List rE},ii w Q mp R L gs l->l.map (·.n)=gs.map (·.f.num)
 | [],_,h=>by rw[show _= []from h];rfl
 |_::_,_,⟨b,r,h1,h2,h3⟩=>by rw[h1];simp[h3.nums,h2.n]
end
def mS (w:World)(Q:Nat->Prop)(S:d8)(mp pm:ByteArray->Option Nat):Prop:=∀t p,pm t=some p->∃d gs,S.msg t=some d/\ij w Q mp pm gs p/\kG S mp d gs
def mS.keep {w w':World}{Q:Nat->Prop}{S:d8}{mp pm:ByteArray->Option Nat}(h:mS w Q S mp pm)(hk:∀b,Q b->b<w.heap.size->w'.heap[b]?=w.heap[b]?):mS w' Q S mp pm:=λt p hp=>by
 have⟨d,gs,h1,h2,h3⟩:=h t p hp;exact⟨d,gs,h1,h2.keep hk (λ_ _ q=>q),h3⟩
def KX (S:d8)(mp pm:ByteArray->Option Nat)(B:Nat)(b:ByteArray)(F:Nat):Prop:=
 ∀(w:World) (Z:Nat->Prop) (sub:MT) (m:PM) (a e deep k pb:Nat) (gs:List GF) (rb db:Nat),sF w B S mp->mS w (λb=>b<B) S mp pm->ij w (λb=>b<B) mp pm gs pb->kG S mp sub gs->lw S sub->dW w rb (b.extract 0 e) a deep->ek S (k+1) (some sub) w Z db m->
  (∀x,Z x->B<=x/\x<w.heap.size)->B<=rb->¬Z rb->a<=e->e<=b.size->e-a<F->k+deep=8->WM S a sub m->
  Ua 89 #[.pointer (some ⟨pb,0,none⟩),.pointer (some ⟨rb,0,none⟩),.pointer (some ⟨db,0,none⟩)] w (g6 S k sub w Z rb db (b.extract 0 e) deep (oS e (eE S b F sub m a e deep)))
section
open Uq
section
variable {w:an} {b c n:Nat} {T:TypeId} {v:Value}
theorem If (w:an)(o:Obj)(b:Nat)(cs:Array Value)(T:TypeId):dM (w.alloc o) b cs T<->if b=w.heap.size then o= .cells cs T (0,0)else dM w b cs T:=by
 unfold dM
 by_cases h:b=w.heap.size
 ·subst h;rw[dE rfl,heap_alloc_new];simp
 ·rw[dD h]
  by_cases hl:b<w.heap.size
  ·rw[Below.heap_alloc w o b hl]
  ·rw[cE Ug,cE Ue]
theorem KZ (w:an)(b:Nat)(cs:Array Value)(T:TypeId):dM w.drew b cs T<->dM w b cs T:=Iff.rfl
theorem dM.deep {cs:Array Value}(h:dM w b cs T):
  (∀off,w.cell? (ai b off)=cs[off]?)/\(∀o1 off,(w.alloc o1).cell? (ai b off)=cs[off]?)/\(∀o1 o2 off,((w.alloc o1).alloc o2).cell? (ai b off)=cs[off]?)/\(∀o1 o2 o3 off,(((w.alloc o1).alloc o2).alloc o3).cell? (ai b off)=cs[off]?)/\(∀o1 o2 o3 o4 off,((((w.alloc o1).alloc o2).alloc o3).alloc o4).cell? (ai b off)=cs[off]?):=
 ⟨h.cell,λ_=>(h.alloc _).cell,λ_ _=>((h.alloc _).alloc _).cell,λ_ _ _=>(((h.alloc _).alloc _).alloc _).cell,λ_ _ _ _=>((((h.alloc _).alloc _).alloc _).alloc _).cell⟩
theorem mF.form {Q:ap}{k:Nat}(h:mF w Q k v):Ie v:=by
 rcases h with⟨_,rfl⟩|⟨_,rfl⟩|⟨_,_,_,rfl,_⟩
 ·exact⟨_,_,rfl⟩
 ·exact⟨_,_,rfl⟩
 ·exact⟨_,_,rfl⟩
theorem Below.a2 (w:an)(o1 o2:Obj):aj w ((w.alloc o1).alloc o2):=((Below.refl _ _).alloc (ay _) _).alloc Uf _
theorem Below.a3 (w:an)(o1 o2 o3:Obj):aj w (((w.alloc o1).alloc o2).alloc o3):=(Below.a2 w o1 o2).alloc Ug _
theorem Below.a4 (w:an)(o1 o2 o3 o4:Obj):aj w ((((w.alloc o1).alloc o2).alloc o3).alloc o4):=(Below.a3 w o1 o2 o3).alloc Ug _
theorem dZ {off:Nat}(h:c≠b):(w.setCell (ai c off) v).heap[b]?=w.heap[b]?:=by rw[dK,dD h]
def iI (w:an)(b:Nat)(T:TypeId):Prop:=∃u,dM w b #[u] T
theorem dM.set1 (h:iI w b T)(v:Value):dM (w.setCell (ai b 0) v) b #[v] T:=by
 obtain⟨u,h⟩:=h;simpa using h.set 0 v
theorem iI.newAt (h:n=w.heap.size)(v:Value)(T:TypeId):iI (w.alloc (.cells #[v] T)) n T:=⟨_,dM.newAt h _ _⟩
theorem iI.alloc (h:iI w b T)(o:Obj):iI (w.alloc o) b T:=h.imp λ_ q=>q.alloc o
theorem iI.drew (h:iI w b T):iI w.drew b T:=h
theorem iI.other (h:iI w b T)(off:Nat)(v:Value)(hne:c≠b):iI (w.setCell (ai c off) v) b T:=h.imp λ_ q=>q.other off v hne
theorem iI.below {w1:an}(h:iI w b T)(hb:Below n w w1)(hn:b<n):iI w1 b T:=h.imp λ_ q=>q.below hb hn
theorem DK {w':an}(h:Below n w w'):(∀b off,b<n->w'.cell? (ai b off)=w.cell? (ai b off))/\(∀b off,b<n->w'.frozen? (ai b off)=w.frozen? (ai b off)):=⟨λb off hb=>h.cell (p:=(ai b off)) hb,λb off hb=>h.frozen (p:=(ai b off)) hb⟩
theorem P9 {p q:Prop}(h:p)(k:p->q):q:=k h
theorem SJ {fb:Nat}{a b c d e:Value}(h:dM w fb #[a,b,c,d,e] T):w.cell? (ai fb 0)=some a/\w.cell? (ai fb 2)=some c/\w.cell? (ai fb 3)=some d:=⟨h.cell 0,h.cell 2,h.cell 3⟩
def jl (w:an)(A:an->Value->Prop)(e:Ending)(w':an):Prop:=∃v,e= .returned v/\A w' v/\aj w w'
section
variable (w:an) (Q P:ap) (mp pm:am->Option Nat) (g:GF) (fb:Nat)
theorem xU (hQ:∀b,w.heap.size<=b->Q b)(h:eJ w P mp g fb)(h4:g.form≠4)(hb:i8 mp g.f.ty<=15):Calls prog 380 #[ag fb] w (jl w λw' v=>P7 w' Q mp g v):=by
 have hmf:= @vD;have⟨pv,rv,h1,_,Uq,Uu⟩:=h.blk;have Uv:eh mp g=i8 mp g.f.ty:=by unfold eh;rw[dD h4]
 rw[Uv]at h1;obtain⟨pq,rfl⟩:=gq Uu;obtain⟨ra,rn,rc,rfl⟩:=dN Uq.1;have hV:=λW=>z9 W (i8 mp g.f.ty) (.pointer pq) hb
 clear Uu Uq h
 have Us:(g.form==0)=true/\lz g.form=193\/(g.form==0)=false/\(g.form==2)=true/\lz g.form=268\/(g.form==0)=false/\(g.form==2)=false/\lz g.form=195:=by
  unfold lz
  by_cases h0:g.form=0
  ·exact .inl ⟨by simp[h0],by rw[dE h0]⟩
  ·by_cases h2:g.form=2
   ·exact .inr (.inl ⟨by simp[h0],by simp[h2],by rw[dD h0,dE h2]⟩)
   ·exact .inr (.inr ⟨by simp[h0],by simp[h2],by rw[dD h0,dD h2]⟩)
 have⟨k0,k1,k2,k3,k4⟩:=h1.deep;have Uw:=h1.lt;go_in
 go_upto_region 1 with fail
 go_cut [3,4]from 6 to 14 (λx y wx=>∃vb nb vv,x=ag vb/\y=ag nb/\dM wx vb #[vv] 478/\dM wx nb #[aa g.f.num] 3/\dM wx fb #[aa g.f.num,aa g.form,aa (i8 mp g.f.ty),.pointer pq,.slice ra rn rc] 220/\mF wx Q (i8 mp g.f.ty) vv/\w.heap.size<=vb/\w.heap.size<=nb/\aj w wx)
 case first=>
  go_region_held2 (λW=>W.cell? (ai fb 0)=some (aa g.f.num)/\W.cell? (ai fb 2)=some (aa (i8 mp g.f.ty))/\W.cell? (ai fb 3)=some (.pointer pq))
   ((go_light;refine SJ (b:=aa g.form) (e:= .slice ra rn rc) (T:=220) ?_;repeat (first|exact K2|exact h1|refine dM.alloc ?_ _|refine dM.drew ?_|refine dM.other ?_ _ _ Ue)))
   (first|(go_at_call 420;refine(hV _).mono ?_;rintro e w2 ⟨vv,rfl,Ur,b2⟩;obtain⟨vf,Ut,rfl⟩:=Ur.form;refine P9 (p:=dM w2 fb #[aa g.f.num,aa g.form,aa (i8 mp g.f.ty),.pointer pq,.slice ra rn rc] 220) ?_ ?_;(first|exact dM.below h1.drew b2 Uw|exact dM.below (h1.alloc _).drew b2 (h1.alloc _).lt|exact dM.below ((h1.alloc _).alloc _).drew b2 ((h1.alloc _).alloc _).lt);intro K2;have z2:=K2.lt;have⟨k5,k6,k7,k8,k9⟩:=K2.deep;have⟨y7,y8⟩:=DK b2;(try simp only[cj,World.size_drew]at y7 y8);(first|(refine P9 (p:=w.heap.size+1<w2.heap.size/\w.heap.size<w2.heap.size) ?_ ?_;(have q:=b2.size;simp at q;omega);rintro⟨z3,z4⟩;have⟨a1,a2,a3,a4⟩:=gA (w:=w2) (b:=w.heap.size) z4;have⟨a5,a6,a7,a8⟩:=gA (w:=w2) (b:=w.heap.size+1) z3;have c1:=λoff=>y7 w.heap.size off Ue;have c2:=λoff=>y8 w.heap.size off Ue;have c3:=λoff=>y7 (w.heap.size+1) off Ue;have c4:=λoff=>y8 (w.heap.size+1) off Ue)|(refine P9 (p:=w.heap.size<w2.heap.size) ?_ ?_;(have q:=b2.size;simp at q;omega);intro z3;have⟨a1,a2,a3,a4⟩:=gA (w:=w2) (b:=w.heap.size) z3;have c1:=λoff=>y7 w.heap.size off Ue;have c2:=λoff=>y8 w.heap.size off Ue)|skip);clear y7 y8))
  all_goals
   go_wp2;go_meet
   case rel=>
    go_light;have hw:w.heap.size<=w2.heap.size:=by have q:=b2.size;simp at q;omega
    refine⟨_,_,_,rfl,rfl,?_,?_,?_,Ur.move (λb q l=>⟨hQ b (by simp at q;omega),?_⟩),Ue,Ue,?_⟩
    ·repeat (first|exact dM.newAt Un _ _|exact iI.newAt Un _ _|refine dM.set1 ?_ _|refine dM.other ?_ _ _ Ue|refine dM.alloc ?_ _|refine iI.other ?_ _ _ Ue|refine iI.below ?_ b2 Un|refine iI.drew ?_|refine iI.alloc ?_ _)
    ·repeat (first|exact dM.newAt Un _ _|exact iI.newAt Un _ _|refine dM.set1 ?_ _|refine dM.other ?_ _ _ Ue|refine dM.alloc ?_ _|refine iI.other ?_ _ _ Ue|refine iI.below ?_ b2 Un|refine iI.drew ?_|refine iI.alloc ?_ _)
    ·repeat (first|exact K2|refine dM.alloc ?_ _|refine dM.other ?_ _ _ Ue)
    ·simp at q
     repeat (first|rfl|(rw[Below.heap_alloc _ _ b Un])|(rw[dZ Ue]))
    ·repeat (first|exact Below.refl _ _|refine dI ?_ b2|refine Below.drew ?_|refine Below.alloc ?_ Un _|refine Below.setCell ?_ Un _)
 case rest=>
  obtain⟨vb,nb,vv,rfl,rfl,h5,h6,h7,Ur,q1,q2,b3⟩:=hcut;obtain⟨vf,Ut,rfl⟩:=Ur.form;have⟨k5,k6,k7,k8,k9⟩:=h7.deep;clear k0 k1 k2 k3 k4;have Ux:=b3.size
  rcases Us with⟨f0,hp⟩|⟨f0,f2,hp⟩|⟨f0,f2,hp⟩
  all_goals
   go_wp2;go_ret;have BW:∀o,aj wc (wc.alloc o):=λo=>(Below.refl _ _).alloc (ay _) _
   refine⟨_,rfl,⟨_,_,_,_,rfl,?_,h6.alloc _,h5.alloc _,Ur.move (λb q l=>⟨q,(BW _).block b l⟩),hQ _ Ux,hQ _ q2,hQ _ q1⟩,dI b3 (BW _)⟩;rw[hp];exact dM.new _ _ _
end
end
def iz.form {w:an}{Q:ap}{mp pm:am->Option Nat}{g:GF}{iv:Value}(h:iz w Q mp pm g iv):∃q,iv= .pointer q:=by
 unfold iz at h
 split at h
 ·obtain⟨p,rfl,_⟩:=h;exact⟨_,rfl⟩
 ·split at h
  ·obtain⟨p,rfl,_⟩:=h;exact⟨_,rfl⟩
  ·exact⟨_,h⟩
def xV:Prop:=∀(w:an) (Q P:ap) (mp:am->Option Nat) (g:GF) (fb:Nat),(∀b,w.heap.size<=b->Q b)->eJ w P mp g fb->g.form≠4->i8 mp g.f.ty<=15->Ua 379 #[ag fb] w (jl w λw' v=>NQ w' Q mp g v)
def BD:Prop:=∀(w:an) (Q P:ap) (mp:am->Option Nat) (g:GF) (fb p:Nat),(∀b,w.heap.size<=b->Q b)->eJ w P mp g fb->g.form=4->Ua 377 #[ag fb,ag p] w (jl w λw' v=>O1 w' Q mp (λx=>x=p) g v)
section
variable (w:an) (Q P:ap) (mp pm:am->Option Nat) (g:GF) (fb:Nat)
def uk (p:Nat)(hQ:∀b,w.heap.size<=b->Q b)(h:eJ w P mp g fb)(hp:pm g.f.ty=some p):Calls prog 378 #[ag fb,ag p] w (jl w λw' v=>P8 w' Q mp pm g v):=by
 have UB:= @vD;have⟨pv,rv,h1,_,Uq,Us⟩:=h.blk;obtain⟨pq,rfl⟩:=gq Us;obtain⟨ra,rn,rc,rfl⟩:=dN Uq.1;have hL:∀W,(∀b,b<w.heap.size->W.heap[b]?=w.heap[b]?)->Ua 186 #[ag fb] W λe w'=>e= .returned (aa (kt mp g))/\w'=W:=λW hW=>sj W P mp g fb (h.keep (λb _ hl=>hW b hl))
 have l1:∀o1,∀b,b<w.heap.size->(w.alloc o1).drew.heap[b]?=w.heap[b]?:=λo1 b hb=>Below.heap_alloc w o1 b hb
 have l2:∀o1 o2,∀b,b<w.heap.size->((w.alloc o1).alloc o2).drew.heap[b]?=w.heap[b]?:=λo1 o2 b hb=>(Below.a2 w o1 o2).block b hb
 have l3:∀o1 o2 o3,∀b,b<w.heap.size->(((w.alloc o1).alloc o2).alloc o3).drew.heap[b]?=w.heap[b]?:=λo1 o2 o3 b hb=>(Below.a3 w o1 o2 o3).block b hb
 have⟨k0,k1,k2,k3,k4⟩:=h1.deep;clear Us Uq h
 have Ut:(g.form==2)=true/\jk g.form=190\/(g.form==2)=false/\jk g.form=191:=by
  unfold jk
  by_cases h2:g.form=2
  ·exact .inl ⟨by simp[h2],by rw[dE h2]⟩
  ·exact .inr ⟨by simp[h2],by rw[dD h2]⟩
 obtain⟨Uz,Uu⟩:∃Uz,kt mp g=Uz:=⟨_,rfl⟩;rw[Uu]at hL
 rcases Ut with⟨f2,hf⟩|⟨f2,hf⟩
 all_goals
  go_in
  go_upto_region 1 with fail
  go_region_held3 (λW=>W.cell? (ai fb 0)=some (aa g.f.num))
   (first|exact k3 _ _ _ 0|exact k2 _ _ 0|exact k1 _ 0)
   (first|(go_at_call 186;refine(hL _ (l1 _)).mono ?_;rintro e w2 ⟨rfl,rfl⟩)|(go_at_call 186;refine(hL _ (l2 _ _)).mono ?_;rintro e w2 ⟨rfl,rfl⟩)|(go_at_call 186;refine(hL _ (l3 _ _ _)).mono ?_;rintro e w2 ⟨rfl,rfl⟩))
  all_goals
   go_wp2;go_ret;refine⟨_,rfl,⟨_,_,_,_,p,rfl,?_,?_,?_,?_,hp,hQ _ Ue,hQ _ Ue,hQ _ Ue,hQ _ Ue⟩,(Below.a4 w _ _ _ _).drew⟩
   all_goals simp[If,KZ,Cp,hf,Uu]<;>omega
def lA.fn {w:an}{Q:ap}{mp pm:am->Option Nat}{g:GF}{v:Value}(h:lA w Q mp pm g v):Ie v:=by
 unfold lA at h
 split at h
 ·obtain⟨_,_,_,_,_,rfl,_⟩:=h;exact⟨_,_,rfl⟩
 ·unfold Cs at h
  split at h
  ·obtain⟨_,_,_,_,_,rfl,_⟩:=h;exact⟨_,_,rfl⟩
  ·split at h
   ·obtain⟨_,_,_,_,rfl,_⟩:=h;exact⟨_,_,rfl⟩
   ·obtain⟨_,_,_,_,rfl,_⟩:=h;exact⟨_,_,rfl⟩
def xW (iv:Value)(HP:xV)(HE:BD)(hQ:∀b,w.heap.size<=b->Q b)(h:eJ w P mp g fb)(hi:iz w Q mp pm g iv):Calls prog 295 #[ag fb,iv] w (jl w λw' v=>lA w' Q mp pm g v):=by
 have⟨pv,rv,h1,_,Uq,Us⟩:=h.blk;obtain⟨pq,rfl⟩:=gq Us;obtain⟨ra,rn,rc,rfl⟩:=dN Uq.1;have Uv:=lT w P mp g fb h;have Ux:∀w1:an,aj w w1->∀b,w1.heap.size<=b->Q b:=λw1 h1 b hb=>hQ b (by have:=h1.size;omega)
 have Uy:∀w1:an,aj w w1->eJ w1 P mp g fb:=λw1 hb=>h.keep (λb _ hl=>hb.block b hl)
 clear Us Uq;unfold iz at hi
 by_cases h4:g.form=4
 ·rw[dE h4]at hi;obtain⟨p,rfl,Ut⟩:=hi;have f4:(g.form==4)=true:=by simp[h4]
  have hC:=HE w Q P mp g fb p hQ h h4;have⟨k1,k2⟩:=h1.rules;go_in
  go_wp2_with fail;refine hC.mono ?_;rintro e w2 ⟨v,rfl,hv,b2⟩
  have hr:lA w2 Q mp pm g v:=by
   unfold lA;rw[dE h4]
   exact hv.move (.keep λ_ _ _=>rfl) λx hx=>by
    subst hx;exact Ut.move (.keep λb _ l=>b2.block b l) (λ_ _ _ q=>q.move (.keep λb _ l=>b2.block b l) (λ_ _ q=>q)) λ_ _ _ q=>q
  obtain⟨vf,Ur,rfl⟩:=hr.fn;go_wp2;go_ret;exact⟨_,rfl,hr,b2⟩
 ·rw[dD h4]at hi;have f4:(g.form==4)=false:=by simp[h4]
  have UC:eh mp g=i8 mp g.f.ty:=by unfold eh;rw[dD h4]
  rw[UC]at h1;have Uw:∀w' v,Cs w' Q mp pm g v->lA w' Q mp pm g v:=λw' v q=>by unfold lA;rw[dD h4];exact q
  have⟨k1,k2⟩:=h1.rules
  by_cases h16:i8 mp g.f.ty=16
  ·rw[dE h16]at hi;obtain⟨p,rfl,Ut⟩:=hi;have UD:((i8 mp g.f.ty:Int)==16)=true:=by simp[h16]
   have hC:=uk w Q P mp pm g fb p hQ h Ut;go_in
   go_wp2_with fail;refine hC.mono ?_;rintro e w2 ⟨v,rfl,hv,b2⟩;have hr:lA w2 Q mp pm g v:=Uw _ _ (by unfold Cs;rw[dE h16];exact hv);obtain⟨vf,Ur,rfl⟩:=hr.fn;go_wp2;go_ret;exact⟨_,rfl,hr,b2⟩
  ·rw[dD h16]at hi;subst hi;have UD:((i8 mp g.f.ty:Int)==16)=false:=Ug;have hle:=tG mp g.f.ty
   cases hpk:gR mp g with
   |true=>
    rw[hpk]at Uv;go_in
    go_wp2_with fail;refine Uv.mono ?_;rintro e w1 ⟨rfl,b1⟩;go_wp2_with fail;refine(HP w1 Q P mp g fb (Ux w1 b1) (Uy w1 b1) h4 Ue).mono ?_;rintro e w2 ⟨v,rfl,hv,b2⟩;have hr:lA w2 Q mp pm g v:=Uw _ _ (by unfold Cs;rw[dD h16,dE hpk];exact hv);obtain⟨vf,Ur,rfl⟩:=hr.fn;go_wp2;go_ret;exact⟨_,rfl,hr,dI b1 b2⟩
   |false=>
    rw[hpk]at Uv;go_in
    go_wp2_with fail;refine Uv.mono ?_;rintro e w1 ⟨rfl,b1⟩;go_wp2_with fail;refine(xU w1 Q P mp g fb (Ux w1 b1) (Uy w1 b1) h4 Ue).mono ?_;rintro e w2 ⟨v,rfl,hv,b2⟩;have hr:lA w2 Q mp pm g v:=Uw _ _ (by unfold Cs;rw[dD h16,dD (by rw[hpk];simp)];exact hv);obtain⟨vf,Ur,rfl⟩:=hr.fn;go_wp2;go_ret;exact⟨_,rfl,hr,dI b1 b2⟩
def yW (iv:Value)(HP:xV)(HE:BD)(hQ:∀b,w.heap.size<=b->Q b)(hPQ:∀b,P b->Q b)(h:eJ w P mp g fb)(hi:iz w Q mp pm g iv):Calls prog 213 #[ag fb,iv] w (jl w λw' v=>vX w' Q (lA w' Q mp pm) g v):=by
 have UB:= @vD;have⟨pv,rv,h1,_,Uq,Us⟩:=h.blk;have hC:=xW w Q P mp pm g fb iv HP HE hQ h hi;obtain⟨iq,rfl⟩:=hi.form;obtain⟨pq,rfl⟩:=gq Us;obtain⟨ra,rc,rfl⟩:=iD Uq.1;clear Us hi h;go_in
 go_wp2_with fail;refine hC.mono ?_;rintro e w2 ⟨v,rfl,hv,b2⟩;have⟨vf,Ur,UA⟩:=hv.fn;have h2:=h1.below b2 h1.lt;have⟨k5,k6,k7,k8,k9⟩:=h2.deep;have hw2:=b2.size
 by_cases h0:g.riv= []
 ·have e0:((g.riv.length:Int)==0)=true:=by simp[h0]
  subst UA;go_wp2;go_ret;have B3:∀o,aj w2 (w2.alloc o):=λo=>(Below.refl _ _).alloc (ay _) _
  refine⟨_,rfl,(show vX _ Q (lA _ Q mp pm) g _ from ?_),dI b2 (B3 _)⟩;unfold vX;rw[dE h0];exact hv.move (.keep λb _ l=>(B3 _).block b l) (λ_ _ q=>q)
 ·have e0:((g.riv.length:Int)==0)=false:=by simpa using h0
  subst UA;go_wp2;go_ret;refine⟨_,rfl,(show vX _ Q (lA _ Q mp pm) g _ from ?_),dI b2 (Below.a2 w2 _ _)⟩;unfold vX;rw[dD h0];refine⟨_,_,_,_,rfl,dM.newAt Uf _ _,?_,(dM.new w2 _ _).alloc _,hQ _ Ue,hQ _ Ue,?_⟩
  ·exact eD.move (λb q l=>⟨hPQ b q,(dI b2 (Below.a2 w2 _ _)).block b l⟩) Uq
  ·exact hv.move (.keep λb _ l=>(Below.a2 w2 _ _).block b l) (λ_ _ q=>q)
end
end
section
open Go.Maps
open Uq
def m9:∀{l:List MT} {s:am} {d:MT},mg l s=some d->d.name=s
 | [],_,_,h=>by cases h
 |m::l,s,d,h=>by
  rw[mg]at h
  split at h
  ·rename_i q
   cases h
   exact jd (gw.1 q)
  ·exact m9 h
def dX.freshP {bs:au}{a b:an}(h:dX bs a b){c:Nat}(hc:a.heap.size<=c)(off:Nat)(u:Value):dX bs a (b.setCell (ai c off) u):=
 ⟨h.os,h.tape,h.output,by simpa using h.size,λi hi hn=>by rw[dZ Ue];exact h.block i hi hn⟩
def Qk (kp mk:Nat)(U:au)(X:ap)(b:Nat):Prop:=b≠mk/\b≠kp/\b∉U/\X b
def nD (S:d8)(pm:am->Option Nat):Nat:=(S.ms.filter λd=>(pm d.name).isNone).length
def oI {α:Type}{p q:α->Bool}(h:∀x,p x=true->q x=true):∀l:List α,(l.filter p).length<=(l.filter q).length
 | []=>ay _
 |x::l=>by
  have ih:=oI h l
  grind
def sO {α:Type}{p q:α->Bool}(h:∀x,p x=true->q x=true){y:α}(hy1:p y=false)(hy2:q y=true):∀l:List α,y∈l->(l.filter p).length<(l.filter q).length
 |x::l,hm=>by
  rw[cu,cu]
  rcases aN.1 hm with rfl|hm
  ·rw[hy1,hy2];have:=oI h l
   grind
  ·have ih:=sO h hy1 hy2 l hm
   grind
def Ig {S:d8}{pm Uq:am->Option Nat}(h:∀t p,pm t=some p->Uq t=some p):nD S Uq<=nD S pm:=by
 refine oI (λd hd=> ?_) S.ms
 cases hq:pm d.name with
 |none=>rfl
 |some p=>grind
def An {S:d8}{pm Uq:am->Option Nat}(h:∀t p,pm t=some p->Uq t=some p){d:MT}(hd:d∈S.ms)(h0:pm d.name=none){p:Nat}(h1:Uq d.name=some p):nD S Uq<nD S pm:=by
 refine sO (λd hd=> ?_) (y:=d) (by grind) (by grind) S.ms hd
 cases hq:pm d.name with
 |none=>rfl
 |some p=>grind
structure uW (kp mk:Nat)(mu:Int)(S:d8)(mp:am->Option Nat)(w:an)(N:Nat)(pm:am->Option Nat)(U:au)(X:ap):Prop where
 kb:dM w kp #[.int .i32 mu,.int .u32 0,.map (some mk)] 170
 mb:fU w mk N pm
 ne:mk≠kp
 ct:N+nD S pm<=4000
 inj:∀t t' p,pm t=some p->pm t'=some p->t=t'
 pl:∀t p,pm t=some p->(p∈U/\dM w p #[ah] 254/\∃d,S.msg t=some d)\/∃d gs,S.msg t=some d/\kG S mp d gs/\ij w (Qk kp mk U X) mp pm gs p
structure La (w:an)(P:ap)(S:d8)(mp:am->Option Nat):Prop where
 md:∀t d,S.msg t=some d->∃mb gs,yH mp t=some mb/\iE w P mp mb d.name gs/\kG S mp d gs/\d.name.size<=2000
 ty:∀t,i8 mp t=16->∃d,S.msg t=some d
def La.keep {w w':an}{P:ap}{S:d8}{mp:am->Option Nat}(h:La w P S mp)(hk:∀b,P b->b<w.heap.size->w'.heap[b]?=w.heap[b]?):La w' P S mp:=
 ⟨λt d q=>by
  have⟨mb,gs,h1,h2,h3,h4⟩:=h.md t d q
  exact⟨mb,gs,h1,h2.keep hk,h3,h4⟩,h.ty⟩
structure BE (kp mk W0:Nat)(mu:Int)(S:d8)(mp:am->Option Nat)(P:ap)(w:an)(N:Nat)(pm:am->Option Nat)(U:au)(X:ap):Prop where
 ok:uW kp mk mu S mp w N pm U X
 md:La w P S mp
 w0:W0<=w.heap.size
 uu:∀u∈U,W0<=u/\u<w.heap.size
 xx:∀b,P b->X b
 xn:∀b,w.heap.size<=b->X b
 hp:∀b,P b->b<W0/\b≠mk/\b≠kp
 kl:kp<W0
 ml:mk<W0
def Qa (kp mk:Nat)(mu:Int)(S:d8)(mp:am->Option Nat)(w:an)(pm:am->Option Nat)(U:au)(X:ap)(A:an->(am->Option Nat)->Value->Prop)(e:Ending)(w':an):Prop:=
 ∃v N' Uq,e= .returned v/\A w' Uq v/\uW kp mk mu S mp w' N' Uq U X/\(∀t p,pm t=some p->Uq t=some p)/\dX [mk] w w'
section
variable {kp mk W0:Nat} {mu:Int} {S:d8} {mp:am->Option Nat} {P:ap} {w w':an} {N N':Nat} {pm Uq:am->Option Nat} {U:au} {X:ap}
def BE.pq (h:BE kp mk W0 mu S mp P w N pm U X){b:Nat}(hb:P b):Qk kp mk U X b:=by
 have⟨h1,h2,h3⟩:=h.hp b hb;exact⟨h2,h3,λq=>by have:=(h.uu b q).1;omega,h.xx b hb⟩
def BE.nq (h:BE kp mk W0 mu S mp P w N pm U X){b:Nat}(hb:w.heap.size<=b):Qk kp mk U X b:=by
 have:=h.w0;have:=h.kl;have:=h.ml;exact⟨Ue,Ue,λq=>by have:=(h.uu b q).2;omega,h.xn b hb⟩
def BE.on (h:BE kp mk W0 mu S mp P w N pm U X)(hk:uW kp mk mu S mp w' N' Uq U X)(hw:dX [mk] w w'):BE kp mk W0 mu S mp P w' N' Uq U X:=
 ⟨hk,h.md.keep λb hb hl=>hw.block b hl (by simp;exact(h.hp b hb).2.1),aG h.w0 hw.size,λu hu=>⟨(h.uu u hu).1,aD (h.uu u hu).2 hw.size⟩,h.xx,λb hb=>h.xn b (aG hw.size hb),h.hp,h.kl,h.ml⟩
def uW.keep (h:uW kp mk mu S mp w N pm U X)(hk:∀b,b<w.heap.size->w'.heap[b]?=w.heap[b]?):uW kp mk mu S mp w' N pm U X:=
 ⟨(hk _ h.kb.lt).trans h.kb,h.mb.keep (hk _ h.mb.lt),h.ne,h.ct,h.inj,λt p hp=>by
  rcases h.pl t p hp with⟨h1,h2,h3⟩|⟨d,gs,h1,h2,h3⟩
  ·exact .inl ⟨h1,(hk _ h2.lt).trans h2,h3⟩
  ·exact .inr ⟨d,gs,h1,h2,h3.keep (λb _ hl=>hk b hl) (λ_ _ q=>q)⟩⟩
def uW.lt (h:uW kp mk mu S mp w N pm U X){t:am}{p:Nat}(hp:pm t=some p):p<w.heap.size:=by
 rcases h.pl t p hp with⟨_,h2,_⟩|⟨d,gs,_,_,v,l,h3,_⟩
 ·exact h2.lt
 ·exact h3.lt
def BE.keep (h:BE kp mk W0 mu S mp P w N pm U X)(hb:aj w w'):BE kp mk W0 mu S mp P w' N pm U X:=h.on (h.ok.keep λb hl=>hb.block b hl) (.of_below hb)
def uW.begin {w2:an}{d:MT}(h:uW kp mk mu S mp w N pm U X)(hd:S.msg d.name=some d)(h0:pm d.name=none)(hg:((w.alloc (.cells #[ah] 254))).grownBy w2 (some mk))(hm:fU w2 mk (N+1) (ja pm d.name w.heap.size)):
  uW kp mk mu S mp w2 (N+1) (ja pm d.name w.heap.size) (w.heap.size::U) X:=by
 have Us:∀t p,pm t=some p->ja pm d.name w.heap.size t=some p:=λt p hp=>by
  unfold ja
  split
  ·rename_i q
   rw[show t=d.name from jd (gw.1 q),h0]at hp
   cases hp
  omega
 have h1:ja pm d.name w.heap.size d.name=some w.heap.size:=by
  unfold ja;rw[dE (gw.2 rfl)]
 have Ut:∀t p,ja pm d.name w.heap.size t=some p->(t=d.name/\p=w.heap.size)\/pm t=some p:=λt p hp=>by
  unfold ja at hp
  split at hp
  ·rename_i q
   cases hp
   exact .inl ⟨jd (gw.1 q),rfl⟩
  grind
 have Ur:∀b,b≠mk->b<w.heap.size->w2.heap[b]?=w.heap[b]?:=λb hb hl=>(hg.block b Ug (λe=>hb (Option.some.inj e))).trans (Below.heap_alloc _ _ b hl)
 have KP:dM w2 w.heap.size #[ah] 254:=(dM.new w _ _).grown hg (λe=>by have:=h.mb.lt;grind);have UL:=An Us (iV hd) h0 h1;refine⟨(Ur _ (λe=>h.ne e.symm) h.kb.lt).trans h.kb,hm,h.ne,by have:=h.ct;omega,λt t' p q1 q2=> ?_,λt p hp=> ?_⟩
 ·rcases Ut t p q1 with⟨e1,e2⟩|e1
  ·rcases Ut t' p q2 with⟨e3,_⟩|e3
   ·rw[e1,e3]
   ·have:=h.lt e3;omega
  ·rcases Ut t' p q2 with⟨e3,e4⟩|e3
   ·have:=h.lt e1;omega
   ·exact h.inj t t' p e1 e3
 ·rcases Ut t p hp with⟨rfl,rfl⟩|US
  ·grind
  ·rcases h.pl t p US with⟨q1,q2,q3⟩|⟨d',gs,q1,q2,q3⟩
   ·refine .inl ⟨by grind,(Ur p (λe=> ?_) q2.lt).trans q2,q3⟩;subst e;have⟨D,hD,_⟩:=h.mb;obtain⟨_,_,hobj,_⟩:=hD;unfold dM at q2
    grind
   ·refine .inr ⟨d',gs,q1,q2,q3.move (λb hb hl=>⟨⟨hb.1,hb.2.1,?_,hb.2.2.2⟩,Ur b hb.1 hl⟩) Us⟩;intro e
    rcases aN.1 e with e|e
    ·omega
    ·exact hb.2.2.1 e
def uW.done {w3:an}{p:Nat}{v:Value}{l:List rE}{d:MT}{gs:List GF}(h:uW kp mk mu S mp w3 N pm (p::U) X)(hp:pm d.name=some p)(hd:S.msg d.name=some d)(hG:kG S mp d gs)(hpU:p∉U)(hpk:p≠mk/\p≠kp/\X p)(hb:dM w3 p #[ah] 254)
  (Uu:eD w3 (Qk kp mk (p::U) X) 268 8 v l.length (l.flatMap iB)) (hs:ii w3 (Qk kp mk (p::U) X) mp (lA w3 (Qk kp mk (p::U) X) mp pm) (iz w3 (Qk kp mk (p::U) X) mp pm) gs l):uW kp mk mu S mp (w3.setCell (ai p 0) v) N pm U X:=by
 have Ur:∀b,b≠p->(w3.setCell (ai p 0) v).heap[b]?=w3.heap[b]?:=λb UT=>dZ (λe=>UT e.symm)
 have Uz:Mv w3 (Qk kp mk (p::U) X) (w3.setCell (ai p 0) v) (Qk kp mk U X):=λb q _=>⟨⟨q.1,q.2.1,λe=>q.2.2.1 (by simp[e]),q.2.2.2⟩,Ur b (λe=>q.2.2.1 (by simp[e]))⟩
 refine⟨(Ur _ (λe=>hpk.2.1 e.symm)).trans h.kb,h.mb.keep (Ur _ (λe=>hpk.1 e.symm)),h.ne,h.ct,h.inj,λt q hq=> ?_⟩
 by_cases e:q=p
 ·subst e;obtain rfl:=h.inj _ _ _ hq hp;refine .inr ⟨d,gs,hd,hG,v,l,by simpa using hb.set 0 v,⟨hpk.1,hpk.2.1,hpU,hpk.2.2⟩,Uu.move Uz,hs.move Uz (λg _ u hu=>hu.move Uz (λ_ _ q=>q)) λg _ u hu=>hu.move Uz (λ_ _ q=>q)⟩
 ·rcases h.pl t q hq with⟨q1,q2,q3⟩|⟨d',UU,q1,q2,q3⟩
  ·rcases aN.1 q1 with e'|e'
   ·omega
   ·exact .inl ⟨e',(Ur q e).trans q2,q3⟩
  ·exact .inr ⟨d',UU,q1,q2,q3.move Uz (λ_ _ q=>q)⟩
end
section
variable (kp mk W0:Nat) (mu:Int) (S:d8) (mp:am->Option Nat) (P:ap)
def Fh (n:Nat)(gs:List GF):Prop:=∀(w:an) (N:Nat) (pm:am->Option Nat) (U:au) (X:ap) (mb:Nat) (nm:am),BE kp mk W0 mu S mp P w N pm U X->nD S pm<=n->iE w P mp mb nm gs->gs.length<=2001->
 Ua 140 #[ag kp,ag mb] w (Qa kp mk mu S mp w pm U X λw' Uq v=>∃l,eD w' (Qk kp mk U X) 268 8 v l.length (l.flatMap iB)/\ii w' (Qk kp mk U X) mp (lA w' (Qk kp mk U X) mp Uq) (iz w' (Qk kp mk U X) mp Uq) gs l)
def SK (n:Nat):Prop:=∀(w:an) (N:Nat) (pm:am->Option Nat) (U:au) (X:ap) (mb:Nat) (d:MT) (gs:List GF),BE kp mk W0 mu S mp P w N pm U X->nD S pm<=n->S.msg d.name=some d->iE w P mp mb d.name gs->kG S mp d gs->d.name.size<=2000->
 Ua 88 #[ag kp,ag mb] w (Qa kp mk mu S mp w pm U X λ_ Uq v=>∃p,v=ag p/\Uq d.name=some p)
def vY (n:Nat)(g:GF):Prop:=∀(w:an) (N:Nat) (pm:am->Option Nat) (U:au) (X:ap) (fb:Nat),BE kp mk W0 mu S mp P w N pm U X->nD S pm<=n->eJ w P mp g fb->
 Ua 207 #[ag kp,ag fb] w (Qa kp mk mu S mp w pm U X λw' Uq v=>iz w' (Qk kp mk U X) mp Uq g v)
def Ih (w:an):(zeroValue 116).run prog w= .ok (.pointer none) w:=Uj
def fU.lookP {w:an}{b n:Nat}{mp:am->Option Nat}(h:fU w b n mp)(s:am)(hs:s.size<=maxLen):
  (Instr.lookup 161 (.map (some b)) (ae s) false).run prog w= .ok (gI (mp s)) w:=by
 obtain⟨D,h1,h2⟩:=h;have⟨v,ps,UC,hR⟩:=h1.lookup Hd underlying161 (Ih w) (kK none) (He s hs);have e:=h2 s;unfold nO at e;rw[e]at hR;rw[UC,pr hR]
def SL (n:Nat)(HS:∀m gs,m<n->Fh kp mk W0 mu S mp P m gs):SK kp mk W0 mu S mp P n:=by
 intro w N pm U X mb d gs I hn hd hM hG hsz;have⟨fv,fbs,h1,hPb,Uu,UV⟩:=id hM;obtain⟨fa,fn,fc,rfl⟩:=dN Uu.1;have hl:=λq=>fU.lookP (w:=w.drewN q) (I.ok.mb.keep rfl) d.name Ul
 have⟨k1,k2⟩:=I.ok.kb.rules;have⟨k3,k4⟩:=h1.rules
 cases hpm:pm d.name with
 |some p=>
  rw[hpm]at hl;unfold gI at hl;have hl0:=hl 0;go_enter func88,ntmps88;go_upto_region 1 with fail
  go_quiet (fail)
  go_wp2;go_ret;exact⟨_,N,pm,rfl,⟨p,rfl,hpm⟩,I.ok.keep (λ_ _=>rfl),λ_ _ q=>q,(dX.refl _ _).drewN _⟩
 |none=>
  rw[hpm]at hl;unfold gI at hl;go_enter func88,ntmps88;go_upto_region 1 with fail
  go_quiet (fail)
  have bq:aj w (w.drewN nq):=ie (Below.refl _ _) nq;have I1:=I.keep bq;have UM:=h1.below bq h1.lt;have UN:=hM.keep (w':=w.drewN nq) (λb _ hl=>bq.block b hl);have kq:dX [mk] w (w.drewN nq):= .of_below bq;clear k1 k2 k3 k4 hl h1 hM Uu UV I bq;generalize w.drewN nq=w1 at*;have⟨D,UE,UJ⟩:=I1.ok.mb;have UD:(w1.alloc (ak #[ah] 254)).drew.ownsMap prog 9 gr mk N D:=UE.alloc _;have hct:=I1.ok.ct;have⟨w2,UC,Uv,Uy⟩:=UD.update Hd underlying161 Ul (key:=ae d.name) (val:=ag w1.heap.size) (He d.name Ul) (kK (some w1.heap.size));have UA:(w1.alloc (ak #[ah] 254)).grownBy w2 (some mk):=⟨Uy.os,Uy.tape,Uy.output,Uy.size,Uy.block⟩;have UH:=fU.put (b:=w1.heap.size) UD UJ Uv;have ok2:=I1.ok.begin hd hpm UA UH;have qF:dX [mk] w1 w2:=((dX.refl _ _).alloc _).trans (dX.of_grown UA);have UO:w1.heap.size<w2.heap.size:=by have:=UA.size;simp at this;omega
  have I2:BE kp mk W0 mu S mp P w2 (N+1) (ja pm d.name w1.heap.size) (w1.heap.size::U) X:=
   ⟨ok2,I1.md.keep λb hb hl=>qF.block b hl (by simp;exact(I1.hp b hb).2.1),aG I1.w0 qF.size,λu hu=>by
    rcases aN.1 hu with rfl|hu
    ·exact⟨I1.w0,UO⟩
    ·exact⟨(I1.uu u hu).1,aD (I1.uu u hu).2 qF.size⟩,I1.xx,λb hb=>I1.xn b (aG qF.size hb),I1.hp,I1.kl,I1.ml⟩
  have Us:∀t p,pm t=some p->ja pm d.name w1.heap.size t=some p:=λt p hp=>by
   unfold ja
   split
   ·rename_i q
    rw[show t=d.name from jd (gw.1 q),hpm]at hp
    cases hp
   omega
  have Ux:ja pm d.name w1.heap.size d.name=some w1.heap.size:=by
   unfold ja;rw[dE (gw.2 rfl)]
  have UL:=An Us (iV hd) hpm Ux;obtain⟨n',rfl⟩:∃n',n=n'+1:=⟨n-1,Ue⟩;have UP:=HS n' gs Ue w2 (N+1) _ _ X mb d.name I2 Ue (UN.keep λb hb hl=>qF.block b hl (by simp;exact(I1.hp b hb).2.1)) hG.len;have UQ:dM w2 w1.heap.size #[ah] 254:=(dM.new w1 _ _).grown UA (λe=>by have:=UE.lt;grind);have UB:=I1.nq (ay _);have⟨k1,k2⟩:=(I1.ok.kb.alloc (ak #[ah] 254)).rules;have⟨k3,k4⟩:=(UM.alloc (ak #[ah] 254)).rules
  have UR:Hid (∀(w3:an) (N':Nat) (Uq:am->Option Nat) (v:Value) (l:List rE),uW kp mk mu S mp w3 N' Uq (w1.heap.size::U) X->Uq d.name=some w1.heap.size->dM w3 w1.heap.size #[ah] 254->eD w3 (Qk kp mk (w1.heap.size::U) X) 268 8 v l.length (l.flatMap iB)->ii w3 (Qk kp mk (w1.heap.size::U) X) mp (lA w3 (Qk kp mk (w1.heap.size::U) X) mp Uq) (iz w3 (Qk kp mk (w1.heap.size::U) X) mp Uq) gs l->uW kp mk mu S mp (w3.setCell (ai w1.heap.size 0) v) N' Uq U X):=
   λw3 N' Uq v l h1 h2 h3 h4 h5=>h1.done h2 hd hG UB.2.2.1 ⟨UB.1,UB.2.1,UB.2.2.2⟩ h3 h4 h5
  have hmk:w1.heap.size≠mk:=UB.1;clear Uy UD UE UJ Uv UH UA HS;go_upto_region 5 with fail
  go_region
  all_goals
   go_wp2_with fail;refine UP.mono ?_;rintro e w3 ⟨v,N',Uq,rfl,⟨l,Uw,UF⟩,UW,UG,UK⟩;have UI:dM w3 w1.heap.size #[ah] 254:=UQ.kept UK (by grind);obtain⟨va,vn,vc,rfl⟩:=dN Uw.1;have⟨k5,k6⟩:=UI.rules;go_wp2;go_ret;refine⟨_,N',Uq,rfl,⟨_,rfl,UG _ _ Ux⟩,UR.out w3 N' Uq _ l UW (UG _ _ Ux) UI Uw UF,λt p q=>UG _ _ (Us t p q),?_⟩;exact(kq.trans (qF.trans UK)).freshP kq.size 0 _
end
end
section
variable {P:Program} {ops:Array Oper} {Q:Exit->Act->an->Prop}
def um (l:List Bool)(i:Nat)(h:l[i]?=some false):(l.set i true).count false+1=l.count false:=by
 induction l generalizing i with
 |nil=>cases h
 |cons x xs ih=>
  cases i with
  |zero=>simp only[cD,Option.some.injEq]at h;subst h;simp
  |succ i=>
   simp only[cC]at h;have q:=ih i h;simp only[aB,List.count_cons];omega
def qs {L:Array Bool}{i:Nat}(h:L.getD i true=false):L.toList[i]?=some false:=by
 rw[bz];rw[Array.getD_eq_getD_getElem?]at h
 cases hq:L[i]? with
 |none=>rw[hq]at h;cases h
 |some x=>rw[hq]at h;exact dH some h
def GA (P:Program)(ops:Array Oper)(Q:Exit->Act->an->Prop)(J:Array Bool->Act->an->Prop)(i:Nat)(o:Oper):Prop:=
 ∀L a w,J L a w->L.getD i true=false->(o.after.all λe=> !Region.binds .any e||L.getD e.on false)=true->
  ∀K:Act->an->Prop,Shut (∀a' w',J (L.setIfInBounds i true) a' w'->K a' w')->
   if Region.wanted o (yielded ops a.tmps)=true then Oper.wp P o a w K Q else K (a.put o.dst undef) w
def eG {af:Array Edge}{L:Array Bool}{k:Nat}(hd:(af.all λe=> !Region.binds .any e||L.getD e.on false)=true)(hk:(af.any λe=>Region.binds .any e&&e.on==k)=true):L.getD k false=true:=by
 have⟨i,hi,h⟩:=Array.any_eq_true.1 hk;rw[aJ]at h;have q:=Array.all_eq_true.1 hd i hi;rw[h.1,cL,dj,beq_iff_eq.1 h.2]at q;exact q
def mI (P:Program)(ops:Array Oper)(Q:Exit->Act->an->Prop)(J:Array Bool->Act->an->Prop)(k:Nat)(l:List Oper):Prop:=∀j o,l[j]?=some o->GA P ops Q J (k+j) o
def mI.nil {J:Array Bool->Act->an->Prop}{k:Nat}:mI P ops Q J k []:=λj o h=>by cases h
def mI.cons {J:Array Bool->Act->an->Prop}{k:Nat}{o:Oper}{l:List Oper}(h:GA P ops Q J k o)(hs:mI P ops Q J (k+1) l):mI P ops Q J k (o::l):=λj x hx=>by
 cases j with
 |zero=>simp only[cD,Option.some.injEq]at hx;subst hx;exact h
 |succ j=>simp only[cC]at hx;have q:=hs j x hx;rwa [Nat.add_right_comm,cN]at q
def Lb (ops:Array Oper):Bool:=(List.range ops.size).all λi=>((ops[i]?).map λo=>o.after.all λe=> !Region.binds .any e||decide (e.on<i)).getD true
def Ii (hb:Lb ops=true){L:Array Bool}(h:Region.ready .any ops L= [])(n:Nat):∀i,i<n->i<ops.size->L.getD i true=true:=by
 induction n with
 |zero=>intro i hi;omega
 |succ n ih=>
  intro i hi hl
  by_cases hn:i<n
  ·exact ih i hn hl
  have e:i=n:=Ue;subst e
  cases hg:L.getD i true with
  |true=>rfl
  |false=>
   have hm:i∈Region.ready .any ops L:=by
    refine mem_ready.2 ⟨hg,_,bF hl,λe he Us=> ?_⟩;have q:=bS.1 hb i (List.mem_range.2 hl);rw[bF hl]at q;have q1:=Array.all_eq_true_iff_forall_mem.1 q e he;rw[Us,cL,dj]at q1;have q2:=of_decide_eq_true q1;have q3:=ih e.on q2 Ue
    have q4:e.on<L.size:=by
     have q5:=qs hg;rw[bz]at q5;have⟨q6,_⟩:=bA.1 q5;omega
    rw[Array.getD_eq_getD_getElem?,bF q4]at q3⊢;exact q3
   rw[h]at hm
   cases hm
def Ij {L:Array Bool}(h:L.toList.count false=0)(i:Nat):L.getD i true=true:=by
 cases hg:L.getD i true with
 |true=>rfl
 |false=>
  have q:=um _ _ (qs hg);omega
def Ik {J:Array Bool->Act->an->Prop}(hb:Lb ops=true)(hs:mI P ops Q J 0 ops.toList)(hd:∀L a w,J L a w->(∀i,i<ops.size->L.getD i true=true)->Q .normal a w):
  ∀(fuel:Nat) (L:Array Bool) (a:Act) (w:an),L.toList.count false<=fuel->J L a w->wpAny P .any ops Q fuel L a w:=by
 intro fuel
 induction fuel with
 |zero=>
  intro L a w hc hj;refine⟨List.eq_nil_iff_forall_not_mem.2 λi hi=> ?_,hd _ _ _ hj λi _=>Ij Ue i⟩;have q:=um _ _ (qs (mem_ready.1 hi).1);omega
 |succ n ih=>
  intro L a w hc hj;refine⟨λh0=>hd _ _ _ hj λi hi=>Ii hb h0 (i+1) i (Nat.lt_succ_self i) hi,λi hi=> ?_⟩;have⟨h0,o,ho,Uq⟩:=mem_ready.1 hi;have q:=um _ _ (qs h0);have Ur:=hs i o (by rw[bz];exact ho);rw[Nat.zero_add]at Ur;refine wpOp_step ho λK' hK=>Ur L a w hj h0 ?_ K' λa' w' Ut=>hK a' w' (ih _ a' w' ?_ Ut)
  ·rw[Array.all_eq_true_iff_forall_mem];intro e he
   cases hb:Region.binds .any e with
   |false=>rfl
   |true=>simpa using Uq e he hb
  ·rw[Array.toList_setIfInBounds];omega
def jP {id:Nat}{a:Act}{w:an}(J:Array Bool->Act->an->Prop)(hm:P.follows .mixedOrders=true)(h0:J (Array.replicate ops.size false) a w.drew)
  (hb:Lb ops=true) (hd:∀L a w,J L a w->(∀i,i<ops.size->L.getD i true=true)->Q .normal a w) (hs:mI P ops Q J 0 ops.toList):(Code.region id ops true).wp P Q a w:=
 wp_region_any hm (Ik hb hs hd _ _ _ _ Uf h0)
end
section
variable {lo b:Nat} {W:an} {t v:Value} {T:TypeId}
structure Bx (lo:Nat)(W:an)(on st vr:Bool)(t:Value)(b:Nat)(T:TypeId)(v:Value):Prop where
 made:on=true->t=ag b/\lo<=b/\iI W b T
 put:st=true->dM W b #[v] T
 dep:st=true->on=true/\vr=true
section
variable {lo:Nat} {W W':an} {on st vr:Bool} {t:Value} {b:Nat} {T:TypeId} {v:Value}
theorem Bx.start:Bx lo W false false false t b T v:=⟨nofun,nofun,nofun⟩
theorem Bx.below (h:Bx lo W on st vr t b T v)(hb:Below W.heap.size W W'):Bx lo W' on st vr t b T v:=
 ⟨λe=>by
  have⟨h1,h2,u,h3⟩:=h.made e
  exact⟨h1,h2,u,h3.below hb h3.lt⟩,λe=>(h.put e).below hb (h.put e).lt,h.dep⟩
theorem Bx.alloc (h:Bx lo W on st vr t b T v)(o:Obj):Bx lo (W.alloc o) on st vr t b T v:=h.below ((Below.refl _ _).alloc (ay _) o)
theorem Bx.val (h:Bx lo W on st false t b T v)(v':Value):Bx lo W on st true t b T v':=
 ⟨h.made,λe=>(by cases(h.dep e).2),λe=>(by cases(h.dep e).2)⟩
theorem Bx.new (h:Bx lo W false st vr t b T v)(hl:lo<=W.heap.size)(u:Value):Bx lo (W.alloc (.cells #[u] T)) true st vr (ag W.heap.size) W.heap.size T v:=
 ⟨λ_=>⟨rfl,hl,u,dM.new _ _ _⟩,λe=>(by cases(h.dep e).1),λe=>(by cases(h.dep e).1)⟩
theorem Bx.store (h:Bx lo W true st true t b T v):Bx lo (W.setCell (ai b 0) v) true true true t b T v:=by
 have⟨h1,h2,h3⟩:=h.made rfl;have q:=dM.set1 h3 v;exact⟨λ_=>⟨h1,h2,v,q⟩,λ_=>q,λ_=>⟨rfl,rfl⟩⟩
theorem Bx.other (h:Bx lo W on st vr t b T v){c:Nat}(hne:on=true->c≠b)(x:Value):Bx lo (W.setCell (ai c 0) x) on st vr t b T v:=
 ⟨λe=>by
  have⟨h1,h2,h3⟩:=h.made e
  exact⟨h1,h2,h3.other 0 x (hne e)⟩,λe=>(h.put e).other 0 x (hne (h.dep e).1),h.dep⟩
theorem Bx.lt (h:Bx lo W on st vr t b T v)(e:on=true):b<W.heap.size:=by
 have⟨_,_,u,h3⟩:=h.made e;exact h3.lt
end
def nE (on1 on2:Bool)(b1 b2:Nat):Prop:=on1=true->on2=true->b1≠b2
theorem nE.symm {on1 on2:Bool}{b1 b2:Nat}(h:nE on1 on2 b1 b2):nE on2 on1 b2 b1:=λe1 e2 e=>h e2 e1 e.symm
theorem nE.new1 {on st vr:Bool}(h:Bx lo W on st vr t b T v):nE true on W.heap.size b:=λ_ e q=>by
 have:=h.lt e;omega
theorem nE.new2 {on st vr:Bool}(h:Bx lo W on st vr t b T v):nE on true b W.heap.size:=(nE.new1 h).symm
def Il (on vr:Bool)(b n1 n2:Nat):Prop:=on=true->vr=true->b<n1\/n2<=b
section
variable {lo:Nat} {W W':an} {on:Bool} {t:Value} {b:Nat} {T:TypeId} {n:Nat}
end
theorem g7 (h:iI W b T):∃u,(∀off,W.cell? (ai b off)=(#[u]:Array Value)[off]?)/\(∀off,W.frozen? (ai b off)=false):=by
 obtain⟨u,h⟩:=h;exact⟨u,h.rules⟩
end
section
open Uq
inductive Tm (wa:an)(mp:am->Option Nat)(g:GF)(fb p wn:Nat)(Uu:Int)(sg:Bool)(W:an):Array Bool->Act->Prop where
 |mk {l0 l1 l2 l3 l4 l5 l6 l7 l8 l9 l10 Uv Uy Uz UA:Bool} {t5 t6 t7 t8 t9 UG UB UH UC UI UJ UD:Value} (bP bQ bR:Nat) (pv:Value) (f0:l0=true->t8=ag fb) (f1:l1=true->t9=ag fb) (f2:l2=true->UG=ag fb) (f3:l3=true->UB=aa g.f.num) (f4:l4=true->UH=ag fb) (f5:l5=true->UC=aa Uu) (f6:l6=true->UI=ag fb) (f7:l7=true->UJ= .agg #[aa (i8 mp g.f.key),pv]) (f8:l8=true->UD= .bool sg) (B:Below wa.heap.size wa W) (xP:Bx (wa.heap.size) W l9 Uy l3 t5 bP 3 UB) (xQ:Bx (wa.heap.size) W l10 Uz l5 t6 bQ 3 UC) (xR:Bx (wa.heap.size) W Uv UA l8 t7 bR 4 UD) (Ur:nE l9 l10 bP bQ) (Us:nE l9 Uv bP bR) (Ut:nE l10 Uv bQ bR):Tm wa mp g fb p wn Uu sg W #[l0,l1,l2,l3,l4,l5,l6,l7,l8,l9,l10,Uv,Uy,Uz,UA] ⟨#[ag fb,ag p,undef,ag wn,.nilFunc,t5,t6,t7,t8,t9,UG,UB,UH,UC,UI,UJ,UD,undef],[]⟩
section
variable (w:an) (Q P:ap) (mp:am->Option Nat) (g:GF) (fb p:Nat)
def xX (hQ:∀b,w.heap.size<=b->Q b)(h:eJ w P mp g fb)(h4:g.form=4):Calls prog 377 #[ag fb,ag p] w (jl w λw' v=>O1 w' Q mp (λx=>x=p) g v):=by
 have hmf:= @vD;have⟨pv,rv,h0,_,Uw,UM⟩:=h.blk;obtain⟨pq,rfl⟩:=gq UM;obtain⟨ra,rn,rc,rfl⟩:=dN Uw.1;have⟨B1,KI⟩:=dS w #[ag p] 116;have Ux:eJ (w.alloc (ak #[ag p] 116)) P mp g fb:=h.keep (λb _ hl=>B1.block b hl);have h1:=h0.alloc (ak #[ag p] 116);have UK:=h1.lt;obtain⟨Uu,UE⟩:∃Uu,kt mp g=Uu:=⟨_,rfl⟩;obtain⟨sg,UP⟩:∃sg,jI (i8 mp g.f.key)=sg:=⟨_,rfl⟩;have UL:=λW pv=>oB W (i8 mp g.f.key) pv (tG mp _)
 rw[UP]at UL;clear UM Uw h;go_in
 go_upto_region 1 with fail
 obtain⟨wa,UF⟩:∃wa,w.alloc (ak #[ag p] 116)=wa:=⟨_,rfl⟩;rw[UF]at B1 KI Ux h1 UK;simp only[UF];have UN:w.heap.size<wa.heap.size:=KI.lt;clear UF h0
 have hL:∀W,Below wa.heap.size wa W->Ua 186 #[ag fb] W λe w'=>e= .returned (aa Uu)/\w'=W:=λW hW=>by
  rw[<-UE];exact sj W P mp g fb (Ux.keep (λb _ hl=>hW.block b hl))
 have UO:∀W,Below wa.heap.size wa W->Ua 188 #[ag fb] W λe w'=>∃pv,e= .returned (.agg #[aa (i8 mp g.f.key),pv])/\Below W.heap.size W w':=λW hW=>Gc W P mp g fb (Ux.keep (λb _ hl=>hW.block b hl)) h4
 clear Ux;go_cut [5,6,7]from 8 to 16 (λx y z wx=>∃nb lb sb,x=ag nb/\y=ag lb/\z=ag sb/\dM wx nb #[aa g.f.num] 3/\dM wx lb #[aa Uu] 3/\dM wx sb #[.bool sg] 4/\wa.heap.size<=nb/\wa.heap.size<=lb/\wa.heap.size<=sb/\Below wa.heap.size wa wx)
 case first=>
  refine jP (λL a W=>Tm wa mp g fb p w.heap.size Uu sg W L a) Uk ⟨0,0,0,undef,nofun,nofun,nofun,nofun,nofun,nofun,nofun,nofun,nofun,(Below.refl _ _).drew,Bx.start,Bx.start,Bx.start,nofun,nofun,nofun⟩ Uj ?_ ?_
  ·rintro L a W @⟨l0,l1,l2,l3,l4,l5,l6,l7,l8,l9,l10,Uv,Uy,Uz,UA,t5,t6,t7,t8,t9,UG,UB,UH,UC,UI,UJ,UD,bP,bQ,bR,pv,f0,f1,f2,f3,f4,f5,f6,f7,f8,B,xP,xQ,xR,Ur,Us,Ut⟩ Uq;obtain rfl:l3=true:=Uq 3 Uh;obtain rfl:l5=true:=Uq 5 Uh;obtain rfl:l8=true:=Uq 8 Uh;obtain rfl:l9=true:=Uq 9 Uh;obtain rfl:l10=true:=Uq 10 Uh;obtain rfl:Uv=true:=Uq 11 Uh;obtain rfl:Uy=true:=Uq 12 Uh;obtain rfl:Uz=true:=Uq 13 Uh;obtain rfl:UA=true:=Uq 14 Uh;obtain⟨rfl,zP,_⟩:=xP.made rfl;obtain⟨rfl,zQ,_⟩:=xQ.made rfl;obtain⟨rfl,zR,_⟩:=xR.made rfl;obtain rfl:=f3 rfl;obtain rfl:=f5 rfl;obtain rfl:=f8 rfl;have KP:=xP.put rfl;have KQ:=xQ.put rfl;have KR:=xR.put rfl;go_wp2;go_meet
   grind
  refine .cons ?_ (.cons ?_ (.cons ?_ (.cons ?_ (.cons ?_ (.cons ?_ (.cons ?_ (.cons ?_ (.cons ?_ (.cons ?_ (.cons ?_ (.cons ?_ (.cons ?_ (.cons ?_ (.cons ?_ .nil))))))))))))))
  all_goals
   rintro L a W ⟨bP,bQ,bR,pv,f0,f1,f2,f3,f4,f5,f6,f7,f8,B,xP,xQ,xR,Ur,Us,Ut⟩ h0 hd K hK;subst h0
  ·clear hd;go_simp;refine hK.out _ _ ?_;simp only[T8];exact⟨bP,bQ,bR,pv,λ_=>rfl,f1,f2,f3,f4,f5,f6,f7,f8,B,xP,xQ,xR,Ur,Us,Ut⟩
  ·obtain rfl:=eG (k:=0) hd Uj;obtain rfl:=f0 rfl;clear hd;go_simp;refine hK.out _ _ ?_;simp only[T8];exact⟨bP,bQ,bR,pv,λ_=>rfl,λ_=>rfl,f2,f3,f4,f5,f6,f7,f8,B,xP,xQ,xR,Ur,Us,Ut⟩
  ·obtain rfl:=eG (k:=1) hd Uj;obtain rfl:=f1 rfl;clear hd;go_simp;refine hK.out _ _ ?_;simp only[T8];exact⟨bP,bQ,bR,pv,f0,λ_=>rfl,λ_=>rfl,f3,f4,f5,f6,f7,f8,B,xP,xQ,xR,Ur,Us,Ut⟩
  ·obtain rfl:=eG (k:=2) hd Uj;obtain rfl:=f2 rfl;have KF:=h1.below B UK;have⟨k1,k2⟩:=KF.rules;clear hd;go_simp;refine hK.out _ _ ?_;simp only[T8];exact⟨bP,bQ,bR,pv,f0,f1,λ_=>rfl,λ_=>rfl,f4,f5,f6,f7,f8,B,(xP.val _),xQ,xR,Ur,Us,Ut⟩
  ·clear hd;go_simp;refine hK.out _ _ ?_;simp only[T8];exact⟨bP,bQ,bR,pv,f0,f1,f2,f3,λ_=>rfl,f5,f6,f7,f8,B,xP,xQ,xR,Ur,Us,Ut⟩
  ·obtain rfl:=eG (k:=4) hd Uj;obtain rfl:=f4 rfl;clear hd;go_simp;go_wp2_with (first|(go_at_call 186;refine(hL _ B).mono ?_;rintro e _ ⟨rfl,rfl⟩))
   refine hK.out _ _ ?_;simp only[T8];exact⟨bP,bQ,bR,pv,f0,f1,f2,f3,λ_=>rfl,λ_=>rfl,f6,f7,f8,(dI B (Below.refl _ _)),(xP.below (Below.refl _ _)),((xQ.below (Below.refl _ _)).val _),(xR.below (Below.refl _ _)),Ur,Us,Ut⟩
  ·clear hd;go_simp;refine hK.out _ _ ?_;simp only[T8];exact⟨bP,bQ,bR,pv,f0,f1,f2,f3,f4,f5,λ_=>rfl,f7,f8,B,xP,xQ,xR,Ur,Us,Ut⟩
  ·obtain rfl:=eG (k:=6) hd Uj;obtain rfl:=f6 rfl;clear hd;go_simp;go_wp2_with (first|(go_at_call 188;refine(UO _ B).mono ?_;rintro e w2 ⟨UQ,rfl,b2⟩))
   refine hK.out _ _ ?_;simp only[T8];exact⟨bP,bQ,bR,UQ,f0,f1,f2,f3,f4,f5,λ_=>rfl,λ_=>rfl,f8,(dI B b2),(xP.below b2),(xQ.below b2),(xR.below b2),Ur,Us,Ut⟩
  ·obtain rfl:=eG (k:=7) hd Uj;obtain rfl:=f7 rfl;clear hd;go_simp;go_wp2_with (first|(go_at_call 189;refine(UL _ pv).mono ?_;rintro e w3 ⟨rfl,b3⟩))
   refine hK.out _ _ ?_;simp only[T8];exact⟨bP,bQ,bR,pv,f0,f1,f2,f3,f4,f5,f6,λ_=>rfl,λ_=>rfl,(dI B b3),(xP.below b3),(xQ.below b3),((xR.below b3).val _),Ur,Us,Ut⟩
  ·clear hd;go_simp;refine hK.out _ _ ?_;simp only[T8];exact⟨W.heap.size,bQ,bR,pv,f0,f1,f2,f3,f4,f5,f6,f7,f8,(B.alloc B.size _),(xP.new B.size _),(xQ.alloc _),(xR.alloc _),(nE.new1 xQ),(nE.new1 xR),Ut⟩
  ·clear hd;go_simp;refine hK.out _ _ ?_;simp only[T8];exact⟨bP,W.heap.size,bR,pv,f0,f1,f2,f3,f4,f5,f6,f7,f8,(B.alloc B.size _),(xP.alloc _),(xQ.new B.size _),(xR.alloc _),(nE.new2 xP),Us,(nE.new1 xR)⟩
  ·clear hd;go_simp;refine hK.out _ _ ?_;simp only[T8];exact⟨bP,bQ,W.heap.size,pv,f0,f1,f2,f3,f4,f5,f6,f7,f8,(B.alloc B.size _),(xP.alloc _),(xQ.alloc _),(xR.new B.size _),Ur,(nE.new2 xP),(nE.new2 xQ)⟩
  ·obtain rfl:=eG (k:=9) hd Uj;obtain rfl:=eG (k:=3) hd Uj;obtain⟨rfl,zP,yP⟩:=xP.made rfl;have⟨uP,cP,kP⟩:=g7 yP;obtain rfl:=f3 rfl;clear hd;go_simp;refine hK.out _ _ ?_;simp only[T8];exact⟨bP,bQ,bR,pv,f0,f1,f2,λ_=>rfl,f4,f5,f6,f7,f8,(B.setCell (p:=(ai bP 0)) zP _),xP.store,(xQ.other (λe=>Ur rfl e) _),(xR.other (λe=>Us rfl e) _),Ur,Us,Ut⟩
  ·obtain rfl:=eG (k:=10) hd Uj;obtain rfl:=eG (k:=5) hd Uj;obtain⟨rfl,zQ,yQ⟩:=xQ.made rfl;have⟨uQ,cQ,kQ⟩:=g7 yQ;obtain rfl:=f5 rfl;clear hd;go_simp;refine hK.out _ _ ?_;simp only[T8];exact⟨bP,bQ,bR,pv,f0,f1,f2,f3,f4,λ_=>rfl,f6,f7,f8,(B.setCell (p:=(ai bQ 0)) zQ _),(xP.other (λe=>Ur.symm rfl e) _),xQ.store,(xR.other (λe=>Ut rfl e) _),Ur,Us,Ut⟩
  ·obtain rfl:=eG (k:=11) hd Uj;obtain rfl:=eG (k:=8) hd Uj;obtain⟨rfl,zR,yR⟩:=xR.made rfl;have⟨uR,cR,kR⟩:=g7 yR;obtain rfl:=f8 rfl;clear hd;go_simp;refine hK.out _ _ ?_;simp only[T8];exact⟨bP,bQ,bR,pv,f0,f1,f2,f3,f4,f5,f6,f7,λ_=>rfl,(B.setCell (p:=(ai bR 0)) zR _),(xP.other (λe=>Us.symm rfl e) _),(xQ.other (λe=>Ut.symm rfl e) _),xR.store,Ur,Us,Ut⟩
 case rest=>
  obtain⟨nb,lb,sb,rfl,rfl,rfl,h5,h6,h7,q1,q2,q3,b3⟩:=hcut;go_wp2;go_ret;exact⟨_,rfl,⟨_,_,_,_,p,rfl,KI.below b3 UN,by grind,h5,by grind,rfl,hQ _ (ay _),hQ _ Ue,hQ _ Ue,hQ _ Ue⟩,dI B1 b3⟩
end
end
section
open Go.Maps
open Uq
structure pP:Prop where
 c:∀(w:an) (P:ap) (mp:am->Option Nat) (g:GF) (fb:Nat) (iq:aw),eJ w P mp g fb->Ua 210 #[ag fb,.pointer iq] w (jl w λw' v=>Ic w' (λb=>w.heap.size<=b) mp g iq v)
 m:∀(w:an) (P:ap) (mp:am->Option Nat) (g:GF) (fb:Nat) (iq:aw),eJ w P mp g fb->Ua 211 #[ag fb,.pointer iq] w (jl w λw' v=>Fg w' (λb=>w.heap.size<=b) mp g iq v)
 w:∀(w:an) (P:ap) (mp:am->Option Nat) (g:GF) (fb:Nat) (iq:aw),eJ w P mp g fb->Ua 212 #[ag fb,.pointer iq] w (jl w λw' v=>DJ w' (λb=>w.heap.size<=b) mp g iq v)
 p:xV
 e:BD
def vX.isFn {w:an}{Q:ap}{mp pm:am->Option Nat}{g:GF}{v:Value}(h:vX w Q (lA w Q mp pm) g v):Ie v:=by
 unfold vX at h
 split at h
 ·exact lA.fn h
 ·obtain⟨_,_,_,_,rfl,_⟩:=h;exact⟨_,_,rfl⟩
def Lc:(prog.info? 268).map (λi=>(i.zero,i.size,i.bytes))=some (some (.agg #[aa 0,aa 0,.bool false,ah,.nilFunc,.nilFunc,.nilFunc,.nilFunc]),8,80):=Uj
def BF {w:an}{fb:Nat}{a b c d e:Value}{T:TypeId}(h:dM w fb #[a,b,c,d,e] T):w.cell? (ai fb 0)=some a/\w.cell? (ai fb 2)=some c/\w.cell? (ai fb 3)=some d/\w.cell? (ai fb 4)=some e:=⟨h.cell 0,h.cell 2,h.cell 3,h.cell 4⟩
section
variable (kp mk W0:Nat) (mu:Int) (S:d8) (mp:am->Option Nat) (P:ap)
def Im (n:Nat)(g:GF)(h4:g.form≠4)(HO:SK kp mk W0 mu S mp P n):vY kp mk W0 mu S mp P n g:=by
 intro w N pm U X fb I hn hF;have⟨pv,rv,h1,_,Ur,Uv⟩:=hF.blk;obtain⟨ra,rn,rc,rfl⟩:=dN Ur.1;rw[dD h4]at Uv;have U0:eh mp g=i8 mp g.f.ty:=by unfold eh;rw[dD h4]
 rw[U0]at h1;have f4:(g.form==4)=false:=by grind
 by_cases h16:i8 mp g.f.ty=16
 ·have U1:((i8 mp g.f.ty:Int)==16)=true:=by grind
  have⟨d,hd⟩:=I.md.ty _ h16;have⟨mb,gs,q1,q2,q3,q4⟩:=I.md.md _ d hd;have hdn:=m9 hd;have hC:=HO w N pm U X mb d gs I hn (by grind) q2 q3 q4;rw[q1]at Uv;subst Uv;unfold gI at h1;have⟨k1,k2⟩:=h1.rules;go_enter func207,ntmps207;go_wp2_with fail;refine hC.mono ?_;rintro e w2 ⟨v,N',Uq,rfl,⟨p,rfl,hp⟩,ok2,hx,kw⟩;go_wp2;go_ret;refine⟨_,N',Uq,rfl,(show iz _ _ mp Uq g _ from ?_),ok2,hx,kw⟩;unfold iz;rw[dD h4,dE h16];exact⟨p,rfl,by grind⟩
 ·have U1:((i8 mp g.f.ty:Int)==16)=false:=by grind
  obtain⟨pq,rfl⟩:∃q,pv= .pointer q:=by
   subst Uv;unfold gI
   split<;>exact⟨_,rfl⟩
  have⟨k1,k2⟩:=h1.rules;go_enter func207,ntmps207;go_wp2;go_ret;refine⟨_,N,pm,rfl,(show iz _ _ mp pm g _ from ?_),I.ok,λ_ _ q=>q,dX.refl _ _⟩;unfold iz;rw[dD h4,dD h16];rfl
def In (n:Nat)(g:GF)(h4:g.form=4)(HS:Fh kp mk W0 mu S mp P n [kJ nt g.f.key 1,kJ po g.f.ty 2]):vY kp mk W0 mu S mp P n g:=by
 intro w N pm U X fb I hn hF;have⟨pv,rv,h1,_,Ur,Uv⟩:=hF.blk;obtain⟨ra,rn,rc,rfl⟩:=dN Ur.1;rw[dE h4]at Uv;obtain⟨eb,rfl,hE⟩:=Uv;have hC:=HS w N pm U X eb eS I hn hE.msg Uf;have f4:(g.form==4)=true:=by grind
 unfold gI at h1;have⟨k1,k2⟩:=h1.rules;go_enter func207,ntmps207;go_wp2_with fail;refine hC.mono ?_;rintro e w2 ⟨v,N',Uq,rfl,⟨l,hr,hs⟩,ok2,hx,kw⟩;obtain⟨va,vn,vc,rfl⟩:=dN hr.1;have B3:∀o,aj w2 (w2.alloc o):=λo=>(Below.refl _ _).alloc (ay _) _
 have U2:=(I.on ok2 kw).nq (ay _);go_wp2;go_ret;refine⟨_,N',Uq,rfl,(show iz _ _ mp Uq g _ from ?_),ok2.keep (λb hl=>(B3 _).block b hl),hx,kw.alloc _⟩;unfold iz;rw[dE h4];refine⟨_,rfl,_,l,dM.new _ _ _,U2,hr.move (.keep λb _ hl=>(B3 _).block b hl),hs.move (.keep λb _ hl=>(B3 _).block b hl) (λg' Uy u hu=> ?_) λg' Uy u hu=> ?_⟩
 ·have hu:=lA.move (.keep λb _ hl=>(B3 (ak #[.slice va vn vc] 254)).block b hl) (λ_ _ q=>q) hu;unfold lA at hu;simp only[aN,bH,or_false]at Uy
  rcases Uy with rfl|rfl
  ·rw[dD (by simp[kJ])]at hu;exact hu
  ·rw[dD (by simp[kJ])]at hu;exact hu
 ·simp only[aN,bH,or_false]at Uy
  rcases Uy with rfl|rfl
  ·exact(iz.lk (by simp[kJ])).1 hu
  ·exact(iz.lk (by simp[kJ])).1 hu
structure Ld (w:an)(pm:am->Option Nat)(U:au)(X:ap)(gs:List GF)(wr:an)(v:Value)(k:Nat)(l:List rE)(N':Nat)(Uq:am->Option Nat):Prop where
 row:wr.ownsRow w.heap.size 268 8 v l.length (l.flatMap iB)
 sts:ii wr (Qk kp mk U λb=>X b/\v.ownBlock≠some b) mp (lA wr (Qk kp mk U λb=>X b/\v.ownBlock≠some b) mp Uq) (iz wr (Qk kp mk U λb=>X b/\v.ownBlock≠some b) mp Uq) (gs.take k) l
 kin:BE kp mk W0 mu S mp P wr N' Uq U (λb=>X b/\v.ownBlock≠some b)
 ext:∀t p,pm t=some p->Uq t=some p
 kep:dX [mk] w wr
 ul:∀u∈U,u<w.heap.size
 wl:W0<=w.heap.size
end
section
variable {kp mk W0:Nat} {mu:Int} {S:d8} {mp:am->Option Nat} {P:ap}
def Qk.mono {U:au}{X Y:ap}{b:Nat}(h:Qk kp mk U X b)(hx:X b->Y b):Qk kp mk U Y b:=⟨h.1,h.2.1,h.2.2.1,hx h.2.2.2⟩
def uW.less {w:an}{N:Nat}{pm:am->Option Nat}{U:au}{X Y:ap}(h:uW kp mk mu S mp w N pm U X)(hx:∀b,X b->b<w.heap.size->Y b):uW kp mk mu S mp w N pm U Y:=
 ⟨h.kb,h.mb,h.ne,h.ct,h.inj,λt p hp=>by
  rcases h.pl t p hp with h1|⟨d,gs,h1,h2,h3⟩
  ·grind
  ·exact .inr ⟨d,gs,h1,h2,h3.move (.mono λb q l=>q.mono λq=>hx b q l) (λ_ _ q=>q)⟩⟩
def Ld.snoc {w:an}{pm:am->Option Nat}{U:au}{X:ap}{gs:List GF}{wr w1 w7 w8:an}{v:Value}{k:Nat}{l:List rE}{N' N1:Nat}{Uq Uw:am->Option Nat}{g:GF}{x:rE}{gg cap:Nat}{o:Obj}
  (h:Ld kp mk W0 mu S mp P w pm U X gs wr v k l N' Uq) (ok1:uW kp mk mu S mp w1 N1 Uw U λb=>X b/\v.ownBlock≠some b) (hx:∀t p,Uq t=some p->Uw t=some p) (k1:dX [mk] wr w1) (b7:aj w1 w7)
  (hst:mH w7 (Qk kp mk U λb=>X b/\v.ownBlock≠some b) mp (lA w7 (Qk kp mk U λb=>X b/\v.ownBlock≠some b) mp Uw) (iz w7 (Qk kp mk U λb=>X b/\v.ownBlock≠some b) mp Uw) g x) (hg:gs[k]?=some g)
  (Ur:w8.ownsRow w.heap.size 268 8 (Ub gg (l.length+1) cap) (l.length+1) (l.flatMap iB++iB x)) (hgrow:(w7.alloc o).grownBy w8 v.ownBlock) (hat:v.ownBlock=some gg\/gg=w7.heap.size+1) (hl8:gg<w8.heap.size):
  Ld kp mk W0 mu S mp P w pm U X gs w8 (Ub gg (l.length+1) cap) (k+1) (l++ [x]) N1 Uw:=by
 have UQ:(Value.slice (some (ai gg 0)) (l.length+1) cap).ownBlock=some gg:=rfl;have hv:=λb hb=>(h.row.lt b hb)
 have I:=h.kin;have UA:∀b,v.ownBlock≠some b->b<w7.heap.size->w8.heap[b]?=w7.heap[b]?:=λb hb hl=>(hgrow.block b Ug (λe=>hb e.symm)).trans (Below.heap_alloc _ _ b hl)
 have U3:∀b,v.ownBlock≠some b->b<w7.heap.size->gg≠b:=λb hb hl e=>by
  grind
 have Us:Mv w7 (Qk kp mk U λb=>X b/\v.ownBlock≠some b) w8 (Qk kp mk U λb=>X b/\(Value.slice (some (ai gg 0)) (l.length+1) cap).ownBlock≠some b):=λb q hl=>
  ⟨q.mono λq=>⟨q.1,λe=>U3 b q.2 hl (Option.some.inj (UQ▸e))⟩,UA b q.2.2.2.2 hl⟩
 have hgw:w.heap.size<=gg:=(Ur.lt gg rfl).1;have hold:∀b,b<w.heap.size->v.ownBlock≠some b:=λb hb e=>by grind
 have z1:=k1.size;have z7:=b7.size;have zw:=h.kep.size;have hwl:=h.wl;have U4:=I.kl;have U5:=I.ml;have Ut:Mv wr (Qk kp mk U λb=>X b/\v.ownBlock≠some b) w7 (Qk kp mk U λb=>X b/\v.ownBlock≠some b):=λb q hl=>⟨q,(b7.block b Ue).trans (k1.block b hl (by simp;exact q.1))⟩
 have Ux:=ok1.keep (w':=w7) λb hl=>b7.block b hl
 have U6:gs.take (k+1)=gs.take k++ [g]:=by rw[bJ,hg];rfl
 have kf:dX [mk] w w8:=⟨hgrow.os.trans (b7.os.trans (k1.os.trans h.kep.os)),hgrow.tape.trans (b7.tape.trans (k1.tape.trans h.kep.tape)),hgrow.output.trans (b7.output.trans (k1.output.trans h.kep.output)),Ue,
  λb hl hm=>(UA b (hold b hl) Ue).trans ((b7.block b Ue).trans ((k1.block b Ue hm).trans (h.kep.block b hl hm)))⟩
 refine⟨by grind,?_,⟨⟨?_,?_,Ux.ne,Ux.ct,Ux.inj,λt p hp=> ?_⟩,?_,Ue,λu hu=>⟨(I.uu u hu).1,by have:=h.ul u hu;omega⟩,λb hb=>⟨(I.xx b hb).1,λe=> ?_⟩,λb hb=>⟨(I.xn b (by grind)).1,λe=> ?_⟩,I.hp,I.kl,I.ml⟩,λt p q=>hx _ _ (h.ext t p q),kf,h.ul,h.wl⟩
 ·rw[U6];exact ii.snoc (hst.move Us (λu hu=>hu.move Us (λ_ _ q=>q)) λu hu=>hu.move Us (λ_ _ q=>q)) (h.sts.move (λb q hl=>⟨(Us b (Ut b q hl).1 Ue).1,(Us b (Ut b q hl).1 Ue).2.trans (Ut b q hl).2⟩) (λ_ _ u hu=>(hu.move Ut hx).move Us (λ_ _ q=>q)) λ_ _ u hu=>(hu.move Ut hx).move Us (λ_ _ q=>q))
 ·exact(UA kp (hold kp Ue) Ux.kb.lt).trans Ux.kb
 ·exact Ux.mb.keep (UA mk (hold mk Ue) Ux.mb.lt)
 ·rcases Ux.pl t p hp with⟨q1,q2,q3⟩|⟨d,Ve,q1,q2,q3⟩
  ·exact .inl ⟨q1,(UA p (hold p (h.ul p q1)) q2.lt).trans q2,q3⟩
  ·exact .inr ⟨d,Ve,q1,q2,q3.move Us (λ_ _ q=>q)⟩
 ·refine I.md.keep λb hb hl=> ?_
  have hb0:=I.hp b hb;exact(UA b (hold b Ue) Ue).trans ((b7.block b Ue).trans (k1.block b hl (by grind)))
 ·have:=Option.some.inj (UQ▸e);have:=(I.hp b hb).1;omega
 grind
end
section
variable (kp mk W0:Nat) (mu:Int) (S:d8) (mp:am->Option Nat) (P:ap)
def GB (n:Nat)(gs:List GF)(MK:pP)(HW:∀g∈gs,vY kp mk W0 mu S mp P n g):Fh kp mk W0 mu S mp P n gs:=by
 intro w N pm U X mb nm I hn hM hgl;have⟨i0,Vf,Vg,Vh,Vi⟩:=info_parts Lc;have⟨fv,UG,h1,hPb,Ur,UW⟩:=id hM;obtain⟨fa,fc,rfl⟩:=iD Ur.1;have hfn:=UW.len
 have A0:Ld kp mk W0 mu S mp P w pm U X gs w (ah) 0 [] N pm:=
  ⟨bm _ _ _ _,rfl,⟨I.ok.less λb q _=>⟨q,by simp[Value.ownBlock]⟩,I.md,I.w0,I.uu,λb q=>⟨I.xx b q,by simp[Value.ownBlock]⟩,λb q=>⟨I.xn b q,by simp[Value.ownBlock]⟩,I.hp,I.kl,I.ml⟩,λ_ _ q=>q,dX.refl _ _,λu hu=>(I.uu u hu).2,I.w0⟩
 have UR:=I.hp;have U4:=I.kl;have U5:=I.ml;have hw0:=I.w0;have U7:Hid (∀b,w.heap.size<=b->X b):=I.xn;have⟨k1,k2⟩:=h1.rules;clear I;go_enter func140,ntmps140;go_wp2_with fail;go_loopw [5,14] (λv i wr=>∃(k:Nat) (l:List rE) (N':Nat) (Uq:am->Option Nat),k<=gs.length/\i=aa k/\Ld kp mk W0 mu S mp P w pm U X gs wr v k l N' Uq) (λ_ i _=>gs.length-(intOf i).toNat)
 case atStart=>grind
 case round=>
  clear A0;obtain⟨k,l,N',Uq,hk,rfl,A⟩:=hrel;obtain⟨va,vc,rfl⟩:=iD A.row
  by_cases hlt:k<gs.length
  ·have⟨g,hg⟩:=gx hlt;have⟨fb,UK,Vj⟩:=UW.get hg;have US:∀b,P b->b<w.heap.size->wr.heap[b]?=w.heap[b]?:=λb hb hl=>A.kep.block b hl (by grind)
   have UH:eJ wr P mp g fb:=Vj.keep US;have UC:=Ur.keep US;have UT:=HW g (aI hg) wr N' Uq U _ fb A.kin (aG (Ig A.ext) hn) UH;obtain⟨g0,rfl,_,hgl0,Uz⟩:=el UC.1 Ue;have hq:=Uz wr rfl k (ag fb) (by simp[eU,UK,gI]);have UI:decide ((k:Int)<(UG.length:Int))=true:=by grind
   have hkb:k<UG.length:=Ue;have HG:Hid (gs[k]?=some g):=hg;have HB:Hid (UG[k]?=some fb):=UK;clear Uz hg UK k1 k2;go_wp2_with fail;refine UT.mono ?_;rintro e w1 ⟨iv,N1,Uw,rfl,UL,ok1,hx1,Mh⟩;obtain⟨iq,rfl⟩:=UL.form;have UJ:eJ w1 P mp g fb:=UH.keep λb hb hl=>Mh.block b hl (by simp;exact(UR b hb).2.1)
   have⟨pv,rv,h2,UM,UN,Uv⟩:=UJ.blk;obtain⟨pq,rfl⟩:=gq Uv;obtain⟨ra,rc,rfl⟩:=iD UN.1;have I1:=A.kin.on ok1 Mh;have UB:∀W,aj w1 W->eJ W P mp g fb:=λW hW=>UJ.keep (λb _ hl=>hW.block b hl)
   have U8:eh mp g<=16:=by
    unfold eh
    split
    ·omega
    ·exact tG _ _
   have UU:=λW=>py W (eh mp g) (.pointer pq) U8
   have UV:∀W,aj w1 W->Ua 209 #[ag fb] W λe w'=>e= .returned (.bool (gR mp g))/\Below W.heap.size W w':=λW hW=>lT W P mp g fb (UB W hW)
   have hC:=λW hW=>MK.c W P mp g fb iq (UB W hW)
   have U9:=λW hW=>MK.m W P mp g fb iq (UB W hW)
   have Va:=λW hW=>MK.w W P mp g fb iq (UB W hW)
   have Vb:∀W,aj w1 W->Ua 213 #[ag fb,.pointer iq] W (jl W λw' v=>vX w' (Qk kp mk U λb=>X b/\(Value.slice va l.length vc).ownBlock≠some b) (lA w' (Qk kp mk U λb=>X b/\(Value.slice va l.length vc).ownBlock≠some b) mp Uw) g v):=λW hW=>
    yW W _ P mp Uw g fb (.pointer iq) MK.p MK.e (λb hb=>I1.nq (aG hW.size hb)) (λb hb=>I1.pq hb) (UB W hW) (UL.move (.keep λb _ hl=>hW.block b hl) (λ_ _ q=>q))
   have UD:w1.ownsRow w.heap.size 268 8 (.slice va l.length vc) l.length (l.flatMap iB):=d6 A.row λb hb=>Mh.block b (A.row.lt b hb).2 (by simp;have:=(A.row.lt b hb).1;omega)
   have hfW:fb<W0:=(UR fb UM).1;have HO:Hid (some fb≠(Value.slice va l.length vc).ownBlock):=λe=>by have:=(A.row.lt fb e.symm).1;omega
   have hll:l.length<=2001:=by have:=A.sts.len;rw[bG]at this;omega
   have d0:aj w1 w1.drew:=(Below.refl _ _).drew;have zk:=Mh.size;have zw:=A.kep.size;have HR:Hid (eD w1 (Qk kp mk U λb=>X b/\(Value.slice va l.length vc).ownBlock≠some b) 3 1 (.slice ra g.riv.length rc) g.riv.length (gd g.riv)):=UN.mono (λb hb _=>I1.pq hb);clear Uv UN UH UB UT UJ;have Vc:dM w1.drew fb #[aa g.f.num,aa g.form,aa (eh mp g),.pointer pq,.slice ra g.riv.length rc] 220:=h2;obtain⟨wk,UX⟩:∃wk:Int,(ee (eh mp g):Int)=wk:=⟨_,rfl⟩;rw[UX]at UU;obtain⟨pk,UY⟩:∃pk,gR mp g=pk:=⟨_,rfl⟩;rw[UY]at UV;go_upto_region 6 with fail
   go_region_held3 (λW=>W.cell? (ai fb 0)=some (aa g.f.num)/\W.cell? (ai fb 2)=some (aa (eh mp g))/\W.cell? (ai fb 3)=some (.pointer pq)/\W.cell? (ai fb 4)=some (.slice ra g.riv.length rc))
    (first|exact BF K9|exact BF (K7.alloc _)|exact BF K7|exact BF K6|exact BF K5|exact BF K4|exact BF K3|exact BF K2|exact BF Vc)
    (first|(refine step_append_lies _ Uk _ _ _ Uk w.heap.size 268 i0 _ 8 80 underlying252 Vf Vg Vh Vi rfl Ue (.slice va l.length vc) l.length (l.flatMap iB) Uk (UE.alloc _) (ai w7.heap.size 0) 1 1 [_,_,_,_,_,_,_,_] Uk Uk (br (t:=268) (fr:=(0,0)) (heap_alloc_new w7 _)) Um Ue Ul Ue Ug (w7.heap.size+1) Uf ?_;intro gg cap w9 UF Uu UO UP;have K9:=(K7.alloc _).grown Uu HO.out)|(go_at_call 208;refine(UU _).mono ?_;rintro e w2 ⟨rfl,b2⟩;have c2:=dI d0 b2;have K2:=h2.below c2 h2.lt)|(go_at_call 209;refine(UV w2 c2).mono ?_;rintro e w3 ⟨rfl,b3⟩;have c3:=dI c2 b3;have K3:=h2.below c3 h2.lt)|(go_at_call 210;refine(hC w3 c3).mono ?_;rintro e w4 ⟨v4,rfl,E4,b4⟩;have⟨f4,a4,e4,_⟩:=id E4;obtain rfl:=e4.eq;have c4:=dI c3 b4;have K4:=h2.below c4 h2.lt)|(go_at_call 211;refine(U9 w4 c4).mono ?_;rintro e w5 ⟨v5,rfl,E5,b5⟩;have⟨f5,a5,e5,_⟩:=id E5;obtain rfl:=e5.eq;have c5:=dI c4 b5;have K5:=h2.below c5 h2.lt)|(go_at_call 212;refine(Va w5 c5).mono ?_;rintro e w6 ⟨v6,rfl,E6,b6⟩;have⟨f6,a6,e6,_⟩:=id E6;obtain rfl:=e6.eq;have c6:=dI c5 b6;have K6:=h2.below c6 h2.lt)|(go_at_call 213;refine(Vb w6 c6).mono ?_;rintro e w7 ⟨rf,rfl,UZ,b7⟩;obtain⟨f7,a7,rfl⟩:=UZ.isFn;have c7:=dI c6 b7;have z7:=c7.size;have K7:=h2.below c7 h2.lt;have UE:=eH c7 UD))
   have ST:mH w7 (Qk kp mk U λb=>X b/\(Value.slice va l.length vc).ownBlock≠some b) mp (lA w7 (Qk kp mk U λb=>X b/\(Value.slice va l.length vc).ownBlock≠some b) mp Uw) (iz w7 (Qk kp mk U λb=>X b/\(Value.slice va l.length vc).ownBlock≠some b) mp Uw) g ⟨g.f.num,aa wk,.bool pk,.slice ra g.riv.length rc,.func (.func f4) #[] a4.toArray,.func (.func f5) #[] a5.toArray,.func (.func f6) #[] a6.toArray,.func (.func f7) #[] a7⟩:=
    ⟨rfl,by rw[<-UX],by rw[<-UY],HR.out.keep (λb _ hl=>c7.block b hl),⟨iq,UL.move (.keep λb _ hl=>c7.block b hl) (λ_ _ q=>q),E4.move λb q hl=>⟨I1.nq (aG c3.size q),(dI b5 (dI b6 b7)).block b hl⟩,E5.move λb q hl=>⟨I1.nq (aG c4.size q),(dI b6 b7).block b hl⟩,E6.move λb q hl=>⟨I1.nq (aG c5.size q),b7.block b hl⟩⟩,UZ⟩
   have A2:=A.snoc ok1 hx1 Mh c7 ST HG.out UF Uu (UO.imp id id) UP;go_wp2;go_roundw
   case rel=>grind
   case measure=>simp[intOf];omega
  ·have UI:decide ((k:Int)<(UG.length:Int))=false:=by grind
   obtain rfl:k=gs.length:=Ue
   have HE:Hid (∃l0,eD wr (Qk kp mk U X) 268 8 (.slice va l.length vc) l0.length (l0.flatMap iB)/\ii wr (Qk kp mk U X) mp (lA wr (Qk kp mk U X) mp Uq) (iz wr (Qk kp mk U X) mp Uq) gs l0):=by
    have hs:=A.sts;rw[bo]at hs;have Us:Mv wr (Qk kp mk U λb=>X b/\(Value.slice va l.length vc).ownBlock≠some b) wr (Qk kp mk U X):= .mono λb q _=>q.mono λq=>q.1
    refine⟨l,⟨ou A.row (aL _),λb hb=> ?_⟩,hs.move Us (λ_ _ u hu=>hu.move Us (λ_ _ q=>q)) λ_ _ u hu=>hu.move Us (λ_ _ q=>q)⟩;have Vd:=(A.row.lt b hb).1;exact⟨Ue,Ue,λq=>by have:=A.ul b q;omega,U7.out b Vd⟩
   have HK:Hid (uW kp mk mu S mp wr N' Uq U X):=A.kin.ok.less λb q _=>q.1
   go_wp2;go_ret;exact⟨_,N',Uq,rfl,HE.out,HK.out,A.ext,A.kep⟩
def NR (MK:pP):∀n,SK kp mk W0 mu S mp P n:=by
 intro n
 induction n using Nat.strongRecOn with
 |_ n ih=>
 refine SL kp mk W0 mu S mp P n λm gs hm=> ?_
 have hO:=ih m hm;have h0:∀g:GF,g.form≠4->vY kp mk W0 mu S mp P m g:=λg h4=>Im kp mk W0 mu S mp P m g h4 hO
 refine GB kp mk W0 mu S mp P m gs MK λg _=> ?_
 by_cases h4:g.form=4
 ·refine In kp mk W0 mu S mp P m g h4 (GB kp mk W0 mu S mp P m _ MK λg' Uy=>h0 g' ?_);simp only[aN,bH,or_false]at Uy
  rcases Uy with rfl|rfl
  ·simp[kJ]
  ·simp[kJ]
 grind
end
end
end Go.Proofs.YtfebdimolnobaaaGreatDoor
namespace Go.Proofs
abbrev Tryz.muLink:Go.Conc.Locks.MuLink:={lock:=86,unlock:=87,ilock:=138,iunlock:=139,lockSlow:=203,unlockSlow:=206,disable:=199,enable:=201,acquire:=202,relMerge:=204,cas32:=200,add32:=205,tMutex:=168,tIMutex:=166,tPMutex:=251,tPIMutex:=318,tPI32:=320,tUP:=322,tNoCopy:=163,tU32:=164}
theorem Tryz.muLib:Go.Conc.Locks.MuLib Tryz.prog Tryz.muLink:=
 ⟨Tryz.func86,Tryz.func87,Tryz.func138,Tryz.func139,Tryz.func199,Tryz.func201,Tryz.func202,Tryz.func204,Tryz.func200,Tryz.func205,Tryz.underlying166,Tryz.runUnderlying166,Tryz.sizeOf166,Tryz.isAgg166,Tryz.zeroValue166,Tryz.underlying168,Tryz.runUnderlying168,Tryz.sizeOf168,Tryz.isAgg168,Tryz.zeroValue168,Tryz.underlying251,Tryz.runUnderlying251,Tryz.sizeOf251,Tryz.isAgg251,Tryz.zeroValue251,Tryz.underlying318,Tryz.runUnderlying318,Tryz.sizeOf318,Tryz.isAgg318,Tryz.zeroValue318,Tryz.underlying320,Tryz.runUnderlying320,Tryz.sizeOf320,Tryz.isAgg320,Tryz.zeroValue320,Tryz.underlying322,Tryz.runUnderlying322,Tryz.sizeOf322,Tryz.isAgg322,Tryz.zeroValue322,Tryz.underlying163,Tryz.runUnderlying163,Tryz.sizeOf163,Tryz.isAgg163,Tryz.zeroValue163,Tryz.underlying21,Tryz.runUnderlying21,Tryz.sizeOf21,Tryz.isAgg21,Tryz.zeroValue21,(by kernel_rfl)⟩
end Go.Proofs
namespace Go.Proofs.YtfebdimolnobaaaGreatDoor
open Go.RowKit Go.Maps
open Uq
section
variable {kp mk:Nat} {mu mu':Int} {S:d8} {mp:am->Option Nat} {w:an} {N:Nat} {pm:am->Option Nat} {U:au} {X:ap}
theorem uW.mutex (h:uW kp mk mu S mp w N pm U X)(hU:kp∉U):uW kp mk mu' S mp (w.setCell (ai kp 0) (.int .i32 mu')) N pm U X:=by
 have hk:∀b,b≠kp->(w.setCell (ai kp 0) (.int .i32 mu')).heap[b]?=w.heap[b]?:=fun b hb=>dZ (fun e=>hb e.symm)
 refine⟨by simpa using h.kb.set 0 (.int .i32 mu'),h.mb.keep (hk _ h.ne),h.ne,h.ct,h.inj,fun t p hp=> ?_⟩
 rcases h.pl t p hp with⟨q1,q2,q3⟩|⟨d,gs,q1,q2,q3⟩
 ·exact .inl ⟨q1,(hk p (fun e=>hU (e▸q1))).trans q2,q3⟩
 ·exact .inr ⟨d,gs,q1,q2,q3.keep (fun b q _=>hk b q.2.1) (fun _ _ q=>q)⟩
end
section
variable (kp mk W0:Nat) (S:d8) (mp:am->Option Nat) (P:ap)
theorem Ru (MK:pP)(w:an)(N:Nat)(pm:am->Option Nat)(mb:Nat)(d:MT)(gs:List GF)(X:ap)(I:BE kp mk W0 0 S mp P w N pm [] X)(hd:S.msg d.name=some d)(hM:iE w P mp mb d.name gs)(hG:kG S mp d gs)(hsz:d.name.size<=2000):
  Ua 48 #[ag kp,ag mb] w fun e w'=>∃p N' Uq,e= .returned (ag p)/\Uq d.name=some p/\uW kp mk 0 S mp w' N' Uq [] X/\(∀t p,pm t=some p->Uq t=some p)/\dX [mk,kp] w w':=by
 have Ur:=I.ok.kb;have ok1:=I.ok.mutex (mu':=1) (by simp)
 have I1:BE kp mk W0 1 S mp P (w.setCell (ai kp 0) (.int .i32 1)) N pm [] X:=
  ⟨ok1,I.md.keep fun b hb _=>dZ (fun e=>(I.hp b hb).2.2 e.symm),by simpa using I.w0,by simp,I.xx,fun b hb=>I.xn b (by simpa using hb),I.hp,I.kl,I.ml⟩
 have hC:=NR kp mk W0 1 S mp P MK (nD S pm) (w.setCell (ai kp 0) (.int .i32 1)) N pm [] X mb d gs I1 (ay _) hd (hM.keep fun b hb _=>dZ (fun e=>(I.hp b hb).2.2 e.symm)) hG hsz;have hL:=Go.MuLone.lock_free Tryz.muLib (ai kp 0) w (Ur.cell 0) (Ur.rules.2 0);have⟨k1,k2⟩:=Ur.rules;have Us:=ok1.kb;go_enter_defers Tryz.func48,Tryz.ntmps48
 go_wp2_with fail;refine hL.mono ?_;rintro e w1 ⟨rfl,rfl⟩;have⟨k3,k4⟩:=Us.rules;clear k1 k2 hL;have hkl:=Us.lt;go_wp2_with fail;have Mh:dX [mk,kp] w (w.setCell (ai kp 0) (.int .i32 1)):=(dX.refl _ _).set1 (by simp) 0 _;generalize w.setCell (ai kp 0) (.int .i32 1)=w1 at*;refine hC.mono ?_;rintro e w2 ⟨v,N',Uq,rfl,⟨p,rfl,hp⟩,ok2,hx,qF⟩;have Ut:=ok2.kb;clear k3 k4;have⟨k5,k6⟩:=Ut.rules;go_wp2;refine leaves_cons (f:=87) (args:= #[ag kp]) (by simp) (by simp[go_sem]) ?_;refine(Go.MuLone.unlock_deferred Tryz.muLib (ai kp 0) .returning w2 (k5 0) (k6 0)).mono ?_;rintro e u' w'' ⟨rfl,rfl,rfl⟩;simp[Leaves,settle];refine⟨ag p,by simp[results,Tryz.results48],p,rfl,⟨N',Uq,hp,ok2.mutex (by simp),hx,?_⟩⟩;exact(Mh.trans (qF.mono (by simp))).set1 (by simp) 0 _
end
end Go.Proofs.YtfebdimolnobaaaGreatDoor
namespace Go.Proofs.YtfebdimolnobaaaGreatDoor
open Go.RowKit Go.Proofs.Tryz
section
open Go.Maps
open Uq
section
variable {ks:au} {K:(ap)->an->Prop} {B:Nat}
def pQ (E B:Nat)(K:an->Prop):Prop:=∀a b:an,K a->a.heap.size<=b.heap.size->(∀x,(x<E\/B<=x)->x<a.heap.size->b.heap[x]?=a.heap[x]?)->K b
def qt (ks:au)(K:(ap)->an->Prop)(w:an)(R:Fx PM)(e:Ending)(w':an):Prop:=
 match R with
 | .error x=>e=dL x.1 x.2/\dX ks w w'/\K (λ_=>False) w'
 | .ok m=>∃v Z',e= .returned (.agg #[v,ae m.unk])/\pI 9 w' v m Z'/\(∀b,Z' b->w.heap.size<=b/\b<w'.heap.size)/\dX ks w w'/\K Z' w'
def kO (ks:au)(K:(ap)->an->Prop)(w:an)(R:Fx PM)(e:Ending)(w':an):Prop:=
 match R with
 | .error x=>e= .returned (.tuple #[.agg #[ah,T9],aa x.1,aa x.2])/\dX ks w w'/\K (λ_=>False) w'
 | .ok m=>∃v Z',e= .returned (.tuple #[.agg #[v,ae m.unk],aa 0,aa 0])/\pI 9 w' v m Z'/\(∀b,Z' b->w.heap.size<=b/\b<w'.heap.size)/\dX ks w w'/\K Z' w'
theorem Io {E:Nat}(hks:∀x∈ks,x<E)(hK:∀Z,pQ E B (K Z))(R:Fx PM)(w:an)(hE:E<=w.heap.size)(hB:w.heap.size+3<=B)(c0 c1 c2 c3:Value)(h:∀w0,aj w w0->w0.heap.size=w.heap.size+3->Ua 46 #[c0,c1,c2,c3] w0 (qt ks K w0 R)):
  Ua 45 #[.func (Fn.func 46) #[] #[c0,c1,c2,c3]] w (kO ks K w R):=by
 have UH:= @vD;have B1:=(Uc w).alloc (ay _) (ak #[ah,T9] 49);have B0:=(B1.alloc Uf (ak #[aa 0] 24)).alloc Ug (ak #[aa 0] 3);have KM:=((dM.new w #[ah,T9] 49).alloc (ak #[aa 0] 24)).alloc (ak #[aa 0] 3);have K0:=(dM.newAt (w:=w.alloc (ak #[ah,T9] 49)) (n:=w.heap.size+1) Uf #[aa 0] 24).alloc (ak #[aa 0] 3);have K1:=dM.newAt (w:=(w.alloc (ak #[ah,T9] 49)).alloc (ak #[aa 0] 24)) (n:=w.heap.size+1+1) Uf #[aa 0] 3;have HC:Hid (Ua 46 #[c0,c1,c2,c3] _ (qt ks K _ R)):=h _ B0 Uf;have hsz:w.heap.size+3<=(((w.alloc (ak #[ah,T9] 49)).alloc (ak #[aa 0] 24)).alloc (ak #[aa 0] 3)).heap.size:=Uf;clear B1 h;go_enter_defers func45,ntmps45
 go_wp2_with fail;generalize(((w.alloc (ak #[ah,T9] 49)).alloc (ak #[aa 0] 24)).alloc (ak #[aa 0] 3))=w1 at*;refine HC.out.mono ?_
 cases R with
 |error x=>
  rintro e w2 ⟨rfl,Ur,Uv⟩;have K2:=K0.kept Ur (λq=>by grind);have K3:=K1.kept Ur (λq=>by grind);have Uy:=KM.kept Ur (λq=>by grind);have C2:=(dX.of_below (bs:=ks) B0).trans Ur;have⟨k1,k2⟩:=K2.rules;have⟨k3,k4⟩:=K3.rules;have z3:=K3.lt;unfold dL;refine leaves_cons (f:=82) (args:= #[ag (w.heap.size+1),ag (w.heap.size+1+1)]) Uf Uk ?_;refine(Hy (w.heap.size+1) (w.heap.size+1+1) x.1 x.2 [] w2 _ _ (k1 0) (k3 0) (k2 0) (k4 0) Ue).mono ?_;rintro e u' UN ⟨rfl,rfl,rfl⟩;have q0:=(((K2.set 0 (aa x.1)).other (c:=w.heap.size+1+1) 0 (aa x.2) Ue).alloc (ak #[aa x.1,aa x.2] 142)).drew;have q1:=(((K3.other (c:=w.heap.size+1) 0 (aa x.1) Ue).set 0 (aa x.2)).alloc (ak #[aa x.1,aa x.2] 142)).drew;have q2:=(((Uy.other (c:=w.heap.size+1) 0 (aa x.1) Ue).other (c:=w.heap.size+1+1) 0 (aa x.2) Ue).alloc (ak #[aa x.1,aa x.2] 142)).drew;have C3:dX ks w (((w2.setCell (ai (w.heap.size+1) 0) (aa x.1)).setCell (ai (w.heap.size+1+1) 0) (aa x.2)).alloc (ak #[aa x.1,aa x.2] 142)).drew:=(((C2.freshP (bT _) 0 _).freshP Ue 0 _).alloc _).drew;have H3:K (λ_=>False) (((w2.setCell (ai (w.heap.size+1) 0) (aa x.1)).setCell (ai (w.heap.size+1+1) 0) (aa x.2)).alloc (ak #[aa x.1,aa x.2] 142)).drew:=hK _ w2 _ Uv Uf λy hy hl=>(Below.heap_alloc _ _ y (by simpa using hl)).trans ((dZ Ue).trans (dZ Ue))
  generalize(((w2.setCell (ai (w.heap.size+1) 0) (aa x.1)).setCell (ai (w.heap.size+1+1) 0) (aa x.2)).alloc (ak #[aa x.1,aa x.2] 142)).drew=w3 at*;have r0:=q0.cell 0;have r1:=q1.cell 0;have l0:(loadVar 24 (ai (w.heap.size+1) 0)).run prog w3= .ok (aa x.1) w3:=by simp[go_sem,r0]
  have l1:(loadVar 3 (ai (w.heap.size+1+1) 0)).run prog w3= .ok (aa x.2) w3:=by simp[go_sem,r1]
  have Ut:=λtmps hp hq hr=>z8 (fn:=f45) results45 tmps w3 hp hq hr q2 underlying49 Uk l0 l1
  simp[Leaves,settle];exact⟨_,Ut _ rfl rfl rfl,rfl,C3,H3⟩
 |ok m=>
  rintro e w2 ⟨v,Z',rfl,hm,hZ,Ur,Uv⟩;obtain⟨va,vc,rfl⟩:=hm.form;have K2:=K0.kept Ur (λq=>by grind);have K3:=K1.kept Ur (λq=>by grind);have Uy:=KM.kept Ur (λq=>by grind);have C2:=(dX.of_below (bs:=ks) B0).trans Ur;have⟨k1,k2⟩:=K2.rules;have⟨k3,k4⟩:=K3.rules;have⟨k5,k6⟩:=Uy.rules;have z3:=K3.lt;go_wp2;refine leaves_cons (f:=82) (args:= #[ag (w.heap.size+1),ag (w.heap.size+1+1)]) Uf Uk ?_;refine(Nv (ai (w.heap.size+1) 0) (ai (w.heap.size+1+1) 0) _).mono ?_;rintro e u' UN ⟨rfl,rfl,rfl⟩;have q0:=(((K2.other (c:=w.heap.size) 0 (.slice va m.fs.length vc) Ue).other (c:=w.heap.size) 1 (ae m.unk) Ue).set 0 (aa 0)).other (c:=w.heap.size+1+1) 0 (aa 0) Ue;have q1:=(((K3.other (c:=w.heap.size) 0 (.slice va m.fs.length vc) Ue).other (c:=w.heap.size) 1 (ae m.unk) Ue).other (c:=w.heap.size+1) 0 (aa 0) Ue).set 0 (aa 0);have q2:=(((Uy.set 0 (.slice va m.fs.length vc)).set 1 (ae m.unk)).other (c:=w.heap.size+1) 0 (aa 0) Ue).other (c:=w.heap.size+1+1) 0 (aa 0) Ue;have C3:dX ks w ((((w2.setCell (ai w.heap.size 0) (.slice va m.fs.length vc)).setCell (ai w.heap.size 1) (ae m.unk)).setCell (ai (w.heap.size+1) 0) (aa 0)).setCell (ai (w.heap.size+1+1) 0) (aa 0)):=(((C2.freshP (ay _) 0 _).freshP (ay _) 1 _).freshP (bT _) 0 _).freshP Ue 0 _;have H3:K Z' ((((w2.setCell (ai w.heap.size 0) (.slice va m.fs.length vc)).setCell (ai w.heap.size 1) (ae m.unk)).setCell (ai (w.heap.size+1) 0) (aa 0)).setCell (ai (w.heap.size+1+1) 0) (aa 0)):=hK _ w2 _ Uv Uf λy hy _=>(dZ Ue).trans ((dZ Ue).trans ((dZ Ue).trans (dZ Ue)))
  have Uw:=hm.keep (w':=((((w2.setCell (ai w.heap.size 0) (.slice va m.fs.length vc)).setCell (ai w.heap.size 1) (ae m.unk)).setCell (ai (w.heap.size+1) 0) (aa 0)).setCell (ai (w.heap.size+1+1) 0) (aa 0))) (λx hx _=>by
   have:=(hZ x hx).1
   rw[dK,dD Ue,dK,dD Ue,dK,dD Ue,dK,dD Ue])
  have UI:∀x,Z' x->w.heap.size<=x/\x<((((w2.setCell (ai w.heap.size 0) (.slice va m.fs.length vc)).setCell (ai w.heap.size 1) (ae m.unk)).setCell (ai (w.heap.size+1) 0) (aa 0)).setCell (ai (w.heap.size+1+1) 0) (aa 0)).heap.size:=λx hx=>⟨by grind,by simp only[cy];grind⟩
  generalize((((w2.setCell (ai w.heap.size 0) (.slice va m.fs.length vc)).setCell (ai w.heap.size 1) (ae m.unk)).setCell (ai (w.heap.size+1) 0) (aa 0)).setCell (ai (w.heap.size+1+1) 0) (aa 0))=w3 at*;have r0:=q0.cell 0;have r1:=q1.cell 0;have l0:(loadVar 24 (ai (w.heap.size+1) 0)).run prog w3= .ok (aa 0) w3:=by simp[go_sem,r0]
  have l1:(loadVar 3 (ai (w.heap.size+1+1) 0)).run prog w3= .ok (aa 0) w3:=by simp[go_sem,r1]
  have Ut:=λtmps hp hq hr=>z8 (fn:=f45) results45 tmps w3 hp hq hr q2 underlying49 Uk l0 l1
  simp[Leaves,settle];exact⟨_,Ut _ rfl rfl rfl,_,Z',rfl,Uw,UI,C3,H3⟩
theorem Ao (R:Fx PM)(w:an)(hks:∀x∈ks,x<w.heap.size)(hK:∀Z,pQ w.heap.size B (K Z))(hB:w.heap.size+9=B)(hk0:K (λ_=>False) w)(sb:Nat)(v kv:Value)(bs:List dQ)(y:List YM)(P:ap)(nm b:am)(way:Int)(h1:dM w sb #[v,kv] 92)(hM:fI w P v bs y)(hl:y.length<=2001)(hw:way=1\/way=2)
  (hR:(∀m∈y,(m.1.1.toList==nm.toList)=false)->R= .error (5,0))
  (h:∀(i:Nat) (m:YM) (w0:an) (q0 q1 q2 q3:Nat),y[i]?=some m->(m.1.1.toList==nm.toList)=true->aj w w0->w0.heap.size+1=B->w.heap.size<=q0/\w.heap.size<=q1/\w.heap.size<=q2/\w.heap.size<=q3->w0.cell? (ai q0 0)=some (aa way)->w0.cell? (ai q1 0)=some (ag m.1.2)->w0.cell? (ai q2 0)=some (ae b)->w0.cell? (ai q3 0)=some (ag sb)->
   Ua 46 #[ag q0,ag q1,ag q2,ag q3] w0 (qt ks K w0 R)):
  Calls prog 21 #[ag sb,aa way,ae nm,ae b] w (kO ks K w R):=by
 have UH:= @vD;have UJ:∃w0,(((w.alloc (ak #[ag sb] 22)).alloc (ak #[aa way] 3)).alloc (ak #[ae b] 9)).alloc (ak #[ah,T9] 49)=w0:=⟨_,rfl⟩;obtain⟨w0,Uu⟩:=UJ;have B0:aj w w0:=by rw[<-Uu];exact((((Below.refl _ _).alloc (ay _) _).alloc Uf _).alloc Ug _).alloc Ug _
 have KS:dM w0 w.heap.size #[ag sb] 22:=by rw[<-Uu];exact(((dM.new w _ _).alloc _).alloc _).alloc _
 have KY:dM w0 (w.heap.size+1) #[aa way] 3:=by rw[<-Uu];exact((dM.newAt Uf _ _).alloc _).alloc _
 have KB:dM w0 (w.heap.size+1+1) #[ae b] 9:=by rw[<-Uu];exact(dM.newAt Uf _ _).alloc _
 have KM:dM w0 (w.heap.size+1+1+1) #[ah,T9] 49:=by rw[<-Uu];exact dM.newAt Uf _ _
 have UE:=Dt w0 sb v kv bs y P nm way (h1.below B0 h1.lt) (hM.keep λx _ hl=>B0.block x hl) hl hw;have⟨s1,s2⟩:=KS.rules;have⟨s3,s4⟩:=KY.rules;have⟨s5,s6⟩:=KB.rules;have⟨s7,s8⟩:=KM.rules;go_in
 go_wp2_with fail;refine UE.mono ?_;have UB:Hid (w0.heap.size=w.heap.size+4):=by show _=_;rw[<-Uu];simp
 clear UE Uu;rintro e w1 ⟨rfl,⟨i,m,hi,hn,rfl⟩|⟨UG,rfl⟩⟩
 ·have B1:aj w1 (w1.alloc (ak #[ag m.1.2] 105)):=(Below.refl _ _).alloc (ay _) _;have KP:=dM.new w1 #[ag m.1.2] 105
  have HC:Hid (∀w0,Below (w1.alloc (ak #[ag m.1.2] 105)).heap.size (w1.alloc (ak #[ag m.1.2] 105)) w0->w0.heap.size=(w1.alloc (ak #[ag m.1.2] 105)).heap.size+3->Ua 46 #[ag (w.heap.size+1),ag w1.heap.size,ag (w.heap.size+1+1),ag w.heap.size] w0 (qt ks K w0 R)):=λw0 hb hsz=>by
   have Uz:=dI B1 hb;have hs1:=UB.out;simp only[cj]at hsz;exact h i m w0 _ _ _ _ hi hn (dI B0 Uz) Ue ⟨Ue,Ue,Ue,ay _⟩ ((KY.below Uz KY.lt).cell 0) ((KP.below hb KP.lt).cell 0) ((KB.below Uz KB.lt).cell 0) ((KS.below Uz KS.lt).cell 0)
  have HK:=Io hks hK R (w1.alloc (ak #[ag m.1.2] 105)) (by have:=UB.out;simp;omega) (by have:=UB.out;simp;omega) _ _ _ _ HC.out;clear h hi hn HC;go_wp2_with fail;have Ux:=KM.alloc (ak #[ag m.1.2] 105);have B2:aj w (w1.alloc (ak #[ag m.1.2] 105)):=dI B0 B1;have zM:=KM.lt;have z2:=B1.size;clear s1 s2 s3 s4 s5 s6 s7 s8 KS KY KB KM KP B1;generalize w1.alloc (ak #[ag m.1.2] 105)=w2 at*;refine HK.mono ?_;clear HK hR
  cases R with
  |error x=>
   rintro e w3 ⟨rfl,Uq,UC⟩;have Us:=Ux.kept Uq (λq=>by grind);have C3:=(dX.of_below (bs:=ks) B2).trans Uq;have⟨s7,s8⟩:=Us.rules;go_wp2;exact dG (tX results21 _ _ rfl ((Us.set 0 _).set 1 _) underlying49 Uk) rfl ⟨rfl,(C3.freshP Ue 0 _).freshP Ue 1 _,hK _ w3 _ UC Uf λy hy _=>(dZ Ue).trans (dZ Ue)⟩
  |ok m'=>
   rintro e w3 ⟨v',Z',rfl,hm,hZ,Uq,UC⟩;obtain⟨va,vc,rfl⟩:=hm.form;have Us:=Ux.kept Uq (λq=>by grind);have C3:=(dX.of_below (bs:=ks) B2).trans Uq;have⟨s7,s8⟩:=Us.rules;go_wp2
   have Uw:=hm.keep (w':=(w3.setCell (ai (w.heap.size+1+1+1) 0) (.slice va m'.fs.length vc)).setCell (ai (w.heap.size+1+1+1) 1) (ae m'.unk)) (λx hx _=>by
    have:=(hZ x hx).1
    rw[dK,dD Ue,dK,dD Ue])
   exact dG (tX results21 _ _ rfl ((Us.set 0 _).set 1 _) underlying49 Uk) rfl ⟨_,Z',rfl,Uw,λx hx=>⟨by grind,by simp only[cy];grind⟩,
    (C3.freshP Ue 0 _).freshP Ue 1 _,hK _ w3 _ UC Uf λy hy _=>(dZ Ue).trans (dZ Ue)⟩
 ·obtain rfl:=hR UG;have Ux:=KM.alloc (ak #[.pointer none] 105);have B2:=B0.alloc B0.size (ak #[.pointer none] 105);clear h hR UG;have⟨r7,r8⟩:=Ux.rules;go_wp2;exact dG (tX results21 _ _ rfl ((Ux.set 0 _).set 1 _) underlying49 Uk) rfl ⟨rfl,((dX.of_below (bs:=ks) B2).freshP Ue 0 _).freshP Ue 1 _,hK _ w _ hk0 (by have:=B2.size;simp at this⊢;omega) λy hy hl=>(dZ Ue).trans ((dZ Ue).trans (B2.block y hl))⟩
theorem lI.part {w:an}{R:Fx PM}{e:Ending}{w':an}(h:lI w R e w'):(∃x,R= .error x/\e=dL x.1 x.2/\aj w w')\/∃m v Z',R= .ok m/\e= .returned (.agg #[v,ae m.unk])/\pI 9 w' v m Z'/\(∀b,Z' b->w.heap.size<=b/\b<w'.heap.size)/\aj w w':=by
 cases R with
 |error x=>exact .inl ⟨x,rfl,h.1,h.2⟩
 |ok m=>
  obtain⟨v,Z',h⟩:=h
  grind
theorem Qb {E:Nat}(hks:∀x∈ks,x<E)(hK:∀Z,pQ E B (K Z))(R:Fx PM)(w:an)(hE:E<=w.heap.size)(hB:w.heap.size+1=B)(q0 q1 q2 q3 mb sb kp:Nat)(v:Value)(b:am)(hc0:w.cell? (ai q0 0)=some (aa 2))(hc1:w.cell? (ai q1 0)=some (ag mb))(hc2:w.cell? (ai q2 0)=some (ae b))(hc3:w.cell? (ai q3 0)=some (ag sb))(hs:dM w sb #[v,ag kp] 92)
  (hq:q0∉ks/\q1∉ks/\q2∉ks/\q3∉ks/\sb∉ks)
  (h:∀w0,aj w w0->w0.heap.size=B->Ua 48 #[ag kp,ag mb] w0 λe w1=>∃p,e= .returned (ag p)/\dX ks w0 w1/\(∀Z:ap,(∀b,Z b->w1.heap.size<=b)->K Z w1)/\Ua 49 #[ag p,ae b] w1 (lI w1 R)):
  Calls prog 46 #[ag q0,ag q1,ag q2,ag q3] w (qt ks K w R):=by
 have⟨B0,KM⟩:=dS w #[ah,T9] 49;have l0:q0<w.heap.size:=aQ _ _ hc0;have l1:q1<w.heap.size:=aQ _ _ hc1;have l2:q2<w.heap.size:=aQ _ _ hc2;have l3:q3<w.heap.size:=aQ _ _ hc3;have d0:=(B0.cell (p:=(ai q0 0)) l0).trans hc0;have d1:=(B0.cell (p:=(ai q1 0)) l1).trans hc1;have d2:=(B0.cell (p:=(ai q2 0)) l2).trans hc2;have d3:=(B0.cell (p:=(ai q3 0)) l3).trans hc3;have UK:=hs.below B0 hs.lt;have HC:Hid (Ua 48 #[ag kp,ag mb] (w.alloc (ak #[ah,T9] 49)).drew λe w1=>∃p,e= .returned (ag p)/\dX ks (w.alloc (ak #[ah,T9] 49)).drew w1/\(∀Z:ap,(∀b,Z b->w1.heap.size<=b)->K Z w1)/\Ua 49 #[ag p,ae b] w1 (lI w1 R)):=h _ B0.drew (by simp[<-hB]);clear h;have hw1:w.heap.size<(w.alloc (ak #[ah,T9] 49)).heap.size/\(w.alloc (ak #[ah,T9] 49)).heap.size<=B:=Ug;go_in
 go_upto_region 3 with fail
 generalize w.alloc (ak #[ah,T9] 49)=w1 at*;have b1:=B0.size;have nk:∀x,x<w.heap.size->x∉ks->x∉w.heap.size::ks:=λx h1 h2 q=>(aN.1 q).elim (λe=>Ue) h2
 have mk':∀x∈ks,x∈w.heap.size::ks:=λx q=>by simp[q]
 have HS:Hid (∀W:an,dX (w.heap.size::ks) w1 W->W.cell? (ai q1 0)=some (ag mb)/\W.cell? (ai q2 0)=some (ae b)/\W.cell? (ai q3 0)=some (ag sb)/\W.cell? (ai sb 1)=some (ag kp)):=λW hk=>
  ⟨(bu (a:=(ai q1 0)) (hk.block q1 Ue (nk q1 l1 hq.2.1))).trans d1,(bu (a:=(ai q2 0)) (hk.block q2 Ue (nk q2 l2 hq.2.2.1))).trans d2,(bu (a:=(ai q3 0)) (hk.block q3 Ue (nk q3 l3 hq.2.2.2.1))).trans d3,(UK.kept hk (nk sb hs.lt hq.2.2.2.2)).cell 1⟩
 have UL:w.heap.size∉ks:=λq=>by grind
 have e0:=HS.out w1.drew (dX.refl _ w1).drew
 go_region_held2 (λW=>W.cell? (ai q1 0)=some (ag mb)/\W.cell? (ai q2 0)=some (ae b)/\W.cell? (ai q3 0)=some (ag sb)/\W.cell? (ai sb 1)=some (ag kp))
  (first|exact HS.out _ UM|exact HS.out _ UF|exact HS.out _ (UA.mono mk')|exact HS.out _ (qF.mono mk')|exact e0)
  (first
   |(
     go_at_call 48;refine HC.out.mono ?_;rintro e w2 ⟨p,rfl,UD,Uv,UO⟩
     have qF:=dX.ofDrew UD)
   |(
     go_at_call 49;refine UO.mono ?_;intro e w3 UP
     rcases lI.part UP with⟨x,rfl,rfl,Uq⟩|⟨m,v',Z',rfl,rfl,hm,hZ,Uq⟩
     ·unfold dL;go_wp2;exact⟨rfl,rfl,(dX.of_below B0).trans (qF.trans (dX.of_below Uq)),hK _ w2 w3 (Uv _ λ_ q=>q.elim) Uq.size λy _ hl=>Uq.block y hl⟩
     obtain⟨va,vc,rfl⟩:=hm.form;have UA:=qF.trans (dX.of_below Uq);have Us:=KM.kept UA UL;have⟨k5,k6⟩:=Us.rules;have UF:=(UA.mono mk').set1 (c:=w.heap.size) Uf 0 (.slice va m.fs.length vc)
     have UM:=UF.set1 (c:=w.heap.size) Uf 1 (ae m.unk)))
 all_goals
  go_wp2;have hz2:=qF.size
  have Uw:=hm.keep (w':=(w3.setCell (ai w.heap.size 0) (.slice va m.fs.length vc)).setCell (ai w.heap.size 1) (ae m.unk)) (λx hx _=>by
   have:=(hZ x hx).1
   rw[dK,dD Ue,dK,dD Ue])
  refine dG (ec results46 _ _ rfl ((Us.set 0 _).set 1 _) underlying49 Uk) rfl ⟨_,Z',rfl,Uw,λx hx=>⟨by grind,by simp only[cy];grind⟩,?_,?_⟩
  ·exact(((dX.of_below B0).trans UA).freshP (ay _) 0 _).freshP (ay _) 1 _
  ·refine hK _ w2 _ (Uv _ λx hx=>(hZ x hx).1) (by have:=Uq.size;simpa using this) λy hy hl=>(dZ Ue).trans ((dZ Ue).trans (Uq.block y hl))
end
end
section
open Uq
def pR (S:d8)(R:MT->PM->Bool)(d:MT)(ahead:List PF)(x:PF):Bool:=
 match dR d.fs x.1 with
 |none=>false
 |some f=>jO (kL d f) x.1 ahead&&fy S R f x.2
def xY {S:d8}{R:MT->PM->Bool}{d:MT}{fs:List PF}{i:Nat}{x:PF}(hx:fs[i]?=some x):
  gE S R d (fs.take i) (fs.drop i)=(pR S R d (fs.take i) x&&gE S R d (fs.take (i+1)) (fs.drop (i+1))):=by
 have Uv:i<fs.length:=(bX.1 hx).1;have e:fs[i]=x:=(bX.1 hx).2;rw[aX Uv,e,gE,bJ,hx];rfl
section
variable {mp:am->Option Nat}
def Qc (w:an)(P:ap)(mb pb:Nat)(nm:am)(gs:List GF)(num kind:Int)(h:iE w P mp mb nm gs)(hs:gs.Pairwise (λx y=>x.f.num<=y.f.num))(hl:gs.length<=2001)(hp:dM w pb #[ag mb] 105):
  Ua 161 #[.agg #[aa num,aa kind],ag pb] w λe w'=>e= .returned (.bool (sl mp gs num kind).isSome)/\aj w w':=by
 have⟨B0,K0⟩:=dS w #[aa num,aa kind] 237;have UH:=hp.below B0 hp.lt;have HK:=zG _ P mp mb nm gs num kind (h.keep (λb _ hl=>B0.block b hl)) hs hl;have⟨k1,k2⟩:=K0.rules;have⟨k3,k4⟩:=UH.rules;generalize sl mp gs num kind=r at*;go_enter func161,ntmps161;go_wp2_with fail;refine HK.mono ?_;rintro e w2 ⟨he,b2⟩
 cases r with
 |none=>
  obtain rfl:e= .returned (.pointer none):=he;go_wp2;go_ret;exact⟨rfl,dI B0 b2⟩
 |some g=>
  obtain⟨fb,rfl,_⟩:=he;go_wp2;go_ret;exact⟨rfl,dI B0 b2⟩
end
def NS {S:d8}{mp:am->Option Nat}{B:Nat}:∀n,P3 S mp B n:=by
 intro n
 induction n with
 |zero=>
  intro w Z v m d mb gs nm deep k cx hm hG hM hO hd;obtain⟨a,c,rfl⟩:=hM.form;obtain rfl:deep=9:=Ue;have⟨B0,K1,K2⟩:=gH w #[ag mb] #[.slice a m.fs.length c,ae m.unk] 105 49;go_enter func101,ntmps101;go_wp2_with (go_at_call 157;refine(gO _).mono ?_;rintro e w2 ⟨rfl,rfl⟩;unfold dL)
  exact⟨rfl,d9.no B0⟩
 |succ n ih=>
  intro w Z v m d mb gs nm deep k cx hm hG hM hO hd
  cases k with
  |zero=>exact hM.elim
  |succ k=>
  obtain⟨cs,hr,UA⟩:=hM;obtain⟨a,c,rfl⟩:=hr.form;have hcap:=hr.cap;obtain⟨UO,UP,UQ⟩:=hO;have⟨B0,K1,K2⟩:=gH w #[ag mb] #[.slice a m.fs.length c,ae m.unk] 105 49;have hd8:(deep:Int)<=8:=Ue;obtain⟨X,HX⟩:∃X,Hid (gE S (dP S n) d [] m.fs=X):=⟨_,rfl⟩
  have HM:Hid (dP S (n+1) d m=(X&&rF (pO S d) m.unk)):=by
   show dP S (n+1) d m=_;rw[dP,HX.out]
  have HU:Hid (∀(W:an),aj w W->dM W w.heap.size #[ag mb] 105->Ua 160 #[ae m.unk,.func (.func 161) #[] #[ag w.heap.size]] W (d9 (rF (pO S d) m.unk) W)):=λW hW hp=>
   Ai W m.unk 161 [ag w.heap.size] (pO S d) UP (enters_of func161 Uj rfl) λW2 num kind UB=>by
    have:=Qc W2 (λb=>b<B) mb w.heap.size nm gs num kind (hm.keep λb _ q=>(dI hW UB).block b q) hG.srt hG.len (hp.below UB hp.lt);rw[Ky hG]at this;exact this
  generalize rF (pO S d) m.unk=Y at*;go_enter func101,ntmps101;have⟨k1,k2⟩:=K2.rules;go_wp2_with (go_at_call 157;refine(gU _).mono ?_;rintro e w2 ⟨rfl,rfl⟩)
  generalize(w.alloc (ak #[ag mb] 105)).alloc (ak #[.slice a m.fs.length c,ae m.unk] 49)=w1 at*;go_loopw [6,7,8,15] (λ_ _ _ iv wr=>∃i:Nat,iv=aa i/\i<=m.fs.length/\Hid (gE S (dP S n) d (m.fs.take i) (m.fs.drop i)=X)/\aj w1 wr) (λ_ _ _ iv _=>m.fs.length-(intOf iv).toNat)
  case atStart=>exact⟨0,rfl,aL _,HX,Below.refl _ _⟩
  case round=>
   obtain⟨i,rfl,hi,HI,Bw⟩:=hrel;clear k1 k2;have BW:=dI B0 Bw
   by_cases Uv:i<m.fs.length
   ·have⟨x,hx⟩:=gx Uv;have⟨vv,p1,p2,p3⟩:=UA.get hx;obtain⟨va,vc,rfl⟩:=p1.form;obtain⟨g0,rfl,hzg0,UC,Uq⟩:=hr.at Ue;have t0:=Uq wr (BW.block _ UC) _ _ p2;have t1:=kX (Uq wr (BW.block _ UC) _ _ p3);have⟨B1,K5⟩:=dS wr #[aa x.1,.slice va x.2.length vc] 58;have B2:=dI BW B1;have Uw:=dI Bw B1;have Ux:=K1.below Uw K1.lt;have K22:=K2.below Uw K2.lt;have HF:=qh _ (λb=>b<B) mp mb nm gs x.1 (hm.keep λb _ q=>B2.block b q) hG.srt hG.len
    have Ut:Hid (X=(pR S (dP S n) d (m.fs.take i) x&&gE S (dP S n) d (m.fs.take (i+1)) (m.fs.drop (i+1)))):=by
     show X=_;rw[<-HI.out,xY hx]
    have⟨k3,k4⟩:=Ux.rules;have⟨k5,k6⟩:=K5.rules;have hij:(i:Int)<(m.fs.length:Int):=Ue;have UI:=UQ x (aI hx);clear Uq p2 p3 B1 hx;go_wp2_with fail;refine HF.mono ?_;rintro e w3 ⟨he,rfl⟩;generalize wr.alloc (ak #[aa x.1,.slice va x.2.length vc] 58)=w2 at*;generalize wr.heap.size=vb at*
    cases hfd:dR d.fs x.1 with
    |none=>
     rw[hG.no _ hfd]at he;obtain rfl:e= .returned (.pointer none):=he
     have Ur:Hid (dP S (n+1) d m=false):=by
      show dP S (n+1) d m=false;rw[HM.out,Ut.out,pR,hfd];rfl
     go_wp2_with (go_at_call 157;refine(gO _).mono ?_;rintro e w2 ⟨rfl,rfl⟩;unfold dL)
     rw[Ur.out];exact⟨rfl,d9.no B2⟩
    |some f=>
     have⟨g,hg,fg⟩:=hG.yes _ _ hfd;rw[hg]at he;obtain⟨fb,rfl,UD⟩:=he;have Us:=(eW hfd).1
     have HS:Hid (pR S (dP S n) d (m.fs.take i) x=(jO g.riv g.f.num (m.fs.take i)&&fy S (dP S n) f x.2)):=by
      show pR S (dP S n) d (m.fs.take i) x=_;unfold pR;rw[hfd,fg.riv,fg.eq,Us]
     have⟨pv,rv,Uu,_,UE,UF⟩:=UD.blk;obtain⟨pq,rfl⟩:=gq UF;obtain⟨ra,rc,rfl⟩:=iD UE.1;have Uz:=Kw w2.drew (some g0) c c m.fs cs i g.f.num (.slice ra g.riv.length rc) g.riv (hr.keep λb _ q=>B2.drew.block b q) (Ae.below B2.drew (ay _) UA) Ue UO (UE.keep λb _ q=>(Uc w2).drew.block b q) fg.rlen;obtain⟨q,hq⟩:∃q,jO g.riv g.f.num (m.fs.take i)=q:=⟨_,rfl⟩;rw[hq]at Uz HS;clear hq hg hfd Us HF UF;have hic:(i:Int)<=(c:Int):=Ue;go_upto_region 7 with(go_at_call 157;refine(gU _).mono ?_;rintro e w2 ⟨rfl,rfl⟩)
     have hW:w2.drew.cell? (ai (w.heap.size+1) 0)=some (.slice (some g0) m.fs.length c)/\w2.drew.cell? (ai fb 0)=some (aa g.f.num)/\w2.drew.cell? (ai fb 4)=some (.slice ra g.riv.length rc):=
      ⟨K22.drew.cell 0,Uu.drew.cell 0,Uu.drew.cell 4⟩
     go_region_held2 (λW=>W.cell? (ai (w.heap.size+1) 0)=some (.slice (some g0) m.fs.length c)/\W.cell? (ai fb 0)=some (aa g.f.num)/\W.cell? (ai fb 4)=some (.slice ra g.riv.length rc))
      (first|exact hW|exact⟨UJ.cell 0,h3.cell 0,h3.cell 4⟩)
      (first
       |(
         go_at_call 158;refine Uz.mono ?_;intro e w3 UR
         rcases UR.part with⟨rfl,rfl,b3⟩|⟨rfl,y,z,rfl,b3⟩
         rotate_left
         ·have B4:=dI B2.drew b3
          have Ur:Hid (dP S (n+1) d m=false):=by
           show dP S (n+1) d m=false;rw[HM.out,Ut.out,HS.out];rfl
          unfold dL;go_wp2;rw[Ur.out];exact⟨rfl,d9.no B4⟩
         have h3:=Uu.below (w:=w2.drew) b3 Uu.lt
         have UJ:=K22.below (w:=w2.drew) b3 K22.lt))
     have B4:=dI B2.drew b3;have UK:=dI Uw.drew b3;have UL:=K5.below (w:=w2.drew) b3 K5.lt;have HC:=BC ih w3 Z (.slice va x.2.length vc) x.2 d f g fb deep k (cx.on (dV B4 cx.le)) (UD.keep (w':=w3) λb _ q=>show w3.heap[b]?=w2.heap[b]? from b3.block b q) fg (pN.below B4 (ay _) p1) UI Ue;obtain⟨r,UG⟩:∃r,fy S (dP S n) f x.2=r:=⟨_,rfl⟩;rw[UG]at HC HS;clear UG k3 k4 k5 k6;have⟨k5,k6⟩:=UL.rules;go_wp2_with fail;refine HC.mono ?_;intro e w4 Uy
     rcases Uy.part with⟨rfl,rfl,b4⟩|⟨rfl,y,z,rfl,b4⟩
     ·have UM:Hid (gE S (dP S n) d (m.fs.take (i+1)) (m.fs.drop (i+1))=X):=by
       show _=X;rw[Ut.out,HS.out];rfl
      go_wp2;go_roundw
      case rel=>exact⟨i+1,by go_num,Ue,UM,dI UK b4⟩
      case measure=>simp[intOf];omega
     ·have Ur:Hid (dP S (n+1) d m=false):=by
       show dP S (n+1) d m=false;rw[HM.out,Ut.out,HS.out];rfl
      unfold dL;go_wp2;rw[Ur.out];exact⟨rfl,d9.no (dI B4 b4)⟩
   ·obtain rfl:i=m.fs.length:=Ue
    have Ur:Hid (dP S (n+1) d m=Y):=by
     show dP S (n+1) d m=Y;rw[HM.out,<-HI.out,cw];rfl
    have Ux:=K1.below Bw K1.lt;have K22:=K2.below Bw K2.lt;have UN:=HU.out wr BW Ux;have⟨k3,k4⟩:=K22.rules;go_wp2_with fail;refine UN.mono ?_;intro e w4 Uy
    rcases Uy.part with⟨rfl,rfl,b4⟩|⟨rfl,y,z,rfl,b4⟩
    ·go_wp2;go_end0;rw[Ur.out];exact d9.ok (dI BW b4)
    ·unfold dL;go_wp2;rw[Ur.out];exact⟨rfl,d9.no (dI BW b4)⟩
end
end Go.Proofs.YtfebdimolnobaaaGreatDoor
