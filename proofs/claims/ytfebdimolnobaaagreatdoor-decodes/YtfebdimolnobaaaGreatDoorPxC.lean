import Derived.Test.YtfebdimolnobaaaGreatDoorPxB
import Derived.Test.YtfebdimolnobaaaGreatDoorDfP
import Derived.Deep.RegionHeld2
set_option maxRecDepth 100000
set_option maxHeartbeats 8000000
set_option linter.all false
namespace Go.Proofs.YtfebdimolnobaaaGreatDoor
open Go.RowKit Go.Proofs.Tryz
def qC (a b:au):gP a b=true<->a.toList=b.toList:=by unfold gP;simp
def pT {t:au}:∀{l:List dS},(∃b∈l,b.name.1.toList=t.toList)->∃(i:Nat) (b:dS),l[i]?=some b/\b.name.1.toList=t.toList/\jG (l.map oV) t=some (oV b)
 | [],h=>by simp_all
 |c::l,h=>by
  by_cases q:c.name.1.toList=t.toList;.exact⟨0,c,rfl,q,by rw[cu,jG,dH (show gP (oV c).name t=true from(qC _ _).2 q)]⟩
  .obtain⟨b,a,f⟩:=h;rcases aR.1 a with rfl|a;.simp_all
   .have⟨i,d,g,j,k⟩:=pT (t:=t) (l:=l) ⟨b,a,f⟩;exact⟨i+1,d,by simpa using g,j,by rw[cu,jG,dG (show¬gP (oV c).name t=true from λe=>q ((qC _ _).1 e))];exact k⟩
def pU {t:au}:∀{l:List dS},(∀b∈l,b.name.1.toList≠t.toList)->jG (l.map oV) t=none
 | [],_=>rfl
 |c::l,h=>by
  rw[cu,jG,dG (show¬gP (oV c).name t=true from λe=>h c co ((qC _ _).1 e))];exact pU (λb a=>h b (cv _ a))
def Jb {z:List (au×Nat)}{s t:au}(h:s.toList=t.toList):nM z s=nM z t:=by
 obtain rfl:s=t:=(by apply ByteArray.ext;apply Array.toList_inj.1;rw[<-ByteArray.toList_eq,<-ByteArray.toList_eq];exact h);rfl
def pV {bs:List dS}(a:Cv bs){z:List (au×Nat)}(f:z.map (·.1)=dZ bs){t:au}(h:eC (dZ bs) t=true):
  ∃(i:Nat) (b:dS) (blk:Nat),(gm bs)[i]?=some b/\(eM bs).msg t=some (oV b)/\z[i]?=some (b.name.1,blk)/\nM z t=some blk:=by
 have⟨x,q,k⟩:=(iH _ _).1 h;obtain⟨c,p,rfl⟩:=aV.1 q;have⟨i,b,e,n,o⟩:=pT (t:=t) (l:=gm bs) ⟨c,p,k⟩;have d:(z.map (·.1))[i]?=some b.name.1:=by rw[f,iM,aT,e];rfl
 rw[aT]at d;have⟨y,r,m⟩:=bg.1 d;have g:y=(b.name.1,y.2):=by rw[<-m]
 have j:(z.map (·.1)).Pairwise (λx y=>x.toList≠y.toList):=(by rw[f,iM];exact List.Pairwise.sublist (List.Sublist.map _ dw) a.names);refine⟨i,b,y.2,e,o,by rw[r,<-g],?_⟩;rw[<-Jb n];exact qB j (by grind)
def wR {bs:List dS}{z:List (au×Nat)}(c:z.map (·.1)=dZ bs){t:au}(h:eC (dZ bs) t=false):(eM bs).msg t=none/\nM z t=none:=by
 refine⟨pU (λb a e=> ?_),?_⟩;.have:eC (dZ bs) t=true:=(iH _ _).2 ⟨_,aV.2 ⟨b,a,rfl⟩,e⟩;simp_all
 .have:=rO z t;simp_all
def g7 (ps:List ft):aA:=ps.filterMap λp=>p.oneof.map (·.1)
def mt {types:aA}:∀(fs:List ek) (names:aA) (nums:aB) (n:aA) (m:aB),fX types names nums fs= .ok (n,m)->∀s,eC names s=true->eC n s=true
 | [],names,nums,n,m,h,s,hs=>by
  simp[fX]at h
  simp_all
 |f::fs,names,nums,n,m,h,s,hs=>by
  unfold fX at h;split at h;.cases h
  .rename_i c b a;have g:=sJ a;refine mt fs c b n m h s ?_;rw[g.2.2.2.1,lq,hs];rfl
def sM {types:aA}:∀(ps:List ft) (names:aA) (nums:aB) (n:aA) (m:aB),gF types names nums ps= .ok (n,m)->(∀p∈ps,∀o,p.oneof=some o->dN o.1=1)->
  (g7 ps).Pairwise (λx y=>x.toList≠y.toList)/\(∀s∈g7 ps,eC names s=false)
 | [],names,nums,n,m,_,_=>⟨List.Pairwise.nil,by simp[g7]⟩
 |p::ps,names,nums,n,m,h,hk=>by
  unfold gF at h;split at h;.cases h
  .rename_i f j a;have ih:=sM ps f j n m h (λq d=>hk q (cv _ d))
   cases ho:p.oneof with
   |none=>
    have e:g7 (p::ps)=g7 ps:=by simp[g7,ho]
    rw[e];refine⟨ih.1,λs c=> ?_⟩;have i:=ih.2 s c;unfold lE at a;rw[ho]at a;have r:fX types names nums p.fields= .ok (f,j):=by simpa [lO]using a
    cases q:eC names s;.rfl
    .rw[mt _ _ _ _ _ r s q]at i
     cases i
   |some o=>
    have e:g7 (p::ps)=o.1::g7 ps:=by simp[g7,ho]
    rw[e];have u:dN o.1=1:=hk p co o ho;unfold lE at a;rw[ho]at a
    have d:(lO (some o)==1)=true:=by
     show(dN o.1==1)=true
     (simp;omega)
    rw[dH d]at a;split at a;.cases a
    .rename_i t;have k:gE names o.1=false:=by simpa [jp]using t
     have v:eC names o.1=false:=(by unfold gE at k;simp_all);have g:∀s,eC (names++ [o.1]) s=true->eC f s=true:=mt _ _ _ _ _ a;refine⟨List.Pairwise.cons (λy w l=> ?_) ih.1,λs c=> ?_⟩;.have b:=ih.2 y w;rw[g y (by rw[lq];simp[eC,l])]at b;cases b
     .rcases aR.1 c with rfl|c;.exact v
      .have b:=ih.2 s c;cases q:eC names s;.rfl
       .rw[g s (by rw[lq,q];rfl)]at b;cases b
def mw {types:aA}:∀(bs:List dS) (names:aA) (m:Nat),fD types names m bs= .ok ()->∀b∈bs,b.enum=false->∃a c,gF types [] [] b.parts= .ok (a,c)
 | [],_,_,_,b,d,_=>by simp at d
 |x::bs,names,m,h,b,d,he=>by
  unfold fD at h;split at h;.cases h
  .split at h
   .rename_i f;split at h;.cases h
    .rcases aR.1 d with rfl|d;.simp_all
     .exact mw bs _ _ h b d he
   .split at h;.cases h
    .split at h;.cases h
     .rename_i g e;rcases aR.1 d with rfl|d;.grind
      .exact mw bs _ _ h b d he
def Ei {t:au}{bs:List dS}(h:gI t= .ok bs){b:dS}(e:b∈bs)(j:b.enum=false):(g7 b.parts).Pairwise (λx y=>x.toList≠y.toList):=by
 have f:=mr h;unfold gI at h;split at h;.cases h
 .split at h;.cases h
  .split at h;.cases h
   .rename_i i;cases h;have⟨a,c,d⟩:=mw _ _ _ i b e j;refine(sM _ _ _ _ _ d (λp d o l=> ?_)).1;rcases(f.shape b e p d).2 with⟨m,g,k,_⟩|⟨g,_⟩;.simp_all
    simp_all
def Cx (d:MT)(f:fB):ar:=(d.fs.filter λo=>gP o.how f.how&&iL o.how&&decide (o.num≠f.num)).map (·.num)
def zE (s:au):iL (rh s)=true:=by
 rfl
def MN {s t:au}(h:gP (rh s) (rh t)=true):s.toList=t.toList:=by
 rw[qC]at h;unfold rh at h;rw[ByteArray.toList_eq,ByteArray.toList_eq]at h⊢;simp_all
def zF (form:Int):iL (lp none form)=false:=by
 unfold lp;simp only;split;.decide
 .split;.decide
  .split<;>decide
def O5 {q p:ft}{o:W}{f g:ek}(a:p.oneof=some o)(b:∀o2,q.oneof=some o2->o2.1.toList≠o.1.toList):(gP (iD q.oneof g).how (iD p.oneof f).how&&iL (iD q.oneof g).how)=false:=by
 cases Ts:q.oneof with
 |none=>
  show(gP (lp none g.form) _&&iL (lp none g.form))=false
  rw[zF,dl]
 |some o2=>
  rw[a];show(gP (rh o2.1) (rh o.1)&&iL (rh o2.1))=false;cases h:gP (rh o2.1) (rh o.1);.rfl
  .exact absurd (MN h) (b o2 Ts)
def zG {q p:ft}{o:W}{f:ek}(a:p.oneof=some o)(b:∀o2,q.oneof=some o2->o2.1.toList≠o.1.toList):
  ((q.fields.map (iD q.oneof)).filter λx=>gP x.how (iD p.oneof f).how&&iL x.how&&decide (x.num≠(iD p.oneof f).num))= []:=by
 rw[List.filter_eq_nil_iff];intro x c;obtain⟨g,_,rfl⟩:=aV.1 c;rw[O5 a b];simp
def MP (s:au):gP s s=true:=(qC _ _).2 rfl
def O6 {b:dS}(a:(g7 b.parts).Pairwise (λx y=>x.toList≠y.toList))(c:Ay b){p:ft}(m:p∈b.parts){f:ek}(A:f∈p.fields):Cx (oV b) (iD p.oneof f)=pQ p f:=by
 unfold Cx oV;simp only;rw[List.filter_flatMap]
 cases ho:p.oneof with
 |none=>
  have w:∀q∈b.parts,((q.fields.map (iD q.oneof)).filter λx=>gP x.how (iD none f).how&&iL x.how&&decide (x.num≠(iD none f).num))= []:=(by intro q _;rw[List.filter_eq_nil_iff];intro x _ j;simp only[bK]at j;have e:x.how.toList=(lp none f.form).toList:=(qC _ _).1 j.1.1;have v:x.how=lp none f.form:=(by apply ByteArray.ext;apply Array.toList_inj.1;rw[<-ByteArray.toList_eq,<-ByteArray.toList_eq];exact e);have i:=j.1.2;rw[v,zF]at i;cases i);rw[List.flatMap_eq_nil_iff.2 w];rcases(c p m).2 with⟨o,i,_⟩|⟨_,g,B,_⟩;.simp_all
  .rw[B]at A;have e:f=g:=by simp_all
   unfold pQ
   simp_all
 |some o=>
  have⟨l1,l2,l⟩:=List.append_of_mem m;have n:g7 b.parts=g7 l1++o.1::g7 l2:=(by rw[l];simp[g7,ho]);rw[n,cB]at a;obtain⟨_,k,z⟩:=a;rw[bU]at k
  have s:∀q∈l1,∀d,q.oneof=some d->d.1.toList≠o.1.toList:=λq h d r=>
   z d.1 (List.mem_filterMap.2 ⟨q,h,by simp_all⟩) o.1 co
  have t:∀q∈l2,∀d,q.oneof=some d->d.1.toList≠o.1.toList:=λq h d r e=>
   k.1 d.1 (List.mem_filterMap.2 ⟨q,h,by simp_all⟩) e.sy
  rw[l,cZ,aW];rw[List.flatMap_eq_nil_iff.2 (λq h=>by rw[<-ho];exact zG ho (s q h)),List.flatMap_eq_nil_iff.2 (λq h=>by rw[<-ho];exact zG ho (t q h))];rw[be,bH,ho];have u:((p.fields.map (iD (some o))).filter λx=>gP x.how (iD (some o) f).how&&iL x.how&&decide (x.num≠(iD (some o) f).num))=(p.fields.filter λx=>decide (iY x≠iY f)).map (iD (some o)):=(by rw[List.filter_map];congr 1;apply List.filter_congr;intro x _;show(gP (rh o.1) (rh o.1)&&iL (rh o.1)&&decide ((gV x.num.1:Int)≠(gV f.num.1:Int)))=decide (iY x≠iY f);rw[MP,zE];rfl);rw[u,bI];rfl
section
variable (s:au) {k:Nat} {S:eE} {b:au} {f:fB} {r:pO}
def fP (s:au)(a:Nat)(num kind:Int)(z:Nat):Fx pO:=
 if kind=0 then(match j8 s z s.size with| .error y=> .error y| .ok y=> .ok ⟨num,0,a,z,y.2,y.1⟩)
 else if kind=1 then(match je s z 8 with| .error y=> .error y| .ok y=> .ok ⟨num,1,a,z,y.2,y.1⟩)
 else if kind=5 then(match je s z 4 with| .error y=> .error y| .ok y=> .ok ⟨num,5,a,z,y.2,y.1⟩)
 else(match eU s z with| .error y=> .error y| .ok y=> .ok ⟨num,2,a,y.1,y.2,0⟩)
theorem zL (a:Nat):MW s a=match lr s a with| .error x=> .error x| .ok x=>fP s a x.1.1 x.1.2 x.2:=by
 unfold MW fP;cases lr s a<;>rfl
theorem zO (a:Nat)(num kind:Int)(z:Nat):pr s z kind=match fP s a num kind z with| .error x=> .error x| .ok r=> .ok ((),r.e):=by
 unfold pr fP;grind
def yO (s:au)(k:Nat)(r:pO):Fx LV:=
 if k=13 then(if Lib.validD (s.extract r.fr r.e).data.toList then .ok (0,s.extract r.fr r.e)else .error (10,r.fr))
 else if k=14 then .ok (0,s.extract r.fr r.e)else .ok (jc k r.n,⟨#[]⟩)
def CL (s:au)(k:Nat):Fx pO->Fx (LV×Nat)
 | .error x=> .error x
 | .ok r=>match yO s k r with| .error x=> .error x| .ok v=> .ok (v,r.e)
theorem Jw (a:Nat)(num:Int)(z:Nat):fP s a num ((0:Nat):Int) z=match j8 s z s.size with| .error y=> .error y| .ok y=> .ok ⟨num,0,a,z,y.2,y.1⟩:=rfl
theorem Jx (a:Nat)(num:Int)(z:Nat):fP s a num ((1:Nat):Int) z=match je s z 8 with| .error y=> .error y| .ok y=> .ok ⟨num,1,a,z,y.2,y.1⟩:=rfl
theorem Jy (a:Nat)(num:Int)(z:Nat):fP s a num ((5:Nat):Int) z=match je s z 4 with| .error y=> .error y| .ok y=> .ok ⟨num,5,a,z,y.2,y.1⟩:=rfl
theorem xl (a:Nat)(num:Int)(z:Nat):fP s a num ((2:Nat):Int) z=match eU s z with| .error y=> .error y| .ok y=> .ok ⟨num,2,a,y.1,y.2,0⟩:=rfl
theorem Hn (c:k<=15)(a:k≠13)(b:k≠14):ed k=0\/ed k=1\/ed k=5:=by
 unfold ed;grind
theorem xp (a:Nat)(num:Int)(z k:Nat)(c:k<=15):gr s z k=CL s k (fP s a num (ed k) z):=by
 unfold gr;by_cases Tr:k=13
 .subst Tr;rw[dH rfl,show ed 13=2 from rfl,xl];unfold rx
  cases eU s z with
  |error x=>rfl
  |ok x=>
   simp only[CL,yO,if_true];grind
 .rw[dG Tr];by_cases Ts:k=14
  .subst Ts;rw[dH rfl,show ed 14=2 from rfl,xl];unfold nO
   cases eU s z with
   |error x=>rfl
   |ok x=>rfl
  .rw[dG Ts];unfold iN;have b:∀r:pO,yO s k r= .ok (jc k r.n,⟨#[]⟩):=λr=>by unfold yO;rw[dG Tr,dG Ts]
   rcases Hn c Tr Ts with e|e|e
   .rw[dH e,e,Jw]
    cases j8 s z s.size with
    |error x=>rfl
    |ok x=>simp only[CL,b]
   .rw[dG Te,dG Te,e,Jx]
    cases je s z 8 with
    |error x=>rfl
    |ok x=>simp only[CL,b]
   .rw[dG Te,dH e,e,Jy]
    cases je s z 4 with
    |error x=>rfl
    |ok x=>simp only[CL,b]
theorem Jz:∀(l:List (an)) (s:an) (k n:Nat),vg l s k=some n->∃i,n=k+i/\l[i]?=some s
 | [],_,_,_,h=>by simp[vg]at h
 |x::l,s,k,n,h=>by
  rw[vg]at h;split at h;.simp_all
  .have⟨i,b,a⟩:=Jz l s (k+1) n h;exact⟨i+1,Te,by simpa using a⟩
theorem CM {t:au}:S.base t=13<->gP t og=true:=by
 constructor
 .intro h;unfold eE.base at h;split at h
  .rename_i k a;subst h;have⟨i,b,c⟩:=Jz _ _ _ _ a;obtain rfl:i=13:=Te;have:t.toList=og.toList:=(by have e:lA[13]?=some og.toList:=Ti;grind);unfold gP
   (simp;omega)
  grind
 .intro h;have e:t.toList=og.toList:=by simpa [gP]using h
  unfold eE.base;rw[e];have:vg lA og.toList 0=some 13:=Ti;rw[this]
theorem FW (a:k<=15)(h:ed k=2):k=13\/k=14:=by
 unfold ed at h;grind
theorem CN {e:Nat}(a:S.base f.ty=k)(j:k<=15)(c:r.kind=ed k)(i:r.e<=e)(m:e<=b.size):
  rg S b f r=match yO (b.extract 0 e) k r with| .error x=> .error x| .ok v=> .ok (v.1,v.2,PM.none):=by
 unfold rg yO;rw[kz m i,a];by_cases h2:r.kind=2
 .rw[dH h2];rcases FW j (c▸h2)with rfl|rfl;.have d:=CM.1 a;rw[d,Hl];grind
  .have d:gP f.ty og=false:=(by rw[bN];intro q;rw[CM.2 q]at a;omega);simp_all
 .rw[dG h2];have g:k≠13:=λq=>h2 (by rw[c,q];rfl)
  have h:k≠14:=λq=>h2 (by rw[c,q];rfl)
  rw[dG g,dG h];rfl
theorem zS {e F a:Nat}{l:List PV}(c:e<=b.size)(d:a<e):gy b k e (F+1) l a=match iN (b.extract 0 e) a k with| .error x=> .error x| .ok x=>gy b k e F (l++ [(x.1,eS,PM.none)]) x.2:=by
 rw[gy,dH d];unfold iN;by_cases h0:ed k=0;.rw[dH h0,dH h0,vP c];grind
 .rw[dG h0,dG h0];by_cases h5:ed k=5;.simp only[h5,if_true];rw[sN c];split<;>rfl
  .simp only[h5,if_false];rw[sN c];split<;>rfl
def yS (S:eE)(b:au)(F:Nat)(d:MT)(f:fB)(m:PM)(r:pO)(deep:Nat):Fx PM:=
 if r.kind=ff S f then rj S b F d f m r deep else match ln S b f (m.get f.num) r.fr r.e with| .error x=> .error x| .ok l=> .ok (m.put f.num l)
theorem Ho {F a e deep:Nat}{d:MT}{m:PM}(h:a<e)(g:jj b a e= .ok r)(c:ei d.fs r.num=some f)(j:r.kind=ff S f\/(r.kind=2/\f.isRep=true)):
  fj S b (F+1) d m a e deep=Ju S b F d r.e e deep (yS S b F d f m r deep):=by
 unfold yS;by_cases q:r.kind=ff S f;.rw[dH q,zK h g c q]
 .rw[dG q];have⟨i,k⟩:=j.resolve_left q;exact xi h g c q i k
end
structure ez (w:aw)(Z:ax)(rb:Nat)(w':aw)(Z':ax):Prop where
 os:w'.os=w.os
 tape:w'.tape=w.tape
 output:w'.output=w.output
 size:w.heap.size<=w'.heap.size
 block:∀b,b<w.heap.size->¬Z b->b≠rb->w'.heap[b]?=w.heap[b]?
 grow:∀b,Z' b->Z b\/w.heap.size<=b
section
variable {a b c:aw} {Z Y X:ax} {rb n:Nat}
def ez.J (h:ez a Z rb b Y)(k:ez b Y rb c X):ez a Z rb c X:=
 ⟨k.os.J h.os,k.tape.J h.tape,k.output.J h.output,aL h.size k.size,λi d f g=>(k.block i (aI d h.size) (λe=>(h.grow i e).elim f (λe=>Te)) g).J (h.block i d f g),
  λi q=>(k.grow i q).elim (h.grow i) (λe=> .inr (aL h.size e))⟩
def ez.oS (h:et a Z b Y):ez a Z rb b Y:=⟨h.os,h.tape,h.output,h.size,λi d q _=>h.block i d q,h.grow⟩
def ez.oK (h:dY [rb] a b):ez a Z rb b Z:=⟨h.os,h.tape,h.output,h.size,λi d _ q=>h.block i d (by simpa using q),λ_ q=> .inl q⟩
def ez.oB (h:Below a.heap.size a b):ez a Z rb b Z:= .oK (.oB h)
def ez.refl (a:aw)(Z:ax)(rb:Nat):ez a Z rb a Z:= .oB (Below.refl _ _)
def ez.not (h:ez a Z rb b Y)(hb:n<a.heap.size)(hn:¬Z n):¬Y n:=λq=>(h.grow n q).elim hn (λe=>Te)
def ez.G {B:Nat}(h:ez a Z rb b Y)(e:B<=a.heap.size)(d:∀x,Z x->B<=x)(g:B<=rb):Below B a b:=
 ⟨h.os,h.tape,h.output,h.size,λi f=>h.block i Te (λq=>by have:=d i q;omega) Te⟩
def ez.clip (h:ez a Z rb b Y):ez a Z rb b (λx=>Y x/\x<b.heap.size):=⟨h.os,h.tape,h.output,h.size,h.block,λx q=>h.grow x q.1⟩
end
structure FG (S:eE)(mp:am)(d:MT)(f:fB)(g:GF):Prop where
 eq:g.f=f
 form:g.form=0\/g.form=1\/g.form=2\/g.form=3\/g.form=4
 map:f.isMap=decide (g.form=4)
 rep:f.isRep=decide (g.form=2)
 sin:gP f.how eS=decide (g.form=0)
 riv:g.riv=Cx d f
 lone:g.form≠3->g.riv= []
 rlen:g.riv.length<=1073741824
 base:jd mp f.ty=S.base f.ty
 nest:S.base f.ty=16<->(S.msg f.ty).isSome=true
 key:g.form=4->jd mp f.key=S.base f.key/\S.base f.key<=14/\S.msg f.key=none/\tP (S.base f.key)=eC jD f.key
structure rV (S:eE)(mp:am)(d:MT)(gs:List GF):Prop where
 srt:gs.Pairwise (λx y=>x.f.num<=y.f.num)
 len:gs.length<=2001
 no:∀n,ei d.fs n=none->iI gs n=none
 yes:∀n f,ei d.fs n=some f->∃g,iI gs n=some g/\FG S mp d f g
structure Oz (w:aw)(B:Nat)(S:eE)(mp:am):Prop where
 u:UOK w
 u1:2<B
 u2:3<B
 le:B<=w.heap.size
 md:∀t d,S.msg t=some d->∃mb gs,yJ mp t=some mb/\jX w (λb=>b<B) mp mb d.name gs/\rV S mp d gs
def Oz.on {w w':aw}{B:Nat}{S:eE}{mp:am}(h:Oz w B S mp)(e:Below B w w'):Oz w' B S mp:=
 ⟨h.u.O (e.block _ h.u1) (e.block _ h.u2),h.u1,h.u2,aL h.le e.size,λt d q=>by
  have⟨k,f,g,i,j⟩:=h.md t d q
  exact⟨k,f,g,i.O (λb q _=>e.block b q),j⟩⟩
structure D9 (S:eE):Prop where
 good:uC S
 name:∀d∈S.ms,gP d.name eS=false
def ij (S:eE)(k:Nat)(d:MT)(w:aw)(Z:ax)(rb db:Nat)(s:au)(deep:Nat)(R:Fx (PM×Nat))(en:Ending)(w':aw):Prop:=
 match R with
 | .error x=>en=dX x.1 x.2/\∃Z',ez w Z rb w' Z'
 | .ok x=>en= .returned (.tuple #[])/\∃Z',ez w Z rb w' Z'/\el S (k+1) (some d) w' Z' db x.1/\d6 w' rb s x.2 deep
def ij.pre {S:eE}{k:Nat}{d:MT}{w w1:aw}{Z Z1:ax}{rb db:Nat}{s:au}{deep:Nat}{R:Fx (PM×Nat)}{en:Ending}{w':aw}(h:ez w Z rb w1 Z1)(e:ij S k d w1 Z1 rb db s deep R en w'):ij S k d w Z rb db s deep R en w':=by
 unfold ij at*;split at e;.exact⟨e.1,e.2.imp λ_ q=>h.J q⟩
 .obtain⟨g,f,i,j⟩:=e;exact⟨g,f,h.J i,j⟩
def pu (e:Nat):Fx PM->Fx (PM×Nat)
 | .error x=> .error x
 | .ok m=> .ok (m,e)
def jH (S:eE)(b:au)(F:Nat)(d:MT)(f:fB)(m:PM)(deep:Nat):Fx pO->Fx (PM×Nat)
 | .error x=> .error x
 | .ok r=>pu r.e (yS S b F d f m r deep)
def rA (f:fB):∀(l:List fB) (m:PM),iG f l m=m.without ((l.filter λo=>gP o.how f.how&&iL o.how&&decide (o.num≠f.num)).map (·.num))
 | [],m=>by
  cases m;simp only[iG,PM.without,PM.fs,PM.unk,List.filter_nil,List.map_nil];congr 1
  exact(dx.2 Tf).sy
 |o::l,m=>by
  rw[iG,rA f l];rw[cq];split
  .rw[cu,<-uF];unfold PM.without;simp only[PM.fs,PM.unk,List.filter_filter];congr 1;refine List.filter_congr λx _=> ?_
   rw[<-Bool.decide_and];congr 1;simp[aR,not_or,and_comm]
  .rfl
def xE (d:MT)(f:fB)(m:PM):iG f d.fs m=m.without (Cx d f):=rA f d.fs m
def iO (m:PM):m.without []=m:=by
 cases m;simp only[PM.without,PM.fs,PM.unk];congr 1;exact dx.2 Tf
def p9 (n:Int)(ns:ar)(h:n∉ns):∀l:List PF,io (l.filter λf=>decide (f.1∉ns)) n=io l n
 | []=>rfl
 |x::l=>by
  rw[cq,io];by_cases q:x.1∈ns
  .have:decide (x.1∉ns)=false:=by simp[q]
   rw[this,dG Tf,dG (λe:x.1=n=>h (by rw[<-e];exact q)),p9 n ns h l]
  .have:decide (x.1∉ns)=true:=by simp[q]
   rw[this,dH rfl,io,p9 n ns h l]
def uJ {m:PM}{n:Int}{ns:ar}(h:n∉ns):(m.without ns).get n=m.get n:=p9 n ns h m.fs
def Ga (d:MT)(f:fB):f.num∉Cx d f:=λh=>by
 unfold Cx at h;have⟨o,g,e⟩:=aV.1 h;have:=(cl.1 g).2;simp only[bK,decide_eq_true_eq]at this;exact this.2 e
def WM.without {S:eE}{a:Nat}{d:MT}{m:PM}(h:WM S a d m)(f:fB):WM S a d (m.without (Cx d f)):=by
 rw[<-xE];exact h.dropF f d.fs
section
open Tq
section
variable {w:aw} {s b:au} {deep num:Int} {z k:Nat} {r:pO} {S:eE} {mp:am} {d:MT} {f:fB} {g:GF} {m:PM}
theorem JU (w:aw)(P:ax)(mp:am)(g:GF)(fb:Nat)(h:eR w P mp g fb)(t:g.form=4):
  Calls prog 188 #[ag fb] w λe w'=>∃pv,e= .returned (.agg #[aa (jd mp g.f.key),pv])/\aj w w':=by
 have⟨pv,D,p,_,_,d⟩:=h.blk;rw[dH t]at d;obtain⟨o,rfl,r⟩:=d;have⟨j,k⟩:=eY w #[aa 0,.pointer none] 216;have m:=p.alloc (ak #[aa 0,.pointer none] 216);have⟨i,x⟩:=m.I;have c:=AM (w.alloc (ak #[aa 0,.pointer none] 216)) P mp o eS _ 1 (r.msg.O (λb _ u=>j.block b u)) (tQ g.f.key g.f.ty) Tf;rw[CF]at c;unfold gR at i;go_in
 go_wp2_with fail;refine c.V ?_;rintro e w2 ⟨⟨E,rfl,s⟩,rfl⟩;have⟨n,y,f,_,_,a⟩:=s.blk;have l:eG mp (lF oe g.f.key 1)=jd mp g.f.key:=by unfold eG;rw[dG (by simp[lF])];rfl
 rw[l]at f;rw[dG (by simp[lF])]at a;obtain⟨q,v⟩:∃q,n= .pointer q:=(by subst a;unfold gR;split<;>exact⟨_,rfl⟩);subst v;have⟨z,A⟩:=f.I;have⟨B,C⟩:=k.I;clear i x a;go_wp2;refine dJ (dW results188 _ _ rfl (dP.new w _ _) underlying216 Tj) rfl ?_;exact⟨_,rfl,(Below.refl _ _).alloc (aD _) _⟩
theorem py.part {α:Type}{rb:Nat}{r:Fx (α×Nat)}{V:α->Value}{e:Ending}{w':aw}(h:py w rb s deep r V e w'):
  (∃x,r= .error x/\e=dX x.1 x.2/\dY [rb] w w')\/∃x,r= .ok x/\e= .returned (V x.1)/\dY [rb] w w'/\d6 w' rb s x.2 deep:=by
 obtain⟨b,a⟩:=h
 cases r with
 |error x=>exact .inl ⟨x,rfl,a,b⟩
 |ok x=>exact .inr ⟨x,rfl,a.1,b,a.2⟩
structure RF (w:aw)(fb:Nat)(num form base:Int)(pv rv:Value):Prop where
 blk:dP w fb #[aa num,aa form,aa base,pv,rv] 220
theorem qd {a:Nat}{kind:Int}(h:fP s a num kind z= .ok r):z<r.e/\r.fr<=r.e/\r.e<=s.size/\0<=r.n/\r.n<2^64/\z<=r.fr:=by
 have g:∀(k:Nat) (y:Int×Nat),k<=8->1<=k->je s z k= .ok y->z<y.2/\y.2<=s.size/\0<=y.1/\y.1<2^64:=λk y i j q=>by
  unfold je at q;split at q;.cases q;have:=oq (s:=s.extract z (z+k)) (by rw[aU];omega);exact⟨Tg,by simpa,this.1,this.2⟩
  .cases q
 unfold fP at h;split at h
 .cases hv:j8 s z s.size with
  |error x=>rw[hv]at h;cases h
  |ok x=>
   rw[hv]at h;cases h;have⟨d,b,c,f⟩:=jr (m:=x.1) (z:=x.2) hv;exact⟨c,Tg,f,d,b,aD _⟩
 .split at h
  .cases hv:je s z 8 with
   |error x=>rw[hv]at h;cases h
   |ok x=>
    rw[hv]at h;cases h;have⟨d,b,c,f⟩:=g 8 x Te Te hv;exact⟨d,Tg,b,c,f,aD _⟩
  .split at h
   .cases hv:je s z 4 with
    |error x=>rw[hv]at h;cases h
    |ok x=>
     rw[hv]at h;cases h;have⟨d,b,c,f⟩:=g 4 x Te Te hv;exact⟨d,Tg,b,c,f,aD _⟩
   .cases hv:eU s z with
    |error x=>rw[hv]at h;cases h
    |ok x=>
     rw[hv]at h;cases h;have⟨d,b,c⟩:=iS (z:=x.1) (e:=x.2) hv;exact⟨Tg,b,c,Tf,Tf,Tg⟩
theorem mK {a:Nat}(b:k=0\/k=1\/k=2\/k=5)(h:fP s a num k z= .ok r):r.kind=k:=by
 rcases b with rfl|rfl|rfl|rfl;.rw[Jw]at h;cases hv:j8 s z s.size<;>rw[hv]at h<;>cases h;rfl
 .rw[Jx]at h;cases hv:je s z 8<;>rw[hv]at h<;>cases h;rfl
 .rw[xl]at h;cases hv:eU s z<;>rw[hv]at h<;>cases h;rfl
 .rw[Jy]at h;cases hv:je s z 4<;>rw[hv]at h<;>cases h;rfl
theorem CT (k:Nat):ed k=0\/ed k=1\/ed k=2\/ed k=5:=by
 unfold ed;split;.exact .inl rfl
 .split;.exact .inr (.inl rfl)
  .split;.exact .inr (.inr (.inr rfl))
   .split;.exact .inl rfl
    .exact .inr (.inr (.inl rfl))
theorem CU {x:LV×Nat}(e:k<=15)(h:gr s z k= .ok x):z<x.2/\x.2<=s.size/\0<=x.1.1/\x.1.1<2^64:=by
 rw[xp s 0 0 z k e]at h
 cases hr:fP s 0 0 (ed k) z with
 |error y=>rw[hr]at h;cases h
 |ok r=>
  rw[hr]at h;have⟨a,_,b,c,d,_⟩:=qd hr;simp only[CL]at h
  cases hv:yO s k r with
  |error y=>rw[hv]at h;cases h
  |ok v=>
   rw[hv]at h;cases h;refine⟨a,b,?_⟩;unfold yO at hv;split at hv
   .split at hv;.cases hv;simp
    .cases hv
   .split at hv;.cases hv;simp
    .cases hv;exact jU c d
theorem Gd {F deep a e:Nat}(c:FG S mp d f g)(n:g.form=2)(j:S.base f.ty<=15)(k:e<=b.size):
  jH S b F d f m deep (fP (b.extract 0 e) a num (ed (S.base f.ty)) z)=match gr (b.extract 0 e) z (S.base f.ty)with| .error x=> .error x| .ok x=> .ok (m.put f.num (m.get f.num++ [qF x.1]),x.2):=by
 rw[xp (b.extract 0 e) a num z _ j]
 cases hr:fP (b.extract 0 e) a num (ed (S.base f.ty)) z with
 |error x=>rfl
 |ok r=>
  have l:=mK (CT _) hr;have⟨_,_,i,_⟩:=qd hr;rw[gB k]at i;have h:f.isMap=false:=by rw[c.map,n];rfl
  have o:f.isRep=true:=by rw[c.rep,n];rfl
  have p:fS S f=none:=by
   unfold fS;rw[h]
   cases hq:S.msg f.ty with
   |none=>rfl
   |some x=>have:=c.nest.2 (by rw[hq];rfl);omega
  simp only[jH,yS,CL];rw[dH (by unfold ff;rw[h];exact l)];unfold rj xh;rw[p];simp only;rw[CN rfl j l i k]
  cases yO (b.extract 0 e) (S.base f.ty) r with
  |error x=>rfl
  |ok v=>
   simp only[CK,pu,g9,h,o,if_true,aN,if_false];rfl
theorem CV {F deep a e:Nat}(h:FG S mp d f g)(i:g.form=2)(k:ed (S.base f.ty)≠2):
  jH S b F d f m deep (fP (b.extract 0 e) a num 2 z)=match eU (b.extract 0 e) z with| .error x=> .error x| .ok y=>(match gy b (S.base f.ty) y.2 (y.2-y.1) (m.get f.num) y.1 with| .error x=> .error x| .ok l=> .ok (m.put f.num l,y.2)):=by
 have c:fP (b.extract 0 e) a num 2 z=_:=xl (b.extract 0 e) a num z;rw[c];have j:f.isMap=false:=by rw[h.map,i];rfl
 cases eU (b.extract 0 e) z with
 |error x=>rfl
 |ok y=>
  simp only[jH,yS];rw[dG (by unfold ff;rw[j];exact λq=>k q.sy)];unfold ln;cases gy b (S.base f.ty) y.2 (y.2-y.1) (m.get f.num) y.1<;>rfl
def Mj (m:PM):Prop:=m.fs.Pairwise (λa b=>a.1<b.1)
theorem zY {n:Int}:∀{fs:List PF},fs.Pairwise (λa b=>a.1<b.1)->∃fp fq,(∀x∈fp,x.1<n)/\(∀x∈fq,n<x.1)/\(fs=fp++fq\/∃old,fs=fp++(n,old)::fq)
 | [],_=>⟨[],[],Tf,Tf,.inl rfl⟩
 |x::l,h=>by
  rw[bU]at h;by_cases h1:x.1<n;.have⟨fp,fq,d,f,g⟩:=zY (n:=n) h.2;refine⟨x::fp,fq,λy c=>(aR.1 c).elim (λe=>by rw[e];exact h1) (d y),f,g.imp (λe=>by rw[e];rfl) (λ⟨o,e⟩=>⟨o,by rw[e];rfl⟩)⟩
  .by_cases h2:x.1=n;.exact⟨[],l,Tf,λy c=>by have:=h.1 y c;omega,.inr ⟨x.2,by rw[<-h2];rfl⟩⟩
   .exact⟨[],x::l,Tf,λy c=>(aR.1 c).elim (λe=>by rw[e];omega) (λq=>by have:=h.1 y q;omega),.inl rfl⟩
theorem tf (h:Mj m)(n:Int):∃fp fq,(∀x∈fp,x.1<n)/\(∀x∈fq,n<x.1)/\(∀vs,m.put n vs= .mk (fp++((if vs.isEmpty then []else [(n,vs)])++fq)) m.unk)/\(m.fs=fp++fq\/∃old,m.fs=fp++(n,old)::fq):=by
 have⟨fp,fq,b,c,d⟩:=zY (n:=n) h
 have f:∀x∈fp++fq,x.1≠n:=λx a=>by
  rcases aQ.1 a with a|a;.have:=b x a;omega
  .have:=c x a;omega
 refine⟨fp,fq,b,c,λvs=> ?_,d⟩;unfold PM.put
 cases hv:vs.isEmpty with
 |true=>
  rw[lZ];simp only[if_true,be];rcases d with e|⟨old,e⟩;.rw[e,me n _ f]
  .rw[e,cV,cq,dG Tf,<-cV,me n _ f]
 |false=>
  simp only[aN,if_false];rcases d with e|⟨old,e⟩;.rw[e,sZ n vs fq c fp b];rfl
  .rw[e,vW n vs old fq c fp b];rfl
theorem Ge (h:Mj m)(n:Int)(vs us:List PV):(m.put n vs).put n us=m.put n us:=by
 have⟨b,c,d,e,g,_⟩:=tf h n;rw[g vs,g us];unfold PM.put;simp only[PM.fs,PM.unk]
 have f:∀x∈b++c,x.1≠n:=λx a=>by
  rcases aQ.1 a with a|a;.have:=d x a;omega
  .have:=e x a;omega
 cases us.isEmpty with
 |true=>
  rw[lZ]
  cases vs.isEmpty with
  |true=>simp only[if_true,be];rw[me n _ f]
  |false=>
   simp only[aN,if_false,if_true,be,bo]
   rw[cV,cq,dG Tf,<-cV,me n _ f]
 |false=>
  cases vs.isEmpty with
  |true=>simp only[aN,if_false,if_true,be,bo];rw[sZ n us c e b d]
  |false=>simp only[aN,if_false,be,bo];rw[vW n us vs c e b d]
theorem CX (h:Mj m)(n:Int)(vs:List PV):(m.put n vs).get n=vs:=by
 have⟨c,d,b,e,f,_⟩:=tf h n;rw[f vs];unfold PM.get;simp only[PM.fs]
 cases hv:vs.isEmpty with
 |true=>
  simp only[if_true,be]
  rw[nD n _ λx a=>by
   rcases aQ.1 a with a|a;.have:=b x a;omega
   .have:=e x a;omega]
  exact(List.isEmpty_iff.1 hv).sy
 |false=>
  simp only[aN,if_false,bo,be];exact qG n vs d c b
theorem Gf (h:Mj m)(p:∀f∈m.fs,f.2≠ [])(n:Int):m.put n (m.get n)=m:=by
 have⟨j,k,g,l,i,o⟩:=tf h n;have d:m= .mk m.fs m.unk:=by cases m;rfl
 rcases o with e|⟨a,e⟩
 .have c:m.get n= []:=by
   unfold PM.get;rw[e]
   exact nD n _ λx b=>by
    rcases aQ.1 b with b|b;.have:=g x b;omega
    .have:=l x b;omega
  rw[c,i]
  conv=>rhs;rw[d,e]
  rfl
 .have c:m.get n=a:=(by unfold PM.get;rw[e];exact qG n a k j g);have:=p (n,a) (by rw[e];simp);rw[c,i]
  conv=>rhs;rw[d,e]
  cases a with
  |nil=>exact absurd rfl this
  |cons _ _=>rfl
theorem el.srt {T:Option MT}{Z:ax}{db:Nat}(h:el S (k+1) T w Z db m):Mj m/\∀f∈m.fs,f.2≠ []:=by
 obtain⟨sv,uv,l,Y,e,b⟩:=h;refine⟨?_,b.filled⟩;have c:=e.c.srt;have d:=b.nums;unfold Mj;have a:(l.map (·.1)).Pairwise (·< ·):=cn.2 c;rw[<-d]at a;exact cn.1 a
end
section
variable {S:eE} {d:MT} {f:fB} {mp:am} {g:GF} {w:aw}
structure oZ (w:aw)(B:Nat)(S:eE)(mp:am)(k:Nat)(d:MT)(Z:ax)(rb db:Nat)(b:au)(e a z deep:Nat)(m:PM):Prop where
 cx:Oz w B S mp
 hr:d6 w rb (b.extract 0 e) z deep
 hd:el S (k+1) (some d) w Z db m
 hZ:∀x,Z x->B<=x/\x<w.heap.size
 rB:B<=rb
 rZ:¬Z rb
 az:a<z
 ze:z<=e
 eb:e<=b.size
 bs:b.size<=268435456
 wm:WM S a d m
theorem oy (b:ei d.fs f.num=some f)(c:pt S f= .vals):ot S (some d) f.num .vals/\∀kd,ot S (some d) f.num kd->kd= .vals:=
 ⟨λg h e a=>by cases e;rw[b]at a;cases a;exact c.sy,λkd q=>by rw[q d f rfl b,c]⟩
theorem kT (b:FG S mp d f g)(e:g.form≠4)(h:S.base f.ty<=15):pt S f= .vals/\fS S f=none/\f.isMap=false:=by
 have a:f.isMap=false:=by rw[b.map];simp[e]
 have c:fS S f=none:=by
  unfold fS;rw[a]
  cases hq:S.msg f.ty with
  |none=>rfl
  |some x=>have:=b.nest.2 (by rw[hq];rfl);omega
 exact⟨by unfold pt;rw[a,c];rfl,c,a⟩
theorem ez.dr {k:Nat}{T:Option MT}{w':aw}{Z:ax}{rb db:Nat}{m:PM}(h:el S k T w Z db m)(a:dY [rb] w w')(d:¬Z rb):el S k T w' Z db m:=
 h.O λb q c=>a.block b c (by simp;exact λe=>d (e▸q))
def JV (m:PM)(n:Int):Fx (LV×Nat)->Fx (PM×Nat)
 | .error x=> .error x
 | .ok x=> .ok (m.put n (m.get n++ [qF x.1]),x.2)
theorem g8 {P:ax}{pv:Value}(h:if g.form=4 then∃eb,pv=gR (some eb)/\lQ w P mp g.f.key g.f.ty eb else pv=gR (yJ mp g.f.ty)):∃q,pv= .pointer q:=by
 split at h;.obtain⟨eb,rfl,_⟩:=h;exact⟨_,rfl⟩
 .subst h;unfold gR;split<;>exact⟨_,rfl⟩
theorem EC (w:aw)(B:Nat)(S:eE)(mp:am)(k:Nat)(d:MT)(f:fB)(g:GF)(fb:Nat)(Z:ax)(rb db:Nat)(b:au)(e a z deep F:Nat)(num:Int)(m:PM)
  (I:oZ w B S mp k d Z rb db b e a z deep m) (r:eR w (λb=>b<B) mp g fb) (j:FG S mp d f g) (hf:g.form=2) (p:S.base f.ty<=15) (s:ei d.fs f.num=some f):
  Calls prog 192 #[ag fb,aa (ed (S.base f.ty)),ag rb,ag db] w (ij S k d w Z rb db (b.extract 0 e) deep (jH S b F d f m deep (fP (b.extract 0 e) a num (ed (S.base f.ty)) z))):=by
 have A:jH S b F d f m deep (fP (b.extract 0 e) a num (ed (S.base f.ty)) z)=JV m f.num (gr (b.extract 0 e) z (S.base f.ty)):=(by rw[Gd j hf p I.eb];cases gr (b.extract 0 e) z (S.base f.ty)<;>rfl);rw[A];clear A;have⟨y,rv,h,hfB,_,D⟩:=r.blk;have U:eG mp g=S.base f.ty:=by unfold eG;rw[dG Te,j.eq,j.base]
 rw[U,j.eq]at h;have⟨N,_,_⟩:=kT j Te p;have⟨t,u⟩:=oy s N;have hes:(b.extract 0 e).size=e:=gB I.eb;have hl:=I.wm.len;have hab:=I.az;have hze:=I.ze;have heb:=I.eb;have hbs:=I.bs;have V:rb<w.heap.size:=dP.lt I.hr;have J:=rQ w (S.base f.ty) y Te
 have H:∀w1,d6 w1 rb (b.extract 0 e) z deep->UOK w1->S9 194 #[.agg #[aa (S.base f.ty),y],ag rb] w1 (py w1 rb (b.extract 0 e) deep (gr (b.extract 0 e) z (S.base f.ty)) vR):=
  λw1 h l=>pW w1 rb _ z deep _ y h Te Te p l (by have:=I.cx.u1;have:=I.rB;omega) (by have:=I.cx.u2;have:=I.rB;omega)
 obtain⟨R,o⟩:=Td (gr (b.extract 0 e) z (S.base f.ty));rw[o]at H⊢;have HR:Hid (gr (b.extract 0 e) z (S.base f.ty)=R):=o;clear o;have⟨k1,k2⟩:=h.I;obtain⟨pq,rfl⟩:=g8 D;clear D;go_in
 go_wp2_with fail;refine J.V ?_;rintro E w2 ⟨rfl,c⟩;have l:=h.G c h.lt;have W:d6 w2 rb (b.extract 0 e) z deep:=dP.G I.hr c V;have K:UOK w2:=(I.cx.on (c.V I.cx.le)).u;have L:=I.hd.O (λx _ q=>c.block x q);have⟨k3,k4⟩:=l.I;clear k1 k2 J;have M:dP w2.drew fb #[aa f.num,aa g.form,aa (S.base f.ty),.pointer pq,rv] 220:=l;have hfl:fb<w2.heap.size:=l.lt;have T:el S (k+1) (some d) w2.drew Z db m:=L.O (λ_ _ _=>rfl);have hrb:=I.rB;have C:=I.rZ
 have hA:∀w3:aw,∀v:LV,el S (k+1) (some d) w3 Z db m->S9 268 #[ag db,aa f.num,vR v] w3 (jN S k (some d) w3 Z db (m.put f.num (m.get f.num++ [qF v]))):=
  λw3 v O=>xI S k (some d) w3 Z db m f.num v O t (.inl u) Te (by have:=hl.2.2 f.num;omega)
 go_upto_region 1 with fail
 go_region_with
  (first
   |(
     go_at_call 194;refine(H w2.drew W K).V ?_;intro E w3 hq;rcases hq.part with⟨x,rfl,rfl,i⟩|⟨x,rfl,rfl,i,P⟩;.unfold dX;go_wp2;exact⟨rfl,rfl,Z,(ez.oB c.drew).J (.oK i)⟩
     have G:=M.kept i Tg
     have⟨k5,k6⟩:=G.I)
   |(
     go_at_call 268;refine(hA w3 x.1 (ez.dr T i C)).V ?_;rintro E w4 ⟨rfl,X,n,Q⟩;have Y:=G.step n (λq=>by have:=(I.hZ fb q).1;omega)
     have⟨k7,k8⟩:=Y.I))
 all_goals
  go_wp2;go_end0;refine⟨rfl,X,((ez.oB c.drew).J (.oK i)).J (.oS n),Q,?_⟩;exact dP.step P n C
end
end
section
open Go.Maps Go.Sort
open Tq
def xL (x:Int)(w:aw):Calls prog 409 #[.int .u64 x] w λe w'=>e= .returned (.bool false)/\w'=w:=by
 go_in
 go_wp2;go_ret;exact⟨rfl,rfl⟩
def xM (x:au)(w:aw):Calls prog 410 #[ae x] w λe w'=>e= .returned (.bool false)/\w'=w:=by
 go_in
 go_wp2;go_ret;exact⟨rfl,rfl⟩
def Km (x y:au):Int:=if Op.bytesLess x.toList y.toList then-1 else if x.toList==y.toList then 0 else 1
def EJ (x y:Int)(w:aw):Calls prog 358 #[.int .u64 x,.int .u64 y] w λe w'=>e= .returned (aa (kI x y))/\w'=w:=by
 unfold kI;by_cases h:x<y
 .rw[dH h];go_in
  go_wp2_with (first|(go_at_call 409;refine(xL _ _).V ?_;rintro e w' ⟨rfl,rfl⟩))
  go_ret;exact⟨rfl,rfl⟩
 .have b:decide (x<y)=false:=by simp[h]
  rw[dG h];by_cases h2:y<x
  .rw[dH h2];go_in
   go_wp2_with (first|(go_at_call 409;refine(xL _ _).V ?_;rintro e w' ⟨rfl,rfl⟩))
   go_ret;exact⟨rfl,rfl⟩
  .have a:decide (y<x)=false:=by simp[h2]
   rw[dG h2];go_in
   go_wp2_with (first|(go_at_call 409;refine(xL _ _).V ?_;rintro e w' ⟨rfl,rfl⟩))
   go_ret;exact⟨rfl,rfl⟩
def EK (x y:au)(w:aw):Calls prog 359 #[ae x,ae y] w λe w'=>e= .returned (aa (Km x y))/\w'=w:=by
 unfold Km
 cases h:Op.bytesLess x.toList y.toList with
 |true=>
  rw[dH rfl];go_in
  go_wp2_with (first|(go_at_call 410;refine(xM _ _).V ?_;rintro e w' ⟨rfl,rfl⟩))
  go_ret
  exact⟨rfl,rfl⟩
 |false=>
  rw[dG Th]
  cases h2:x.toList==y.toList with
  |true=>
   rw[dH rfl];go_in
   go_wp2_with (first|(go_at_call 410;refine(xM _ _).V ?_;rintro e w' ⟨rfl,rfl⟩))
   go_ret
   exact⟨rfl,rfl⟩
  |false=>
   rw[dG Th];go_in
   go_wp2_with (first|(go_at_call 410;refine(xM _ _).V ?_;rintro e w' ⟨rfl,rfl⟩))
   go_ret;exact⟨rfl,rfl⟩
def Rn (x y:Int):Int:=if x=0 then y else x
def RG (x y:Int)(b:Nat)(w:aw)(a:w.cell? (ai b 0)=some (aa x))(h1:w.cell? (ai b 1)=some (aa y)):
  Calls prog 357 #[Ta b 2 2] w λe w'=>e= .returned (aa (Rn x y))/\w'=w:=by
 unfold Rn;by_cases hx:x=0
 .rw[dH hx];subst hx;by_cases hy:y=0
  .subst hy;go_in
   go_wp2;refine wp_loop_rounds 3 ?_;rw[rounds_succ];go_wp2;rw[rounds_succ];go_wp2;rw[rounds_succ];go_wp2;go_ret;exact⟨rfl,rfl⟩
  .go_in
   go_wp2;refine wp_loop_rounds 2 ?_;rw[rounds_succ];go_wp2;rw[rounds_succ];go_wp2;go_ret;exact⟨rfl,rfl⟩
 .rw[dG hx];go_in
  go_wp2;refine wp_loop_rounds 1 ?_;rw[rounds_succ];go_wp2;go_ret;exact⟨rfl,rfl⟩
def EL (x y:LV):Int:=Rn (kI x.1 y.1) (Km x.2 y.2)
def EM (x y:LV)(w:aw):Calls prog 275 #[kV x,kV y] w λe w'=>e= .returned (aa (EL x y))/\∃q os,w'=grow (w.drewN q) os:=by
 obtain⟨j,k⟩:=x;obtain⟨l,m⟩:=y;unfold kV;go_in
 have i:∀(c d:Obj) (a b:Value),(((w.alloc c).alloc d).alloc (.cells #[a,b] 3)).drew.cell? (ai (w.heap.size+1+1) 0)=some a/\(((w.alloc c).alloc d).alloc (.cells #[a,b] 3)).drew.cell? (ai (w.heap.size+1+1) 1)=some b:=λc d a b=>by
  have h:=lU ((w.alloc c).alloc d) a b 3;have f:=h 0 a rfl;have g:=h 1 b rfl;simp only[ca,Addr.add]at f g;exact⟨f,g⟩
 go_upto_region 1 with fail
 go_region_held2 (λW=>W.cell? (ai w.heap.size 0)=some (.int .u64 j)/\W.cell? (ai w.heap.size 1)=some (ae k)/\W.cell? (ai (w.heap.size+1) 0)=some (.int .u64 l)/\W.cell? (ai (w.heap.size+1) 1)=some (ae m)) (go_keep) (first
  |(go_at_call 358;refine(EJ _ _ _).V ?_;rintro e w' ⟨rfl,rfl⟩)
  |(go_at_call 359;refine(EK _ _ _).V ?_;rintro e w' ⟨rfl,rfl⟩)
  |(go_at_call 357;refine(RG _ _ _ _ (i _ _ _ _).1 (i _ _ _ _).2).V ?_;rintro e w' ⟨rfl,rfl⟩))
 go_wp2;go_ret;exact⟨rfl,1,#[_,_,_],rfl⟩
def Nh (x y:au):Km x y<0<->Op.bytesLess x.toList y.toList=true:=by
 unfold Km;split;.rename_i h;simp[h]
 .rename_i h;split<;>simp[h]
def Gl (x y:Int):kI x y=0<->x=y:=by
 unfold kI;split;.simp;omega
 .split;.simp;omega
  .simp;omega
def Ni (x y:LV):EL x y<0<->oK x y:=by
 unfold EL Rn oK;by_cases h:x.1=y.1;.rw[dH ((Gl _ _).2 h),Nh];simp[h]
 .rw[dG (λq=>h ((Gl _ _).1 q)),nC];simp[h]
def QA (x y:LV):ltOf EL x y=true<->oK x y:=by
 unfold ltOf;simp[Ni]
def RH:SWO (ltOf EL)where
 irrefl x:=by rw[bN];exact λh=>qI _ ((QA _ _).1 h)
 trans x y z h1 h2:=(QA _ _).2 (ox ((QA _ _).1 h1) ((QA _ _).1 h2))
 ntrans x y z h1 h2:=by
  rw[bN,Ne,QA]at*;intro h;rcases AW y x with q|q|q;.exact h2 (ox q h)
  .exact h2 (xB q h)
  .exact h1 q
def Dc {a b:LV}(h:jZ a b):a=b:=by
 obtain⟨c,d⟩:=h;exact Prod.ext c (ByteArray.ext (Array.toList_inj.1 (by rw[<-ByteArray.toList_eq,<-ByteArray.toList_eq];exact d)))
end
section
variable {P:EE} {Q:Value->PM->Prop} {Z:ax}
theorem Lk (a:∀mv m C,(∀b,C b->Z b)->P mv m C->Q mv m):∀{l:List PV} {ms:ay} {Y:ax},(∀b,Y b->Z b)->i8 (λmv (v:PV) C=>P mv v.2.2 C) Y ms l->nQ Q (kU ms l) l
 | [],[],_,_,_=>rfl
 |v::l,mv::ms,Y,hY,h=>by
  obtain⟨A,B,c,d,e,f,_⟩:=h;exact⟨mv,kU ms l,rfl,a _ _ A (λb q=>hY b (e b q)) c,Lk a (λb q=>hY b (f b q)) d⟩
theorem Ll {w:aw}(a:∀mv m C,(∀b,C b->Z b)->P mv m C->Q mv m):∀{l:List PF} {ms:ay} {Y:ax},(∀b,Y b->Z b)->i8 (λvv (f:PF) A=>iw P w A vv f.2) Y ms l->mD Q w Z (lW ms l) l
 | [],[],_,_,_=>rfl
 |v::l,mv::ms,Y,hY,h=>by
  obtain⟨A,B,⟨g,n,i,o,j,k⟩,d,c,e,_⟩:=h;refine⟨mv,lW ms l,rfl,⟨_,i.V λb q _=>hY b (c b q),Lk a (λb q=>hY b (c b (j b q))) k⟩,Ll a (λb q=>hY b (e b q)) d⟩
theorem lR.toIn:∀{k:Nat} {w:aw} {v:Value} {m:PM} {Z:ax},lR k w v m Z->gQ k w Z v m
 |0,_,_,_,_,h=>h
 |k+1,w,v,m,Z,h=>by
  obtain⟨g,Y,a,i,c,d⟩:=h;exact⟨_,a,Ll (P:=lR k w) (λj m C e f=>gQ.V (λb q _=>e b q) (lR.toIn f)) c d⟩
end
def OM:au:=⟨([109,101,115,115,97,103,101,32,65,32,123,32,105,110,116,51,50,32,120,32,61,32,49,59,32,114,101,112,101,97,116,101,100,32,115,105,110,116,54,52,32,121,32,61,32,50,59].append [32,111,112,116,105,111,110,97,108,32,115,116,114,105,110,103,32,122,32,61,32,51,59,32,109,97,112,60,115,116,114,105,110,103,44,32,65,62,32,109,32,61,32,52,59,32,125]).toArray⟩
def Od:(match gI OM with| .ok bs=>(dZ bs).map (λx=>x.data.toList)== [[65]]| .error _=>false)=true:=Tj
def DT:∃bs,gI OM= .ok bs/\dZ bs= [⟨#[65]⟩]:=by
 have h:=Od
 cases hr:gI OM with
 |error e=>rw[hr]at h;cases h
 |ok bs=>
  rw[hr]at h;refine⟨bs,rfl,?_⟩;have a:(dZ bs).map (λx=>x.data.toList)= [[65]]:=by simpa using h
  cases hm:dZ bs with
  |nil=>rw[hm]at a;cases a
  |cons x xs=>
   rw[hm]at a;simp only[cu,List.cons.injEq,List.map_eq_nil_iff]at a;obtain⟨b,rfl⟩:=a;congr 1
   cases x with
   |mk d=>
    cases d with
    |mk l=>
     have c:l= [65]:=b;rw[c]
end Go.Proofs.YtfebdimolnobaaaGreatDoor
