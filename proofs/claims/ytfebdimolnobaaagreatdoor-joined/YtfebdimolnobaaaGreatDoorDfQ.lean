import Derived.Test.YtfebdimolnobaaaGreatDoorDfF
import Derived.Deep.RegionHeld2
set_option maxRecDepth 100000
set_option maxHeartbeats 8000000
set_option linter.all false
namespace Go.Proofs.YtfebdimolnobaaaGreatDoor
open Go.RowKit Go.Proofs.Tryz
section
open Uq
section
variable {S:d8} {k db g:Nat} {T:Option MT} {w1:an} {Z1 C:ap} {m:PM} {n:Int} {pre post:List gj} {x:gj} {uv:Value} {t:am} {β:Type} {ps:au}
def pF (t:am):MT:=⟨eS,[⟨nt,t,eS,kI,1⟩]⟩
theorem vQ.shut {sv:Value}{A B:ap}{fp fq:List PF}
  (h:vQ S k T w1 Z1 db m n g pre x post sv uv A B fp fq) (hn:m.get n≠ []):ek S (k+1) T w1 Z1 db m:=by
 rcases h.was with⟨old,e,hs⟩|⟨e,_⟩
 ·obtain⟨fs,u⟩:=m;simp only[PM.fs]at e;subst e;exact⟨sv,uv,pre++x::post,λb=>A b\/B b,h.y,jx.join h.len hs h.sep (λb q=> .inl q) (λb q=> .inr q) h.dis⟩
 ·refine absurd ?_ hn;unfold PM.get;rw[e];refine mZ n _ λf hf=> ?_
  rcases aR.1 hf with hf|hf
  ·have:=h.lo f hf;omega
  ·have:=h.hi f hf;omega
theorem vQ.ofEnts {sv:Value}{A B:ap}{fp fq:List PF}
  (h:vQ S k T w1 Z1 db m n g pre x post sv uv A B fp fq) (hkd:∀kd,nS S T n kd->kd= .ents t):
  (x.2.1=ah/\x.2.2.1=ah)/\((x.2.2.2= .map none/\m.get n= []/\∀b,¬A b)\/∃mb ps D,x.2.2.2= .map (some mb)/\jz w1 mb ((m.get n).map λv=>jF t (fE v)) ps/\(∀b,D b->A b)/\A mb/\¬D mb/\(∀v∈m.get n,En t (fE v))/\
   (m.get n).Pairwise (λa b=>lN (jF t (fE a)) (jF t (fE b)))/\jx (λp v C=>v=mV v.2.2/\ek S k none w1 C p v.2.2) D ps (m.get n)):=by
 rcases h.was with⟨old,e,hs⟩|⟨e,rfl,hA⟩
 ·obtain⟨h1,h2⟩:=hs
  have UE:m.get n=old:=by
   unfold PM.get;rw[e];exact qo n old fq fp h.lo
  rw[h.xn]at h2
  rcases h2 with⟨q,_⟩|⟨q,_⟩|⟨t',q,mb,ps,B,hv⟩
  ·exact absurd (hkd _ q) Uf
  ·exact absurd (hkd _ q) Uf
  ·have:=hkd _ q;simp only[Kd.ents.injEq]at this;subst this;rw[UE];exact⟨⟨hv.c1,hv.c2⟩,.inr ⟨mb,ps,B,hv.c3,hv.map,hv.inA,hv.inM,hv.own,hv.key,hv.srt,hv.sub⟩⟩
 ·refine⟨⟨rfl,rfl⟩,.inl ⟨rfl,?_,hA⟩⟩;unfold PM.get;rw[e];refine mZ n _ λf hf=> ?_
  rcases aR.1 hf with hf|hf
  ·have:=h.lo f hf;omega
  ·have:=h.hi f hf;omega
theorem jx.splitR {α:Type}{P:α->β->(ap)->Prop}{l:List α}{rp:List β}{y:β}{rq:List β}{Y:ap}(h:jx P Y l (rp++y::rq)):
  ∃pre x post,l=pre++x::post/\pre.length=rp.length/\∃A B:ap,P x y A/\jx P B (pre++post) (rp++rq)/\(∀b,A b->Y b)/\(∀b,B b->Y b)/\∀b,A b->¬B b:=by
 have hl:=h.len;simp only[aH,be]at hl;have UF:rp.length<l.length:=Ue
 obtain⟨pre,x,post,rfl,hp⟩:∃pre x post,l=pre++x::post/\pre.length=rp.length:=
  ⟨l.take rp.length,l[rp.length],l.drop (rp.length+1),by rw[<-aX UF,ca],by rw[bG];omega⟩
 have⟨rp',y',rq',e,hl',A,B,q⟩:=h.split;have⟨e1,e2⟩:=List.append_inj e Ue;simp only[List.cons.injEq]at e2;obtain⟨rfl,rfl⟩:=e2;subst e1;exact⟨pre,x,post,rfl,hp,A,B,q⟩
theorem jx.part {P:Nat->β->(ap)->Prop}{l1 mid l2:List β}(h:jx P C ps (l1++(mid++l2)))(hm:mid= []\/∃x,mid= [x]):
  ∃ps1 pm ps2,∃C0:ap,ps=ps1++(pm++ps2)/\ps1.length=l1.length/\((mid= []/\pm= [])\/∃x p,mid= [x]/\pm= [p])/\jx P C0 (ps1++ps2) (l1++l2)/\∀b,C0 b->C b:=by
 rcases hm with rfl|⟨x,rfl⟩
 ·have hl:=h.len;simp only[aS,aH]at hl h;exact⟨ps.take l1.length,[],ps.drop l1.length,C,by rw[aS,ca],by rw[bG];omega,.inl ⟨rfl,rfl⟩,by rw[ca];exact h,λ_ q=>q⟩
 ·obtain⟨pre,p,post,rfl,hp,A,B,_,h2,_,h4,_⟩:=jx.splitR (y:=x) (rq:=l2) h;exact⟨pre,[p],post,B,rfl,hp,.inr ⟨x,p,rfl,rfl⟩,h2,h4⟩
theorem vQ.ents {w2:an}{c:Nat}{A B:ap}{fp fq:List PF}
  (h:vQ S k T w2 Z1 db m n g pre x post (.slice (some (ai g 0)) (pre++x::post).length c) uv A B fp fq) {w3 w6:an} {mb eb N:Nat} {E:ap} {em:PM} {D:DataW Unit} {kl:Lit}
  (hc3:CZ w3 db (.slice (some (ai g 0)) (pre++x::post).length c) uv (pre++(n,ah,ah,.map (some mb))::post)) (h3:∀b,b<w2.heap.size->b≠g->w3.heap[b]?=w2.heap[b]?) (hs3:w2.heap.size<=w3.heap.size)
  (hkept:∀b,b<w3.heap.size->¬E b->b≠mb->w6.heap[b]?=w3.heap[b]?) (hs6:w3.heap.size<=w6.heap.size) (hos:w6.os=w2.os/\w6.tape=w2.tape/\w6.output=w2.output)
  (Ut:∃w5:an,w5.ownsMap prog 386 gr mb N D) (hsz:Go.Maps.size D=((m.get n).map λv=>jF t (fE v)).length) (hat:∀(k:LV) kl,Go.keyOf prog 386 (kV k)=some kl->∀z,D.atKey kl z=Rh (jy ((m.get n).map λv=>jF t (fE v)) ps k) z)
  (hput:w6.ownsMap prog 386 gr mb (N+1) (D.put kl (nO (some eb)))) (hkl:Go.keyOf prog 386 (kV (jF t (fE (mV em))))=some kl)
  (hmb:A mb\/w2.heap.size<=mb) (hmC:¬C mb) (hCA:∀b,C b->A b) (hEZ:∀b,E b->¬Z1 b) (hEm:¬E mb) (hEl:∀b,E b->b<w6.heap.size) (hml:mb<w6.heap.size) (hkey:∀v∈m.get n,En t (fE v)) (hkv:En t (fE (mV em)))
  (hsrt:(m.get n).Pairwise (λa b=>lN (jF t (fE a)) (jF t (fE b)))) (hsub:jx (λp v C=>v=mV v.2.2/\ek S k none w2 C p v.2.2) C ps (m.get n)) (he:ek S k none w6 E eb em) (hok:nS S T n (.ents t)) (Ux:(m.get n).length<1073741824):
  fk w2 (λb=>Z1 b\/E b) w6 (λb=>Z1 b\/(A b\/b=mb\/E b))/\ek S (k+1) T w6 (λb=>Z1 b\/(A b\/b=mb\/E b)) db (m.put n (jt t (m.get n) (mV em))):=by
 have⟨l1,mid,l2,e1,e2,Uw,UB,UC⟩:=uJ hkv hkey hsrt;rw[e2];rw[e1]at hkey hsrt hsub;obtain⟨ps1,pm,ps2,C0,rfl,UD,UL,Uq,Us⟩:=hsub.part (Uw.imp id λ⟨x,q,_⟩=>⟨x,q⟩);have Ux:=(h.y.c.row.lt g h.own).2;have Uz:=h.y.c.blk.lt;have Uu:mb<w2.heap.size->A mb:=λq=>hmb.resolve_right Ue
 have UG:mb≠g:=λe=>h.y.ys g h.own (.inl (e▸Uu (e▸Ux)))
 have UH:mb≠db:=λe=>h.y.yd (.inl (e▸Uu (e▸Uz)))
 have UA:=h.y.zs g h.own;have Ur:∀b,b<w2.heap.size->b≠g->¬E b->b≠mb->w6.heap[b]?=w2.heap[b]?:=λb hb q1 q2 q3=>(hkept b (aD hb hs3) q2 q3).trans (h3 b hb q1)
 have UI:∀b,C0 b->w6.heap[b]?=w2.heap[b]?:=λb hb=>by
  have hA:=hCA b (Us b hb);exact Ur b (h.y.yl b (.inl hA)) (λe=>h.y.ys g h.own (.inl (e▸hA))) (λq=>hEZ b q (h.y.yz b (.inl hA))) (λe=>hmC (e▸Us b hb))
 have UJ:=hc3.keep (w':=w6) (hkept db (aD Uz hs3) (λq=>hEZ db q h.y.zd) (λe=>UH e.symm)) (λb hb=>by
  obtain rfl:g=b:=by simpa [Value.ownBlock]using hb
  exact hkept g (aD Ux hs3) (λq=>hEZ g q UA) (λe=>UG e.symm))
 have Uv:∀v∈l1++mV em::l2,En t (fE v):=λv hv=>by
  simp only[aR,aN]at hv
  rcases hv with hv|rfl|hv
  ·exact hkey v (by simp[hv])
  ·exact hkv
  ·exact hkey v (by simp[hv])
 have UK:(l1++mV em::l2).Pairwise (λa b=>lN (jF t (fE a)) (jF t (fE b))):=by
  rw[bU]at hsrt;have h2:=(bU.1 hsrt.2.1).2.1;rw[bU,bg];refine⟨hsrt.1,⟨UC,h2⟩,λa ha b hb=> ?_⟩
  rcases aN.1 hb with rfl|hb
  ·exact UB a ha
  ·exact hsrt.2.2 a ha b (by simp[hb])
 obtain⟨w5,Ut⟩:=Ut;rw[e1,bI,bI]at hsz hat
 have Uy:jz w6 mb ((l1++mV em::l2).map λv=>jF t (fE v)) (ps1++eb::ps2):=by
  rw[bI,bO];refine jz.put (km:=mid.map λv=>jF t (fE v)) (pm:=pm) ?_ (by rw[bE];exact UD.symm) ?_ ?_ Ut hsz hat hkl hput
  ·rcases UL with⟨rfl,rfl⟩|⟨x,p,rfl,rfl⟩
   ·exact .inl ⟨rfl,rfl⟩
   ·have⟨x',q1,q2⟩:=Uw.resolve_left Uf
    cases q1
    exact .inr ⟨_,p,rfl,rfl,q2⟩
  ·intro q hq;obtain⟨v,hv,rfl⟩:=aP.1 hq;exact kM (UB v hv)
  ·intro q hq;obtain⟨v,hv,rfl⟩:=aP.1 hq;exact λe=>kM (UC v hv) e.symm
 refine⟨⟨hos.1,hos.2.1,hos.2.2,aG hs3 hs6,λb hb q=>Ur b hb (λe=>q (.inl (e▸UA))) (λe=>q (.inr e)) (λe=>q (.inl (e▸h.y.yz mb (.inl (Uu (e▸hb)))))),?_⟩,?_⟩
 ·rintro b (q|q|rfl|q)
  ·exact .inl (.inl q)
  ·exact .inl (.inl (h.y.yz b (.inl q)))
  ·exact hmb.imp (λq=> .inl (h.y.yz _ (.inl q))) id
  ·exact .inl (.inr q)
 ·refine ek.mono (Z:=λb=>Z1 b\/(b=mb\/C0 b\/E b)) (h.close (w2:=w6) (x':=(n,ah,ah,.map (some mb))) (vs:=l1++mV em::l2) (A':=λb=>b=mb\/C0 b\/E b) ?_ ⟨rfl,.inr (.inr ⟨t,hok,mb,ps1++eb::ps2,λb=>C0 b\/E b,?_⟩)⟩ Uf ?_ ?_ ?_) ?_
  ·exact UJ
  ·refine⟨Uf,rfl,rfl,rfl,Uy,λb q=> .inr q,.inl rfl,λq=>q.elim (λq=>hmC (Us mb q)) hEm,Uv,UK,?_,?_⟩
   ·exact jx.join (A:=E) (B:=C0) UD.symm ⟨rfl,he⟩ (Uq.imp λp v F _ _ hF hp=>⟨hp.1,hp.2.keep λb hb _=>UI b (hF b hb)⟩) (λb q=> .inr q) (λb q=> .inl q) (λb q1 q2=>hEZ b q1 (h.y.yz b (.inl (hCA b (Us b q2)))))
   ·have q1:=dH List.length e1;have q2:=Uq.len;simp only[aH,be]at q1 q2⊢;omega
  ·rintro b (rfl|q|q) hz hl
   ·exact Uu hl
   ·exact hCA b (Us b q)
   ·exact absurd hz (hEZ b q)
  ·rintro b (rfl|q|q)
   ·exact hml
   ·exact aD (h.y.yl b (.inl (hCA b (Us b q)))) (aG hs3 hs6)
   ·exact hEl b q
  ·exact λb hz hb q1 q2=>Ur b hb q1 (λq=>hEZ b q hz) (λe=>q2 (e▸Uu (e▸hb)))
  ·rintro b (q|rfl|q|q)
   ·exact .inl q
   ·exact .inr (.inr (.inl rfl))
   ·exact .inr (.inl (hCA b (Us b q)))
   ·exact .inr (.inr (.inr q))
end
def fk.clip {w w':an}{Z Z':ap}(h:fk w Z w' Z'):fk w Z w' (λb=>Z' b/\b<w'.heap.size):=⟨h.os,h.tape,h.output,h.size,h.block,λb q=>h.grow b q.1⟩
def fk.less {a b:an}{S S' T:ap}(h:fk a S b T)(hs:∀x,S x->S' x\/a.heap.size<=x):fk a S' b T:=
 ⟨h.os,h.tape,h.output,h.size,λi hi q=>h.block i hi (λe=>(hs i e).elim q (λe=>Ue)),λi q=>(h.grow i q).elim (hs i) .inr⟩
def ru {t:am}{n:Int}{f:eT}(h:dR (pF t).fs n=some f):n=1/\f=⟨nt,t,eS,kI,1⟩:=by
 unfold pF at h;simp only[dR]at h
 grind
def ek.toKey {S:d8}{f:eT}{k:Nat}{w:an}{Z:ap}{db:Nat}{m:PM}(h:ek S k (some (et f)) w Z db m):ek S k (some (pF f.key)) w Z db m:=by
 cases k with
 |zero=>exact h
 |succ k=>
  obtain⟨sv,uv,l,Y,hy,hs⟩:=h;refine⟨sv,uv,l,Y,hy,hs.imp λx g A _ _ _ h=>⟨h.1,?_⟩⟩
  have hf:∀n f',dR (pF f.key).fs n=some f'->dR (et f).fs n=some f':=λn f' q=>by
   obtain⟨rfl,rfl⟩:=ru q;rfl
  have hk:∀n kd,nS S (some (et f)) n kd->nS S (some (pF f.key)) n kd:=λn kd q d f' e1 e2=>by
   cases e1
   exact q (et f) f' rfl (hf n f' e2)
  rcases h.2 with⟨q,lv,h⟩|⟨q,ps,B,h⟩|⟨t,q,mb,ps,B,h⟩
  ·grind
  ·refine .inr (.inl ⟨hk _ _ q,ps,B,{h with lone:=(λ⟨d,f',e1,e2,e3⟩=>by cases e1;exact h.lone ⟨_,f',rfl,hf _ _ e2,e3⟩),sub:=h.sub.imp λp v C _ _ _ q=>⟨q.1,?_⟩}⟩)
   cases hff:dR (pF f.key).fs x.1 with
   |none=>
    have:nB S (some (pF f.key)) x.1=none:=by unfold nB;grind
    rw[this];exact q.2.forget
   |some f'=>
    have:nB S (some (pF f.key)) x.1=nB S (some (et f)) x.1:=by unfold nB;grind
    grind
  grind
structure JE (S:d8)(k:Nat)(t:am)(m:PM)(n:Int)(w2 w3:an)(db g c N:Nat)(uv:Value)(pre post:List gj)(A:ap)(mb:Nat)(ps:au)(C:ap):Prop where
 dc:CZ w3 db (Ub g N c) uv (pre++(n,ah,ah,.map (some mb))::post)
 k3:∀b,b<w2.heap.size->b≠g->w3.heap[b]?=w2.heap[b]?
 s3:w2.heap.size<=w3.heap.size
 os:w3.os=w2.os/\w3.tape=w2.tape/\w3.output=w2.output
 map:jz w3 mb ((m.get n).map λv=>jF t (fE v)) ps
 hm:A mb\/w2.heap.size<=mb
 mC:¬C mb
 CA:∀b,C b->A b
 key:∀v∈m.get n,En t (fE v)
 srt:(m.get n).Pairwise (λa b=>lN (jF t (fE a)) (jF t (fE b)))
 sub:jx (λp v C=>v=mV v.2.2/\ek S k none w2 C p v.2.2) C ps (m.get n)
 c3:w3.cell? (ai g (pre.length*4+3))=some (.map (some mb))
def uK (S:d8)(k:Nat)(T:Option MT)(w:an)(Z E:ap)(db eb:Nat)(m em:PM)(n:Int)(t:am)(sg:Bool)(h:ek S (k+1+1) T w Z db m)(he:ek S (k+1) (some (pF t)) w E eb em)(hno:S.msg t=none)(hd:∀b,E b->¬Z b)(hZ:∀b,Z b->b<w.heap.size)(hE:∀b,E b->b<w.heap.size)
  (hok:nS S T n (.ents t)) (hkd:∀kd,nS S T n kd->kd= .ents t) (hsg:sg=eM iL t) (hkv:En t (fE (mV (fZ em)))) (hky:(fZ em).get 1≠ []) (hl:m.fs.length<1073741824) (hgl:(m.get n).length<1073741824) (hel:em.fs.length<1073741822):
  Calls prog 187 #[ag db,aa n,.bool sg,ag eb] w λe w'=>e= .returned (.tuple #[])/\∃Z',fk w (λb=>Z b\/E b) w' Z'/\ek S (k+1+1) T w' Z' db (m.put n (jt t (m.get n) (mV (fZ em)))):=by
 have Vf:oO S ⟨nt,t,eS,kI,1⟩= .vals:=by
  unfold oO eT.isMap eV;have e1:gG kI CE=false:=AY;simp[e1,eT.isMap,hno]
 have ok1:nS S (some (pF t)) 1 .vals:=λd f e1 e2=>by
  cases e1
  obtain⟨_,rfl⟩:=ru e2
  grind
 have ok2:nS S (some (pF t)) 2 .vals:=λd f e1 e2=>by
  cases e1
  have:=(ru e2).1;omega
 have Vg:∀kd,nS S (some (pF t)) 1 kd->kd= .vals:=λkd q=>by rw[q (pF t) ⟨nt,t,eS,kI,1⟩ rfl rfl,Vf]
 subst hsg;have hC:=C9 S k (some (pF t)) w E eb em he ok1 ok2 hel hE
 have UW:(fZ em).fs.length<1073741824:=by
  have e:(fZ em).fs=(fH (fH em 1) 2).fs:=rfl
  have h1:∀(m:PM) (n:Int),(fH m n).fs.length<=m.fs.length+1:=λm n=>by
   unfold fH
   split
   ·exact PM.put_len m n _
   ·omega
  grind
 obtain⟨fe,U4⟩:∃fe,fZ em=fe:=⟨_,rfl⟩;rw[U4]at hC hkv hky UW⊢;clear U4;go_in
 go_wp2_with fail;refine hC.mono ?_;rintro e w1 ⟨rfl,E1',UE,UF⟩;obtain⟨E1,st1,U5,Vy⟩:∃E1,fk w E w1 E1/\ek S (k+1) (some (pF t)) w1 E1 eb fe/\∀b,E1 b->b<w1.heap.size:=⟨_,UE.clip,UF.clip,λb q=>q.2⟩;clear UE UF hC;have Vh:∀b,E1 b->¬Z b:=λb q1 q2=>(st1.grow b q1).elim (λq=>hd b q q2) (λq=>by grind)
 have h1:ek S (k+1+1) T w1 Z db m:=h.keep λb q hl=>st1.block b hl (λe=>hd b e q)
 obtain⟨sv,uv,l,hc,Vz,hR⟩:=h1.slot (n:=n) hl;have hS:=tO w1 db sv uv l n hc Vz;go_wp2_with fail;refine hS.mono ?_;rintro e w2 U6;obtain⟨g,c,pre,x,post,A,B,fp,fq,rfl,O,st2,hAl,K,hg⟩:=hR w1 _ w2 (Below.refl _ _) U6;clear U6 hR hS h h1;have Vi:=st2.grow g (.inr rfl)
 have Uw:∀b,E1 b->¬(Z b\/b=g):=λb q=>by
  grind
 have UX:ek S (k+1) (some (pF t)) w2 E1 eb fe:=U5.keep λb q hl=>st2.block b hl (Vh b q)
 have Vj:∀b,E1 b->b<w2.heap.size:=λb q=>aD (Vy b q) st2.size
 obtain⟨c0,c1,c2,c3,cf⟩:=O.cells rfl;have Ux:=(O.y.c.row.lt g rfl).2
 have UY:fk w (λb=>Z b\/E b) w2 (λb=>(Z b\/b=g)\/E1 b):=
  ⟨st2.os.trans st1.os,st2.tape.trans st1.tape,st2.output.trans st1.output,aG st1.size st2.size,λb hb q=>(st2.block b (aD hb st1.size) (λe=>q (.inl e))).trans (st1.block b hb (λe=>q (.inr e))),λb q=>by
   rcases q with(q|rfl)|q
   ·grind
   ·exact Vi.imp .inl (λe=>aG st1.size e)
   ·exact(st1.grow b q).imp .inr id⟩
 clear he U5 st1 st2 hE K;obtain⟨⟨x1,x2⟩,hx⟩:=O.ofEnts hkd;have hpl:((pre++x::post).flatMap d5).length=(pre++x::post).length*4:=nU _
 rcases hx with⟨x3,UR,VA⟩|⟨mb,ps,C,x3,U7,U8,U9,Va,UG,UH,UI⟩
 focus
  rw[x3]at c3
  have PK:∃mb ps C,JE S (k+1) t m n w2 ((w2.setCell (ai g (pre.length*4+3)) (.map (some w2.heap.size))).alloc (.map #[] 0)) db g c (pre++x::post).length uv pre post A mb ps C/\mb=w2.heap.size:=by
   have UZ:=O.y.c.put (j:=3) Ue (v:= .map (some w2.heap.size)) (x':=(x.1,ah,ah,.map (some w2.heap.size))) rfl ⟨⟨_,_,_,rfl⟩,⟨_,_,_,rfl⟩,_,rfl⟩ (by simp[d5,x1,x2]);rw[O.xn]at UZ;have hsz:(w2.setCell (ai g (pre.length*4+3)) (.map (some w2.heap.size))).heap.size=w2.heap.size:=Uf;have U0:=UZ.below ((Below.refl _ _).alloc (ay _) (.map #[] 0));have Vk:=jz.made (w2.setCell (ai g (pre.length*4+3)) (.map (some w2.heap.size)));rw[hsz]at Vk;refine⟨_,[],λ_=>False,⟨U0,λb hb q=>(Below.heap_alloc _ _ b Ue).trans (by rw[dK,dD (λe=>q e.symm)]),Uf,⟨rfl,rfl,rfl⟩,by grind,.inr (ay _),λq=>q,λ_ q=>q.elim,by grind,by rw[UR];exact List.Pairwise.nil,by rw[UR];trivial,?_⟩,rfl⟩;have UK:(pre++(n,Value.slice none 0 0,Value.slice none 0 0,Value.map (some w2.heap.size))::post)[pre.length]?=some (n,ah,ah,.map (some w2.heap.size)):=Uf;obtain⟨g',e,_,hc'⟩:=rt (c:=c) (by have:=U0.row;simpa using this) UK
   grind
  have Vl:=run_eql_map_nil (P:=prog) w2 247 386 180 none underlying247;have Vm:= @run_makeMap prog;have Vn:∀o,(w2.alloc (.map #[] 0)).frozen? (ai g o)=false:=λo=>by rw[World.frozen?_of_block (Below.heap_alloc _ _ g Ux)];grind
  have Vo:(w2.alloc (.map #[] 0)).cell? (ai g (pre.length*4+3))=some (.map none):=by rw[bu (Below.heap_alloc _ _ g Ux)];exact c3
  clear x3 UR VA;go_upto_region 4 with fail
  generalize(w2.setCell (ai g (pre.length*4+3)) (.map (some w2.heap.size))).alloc (.map #[] 0)=w3 at*;obtain⟨mb,ps,C,PK,US⟩:=PK;clear US c0 c1 c2 c3 cf Vm Vn Vo
 rotate_left
 focus
  rw[x3]at c3
  have PK:JE S (k+1) t m n w2 w2 db g c (pre++x::post).length uv pre post A mb ps C:=by
   have Vp:x=(n,ah,ah,.map (some mb)):=by
    obtain⟨a1,a2,a3,a4⟩:=x;have:=O.xn;simp only at this x1 x2 x3;rw[this,x1,x2,x3]
   refine⟨?_,λ_ _ _=>rfl,ay _,⟨rfl,rfl,rfl⟩,U7,.inl U9,Va,U8,UG,UH,UI,c3⟩;rw[<-Vp];exact O.y.c
  have Vl:=run_eql_map_nil (P:=prog) w2 247 386 180 (some mb) underlying247;clear U7 U8 U9 Va UG UH UI x3;go_upto_region 4 with fail
  obtain⟨w3,Vb⟩:∃w3,w3=w2:=⟨_,rfl⟩;rw[<-Vb];have U1:JE S (k+1) t m n w2 w3 db g c (pre++x::post).length uv pre post A mb ps C:=by grind
  clear PK;have PK:=U1;clear U1 c0 c1 c2 c3 cf Vb
 all_goals
  have U2:ek S (k+1) (some (pF t)) w3.drew E1 eb fe:=UX.keep (λb q hl=>PK.k3 b hl (λe=>Uw b q (.inr e)));obtain⟨Vc,Vd,le,VB,UT,Ve⟩:=U2.slot (n:=1) UW;have Vq:=tO w3.drew eb Vc Vd le 1 VB UT;obtain⟨D,Uz,hsz,VC⟩:=PK.map;have UB:=Uz.lt;have UL:¬E1 mb:=λq=>PK.hm.elim (λa=>Uw mb q (O.y.yz mb (.inl a))) (λa=>by grind)
  have Vr:¬E1 g:=λq=>Uw g q (.inr rfl)
  have UC:=aD Ux PK.s3;have hE3:∀b,E1 b->b<w3.heap.size:=λb q=>aD (Vj b q) PK.s3
  have Vs:w3.drew.cell? (ai g (pre.length*4+3))=some (.map (some mb)):=PK.c3
  have Vt:Hid (∀(w0:an) (e:Ending) (w1:an),Below w3.drew.heap.size w3.drew w0->vO w0 eb Vc Vd le 1 e w1->∃ge Ut v0 gv lv cc,e= .returned (.pointer (some (ai ge (Ut.length*4))))/\w1.cell? (ai ge ((Ut:List gj).length*4+1))=some (Ub gv (lv+1) cc)/\w1.cell? (ai gv 0)=some (.int .u64 v0.1)/\w1.cell? (ai gv 1)=some (ae v0.2)/\w1.cell? (ai gv 2)=some (ah)/\w1.cell? (ai gv 3)=some (T9)/\
    fE (mV fe)=pC v0/\ek S (k+1) none w1 (λb=>E1 b\/b=ge) eb fe/\fk w0 E1 w1 (λb=>E1 b\/b=ge)):=by
   intro w0 e w4 hb hq;obtain⟨ge,ce,Ut,x',post',A',B',fp',fq',rfl,O',Uq,hAl',K4,U3⟩:=Ve w0 e w4 hb hq;obtain⟨⟨y2,y3⟩,UK⟩:=O'.ofVals (.inl Vg);obtain⟨gv,cc,lv,hlv,y1,hAg,hgt,UJ⟩:=UK.resolve_left (λq=>hky q.2);obtain⟨z0,z1,z2,z3,zf⟩:=O'.cells rfl;rw[y1]at z1
   cases lv with
   |nil=>grind
   |cons v0 lv=>
    obtain⟨gv',e,_,_,Ur⟩:=el UJ Uf
    cases e
    refine⟨ge,Ut,v0,gv,lv.length,cc,rfl,z1,Ur w4 rfl 0 _ rfl,Ur w4 rfl 1 _ rfl,Ur w4 rfl 2 _ rfl,Ur w4 rfl 3 _ rfl,?_,(O'.shut hky).forget,Uq⟩;show((fe.get 1).headD PV.none)=pC v0
    grind
  clear Ve U2 UX
  have UM:yO (jF t (fE (mV fe))):=⟨by
   unfold jF;have:=hkv.lo;simp only
   split<;>omega,by
   unfold jF;have:=hkv.hi;have:=hkv.lo;simp only
   split<;>omega,by have:=hkv.sz;unfold maxLen;show(fE (mV fe)).2.1.size<=_;omega⟩
  obtain⟨kl,UU⟩:=PD UM;have Vu:((m.get n).map λv=>jF t (fE v)).length<maxLen:=by rw[bE];unfold maxLen;omega
  have UN:Hid (∀(w4 w5 w6:an) (ge:Nat),ek S (k+1) none w4 (λb=>E1 b\/b=ge) eb fe->fk w3.drew E1 w4 (λb=>E1 b\/b=ge)->aj w4 w5->w6.ownsMap prog 386 gr mb (((m.get n).map λv=>jF t (fE v)).length+1) (D.put kl (nO (some eb)))->w5.grownBy w6 (some mb)->
    ∃Z',fk w (λb=>Z b\/E b) w6 Z'/\ek S (k+1+1) T w6 Z' db (m.put n (jt t (m.get n) (mV fe)))):=by
   intro w4 w5 w6 ge UV Uq b5 Us Uv;have U3:=Uq.grow ge (.inr rfl);have Uu:w3.heap.size<=w4.heap.size:=Uq.size;have Uy:∀b,b=ge->E1 b\/w3.heap.size<=b:=λb e=>by rw[e];exact U3
   have Vv:mb≠ge:=λe=>(Uy mb e).elim UL (λq=>Ue)
   have UO:=UV.clip
   have UD:∀b,b<w3.heap.size->¬(E1 b\/b=ge)->b≠mb->w6.heap[b]?=w3.heap[b]?:=λb hb q1 q2=>
    ((Uv.block b (aD (aD hb Uu) b5.size) (λe=>q2 (by grind))).trans (b5.block b (aD hb Uu))).trans (Uq.block b hb (λq=>q1 (.inl q)))
   have Vw:ek S (k+1) none w6 (λb=>(E1 b\/b=ge)/\b<w4.heap.size) eb fe:=UO.keep λb q hl=>(Uv.block b (aD hl b5.size) (λe=>by
    grind)).trans (b5.block b hl)
   have UP:∀b,((E1 b\/b=ge)/\b<w4.heap.size)->¬(Z b\/b=g):=by
    rintro b ⟨q,_⟩ hz
    rcases q with q|q
    ·grind
    ·rcases Uy b q with q|q
     ·grind
     ·have:=UY.size;have:=PK.s3
      grind
   have UQ:¬((E1 mb\/mb=ge)/\mb<w4.heap.size):=λq=>q.1.elim UL Vv
   obtain⟨f1,f2⟩:=O.ents (E:=λb=>(E1 b\/b=ge)/\b<w4.heap.size) (w3:=w3) (w6:=w6) PK.dc PK.k3 PK.s3 (λb hb q1 q2=>UD b hb (λq=>q1 ⟨q,aD hb Uu⟩) q2) (aG Uu (aG b5.size Uv.size)) ⟨Uv.os.trans (b5.os.trans (Uq.os.trans PK.os.1)),Uv.tape.trans (b5.tape.trans (Uq.tape.trans PK.os.2.1)),Uv.output.trans (b5.output.trans (Uq.output.trans PK.os.2.2))⟩
    ⟨w3,Uz⟩ hsz VC Us UU PK.hm PK.mC PK.CA UP UQ (λb q=>aD q.2 (aG b5.size Uv.size)) Us.lt PK.key hkv PK.srt PK.sub Vw hok hgl
   refine⟨_,UY.trans (f1.less ?_),f2⟩;rintro b (q|⟨q|q,_⟩)
   ·grind
   ·grind
   ·exact(Uy b q).imp .inr (λq=>aG PK.s3 q)
  have Vx:=λv0:LV=>Nh (v:=v0) (sg:=eM iL t)
  go_region_with
   (first
    |(go_at_call 266;refine Vq.mono ?_;rintro e w4 VD;obtain⟨ge,Ut,v0,gv,lv,cc,rfl,z1,d0,d1,d2,d3,UA,UV,Uq⟩:=Vt.out w3.drew e w4 (Below.refl _ _) VD;have c34:w4.cell? (ai g (pre.length*4+3))=some (.map (some mb)):=(bu (Uq.block g UC Vr)).trans Vs)
    |(go_at_call 267;refine(Vx v0 w4 (by have:=hkv.lo;rw[UA]at this;exact this) (by have:=hkv.hi;rw[UA]at this;exact this)).mono ?_;rintro e w5 ⟨rfl,b5⟩;obtain⟨w6,hrun6,Us,Uv⟩:=((ka Uz ((b5.block mb (aD UB Uq.size)).trans (Uq.block mb UB UL))):w5.ownsMap prog 386 gr mb _ D).update EK underlying247 Vu (key:=kV (II (eM iL t) v0)) (val:=ag eb) (by rw[UA]at UU;exact UU) (kK (some eb));have c35:w5.cell? (ai g (pre.length*4+3))=some (.map (some mb)):=(bu (b5.block g (aD UC Uq.size))).trans c34))
  all_goals
   go_end0;exact⟨rfl,UN.out w4 w5 w6 ge UV Uq b5 Us Uv⟩
end
structure eC (w:an)(Z:ap)(rb:Nat)(w':an)(Z':ap):Prop where
 os:w'.os=w.os
 tape:w'.tape=w.tape
 output:w'.output=w.output
 size:w.heap.size<=w'.heap.size
 block:∀b,b<w.heap.size->¬Z b->b≠rb->w'.heap[b]?=w.heap[b]?
 grow:∀b,Z' b->Z b\/w.heap.size<=b
section
variable {a b c:an} {Z Y X:ap} {rb n:Nat}
def eC.trans (h:eC a Z rb b Y)(k:eC b Y rb c X):eC a Z rb c X:=
 ⟨k.os.trans h.os,k.tape.trans h.tape,k.output.trans h.output,aG h.size k.size,λi hi q1 q2=>(k.block i (aD hi h.size) (λe=>(h.grow i e).elim q1 (λe=>Ue)) q2).trans (h.block i hi q1 q2),
  λi q=>(k.grow i q).elim (h.grow i) (λe=> .inr (aG h.size e))⟩
def eC.of_step (h:fk a Z b Y):eC a Z rb b Y:=⟨h.os,h.tape,h.output,h.size,λi hi q _=>h.block i hi q,h.grow⟩
def eC.of_kept (h:dX [rb] a b):eC a Z rb b Z:=⟨h.os,h.tape,h.output,h.size,λi hi _ q=>h.block i hi (by simpa using q),λ_ q=> .inl q⟩
def eC.of_below (h:Below a.heap.size a b):eC a Z rb b Z:= .of_kept (.of_below h)
def eC.refl (a:an)(Z:ap)(rb:Nat):eC a Z rb a Z:= .of_below (Below.refl _ _)
def eC.not (h:eC a Z rb b Y)(hb:n<a.heap.size)(hn:¬Z n):¬Y n:=λq=>(h.grow n q).elim hn (λe=>Ue)
def eC.below {B:Nat}(h:eC a Z rb b Y)(hB:B<=a.heap.size)(hZ:∀x,Z x->B<=x)(hr:B<=rb):Below B a b:=
 ⟨h.os,h.tape,h.output,h.size,λi hi=>h.block i Ue (λq=>by have:=hZ i q;omega) Ue⟩
def eC.clip (h:eC a Z rb b Y):eC a Z rb b (λx=>Y x/\x<b.heap.size):=⟨h.os,h.tape,h.output,h.size,h.block,λx q=>h.grow x q.1⟩
end
structure FG (S:d8)(mp:am->Option Nat)(d:MT)(f:eT)(g:GF):Prop where
 eq:g.f=f
 form:g.form=0\/g.form=1\/g.form=2\/g.form=3\/g.form=4
 map:f.isMap=decide (g.form=4)
 rep:f.isRep=decide (g.form=2)
 sin:gG f.how eS=decide (g.form=0)
 riv:g.riv=kL d f
 lone:g.form≠3->g.riv= []
 rlen:g.riv.length<=1073741824
 base:i8 mp f.ty=S.base f.ty
 nest:S.base f.ty=16<->(S.msg f.ty).isSome=true
 key:g.form=4->i8 mp f.key=S.base f.key/\S.base f.key<=14/\S.msg f.key=none/\jI (S.base f.key)=eM iL f.key
structure kG (S:d8)(mp:am->Option Nat)(d:MT)(gs:List GF):Prop where
 srt:gs.Pairwise (λx y=>x.f.num<=y.f.num)
 len:gs.length<=2001
 no:∀n,dR d.fs n=none->ic gs n=none
 yes:∀n f,dR d.fs n=some f->∃g,ic gs n=some g/\FG S mp d f g
structure sF (w:an)(B:Nat)(S:d8)(mp:am->Option Nat):Prop where
 u:UOK w
 u1:2<B
 u2:3<B
 le:B<=w.heap.size
 md:∀t d,S.msg t=some d->∃mb gs,yH mp t=some mb/\iE w (λb=>b<B) mp mb d.name gs/\kG S mp d gs
def sF.on {w w':an}{B:Nat}{S:d8}{mp:am->Option Nat}(h:sF w B S mp)(hb:Below B w w'):sF w' B S mp:=
 ⟨h.u.keep (hb.block _ h.u1) (hb.block _ h.u2),h.u1,h.u2,aG h.le hb.size,λt d q=>by
  have⟨mb,gs,h1,h2,h3⟩:=h.md t d q
  exact⟨mb,gs,h1,h2.keep (λb q _=>hb.block b q),h3⟩⟩
structure Eo (S:d8):Prop where
 good:zJ S
 name:∀d∈S.ms,gG d.name eS=false
def g6 (S:d8)(k:Nat)(d:MT)(w:an)(Z:ap)(rb db:Nat)(s:am)(deep:Nat)(R:Fx (PM×Nat))(en:Ending)(w':an):Prop:=
 match R with
 | .error x=>en=dL x.1 x.2/\∃Z',eC w Z rb w' Z'
 | .ok x=>en= .returned (.tuple #[])/\∃Z',eC w Z rb w' Z'/\ek S (k+1) (some d) w' Z' db x.1/\dW w' rb s x.2 deep
def g6.pre {S:d8}{k:Nat}{d:MT}{w w1:an}{Z Z1:ap}{rb db:Nat}{s:am}{deep:Nat}{R:Fx (PM×Nat)}{en:Ending}{w':an}(h:eC w Z rb w1 Z1)(k1:g6 S k d w1 Z1 rb db s deep R en w'):g6 S k d w Z rb db s deep R en w':=by
 unfold g6 at*
 split at k1
 ·exact⟨k1.1,k1.2.imp λ_ q=>h.trans q⟩
 ·obtain⟨q1,Z',q2,q3⟩:=k1;exact⟨q1,Z',h.trans q2,q3⟩
def oS (e:Nat):Fx PM->Fx (PM×Nat)
 | .error x=> .error x
 | .ok m=> .ok (m,e)
def jJ (S:d8)(b:am)(F:Nat)(d:MT)(f:eT)(m:PM)(deep:Nat):Fx oj->Fx (PM×Nat)
 | .error x=> .error x
 | .ok r=>oS r.e (yL S b F d f m r deep)
def qX (f:eT):∀(l:List eT) (m:PM),io f l m=m.without ((l.filter λo=>gG o.how f.how&&jh o.how&&decide (o.num≠f.num)).map (·.num))
 | [],m=>by
  cases m
  simp only[io,PM.without,PM.fs,PM.unk,List.filter_nil,List.map_nil]
  congr 1;exact(du.2 Uf).symm
 |o::l,m=>by
  rw[io,qX f l];rw[cu]
  split
  ·rw[bO,<-uH];unfold PM.without;simp only[PM.fs,PM.unk,List.filter_filter]
   congr 1;refine List.filter_congr λx _=> ?_
   rw[<-Bool.decide_and]
   congr 1;simp[aN,not_or,and_comm]
  ·rfl
def xw (d:MT)(f:eT)(m:PM):io f d.fs m=m.without (kL d f):=qX f d.fs m
def iO (m:PM):m.without []=m:=by
 cases m
 simp only[PM.without,PM.fs,PM.unk]
 congr 1;exact du.2 Uf
def pG (n:Int)(ns:List Int)(h:n∉ns):∀l:List PF,gz (l.filter λf=>decide (f.1∉ns)) n=gz l n
 | []=>rfl
 |x::l=>by
  rw[cu,gz]
  by_cases q:x.1∈ns
  ·have:decide (x.1∉ns)=false:=by simp[q]
   rw[this,dD Uf,dD (λe:x.1=n=>h (by rw[<-e];exact q)),pG n ns h l]
  ·have:decide (x.1∉ns)=true:=by simp[q]
   rw[this,dE rfl,gz,pG n ns h l]
def uL {m:PM}{n:Int}{ns:List Int}(h:n∉ns):(m.without ns).get n=m.get n:=pG n ns h m.fs
def F9 (d:MT)(f:eT):f.num∉kL d f:=λh=>by
 unfold kL at h;have⟨o,ho,e⟩:=aP.1 h;have:=(bw.1 ho).2;simp only[aJ,dF]at this;exact this.2 e
def WM.without {S:d8}{a:Nat}{d:MT}{m:PM}(h:WM S a d m)(f:eT):WM S a d (m.without (kL d f)):=by
 rw[<-xw];exact h.dropF f d.fs
section
variable {bs:List dQ} {t:am}
theorem EM {ws:List W}{j:Nat}(h:pd ws= .ok (bs,j)):∀b∈bs,dJ b.name.1=1:=by
 refine nN (Q:=λb=>dJ b.name.1=1) (λi b j hb=> ?_) _ _ _ _ h;unfold jr at hb
 split at hb
 ·unfold ld at hb;have⟨_,i1,_,hb⟩:=dO hb;have⟨n,i2,hn,hb⟩:=dO hb;have⟨_,i3,_,hb⟩:=dO hb;have⟨l,i4,_,hb⟩:=dO hb;have⟨_,i5,_,hb⟩:=dO hb;simp at hb;obtain⟨rfl,_⟩:=hb;exact(ik _ _ _ _ _ hn).2.2
 ·unfold gJ at hb;have⟨_,i1,_,hb⟩:=dO hb;have⟨n,i2,hn,hb⟩:=dO hb;have⟨_,i3,_,hb⟩:=dO hb;have⟨l,i4,_,hb⟩:=dO hb;have⟨_,i5,_,hb⟩:=dO hb;simp at hb;obtain⟨rfl,_⟩:=hb;exact(ik _ _ _ _ _ hn).2.2
structure jK (bs:List dQ):Prop where
 ok:CN bs
 nm:∀b∈bs,dJ b.name.1=1
 ones:∀b∈bs,b.enum=false->(gT b.parts).Pairwise (λx y=>x.toList≠y.toList)
theorem Da (h:im t= .ok bs):jK bs:=by
 refine⟨rk h,?_,λb hb he=>Ev h hb he⟩;unfold im at h
 split at h
 ·cases h
 ·split at h
  ·cases h
  ·rename_i h3
   split at h
   ·cases h
   ·cases h
    exact EM h3
theorem rx {s:am}(h:s.toList=t.toList):dJ s=dJ t:=by rw[jd h]
theorem sG (h:jK bs)(h3:dJ t=3):(dU bs).msg t=none:=by
 refine pw λb hb e=> ?_
 have:=h.nm b (bw.1 hb).1;rw[rx e,h3]at this;omega
theorem Ga (h3:dJ t=3):nw t<=14:=by
 unfold nw;have hm:t.toList∈mN:=by have:=mm h3;simpa [je]using this
 generalize t.toList=l at hm
 revert l;decide+kernel
theorem tQ (h:jK bs){z:List (am×Nat)}(hz:z.map (·.1)=dY bs)(ht:dJ t=3\/(dJ t=1/\eM (fi bs) t=true)):(dU bs).base t=16<->((dU bs).msg t).isSome=true:=by
 rw[vG h.ok hz ht];unfold i8
 by_cases h3:dJ t=3
 ·rw[dE h3,sG h h3];have:=Ga h3;simp;omega
 ·rw[dD h3]
  cases hm:eM (dY bs) t with
  |true=>
   have⟨_,_,_,_,h2,_,h4⟩:=px h.ok hz hm
   simp_all
  |false=>
   have⟨h1,h2⟩:=wO hz hm
   simp_all
theorem Db (h3:dJ t=3):jI (nw t)=eM iL t:=by
 have hm:t.toList∈mN:=by have:=mm h3;simpa [je]using this
 have e:eM iL t=eM iL ⟨t.toList.toArray⟩:=by
  unfold eM;rw[ByteArray.toList_eq,ByteArray.toList_eq]
 unfold nw;rw[e];generalize t.toList=l at hm
 revert l;decide+kernel
end
def Bh {s t:am}(ht:fL t 0≠46):gG (qJ s) t=false:=by
 cases h:gG (qJ s) t with
 |false=>rfl
 |true=>
  have h1:=zx s;rw[jd (gw.1 h)]at h1;unfold jh at h1
  simp_all
def tR {p:fo}(hp:tD p){f:eF}(hf:f∈p.fields):
  (f.form=0\/f.form=1\/f.form=2\/f.form=3\/f.form=4)/\(iM p.oneof f).isMap=decide (f.form=4)/\(iM p.oneof f).isRep=decide (f.form=2)/\gG (iM p.oneof f).how eS=decide (f.form=0)/\(f.form≠3->pp p f= []):=by
 rcases hp.2 with⟨o,h1,_,h3⟩|⟨h1,g,h2,h3⟩
 ·have e:=h3 f hf;have hh:(iM p.oneof f).how=qJ o.1:=by show yG p.oneof f.form=_;rw[h1];rfl
  unfold eT.isMap eT.isRep;rw[hh,e,Bh Ui,Bh Ui,Bh Ui];simp
 ·rw[h2]at hf;obtain rfl:=bn.1 hf;have hh:(iM p.oneof f).how=yG none f.form:=by show yG p.oneof f.form=_;rw[h1]
  have hr:pp p f= []:=by unfold pp;simp_all
  unfold eT.isMap eT.isRep;rw[hh,hr]
  rcases h3 with e|e|e|e<;>rw[e]
  ·exact⟨.inl rfl,Ui,Ui,Ui,λ_=>rfl⟩
  ·exact⟨.inr (.inl rfl),Ui,Ui,Ui,λ_=>rfl⟩
  ·exact⟨.inr (.inr (.inl rfl)),Ui,Ui,Ui,λ_=>rfl⟩
  ·exact⟨.inr (.inr (.inr (.inr rfl))),Ui,Ui,Ui,λ_=>rfl⟩
def xy {b:dQ}:∀{ps:List fo},∀p∈ps,p.fields.length<=lO ps
 | [],p,h=>by cases h
 |q::ps,p,h=>by
  rw[lO]
  rcases aN.1 h with rfl|h
  ·omega
  ·have:=xy (b:=b) p h;omega
def xz {bs:List dQ}(h:jK bs){b:dQ}(hb:b∈bs)(he:b.enum=false){p:fo}(hp:p∈b.parts){f:eF}(hf:f∈p.fields)(h4:f.form=4):dJ (jg f.key)=3/\gM 3 (jg f.key)=true:=by
 have c:=(h.ok.chk b hb he).flds p hp f hf;have s:=(h.ok.shape b hb p hp).1 f hf;have k3:=c.key h4;have kg:=c.kg h4;have⟨x,hx⟩:=bZ.1 (s.key.1 h4);rw[k3]at kg;rw[hx]at k3 kg⊢;exact⟨k3,kg⟩
def OS {bs:List dQ}(h:jK bs){b:dQ}(hb:b∈bs)(he:b.enum=false){p:fo}(hp:p∈b.parts){f:eF}(hf:f∈p.fields):dJ f.type.1=3\/(dJ f.type.1=1/\eM (fi bs) f.type.1=true):=by
 have c:=(h.ok.chk b hb he).flds p hp f hf;have s:=(h.ok.shape b hb p hp).1 f hf;exact s.kind.imp id (λq=>⟨q,c.ty q⟩)
def JF {bs:List dQ}(h:jK bs){z:List (am×Nat)}(hz:z.map (·.1)=dY bs){b:dQ}(hb:b∈bs)(he:b.enum=false){p:fo}(hp:p∈b.parts){f:eF}(hf:f∈p.fields):
  FG (dU bs) (lR z) (nP b) (iM p.oneof f) (rS p f):=by
 have⟨f1,f2,f3,f4,f5⟩:=tR (h.ok.shape b hb p hp) hf;have ht:=OS h hb he hp hf;refine⟨rfl,f1,f2,f3,f4,(Pv (h.ones b hb he) (h.ok.shape b hb) hp hf).symm,f5,?_,(vG h.ok hz ht).symm,tQ h hz ht,λh4=> ?_⟩
 ·show(pp p f).length<=_;unfold pp;rw[bE];have h1:=bV (λo=>decide (i9 o≠i9 f)) p.fields;have h2:=xy (b:=b) p hp;have h3:=(h.ok.ok b hb).parts;omega
 ·have⟨k3,kg⟩:=xz h hb he hp hf h4;have Ur:=vG h.ok hz (t:=jg f.key) (.inl k3);have hx:i8 (lR z) (jg f.key)=nw (jg f.key):=by unfold i8;rw[dE k3]
  show i8 (lR z) (jg f.key)=(dU bs).base (jg f.key)/\(dU bs).base (jg f.key)<=14/\(dU bs).msg (jg f.key)=none/\jI ((dU bs).base (jg f.key))=eM iL (jg f.key);rw[Ur,hx];exact⟨rfl,Ga k3,sG h k3,Db k3⟩
def Ht {gs:List GF}(hd:(gs.map λg=>g.f.num).Nodup){g:GF}(hg:g∈gs){n:Int}(hn:g.f.num=n):ic gs n=some g:=by
 induction gs with
 |nil=>cases hg
 |cons x l ih=>
  rw[bO,List.nodup_cons]at hd;rw[ic]
  grind
def JG {gs:List GF}{n:Int}(h:∀g∈gs,g.f.num≠n):ic gs n=none:=by
 induction gs with
 |nil=>rfl
 |cons x l ih=>
  rw[ic,dD (h x aV)]
  simp_all
def xA {n:Int}:∀{fs:List eT} {f:eT},dR fs n=some f->f∈fs/\f.num=n
 | [],f,h=>by cases h
 |x::l,f,h=>by
  rw[dR]at h
  split at h
  ·simp_all
  ·have⟨h1,h2⟩:=xA h;simp_all
def zT {n:Int}:∀{fs:List eT},dR fs n=none->∀f∈fs,f.num≠n
 | [],_,f,hf=>by cases hf
 |x::l,h,f,hf=>by
  rw[dR]at h
  split at h
  ·cases h
  ·rename_i e
   rcases aN.1 hf with rfl|hf
   ·exact e
   ·exact zT h f hf
def Gb {b:dQ}{g:GF}:g∈uD b<->∃p∈b.parts,∃f∈p.fields,g=rS p f:=by
 unfold uD
 grind
def tS {b:dQ}{f:eT}:f∈(nP b).fs<->∃p∈b.parts,∃g∈p.fields,f=iM p.oneof g:=by
 show f∈(b.parts.flatMap λp=>p.fields.map (iM p.oneof))<->_
 grind
def JH (b:dQ):(uD b).map (λg=>g.f.num)=(b.parts.flatMap (λp=>p.fields.map (λf=>iJ f.num.1))).map (λn:Nat=>(n:Int)):=by
 unfold uD;rw[List.map_flatMap,List.map_flatMap]
 congr 1
 funext p;rw[bB,bB];rfl
def Ri {bs:List dQ}(h:jK bs){z:List (am×Nat)}(hz:z.map (·.1)=dY bs){b:dQ}(hb:b∈bs)(he:b.enum=false){gs:List GF}(hg:R8 b gs):kG (dU bs) (lR z) (nP b) gs:=by
 have Us:(gs.map λg=>g.f.num).Nodup:=by
  rw[(hg.1.map _).nodup_iff,JH];exact List.Pairwise.map _ (λa b Ut e=>Ut Ue) (h.ok.chk b hb he).nums
 refine⟨hg.2,?_,λn hn=>JG λg Uu e=> ?_,λn f hf=> ?_⟩
 ·rw[hg.1.length_eq];have h1:=rV b.parts;have h2:=(h.ok.ok b hb).parts;have h3:(uD b).length<=lO b.parts:=h1;omega
 ·obtain⟨p,hp,f,hf,rfl⟩:=Gb.1 (hg.1.mem_iff.1 Uu);exact zT hn (iM p.oneof f) (tS.2 ⟨p,hp,f,hf,rfl⟩) e
 ·have⟨hm,hn⟩:=xA hf;obtain⟨p,hp,f0,Uq,rfl⟩:=tS.1 hm;exact⟨rS p f0,Ht Us (hg.1.mem_iff.2 (Gb.2 ⟨p,hp,f0,Uq,rfl⟩)) hn,JF h hz hb he hp Uq⟩
section
open Uq
section
variable {w:an} {s b:am} {deep num:Int} {z k:Nat} {r:oj} {S:d8} {mp:am->Option Nat} {d:MT} {f:eT} {g:GF} {m:PM}
theorem Gc (w:an)(P:ap)(mp:am->Option Nat)(g:GF)(fb:Nat)(h:eJ w P mp g fb)(hf:g.form=4):
  Calls prog 188 #[ag fb] w λe w'=>∃pv,e= .returned (.agg #[aa (i8 mp g.f.key),pv])/\aj w w':=by
 have⟨pv,rv,h1,_,_,h4⟩:=h.blk;rw[dE hf]at h4;obtain⟨eb,rfl,hE⟩:=h4;have⟨B0,K0⟩:=dS w #[aa 0,.pointer none] 216;have Ut:=h1.alloc (ak #[aa 0,.pointer none] 216);have⟨k1,k2⟩:=Ut.rules;have HF:=qh (w.alloc (ak #[aa 0,.pointer none] 216)) P mp eb eS _ 1 (hE.msg.keep (λb _ hl=>B0.block b hl)) (tH g.f.key g.f.ty) Uf;rw[CS]at HF;unfold gI at k1;go_in
 go_wp2_with fail;refine HF.mono ?_;rintro e w2 ⟨⟨vb,rfl,hV⟩,rfl⟩;have⟨Uv,rv2,h5,_,_,h6⟩:=hV.blk;have Us:eh mp (kJ nt g.f.key 1)=i8 mp g.f.key:=by unfold eh;rw[dD (by simp[kJ])];rfl
 rw[Us]at h5;rw[dD (by simp[kJ])]at h6
 obtain⟨q,hq⟩:∃q,Uv= .pointer q:=by
  subst h6;unfold gI
  split<;>exact⟨_,rfl⟩
 subst hq;have⟨k3,k4⟩:=h5.rules;have⟨k5,k6⟩:=K0.rules;clear k1 k2 h6;go_wp2;refine dG (ec results188 _ _ rfl (dM.new w _ _) underlying216 Uj) rfl ?_;exact⟨_,rfl,(Below.refl _ _).alloc (ay _) _⟩
theorem oU.part {α:Type}{rb:Nat}{r:Fx (α×Nat)}{V:α->Value}{e:Ending}{w':an}(h:oU w rb s deep r V e w'):
  (∃x,r= .error x/\e=dL x.1 x.2/\dX [rb] w w')\/∃x,r= .ok x/\e= .returned (V x.1)/\dX [rb] w w'/\dW w' rb s x.2 deep:=by
 obtain⟨h1,h2⟩:=h
 cases r with
 |error x=>exact .inl ⟨x,rfl,h2,h1⟩
 |ok x=>exact .inr ⟨x,rfl,h2.1,h1,h2.2⟩
theorem pH {a:Nat}{kind:Int}(h:fx s a num kind z= .ok r):z<r.e/\r.fr<=r.e/\r.e<=s.size/\0<=r.n/\r.n<18446744073709551616/\z<=r.fr:=by
 have Uq:∀(k:Nat) (y:Int×Nat),k<=8->1<=k->iT s z k= .ok y->z<y.2/\y.2<=s.size/\0<=y.1/\y.1<18446744073709551616:=λk y h1 h2 q=>by
  unfold iT at q
  split at q
  ·cases q
   have:=tL (s:=s.extract z (z+k)) (by rw[aU];omega);exact⟨Ug,by simpa,this.1,this.2⟩
  ·cases q
 unfold fx at h
 split at h
 ·cases hv:g9 s z s.size with
  |error x=>rw[hv]at h;cases h
  |ok x=>
   rw[hv]at h
   cases h
   have⟨v0,v1,v2,v3⟩:=iG (m:=x.1) (z:=x.2) hv;exact⟨v2,Ug,v3,v0,v1,ay _⟩
 ·split at h
  ·cases hv:iT s z 8 with
   |error x=>rw[hv]at h;cases h
   |ok x=>
    rw[hv]at h
    cases h
    have⟨v0,v1,v2,v3⟩:=Uq 8 x Ue Ue hv;exact⟨v0,Ug,v1,v2,v3,ay _⟩
  ·split at h
   ·cases hv:iT s z 4 with
    |error x=>rw[hv]at h;cases h
    |ok x=>
     rw[hv]at h
     cases h
     have⟨v0,v1,v2,v3⟩:=Uq 4 x Ue Ue hv;exact⟨v0,Ug,v1,v2,v3,ay _⟩
   ·cases hv:eP s z with
    |error x=>rw[hv]at h;cases h
    |ok x=>
     rw[hv]at h
     cases h
     have⟨v0,v1,v2⟩:=iU (z:=x.1) (e:=x.2) hv;exact⟨Ug,v1,v2,Uf,Uf,Ug⟩
theorem mD {a:Nat}(hk:k=0\/k=1\/k=2\/k=5)(h:fx s a num k z= .ok r):r.kind=k:=by
 rcases hk with rfl|rfl|rfl|rfl
 ·rw[EC]at h;cases hv:g9 s z s.size<;>rw[hv]at h<;>cases h;rfl
 ·rw[ED]at h;cases hv:iT s z 8<;>rw[hv]at h<;>cases h;rfl
 ·rw[tM]at h;cases hv:eP s z<;>rw[hv]at h<;>cases h;rfl
 ·rw[EE]at h;cases hv:iT s z 4<;>rw[hv]at h<;>cases h;rfl
theorem Dc (k:Nat):ee k=0\/ee k=1\/ee k=2\/ee k=5:=by
 unfold ee
 split
 ·exact .inl rfl
 ·split
  ·exact .inr (.inl rfl)
  ·split
   ·exact .inr (.inr (.inr rfl))
   ·split
    ·exact .inl rfl
    ·exact .inr (.inr (.inl rfl))
theorem Dd {x:LV×Nat}(hk:k<=15)(h:gi s z k= .ok x):z<x.2/\x.2<=s.size/\0<=x.1.1/\x.1.1<18446744073709551616:=by
 rw[xi s 0 0 z k hk]at h
 cases hr:fx s 0 0 (ee k) z with
 |error y=>rw[hr]at h;cases h
 |ok r=>
  rw[hr]at h;have⟨h1,_,h3,h4,h5,_⟩:=pH hr;simp only[CX]at h
  cases hv:yK s k r with
  |error y=>rw[hv]at h;cases h
  |ok v=>
   rw[hv]at h
   cases h
   refine⟨h1,h3,?_⟩;unfold yK at hv
   split at hv
   ·split at hv
    ·cases hv;simp
    ·cases hv
   ·split at hv
    ·cases hv;simp
    ·cases hv;exact iu h4 h5
theorem Gd {F deep a e:Nat}(fg:FG S mp d f g)(hf:g.form=2)(hb:S.base f.ty<=15)(he:e<=b.size):
  jJ S b F d f m deep (fx (b.extract 0 e) a num (ee (S.base f.ty)) z)=match gi (b.extract 0 e) z (S.base f.ty)with| .error x=> .error x| .ok x=> .ok (m.put f.num (m.get f.num++ [pC x.1]),x.2):=by
 rw[xi (b.extract 0 e) a num z _ hb]
 cases hr:fx (b.extract 0 e) a num (ee (S.base f.ty)) z with
 |error x=>rfl
 |ok r=>
  have hk:=mD (Dc _) hr;have⟨_,_,h3,_⟩:=pH hr;rw[gp he]at h3;have hm:f.isMap=false:=by rw[fg.map,hf];rfl
  have Uu:f.isRep=true:=by rw[fg.rep,hf];rfl
  have hs:eV S f=none:=by
   unfold eV;rw[hm]
   cases hq:S.msg f.ty with
   |none=>rfl
   |some x=>have:=fg.nest.2 (by rw[hq];rfl);omega
  simp only[jJ,yL,CX];rw[dE (by unfold fG;rw[hm];exact hk)];unfold oW lU;rw[hs];simp only;rw[CY rfl hb hk h3 he]
  cases yK (b.extract 0 e) (S.base f.ty) r with
  |error x=>rfl
  |ok v=>
   simp only[CV,oS,gF,hm,Uu,if_true,aM,if_false];rfl
theorem De {F deep a e:Nat}(fg:FG S mp d f g)(hf:g.form=2)(hw:ee (S.base f.ty)≠2):
  jJ S b F d f m deep (fx (b.extract 0 e) a num 2 z)=match eP (b.extract 0 e) z with| .error x=> .error x| .ok y=>(match fw b (S.base f.ty) y.2 (y.2-y.1) (m.get f.num) y.1 with| .error x=> .error x| .ok l=> .ok (m.put f.num l,y.2)):=by
 have e2:fx (b.extract 0 e) a num 2 z=_:=tM (b.extract 0 e) a num z;rw[e2];have hm:f.isMap=false:=by rw[fg.map,hf];rfl
 cases eP (b.extract 0 e) z with
 |error x=>rfl
 |ok y=>
  simp only[jJ,yL];rw[dD (by unfold fG;rw[hm];exact λq=>hw q.symm)];unfold ko
  cases fw b (S.base f.ty) y.2 (y.2-y.1) (m.get f.num) y.1<;>rfl
def Mz (m:PM):Prop:=m.fs.Pairwise (λa b=>a.1<b.1)
theorem zU {n:Int}:∀{fs:List PF},fs.Pairwise (λa b=>a.1<b.1)->∃fp fq,(∀x∈fp,x.1<n)/\(∀x∈fq,n<x.1)/\(fs=fp++fq\/∃old,fs=fp++(n,old)::fq)
 | [],_=>⟨[],[],Uf,Uf,.inl rfl⟩
 |x::l,h=>by
  rw[bg]at h
  by_cases h1:x.1<n
  ·have⟨fp,fq,q1,q2,q3⟩:=zU (n:=n) h.2;refine⟨x::fp,fq,λy hy=>(aN.1 hy).elim (λe=>by rw[e];exact h1) (q1 y),q2,q3.imp (λe=>by rw[e];rfl) (λ⟨o,e⟩=>⟨o,by rw[e];rfl⟩)⟩
  ·by_cases h2:x.1=n
   ·exact⟨[],l,Uf,λy hy=>by have:=h.1 y hy;omega,.inr ⟨x.2,by rw[<-h2];rfl⟩⟩
   ·exact⟨[],x::l,Uf,λy hy=>(aN.1 hy).elim (λe=>by rw[e];omega) (λq=>by have:=h.1 y q;omega),.inl rfl⟩
theorem sH (h:Mz m)(n:Int):∃fp fq,(∀x∈fp,x.1<n)/\(∀x∈fq,n<x.1)/\(∀vs,m.put n vs= .mk (fp++((if vs.isEmpty then []else [(n,vs)])++fq)) m.unk)/\(m.fs=fp++fq\/∃old,m.fs=fp++(n,old)::fq):=by
 have⟨fp,fq,q1,q2,q3⟩:=zU (n:=n) h
 have Ur:∀x∈fp++fq,x.1≠n:=λx hx=>by
  rcases aR.1 hx with hx|hx
  ·have:=q1 x hx;omega
  ·have:=q2 x hx;omega
 refine⟨fp,fq,q1,q2,λvs=> ?_,q3⟩;unfold PM.put
 cases hv:vs.isEmpty with
 |true=>
  rw[lY];simp only[if_true,aS]
  rcases q3 with e|⟨old,e⟩
  ·rw[e,lZ n _ Ur]
  ·rw[e,cK,cu,dD Uf,<-cK,lZ n _ Ur]
 |false=>
  simp only[aM,if_false]
  rcases q3 with e|⟨old,e⟩
  ·rw[e,sA n vs fq q2 fp q1];rfl
  ·rw[e,vP n vs old fq q2 fp q1];rfl
theorem Ge (h:Mz m)(n:Int)(vs us:List PV):(m.put n vs).put n us=m.put n us:=by
 have⟨fp,fq,q1,q2,q3,_⟩:=sH h n;rw[q3 vs,q3 us];unfold PM.put;simp only[PM.fs,PM.unk]
 have Ur:∀x∈fp++fq,x.1≠n:=λx hx=>by
  rcases aR.1 hx with hx|hx
  ·have:=q1 x hx;omega
  ·have:=q2 x hx;omega
 cases us.isEmpty with
 |true=>
  rw[lY]
  cases vs.isEmpty with
  |true=>simp only[if_true,aS];rw[lZ n _ Ur]
  |false=>
   simp only[aM,if_false,if_true,aS,bf];rw[cK,cu,dD Uf,<-cK,lZ n _ Ur]
 |false=>
  cases vs.isEmpty with
  |true=>simp only[aM,if_false,if_true,aS,bf];rw[sA n us fq q2 fp q1]
  |false=>simp only[aM,if_false,aS,bf];rw[vP n us vs fq q2 fp q1]
theorem Df (h:Mz m)(n:Int)(vs:List PV):(m.put n vs).get n=vs:=by
 have⟨fp,fq,q1,q2,q3,_⟩:=sH h n;rw[q3 vs];unfold PM.get;simp only[PM.fs]
 cases hv:vs.isEmpty with
 |true=>
  simp only[if_true,aS]
  rw[mZ n _ λx hx=>by
   rcases aR.1 hx with hx|hx
   ·have:=q1 x hx;omega
   ·have:=q2 x hx;omega]
  exact(List.isEmpty_iff.1 hv).symm
 |false=>
  simp only[aM,if_false,bf,aS];exact qo n vs fq fp q1
theorem Gf (h:Mz m)(hf:∀f∈m.fs,f.2≠ [])(n:Int):m.put n (m.get n)=m:=by
 have⟨fp,fq,q1,q2,q3,q4⟩:=sH h n;have hm:m= .mk m.fs m.unk:=by cases m;rfl
 rcases q4 with e|⟨old,e⟩
 ·have hg:m.get n= []:=by
   unfold PM.get;rw[e]
   exact mZ n _ λx hx=>by
    rcases aR.1 hx with hx|hx
    ·have:=q1 x hx;omega
    ·have:=q2 x hx;omega
  rw[hg,q3]
  conv=>rhs;rw[hm,e]
  rfl
 ·have hg:m.get n=old:=by
   unfold PM.get;rw[e];exact qo n old fq fp q1
  have:=hf (n,old) (by rw[e];simp);rw[hg,q3]
  conv=>rhs;rw[hm,e]
  cases old with
  |nil=>exact absurd rfl this
  |cons _ _=>rfl
theorem ek.srt {T:Option MT}{Z:ap}{db:Nat}(h:ek S (k+1) T w Z db m):Mz m/\∀f∈m.fs,f.2≠ []:=by
 obtain⟨sv,uv,l,Y,hy,hs⟩:=h;refine⟨?_,hs.filled⟩;have h1:=hy.c.srt;have h2:=hs.nums;unfold Mz;have h3:(l.map (·.1)).Pairwise (·< ·):=cm.2 h1;rw[<-h2]at h3;exact cm.1 h3
end
def xB (S:d8)(k:Nat)(T:Option MT)(w:an)(Z:ap)(db:Nat)(m:PM)(n:Int)(v:LV)(h:ek S (k+1) T w Z db m)(hok:nS S T n .vals)(hkd:(∀kd,nS S T n kd->kd= .vals)\/∀f∈m.fs,f.1≠n)(hl:m.fs.length<1073741824)(hvl:(m.get n).length<1073741824):
  Calls prog 268 #[ag db,aa n,vg v] w (jG S k T w Z db (m.put n (m.get n++ [pC v]))):=by
 have⟨i0,UC,UD,UE,UF⟩:=info_parts Tryz.infoV;obtain⟨sv,uv,l,Y,hy,hs⟩:=h;have⟨B0,KB⟩:=dS w #[.int .u64 v.1,ae v.2,ah,T9] 55;have hdl:=hy.c.blk.lt;have UI:=hy.c.row.lt;have Uv:=hy.keep (λb _ hb=>B0.block b hb);have Uz:=my hs (λb _ hb=>B0.block b hb);have hS:=tO _ db sv uv l n Uv.c (by rw[hs.len];exact hl);have hAl:∀b,Y b->b<w.heap.size:=hy.yl;clear hs hy;unfold vg;go_in
 go_wp2_with fail;generalize w.alloc (ak #[.int .u64 v.1,ae v.2,ah,T9] 55)=w0 at*;refine hS.mono ?_;rintro e w1 hR;obtain⟨g,c,pre,x,post,A,B,fp,fq,rfl,O,st,hAY,K⟩:=pE Uv Uz hR;clear hR Uv Uz hS
 have UA:=KB.kept K (by
  simp only[aN,cZ,not_or]
  exact⟨Ue,λe=>by have:=(UI _ e).2;omega⟩)
 have⟨k1,k2⟩:=UA.rules;have⟨⟨x2,x3⟩,hx⟩:=O.ofVals hkd;have⟨c0,c1,c2,c3,cf⟩:=O.cells rfl;have UB:=(O.y.c.row.lt g rfl).2;have hgn:w.heap.size<w1.heap.size:=UA.lt
 have Ur:∀(w' w9:an) (src:Option Nat),aj w1 w'->w'.grownBy w9 src->(∀b,src=some b->A b)->w9.heap[g]?=w1.heap[g]?:=λw' w9 src hB hg hs=>
  (hg.block g (aD UB hB.size) (λe=>O.y.ys g rfl (.inl (hs g e.symm)))).trans (hB.block g UB)
 have HC:Hid (∀(w' w9:an) (src:Option Nat),aj w1 w'->w'.grownBy w9 src->(∀b,src=some b->A b)->w9.heap[g]?=w1.heap[g]?):=Ur;clear Ur
 have HF:Hid (∀(w' w9:an) (src:Option Nat) (gg cap N:Nat) (cs:aq) (lv:List LV),aj w1 w'->w'.grownBy w9 src->(∀b,src=some b->A b)->w9.ownsRow 0 55 4 (Ub gg N cap) N cs->N=lv.length+1->cs=lv.flatMap lV++lV v->m.get n=lv.map pC->(src=some gg\/gg=w1.heap.size+1)->
   jG S k T w Z db (m.put n (m.get n++ [pC v])) (.returned (.tuple #[])) (w9.setCell (ai g (pre.length*4+1)) (Ub gg N cap))):=by
  intro w' w9 src gg cap N cs lv hB hg hs Uw hN UL UM UN;have⟨Z',h1,h2⟩:=O.vals (lv:=lv++ [v]) hs Uf hB hg Uw (by rw[hN];simp) (by rw[UL];simp) (UN.imp id (λe=>Ue)) hok x2 x3;rw[UM];refine⟨rfl,Z',?_,by simpa using h2⟩;have s0:fk w Z w0 Z:=(fk.refl w Z).below B0;exact(s0.trans st).trans h1
 rcases hx with⟨x1,UG⟩|⟨gv,cc,lv,hne,x1,UH,Ux,Uu⟩
 ·rw[x1]at c1;have BB:aj w1 (w1.drew.alloc (ak #[.int .u64 v.1,ae v.2,ah,T9] 55)):=((Below.refl _ _).drew).alloc (ay _) _;have UJ:Hid (m.get n= []):=UG;clear c0 c2 c3 x1 UG;go_upto_region 2 with fail
  go_region_law (first|(refine step_append_lies _ Uk _ _ _ Uk 0 55 i0 _ 4 64 underlying56 UC UD UE UF rfl Ue (ah) 0 [] Uk (bm _ _ _ _) (ai w1.heap.size 0) 1 1 [_,_,_,_] Uk Uk (br (t:=55) (fr:=(0,0)) (heap_alloc_new w1.drew _)) Um Ue Ul Ue Ue (w1.heap.size+1) Uf ?_;intro gg cap w9 Us Uq Ut Uy;have⟨z0,z1,z2,z3,zf⟩:=O.cells (HC.out _ w9 _ BB Uq (λb e=>by cases e))))
  all_goals
   go_end0;exact HF.out _ w9 _ gg cap _ _ [] BB Uq (λb e=>by cases e) Us rfl rfl UJ.out Ut
 ·rw[x1]at c1;have BB:aj w1 (w1.drew.alloc (ak #[.int .u64 v.1,ae v.2,ah,T9] 55)):=((Below.refl _ _).drew).alloc (ay _) _;have hgvl:=(Uu.lt gv rfl).2;have hll:lv.length<1073741824:=by rw[Ux]at hvl;simpa using hvl
  have UK:Hid (m.get n=lv.map pC):=Ux;clear c0 c2 c3 x1 Ux hvl;go_upto_region 2 with fail
  go_region_law (first|(refine step_append_lies _ Uk _ _ _ Uk 0 55 i0 _ 4 64 underlying56 UC UD UE UF rfl Ue (Ub gv lv.length cc) lv.length (lv.flatMap lV) Uk (Uu.drew.alloc _) (ai w1.heap.size 0) 1 1 [_,_,_,_] Uk Uk (br (t:=55) (fr:=(0,0)) (heap_alloc_new w1.drew _)) Um Ue Ul Ue Ue (w1.heap.size+1) Uf ?_;intro gg cap w9 Us Uq Ut Uy;have⟨z0,z1,z2,z3,zf⟩:=O.cells (HC.out _ w9 _ BB Uq (λb e=>by cases e;exact UH))))
  all_goals
   go_end0;exact HF.out _ w9 _ gg cap _ _ lv BB Uq (λb e=>by cases e;exact UH) Us rfl rfl UK.out Ut
section
variable {S:d8} {d:MT} {f:eT} {mp:am->Option Nat} {g:GF} {w:an}
structure oF (w:an)(B:Nat)(S:d8)(mp:am->Option Nat)(k:Nat)(d:MT)(Z:ap)(rb db:Nat)(b:am)(e a z deep:Nat)(m:PM):Prop where
 cx:sF w B S mp
 hr:dW w rb (b.extract 0 e) z deep
 hd:ek S (k+1) (some d) w Z db m
 hZ:∀x,Z x->B<=x/\x<w.heap.size
 rB:B<=rb
 rZ:¬Z rb
 az:a<z
 ze:z<=e
 eb:e<=b.size
 bs:b.size<=268435456
 wm:WM S a d m
theorem nV (hf:dR d.fs f.num=some f)(hk:oO S f= .vals):nS S (some d) f.num .vals/\∀kd,nS S (some d) f.num kd->kd= .vals:=
 ⟨λd' f' e1 e2=>by cases e1;rw[hf]at e2;cases e2;exact hk.symm,λkd q=>by rw[q d f rfl hf,hk]⟩
theorem kN (fg:FG S mp d f g)(h4:g.form≠4)(hb:S.base f.ty<=15):oO S f= .vals/\eV S f=none/\f.isMap=false:=by
 have hm:f.isMap=false:=by rw[fg.map];simp[h4]
 have hs:eV S f=none:=by
  unfold eV;rw[hm]
  cases hq:S.msg f.ty with
  |none=>rfl
  |some x=>have:=fg.nest.2 (by rw[hq];rfl);omega
 exact⟨by unfold oO;rw[hm,hs];rfl,hs,hm⟩
theorem eC.dr {k:Nat}{T:Option MT}{w':an}{Z:ap}{rb db:Nat}{m:PM}(h:ek S k T w Z db m)(hk:dX [rb] w w')(hr:¬Z rb):ek S k T w' Z db m:=
 h.keep λb q hl=>hk.block b hl (by simp;exact λe=>hr (e▸q))
def JI (m:PM)(n:Int):Fx (LV×Nat)->Fx (PM×Nat)
 | .error x=> .error x
 | .ok x=> .ok (m.put n (m.get n++ [pC x.1]),x.2)
theorem gq {P:ap}{pv:Value}(h:if g.form=4 then∃eb,pv=gI (some eb)/\lM w P mp g.f.key g.f.ty eb else pv=gI (yH mp g.f.ty)):∃q,pv= .pointer q:=by
 split at h
 ·obtain⟨eb,rfl,_⟩:=h;exact⟨_,rfl⟩
 ·subst h;unfold gI
  split<;>exact⟨_,rfl⟩
theorem EN (w:an)(B:Nat)(S:d8)(mp:am->Option Nat)(k:Nat)(d:MT)(f:eT)(g:GF)(fb:Nat)(Z:ap)(rb db:Nat)(b:am)(e a z deep F:Nat)(num:Int)(m:PM)
  (I:oF w B S mp k d Z rb db b e a z deep m) (hfa:eJ w (λb=>b<B) mp g fb) (fg:FG S mp d f g) (hf:g.form=2) (hb:S.base f.ty<=15) (hff:dR d.fs f.num=some f):
  Calls prog 192 #[ag fb,aa (ee (S.base f.ty)),ag rb,ag db] w (g6 S k d w Z rb db (b.extract 0 e) deep (jJ S b F d f m deep (fx (b.extract 0 e) a num (ee (S.base f.ty)) z))):=by
 have Ut:jJ S b F d f m deep (fx (b.extract 0 e) a num (ee (S.base f.ty)) z)=JI m f.num (gi (b.extract 0 e) z (S.base f.ty)):=by
  rw[Gd fg hf hb I.eb]
  cases gi (b.extract 0 e) z (S.base f.ty)<;>rfl
 rw[Ut];clear Ut;have⟨pv,rv,h1,hfB,_,Uv⟩:=hfa.blk;have Uw:eh mp g=S.base f.ty:=by unfold eh;rw[dD Ue,fg.eq,fg.base]
 rw[Uw,fg.eq]at h1;have⟨UC,_,_⟩:=kN fg Ue hb;have⟨ok1,ok2⟩:=nV hff UC;have hes:(b.extract 0 e).size=e:=gp I.eb;have hl:=I.wm.len;have hab:=I.az;have hze:=I.ze;have heb:=I.eb;have hbs:=I.bs;have Ux:rb<w.heap.size:=dM.lt I.hr;have hW:=py w (S.base f.ty) pv Ue
 have hV:∀w1,dW w1 rb (b.extract 0 e) z deep->UOK w1->Ua 194 #[.agg #[aa (S.base f.ty),pv],ag rb] w1 (oU w1 rb (b.extract 0 e) deep (gi (b.extract 0 e) z (S.base f.ty)) vg):=
  λw1 h1 h2=>pz w1 rb _ z deep _ pv h1 Ue Ue hb h2 (by have:=I.cx.u1;have:=I.rB;omega) (by have:=I.cx.u2;have:=I.rB;omega)
 obtain⟨R,hR⟩:∃R,gi (b.extract 0 e) z (S.base f.ty)=R:=⟨_,rfl⟩;rw[hR]at hV⊢;have HR:Hid (gi (b.extract 0 e) z (S.base f.ty)=R):=hR;clear hR;have⟨k1,k2⟩:=h1.rules;obtain⟨pq,rfl⟩:=gq Uv;clear Uv;go_in
 go_wp2_with fail;refine hW.mono ?_;rintro en w2 ⟨rfl,B2⟩;have h2:=h1.below B2 h1.lt;have Uy:dW w2 rb (b.extract 0 e) z deep:=dM.below I.hr B2 Ux;have Uz:UOK w2:=(I.cx.on (B2.mono I.cx.le)).u;have UA:=I.hd.keep (λx _ q=>B2.block x q);have⟨k3,k4⟩:=h2.rules;clear k1 k2 hW;have UB:dM w2.drew fb #[aa f.num,aa g.form,aa (S.base f.ty),.pointer pq,rv] 220:=h2;have hfl:fb<w2.heap.size:=h2.lt;have Ur:ek S (k+1) (some d) w2.drew Z db m:=UA.keep (λ_ _ _=>rfl);have hrb:=I.rB;have Uu:=I.rZ
 have hA:∀w3:an,∀v:LV,ek S (k+1) (some d) w3 Z db m->Ua 268 #[ag db,aa f.num,vg v] w3 (jG S k (some d) w3 Z db (m.put f.num (m.get f.num++ [pC v]))):=
  λw3 v UD=>xB S k (some d) w3 Z db m f.num v UD ok1 (.inl ok2) Ue (by have:=hl.2.2 f.num;omega)
 go_upto_region 1 with fail
 go_region_with
  (first
   |(
     go_at_call 194;refine(hV w2.drew Uy Uz).mono ?_;intro en w3 hq
     rcases hq.part with⟨x,rfl,rfl,Uq⟩|⟨x,rfl,rfl,Uq,UE⟩
     ·unfold dL;go_wp2;exact⟨rfl,rfl,Z,(eC.of_below B2.drew).trans (.of_kept Uq)⟩
     have h3:=UB.kept Uq Ug
     have⟨k5,k6⟩:=h3.rules)
   |(
     go_at_call 268;refine(hA w3 x.1 (eC.dr Ur Uq Uu)).mono ?_;rintro en w4 ⟨rfl,Z4,Us,UF⟩;have h4:=h3.step Us (λq=>by have:=(I.hZ fb q).1;omega)
     have⟨k7,k8⟩:=h4.rules))
 all_goals
  go_wp2;go_end0;refine⟨rfl,Z4,((eC.of_below B2.drew).trans (.of_kept Uq)).trans (.of_step Us),UF,?_⟩;exact dM.step UE Us Uu
end
def JJ (m:PM)(n:Int)(e:Nat):Fx (List PV)->Fx (PM×Nat)
 | .error x=> .error x
 | .ok l=> .ok (m.put n l,e)
def qY (k:Nat)(b:am)(n:Int)(m:PM):Fx (Nat×Nat)->Fx (PM×Nat)
 | .error x=> .error x
 | .ok y=>JJ m n y.2 (fw b k y.2 (y.2-y.1) (m.get n) y.1)
def FU.part {w:an}{rb:Nat}{s:am}{deep:Int}{r:Fx (Nat×Nat)}{e:Ending}{w':an}(h:FU w rb s deep r e w'):
  (∃x,r= .error x/\e=dL x.1 x.2/\dX [rb] w w')\/∃x nb,r= .ok x/\e= .returned (ag nb)/\dX [rb] w w'/\w.heap.size<=nb/\nb≠rb/\dW w' nb (s.extract 0 x.2) x.1 deep/\dW w' rb s x.2 deep:=by
 obtain⟨h1,h2⟩:=h
 grind
def lH (w:an)(nb e:Nat):Nat:=
 match w.cell? (ai nb 1)with
 |some (.int _ n)=>((e:Int)-n).toNat
 |_=>0
def gW {w:an}{nb a e:Nat}{s:am}{deep:Int}(h:dW w nb s a deep):lH w nb e=e-a:=by
 unfold lH;rw[dM.cell h];simp
structure PE (S:d8)(k:Nat)(d:MT)(B:Nat)(w wr:an)(Z Z':ap)(rb nb db fb y1 y2:Nat)(b s:am)(deep:Nat)(fcs:Array Value)(bs:Nat)(m:PM)(n:Int)(a:Nat)(l:List PV)(F:Nat)(P:Fx (List PV)):Prop where
 st:eC w Z rb wr Z'
 rn:dW wr nb (b.extract 0 y2) a deep
 rr:dW wr rb s y2 deep
 dr:ek S (k+1) (some d) wr Z' db (m.put n l)
 fd:dM wr fb fcs 220
 lo:y1<=a
 hi:a<=y2
 ll:l.length<=a
 eq:Hid (P=fw b bs y2 F l a)
 fu:y2-a<=F
 zz:∀x,Z' x->B<=x/\x<wr.heap.size
 zn:¬Z' nb
def eC.keptN {a b c:an}{Z Y:ap}{rb nb:Nat}(h:eC a Z rb b Y)(k:dX [nb] b c)(hn:a.heap.size<=nb):eC a Z rb c Y:=
 ⟨k.os.trans h.os,k.tape.trans h.tape,k.output.trans h.output,aG h.size k.size,λi hi q1 q2=>(k.block i (aD hi h.size) (by grind)).trans (h.block i hi q1 q2),h.grow⟩
def EO (w:an)(B:Nat)(S:d8)(mp:am->Option Nat)(k:Nat)(d:MT)(f:eT)(g:GF)(fb:Nat)(Z:ap)(rb db:Nat)(b:am)(e a z deep F:Nat)(num:Int)(m:PM)
  (I:oF w B S mp k d Z rb db b e a z deep m) (hfa:eJ w (λb=>b<B) mp g fb) (fg:FG S mp d f g) (hf:g.form=2) (hb:S.base f.ty<=15) (hw:ee (S.base f.ty)≠2) (hff:dR d.fs f.num=some f):
  Calls prog 192 #[ag fb,aa 2,ag rb,ag db] w (g6 S k d w Z rb db (b.extract 0 e) deep (jJ S b F d f m deep (fx (b.extract 0 e) a num 2 z))):=by
 have Uw:jJ S b F d f m deep (fx (b.extract 0 e) a num 2 z)=qY (S.base f.ty) b f.num m (eP (b.extract 0 e) z):=by
  rw[De fg hf hw];rfl
 rw[Uw];clear Uw;have⟨pv,rv,h1,hfB,_,UL⟩:=hfa.blk;have UN:eh mp g=S.base f.ty:=by unfold eh;rw[dD Ue,fg.eq,fg.base]
 rw[UN,fg.eq]at h1;have⟨U7,_,_⟩:=kN fg Ue hb;have⟨ok1,ok2⟩:=nV hff U7;have UO:(b.extract 0 e).size=e:=gp I.eb;have hl:=I.wm.len;have hab:=I.az;have hze:=I.ze;have heb:=I.eb;have hbs:=I.bs;have UP:=I.rB;have UD:=I.rZ;have hu1:=I.cx.u1;have hu2:=I.cx.u2;have UE:rb<w.heap.size:=dM.lt I.hr;have hW:=py w (S.base f.ty) pv Ue;have UF:∀w2,dW w2 rb (b.extract 0 e) z deep->Ua 197 #[ag rb] w2 (FU w2 rb (b.extract 0 e) deep (eP (b.extract 0 e) z)):=λw2 h=>nQ w2 rb _ z deep h Ue
 have Uq:=I.hd.srt;obtain⟨R,hR⟩:∃R,eP (b.extract 0 e) z=R:=⟨_,rfl⟩;rw[hR]at UF⊢;have HR:Hid (eP (b.extract 0 e) z=R):=hR;clear hR;obtain⟨pq,rfl⟩:=gq UL;clear UL;have⟨k1,k2⟩:=h1.rules;have hne:((2:Int)==(ee (S.base f.ty):Int))=false:=by grind
 go_in
 go_wp2_with fail;refine hW.mono ?_;rintro en w2 ⟨rfl,B2⟩;have h2:=h1.below B2 h1.lt;have UQ:dW w2 rb (b.extract 0 e) z deep:=dM.below I.hr B2 UE;have UR:=I.hd.keep (λx _ q=>B2.block x q);clear k1 k2 hW;go_wp2_with fail;refine(UF w2 UQ).mono ?_;intro en w3 hq
 rcases hq.part with⟨x,rfl,rfl,Ur⟩|⟨y,nb,rfl,rfl,Ur,U8,hnr,Uv,UB⟩
 ·unfold dL;go_wp2;exact⟨rfl,rfl,Z,(eC.of_below B2).trans (.of_kept Ur)⟩
 obtain⟨y1,y2⟩:=y;have⟨v0,v1,v2⟩:=iU HR.out;rw[UO]at v2;have US:(b.extract 0 e).extract 0 y2=b.extract 0 y2:=jR I.eb v2;simp only[US]at Uv;have UT:(b.extract 0 y2).size=y2:=gp Ue;have h3:=h2.kept Ur (by grind);have hd3:=eC.dr UR Ur UD;have UG:w.heap.size<=nb:=aG B2.size U8;have UU:=I.cx.le
 have P0:PE S k d B w w3 Z Z rb nb db fb y1 y2 b (b.extract 0 e) deep #[aa f.num,aa g.form,aa (S.base f.ty),.pointer pq,rv] (S.base f.ty) m f.num y1 (m.get f.num) (y2-y1) (fw b (S.base f.ty) y2 (y2-y1) (m.get f.num) y1):=
  ⟨(eC.of_below B2).trans (.of_kept Ur),Uv,UB,by rw[Gf Uq.1 Uq.2];omega,h3,ay _,v1,by grind,rfl,ay _,λx q=>⟨(I.hZ x q).1,aD (I.hZ x q).2 (aG B2.size Ur.size)⟩,λq=>by have:=(I.hZ nb q).2;omega⟩
 obtain⟨P,hP⟩:∃P,fw b (S.base f.ty) y2 (y2-y1) (m.get f.num) y1=P:=⟨_,rfl⟩
 have HQ:Hid (qY (S.base f.ty) b f.num m (.ok (y1,y2))=JJ m f.num y2 P):=by
  show JJ m f.num y2 (fw b (S.base f.ty) y2 (y2-y1) (m.get f.num) y1)=_;rw[hP]
 rw[hP]at P0;clear hP;go_wp2;go_loopw [30] (λ_ wr=>∃Z' a' l F',PE S k d B w wr Z Z' rb nb db fb y1 y2 b (b.extract 0 e) deep #[aa f.num,aa g.form,aa (S.base f.ty),.pointer pq,rv] (S.base f.ty) m f.num a' l F' P) (λ_ wr=>lH wr nb y2)
 case atStart=>grind
 case round=>
  obtain⟨Z',a',l,F',O⟩:=hrel;have hM:=rm wr nb _ a' deep O.rn;rw[UT]at hM;have hlo:=O.lo;have hhi:=O.hi;have hll:=O.ll;go_wp2_with fail;refine hM.mono ?_;rintro en w4 ⟨rfl,q,rfl⟩
  by_cases hlt:a'<y2
  ·have hd:decide (a'<y2)=true:=decide_eq_true hlt;obtain⟨F2,rfl⟩:∃F2,F'=F2+1:=⟨F'-1,by have:=O.fu;omega⟩;have UV:Below B w wr:=O.st.below UU (λx q=>(I.hZ x q).1) UP;have hu:UOK (wr.drewN q).drew:=(I.cx.on UV).u
   have hV:∀w1,dW w1 nb (b.extract 0 y2) a' deep->UOK w1->Ua 194 #[.agg #[aa (S.base f.ty),.pointer pq],ag nb] w1 (oU w1 nb (b.extract 0 y2) deep (gi (b.extract 0 y2) a' (S.base f.ty)) vg):=
    λw1 h1 h2=>pz w1 nb _ a' deep _ _ h1 Ue Ue hb h2 Ue Ue
   have UW:S.base f.ty≠13:=λq=>hw (by rw[q];rfl)
   have UX:S.base f.ty≠14:=λq=>hw (by rw[q];rfl)
   have Ux:gi (b.extract 0 y2) a' (S.base f.ty)=match jb (b.extract 0 y2) a' (S.base f.ty)with| .error x=> .error x| .ok x=> .ok ((x.1,⟨#[]⟩),x.2):=by
    unfold gi;rw[dD UW,dD UX]
    cases jb (b.extract 0 y2) a' (S.base f.ty)<;>rfl
   have Uy:=zL (k:=S.base f.ty) (F:=F2) (l:=l) (show y2<=b.size by omega) hlt
   have Uu:Hid (∀x,gi (b.extract 0 y2) a' (S.base f.ty)= .error x->qY (S.base f.ty) b f.num m (.ok (y1,y2))= .error x):=λx hx=>by
    rw[HQ.out,O.eq.out,Uy];rw[Ux]at hx
    cases hn:jb (b.extract 0 y2) a' (S.base f.ty)with
    |error y=>rw[hn]at hx;cases hx;rfl
    |ok y=>grind
   have UH:Hid (∀x,gi (b.extract 0 y2) a' (S.base f.ty)= .ok x->P=fw b (S.base f.ty) y2 F2 (l++ [pC x.1]) x.2):=λx hx=>by
    rw[O.eq.out,Uy];rw[Ux]at hx
    cases hn:jb (b.extract 0 y2) a' (S.base f.ty)with
    |error y=>grind
    |ok y=>rw[hn]at hx;cases hx;rfl
   clear Ux Uy;have UY:ek S (k+1) (some d) (wr.drewN q).drew Z' db (m.put f.num l):=O.dr.keep (λ_ _ _=>rfl)
   have hA:∀w5:an,∀v:LV,ek S (k+1) (some d) w5 Z' db (m.put f.num l)->Ua 268 #[ag db,aa f.num,vg v] w5 (jG S k (some d) w5 Z' db (m.put f.num (l++ [pC v]))):=λw5 v U9=>by
    have h1:=PM.put_len m f.num l;have h2:=Df Uq.1 f.num l;have:=xB S k (some d) w5 Z' db (m.put f.num l) f.num v U9 ok1 (.inl ok2) Ue (by grind);rw[h2,Ge Uq.1]at this;exact this
   obtain⟨Rv,UC⟩:∃Rv,gi (b.extract 0 y2) a' (S.base f.ty)=Rv:=⟨_,rfl⟩
   have UZ:Hid (∀x,Rv= .ok x->a'<x.2/\x.2<=y2):=λx hx=>by
    have:=Dd hb (UC.trans hx);omega
   rw[UC]at hV Uu UH;clear UC;have UI:dM (wr.drewN q).drew fb #[aa f.num,aa g.form,aa (S.base f.ty),.pointer pq,rv] 220:=O.fd;have hfl:fb<wr.heap.size:=dM.lt O.fd;have U0:dW (wr.drewN q).drew nb (b.extract 0 y2) a' deep:=O.rn;have Uw:dW (wr.drewN q).drew rb (b.extract 0 e) y2 deep:=O.rr;have UJ:eC w Z rb (wr.drewN q).drew Z':=O.st.trans (.of_below (ie (Below.refl _ _) q).drew);have Uz:=O.zn;have U1:=O.zz;have U2:¬Z' rb:=O.st.not UE UD;have⟨k3,k4⟩:=UI.rules;have⟨k9,k10⟩:=dM.rules O.fd;have HM:Hid (lH wr nb y2=y2-a'):=gW O.rn;have U3:Hid (y2-a'<=F2+1):=O.fu;clear O hM;go_upto_region 4 with fail
   go_region_with
    (first
     |(
       go_at_call 194;refine(hV (wr.drewN q).drew U0 hu).mono ?_;intro en w5 Va
       rcases Va.part with⟨x,rfl,rfl,Us⟩|⟨x,rfl,rfl,Us,UM⟩
       ·unfold dL;go_wp2;rw[Uu.out x rfl];exact⟨rfl,rfl,Z',UJ.keptN Us UG⟩
       have h5:=UI.kept Us (by grind)
       have⟨k5,k6⟩:=h5.rules)
     |(
       go_at_call 268;refine(hA w5 x.1 (eC.dr UY Us Uz)).mono ?_;rintro en w6 ⟨rfl,Z6,Ut,Vb⟩;have h6:=h5.step Ut (λq=>by grind)
       have⟨k7,k8⟩:=h6.rules))
   all_goals
    have U4:=UZ.out x rfl;have UK:dW w6 nb (b.extract 0 y2) x.2 deep:=dM.step UM Ut Uz;have U5:=(UJ.keptN Us UG).trans (.of_step Ut);have U6:dW w6 rb (b.extract 0 e) y2 deep:=dM.step (dM.kept Uw Us (by grind)) Ut U2;have UA:nb<w5.heap.size:=dM.lt UM
    have PN:PE S k d B w w6 Z (λi=>Z6 i/\i<w6.heap.size) rb nb db fb y1 y2 b (b.extract 0 e) deep #[aa f.num,aa g.form,aa (S.base f.ty),.pointer pq,rv] (S.base f.ty) m f.num x.2 (l++ [pC x.1]) F2 P:=
     ⟨U5.clip,UK,U6,Vb.clip,h6,Ue,U4.2,by grind,UH.out x rfl,by have:=U3.out;omega,λi q=>⟨(Ut.grow i q.1).elim (λe=>(U1 i e).1) (λe=>Ue),q.2⟩,λq=>Ut.not UA Uz q.1⟩
    go_wp2;go_roundw
    case rel=>grind
    case measure=>rw[HM.out,gW UK];omega
  ·have hd:decide (a'<y2)=false:=decide_eq_false hlt
   have HE:Hid (qY (S.base f.ty) b f.num m (.ok (y1,y2))= .ok (m.put f.num l,y2)):=by
    show _=_;rw[HQ.out,O.eq.out]
    have:fw b (S.base f.ty) y2 F' l a'= .ok l:=by
     cases F' with
     |zero=>rfl
     |succ F'=>rw[fw,dD hlt]
    rw[this];rfl
   go_wp2;go_end0;rw[HE.out];exact⟨rfl,Z',O.st.trans (.of_below (ie (Below.refl _ _) q)),O.dr.keep (λ_ _ _=>rfl),O.rr⟩
end
section
variable {w:an} {S:d8} {mp:am->Option Nat} {d sub:MT} {rb z deep:Nat} {b s:am} {m:PM} {num:Int} {f:eT} {g:GF}
def Ni (S:d8)(mp:am->Option Nat)(B:Nat)(b:am)(F:Nat):Prop:=
 ∀(w:an) (Z:ap) (sub:MT) (m:PM) (a e deep k mb:Nat) (gs:List GF) (nm:am) (rb db:Nat),sF w B S mp->iE w (λb=>b<B) mp mb nm gs->kG S mp sub gs->lw S sub->dW w rb (b.extract 0 e) a deep->ek S (k+1) (some sub) w Z db m->
  (∀x,Z x->B<=x/\x<w.heap.size)->B<=rb->¬Z rb->a<=e->e<=b.size->e-a<F->k+deep=8->WM S a sub m->
  Ua 83 #[ag mb,ag rb,ag db] w (g6 S k sub w Z rb db (b.extract 0 e) deep (oS e (eE S b F sub m a e deep)))
theorem oF.on {w1:an}{B:Nat}{k:Nat}{Z Z1:ap}{db:Nat}{e a:Nat}{m1:PM}(I:oF w B S mp k d Z rb db b e a z deep m)(st:eC w Z rb w1 Z1)(hd:ek S (k+1) (some d) w1 Z1 db m1)(hr:dW w1 rb (b.extract 0 e) z deep)(hw:WM S a d m1):
  oF w1 B S mp k d (λi=>Z1 i/\i<w1.heap.size) rb db b e a z deep m1:=
 ⟨I.cx.on (st.below I.cx.le (λx q=>(I.hZ x q).1) I.rB),hr,hd.clip,λx q=>⟨(st.grow x q.1).elim (λq=>(I.hZ x q).1) (λq=>aG I.cx.le q),q.2⟩,I.rB,λq=>st.not (dM.lt I.hr) I.rZ q.1,I.az,I.ze,I.eb,I.bs,hw⟩
def Nj (sin:Bool)(m:PM)(n:Int):Fx (LV×Nat)->Fx (PM×Nat)
 | .error x=> .error x
 | .ok x=> .ok (if sin=true/\x.1.1=0/\gG x.1.2 eS=true then m.put n []else m.put n [pC x.1],x.2)
theorem Gg {F a e:Nat}(fg:FG S mp d f g)(h4:g.form≠4)(h2:g.form≠2)(hb:S.base f.ty<=15)(he:e<=b.size):
  jJ S b F d f m deep (fx (b.extract 0 e) a num (ee (S.base f.ty)) z)=Nj (decide (g.form=0)) (m.without g.riv) f.num (gi (b.extract 0 e) z (S.base f.ty)):=by
 rw[xi (b.extract 0 e) a num z _ hb]
 cases hr:fx (b.extract 0 e) a num (ee (S.base f.ty)) z with
 |error x=>rfl
 |ok r=>
  have hk:=mD (Dc _) hr;have⟨_,_,h3,_⟩:=pH hr;rw[gp he]at h3;have⟨_,hs,hm⟩:=kN fg h4 hb;have Ut:f.isRep=false:=by rw[fg.rep];simp[h2]
  simp only[jJ,yL,CX];rw[dE (by unfold fG;rw[hm];exact hk)];unfold oW lU;rw[hs];simp only;rw[CY rfl hb hk h3 he]
  cases yK (b.extract 0 e) (S.base f.ty) r with
  |error x=>rfl
  |ok v=>
   simp only[CV,oS,Nj];unfold gF;rw[hm,Ut,hs,fg.sin,xw,fg.riv];simp only[aM,if_false,Option.isNone_none,dl,aJ,dF]
   by_cases h0:g.form=0
   ·have Uu:=fg.lone Ue;rw[<-fg.riv,Uu,iO];simp only[h0,true_and];rfl
   ·simp only[h0,false_and,if_false];rfl
theorem sI (fg:FG S mp d f g)(hS:Eo S)(hs:eV S f=some sub)(hd:deep<=8):oz S sub (deep+1)=decide (8<(deep:Int)+kt mp g)/\0<=kt mp g/\kt mp g<=2/\eh mp g=16:=by
 unfold kt
 by_cases h4:g.form=4
 ·have Uq:eh mp g=16:=by unfold eh;rw[dE h4]
  have hm:f.isMap=true:=by rw[fg.map,h4];rfl
  have Uv:sub=et f:=by
   unfold eV at hs;rw[dE hm]at hs;exact(Option.some.inj hs).symm
  subst Uv
  have Ur:oz S (et f) (deep+1)=if deep+1=8 then(S.msg f.ty).isSome else decide (8<deep+1):=by
   unfold oz et;have e1:gG eS eS=true:=by unfold gG;simp
   simp only[e1,cL,dj]
   by_cases q:deep+1=8
   ·simp[q]
   ·have q2:(deep+1 !=8)=true:=Ug;rw[q2,dE rfl,dD q]
  have Us:i8 mp g.f.ty=S.base f.ty:=by rw[fg.eq,fg.base]
  by_cases hn:S.base f.ty=16
  ·have hl:(if g.form=4/\i8 mp g.f.ty=16 then(2:Int)else if eh mp g=16 then 1 else 0)=2:=dE ⟨h4,by rw[Us];exact hn⟩;rw[hl,Ur,fg.nest.1 hn];refine⟨?_,Ue,Ue,Uq⟩
   split
   ·simp;omega
   ·rw[decide_eq_decide];omega
  ·have Uw:(S.msg f.ty).isSome=false:=by rw[ch];exact λq=>hn (fg.nest.2 q)
   have hl:(if g.form=4/\i8 mp g.f.ty=16 then(2:Int)else if eh mp g=16 then 1 else 0)=1:=by rw[dD (λq=>hn (by rw[<-Us];exact q.2)),dE Uq]
   rw[hl,Ur,Uw];refine⟨?_,Ue,Ue,Uq⟩
   split
   ·simp;omega
   ·rw[decide_eq_decide];omega
 ·have hm:¬f.isMap=true:=by rw[fg.map];simp[h4]
  unfold eV at hs;rw[dD hm]at hs;have hb:S.base f.ty=16:=fg.nest.2 (by rw[hs];rfl);have Uq:eh mp g=16:=by unfold eh;rw[dD h4,fg.eq,fg.base,hb]
  rw[dD (λq=>h4 q.1),dE Uq];refine⟨?_,Ue,Ue,Uq⟩;unfold oz;rw[hS.name sub (iV hs)];simp;omega
def JK (M:PM->PM)(e:Nat):Fx PM->Fx (PM×Nat)
 | .error x=> .error x
 | .ok sm=> .ok (M sm,e)
def xC (S:d8)(b:am)(F:Nat)(sub:MT)(m0:PM)(deep:Nat)(M:PM->PM):Fx (Nat×Nat)->Fx (PM×Nat)
 | .error x=> .error x
 | .ok y=>JK M y.2 (eE S b F sub m0 y.1 y.2 (deep+1))
theorem Gh {F a e:Nat}(fg:FG S mp d f g)(hS:Eo S)(hs:eV S f=some sub)(hd:deep<=8):
  jJ S b F d f m deep (fx (b.extract 0 e) a num 2 z)=xC S b F sub (eI f m).2.2 deep (λsm=>gF S d f m ((eI f m).1,(eI f m).2.1,sm)) (ny (b.extract 0 e) z deep (kt mp g)):=by
 have e2:fx (b.extract 0 e) a num 2 z=_:=tM (b.extract 0 e) a num z;rw[e2];unfold ny
 cases eP (b.extract 0 e) z with
 |error x=>rfl
 |ok y=>
  have⟨h1,_,_,h4⟩:=sI fg hS hs hd
  have hw:fG S f=2:=by
   unfold fG
   split
   ·rfl
   ·rename_i q
    unfold eV at hs;rw[dD q]at hs;have:=fg.nest.2 (by rw[hs];rfl);unfold d8.wire;rw[this];rfl
  simp only[jJ,yL];rw[dE hw.symm];unfold oW lU xg;rw[hs];simp only;rw[h1]
  by_cases q:8<(deep:Int)+kt mp g
  ·rw[dE q];simp[q,xC,CV,oS]
  ·rw[dD q];simp only[q,decide_false,aM,if_false,xC]
   cases eE S b F sub (eI f m).2.2 y.1 y.2 (deep+1)<;>rfl
theorem Jf.part {deep:Int}{r:Fx (Nat×Nat)}{e:Ending}{w':an}(h:Jf w rb s deep r e w'):
  (∃x,r= .error x/\e=dL x.1 x.2/\dX [rb] w w')\/∃x nb,r= .ok x/\e= .returned (ag nb)/\dX [rb] w w'/\w.heap.size<=nb/\nb≠rb/\dW w' nb (s.extract 0 x.2) x.1 (deep+1)/\dW w' rb s x.2 deep:=by
 obtain⟨h1,h2⟩:=h
 cases r with
 |error x=>exact .inl ⟨x,rfl,h2,h1⟩
 |ok x=>
  obtain⟨nb,q1,q2,q3,q4,q5⟩:=h2;exact .inr ⟨x,nb,rfl,q1,h1,q2,q3,q4,q5⟩
theorem vT {deep lv:Int}{y:Nat×Nat}(h:ny s z deep lv= .ok y):eP s z= .ok y/\deep+lv<=8:=by
 unfold ny at h
 cases hw:eP s z with
 |error x=>rw[hw]at h;cases h
 |ok x=>
  rw[hw]at h;simp only at h
  split at h
  ·cases h
  ·cases h
   exact⟨rfl,Ue⟩
end
section
open Uq
def JL (w:an)(B:Nat)(S:d8)(mp:am->Option Nat)(k:Nat)(d:MT)(f:eT)(g:GF)(fb:Nat)(Z:ap)(rb db:Nat)(b:am)(e a z deep F:Nat)(num kind:Int)(m:PM)
  (I:oF w B S mp k d Z rb db b e a z deep m) (hfa:eJ w (λb=>b<B) mp g fb) (fg:FG S mp d f g) (hf:g.form=2) (hb:S.base f.ty<=15) (hff:dR d.fs f.num=some f) (hk:kind=ee (S.base f.ty)\/(kind=2/\ee (S.base f.ty)≠2)):
  Calls prog 133 #[ag fb,aa kind,ag rb,ag db] w (g6 S k d w Z rb db (b.extract 0 e) deep (jJ S b F d f m deep (fx (b.extract 0 e) a num kind z))):=by
 have⟨pv,rv,h1,UW,Us,UH⟩:=hfa.blk;have UN:eh mp g=S.base f.ty:=by unfold eh;rw[dD Ue,fg.eq,fg.base]
 have UO:=fg.lone Ue;rw[UO]at Us;have hD:=qp S k (some d) w Z db m rv [] I.hd Us.1 Uf (λx hx q=>by have:=Us.2 x hx;have:=(I.hZ x q).1;omega);rw[iO]at hD
 have HR:∀w1 Z1,fk w Z w1 Z1->ek S (k+1) (some d) w1 Z1 db m->Ua 192 #[ag fb,aa kind,ag rb,ag db] w1 (g6 S k d w Z rb db (b.extract 0 e) deep (jJ S b F d f m deep (fx (b.extract 0 e) a num kind z))):=λw1 Z1 st Ux=>by
  have UL:eC w Z rb w1 Z1:= .of_step st;have UV:=UL.below I.cx.le (λx q=>(I.hZ x q).1) I.rB;have I1:=I.on UL Ux (dM.step I.hr st I.rZ) I.wm;have UC:=hfa.keep (w':=w1) (λx q _=>UV.block x q)
  rcases hk with rfl|⟨rfl,hw⟩
  ·exact(EN w1 B S mp k d f g fb _ rb db b e a z deep F num m I1 UC fg hf hb hff).mono λ_ _ q=>q.pre UL.clip
  ·exact(EO w1 B S mp k d f g fb _ rb db b e a z deep F num m I1 UC fg hf hb hw hff).mono λ_ _ q=>q.pre UL.clip
 rw[UN,fg.eq,hf]at h1;obtain⟨R,hR⟩:∃R,jJ S b F d f m deep (fx (b.extract 0 e) a num kind z)=R:=⟨_,rfl⟩;rw[hR]at HR⊢;clear hR;obtain⟨pq,rfl⟩:=gq UH;obtain⟨ra,rn,rc,rfl⟩:=dN Us.1;have⟨k1,k2⟩:=h1.rules;have UP:((S.base f.ty:Int)==16)=false:=Ug;have UM:=h1.lt;clear UH hk;go_in
 go_wp2_with fail;refine hD.mono ?_;rintro en w1 ⟨rfl,Z1,st1,Ux⟩;have h2:=h1.step st1 (λq=>by have:=(I.hZ fb q).1;omega);clear k1 k2 hD;have⟨k1,k2⟩:=h2.rules;go_wp2_with fail;refine(HR w1 Z1 st1 Ux).mono ?_;intro en w2 hq
 cases R with
 |error x=>
  obtain⟨rfl,hq⟩:=hq;unfold dL;go_wp2;exact⟨rfl,rfl,hq⟩
 |ok x=>
  obtain⟨rfl,hq⟩:=hq;go_wp2;go_end0;exact⟨rfl,hq⟩
def JM (w:an)(B:Nat)(S:d8)(mp:am->Option Nat)(k:Nat)(d:MT)(f:eT)(g:GF)(fb:Nat)(Z:ap)(rb db:Nat)(b:am)(e a z deep F:Nat)(num:Int)(m:PM)
  (I:oF w B S mp k d Z rb db b e a z deep m) (hfa:eJ w (λb=>b<B) mp g fb) (fg:FG S mp d f g) (h4:g.form≠4) (h2:g.form≠2) (hb:S.base f.ty<=15) (hff:dR d.fs f.num=some f):
  Calls prog 133 #[ag fb,aa (ee (S.base f.ty)),ag rb,ag db] w (g6 S k d w Z rb db (b.extract 0 e) deep (jJ S b F d f m deep (fx (b.extract 0 e) a num (ee (S.base f.ty)) z))):=by
 rw[Gg fg h4 h2 hb I.eb];have⟨pv,rv,h1,UW,Us,UH⟩:=hfa.blk;have UN:eh mp g=S.base f.ty:=by unfold eh;rw[dD h4,fg.eq,fg.base]
 rw[UN,fg.eq]at h1;have hD:=qp S k (some d) w Z db m rv g.riv I.hd Us.1 fg.rlen (λx hx q=>by have:=Us.2 x hx;have:=(I.hZ x q).1;omega);have⟨UX,_,_⟩:=kN fg h4 hb;have⟨ok1,ok2⟩:=nV hff UX;have hes:(b.extract 0 e).size=e:=gp I.eb
 have hl:(m.without g.riv).fs.length<=a:=by
  have:=I.wm.len.1;exact aG (bV _ _) this
 have hab:=I.az;have hze:=I.ze;have heb:=I.eb;have hbs:=I.bs;have hrb:=I.rB;have UB:=I.rZ;have UQ:=I.hZ;have hBw:=I.cx.le;have UR:rb<w.heap.size:=dM.lt I.hr
 have hV:∀w1,dW w1 rb (b.extract 0 e) z deep->UOK w1->Ua 194 #[.agg #[aa (S.base f.ty),pv],ag rb] w1 (oU w1 rb (b.extract 0 e) deep (gi (b.extract 0 e) z (S.base f.ty)) vg):=
  λw1 h1 h2=>pz w1 rb _ z deep _ pv h1 Ue Ue hb h2 (by have:=I.cx.u1;have:=I.rB;omega) (by have:=I.cx.u2;have:=I.rB;omega)
 obtain⟨R,hR⟩:∃R,gi (b.extract 0 e) z (S.base f.ty)=R:=⟨_,rfl⟩;rw[hR]at hV⊢;clear hR;obtain⟨m1,UT⟩:∃m1,m.without g.riv=m1:=⟨_,rfl⟩;rw[UT]at hD hl⊢;clear UT;have hu:∀w1 Z1,fk w Z w1 Z1->UOK w1:=λw1 Z1 st=>(I.cx.on ((eC.of_step (rb:=rb) st).below I.cx.le (λx q=>(I.hZ x q).1) I.rB)).u
 obtain⟨pq,rfl⟩:=gq UH;obtain⟨ra,rn,rc,rfl⟩:=dN Us.1;have UP:((S.base f.ty:Int)==16)=false:=Ug;have hr0:=I.hr;clear UH;have UD:=fg.form;have UM:=h1.lt
 rcases UD with hf|hf|hf|hf|hf
 ·rw[hf]at h1⊢
  have HA:Hid (∀(w3:an) (Z1:ap) (v:LV),ek S (k+1) (some d) w3 Z1 db m1->(∀x,Z1 x->x<w3.heap.size)->Ua 193 #[ag db,aa f.num,vg v] w3 (jG S k (some d) w3 Z1 db (if v.1=0/\gG v.2 eS=true then m1.put f.num []else m1.put f.num [pC v]))):=
   λw3 Z1 v UI UY=>F8 S k (some d) w3 Z1 db m1 f.num v UI ok1 (.inl ok2) Ue UY
  have⟨k1,k2⟩:=h1.rules;go_in
  go_wp2_with fail;refine hD.mono ?_;rintro en w1 ⟨rfl,UU,Ut,Uu⟩;obtain⟨Z1,st1,Ux,US⟩:∃Z1,fk w Z w1 Z1/\ek S (k+1) (some d) w1.drew Z1 db m1/\∀x,Z1 x->x<w1.heap.size:=⟨_,Ut.clip,Uu.clip.keep (λ_ _ _=>rfl),λx q=>q.2⟩;clear Ut Uu;have Uy:¬Z fb:=λq=>by have:=(UQ fb q).1;omega
  have Uz:=h1.step st1 Uy;have UA:dM w1.drew fb #[aa f.num,aa 0,aa (S.base f.ty),.pointer pq,.slice ra rn rc] 220:=Uz;have UE:dW w1.drew rb (b.extract 0 e) z deep:=dM.step hr0 st1.drew UB;have Ur:¬Z1 rb:=st1.not UR UB;have Uv:¬Z1 fb:=st1.not UM Uy;have UF:UOK w1.drew:=hu w1 Z1 st1;clear k1 k2 hD;have⟨k1,k2⟩:=Uz.rules;have⟨k3,k4⟩:=UA.rules;go_upto_region 13 with fail
  go_region_with
   (first
    |(
      go_at_call 194;refine(hV w1.drew UE UF).mono ?_;intro en w3 hq
      rcases hq.part with⟨x,rfl,rfl,Uq⟩|⟨x,rfl,rfl,Uq,UJ⟩
      ·unfold dL;go_wp2;exact⟨rfl,rfl,Z1,(eC.of_step st1.drew).trans (.of_kept Uq)⟩
      have h3:=UA.kept Uq Ug
      have⟨k5,k6⟩:=h3.rules)
    |(
      go_at_call 193;refine(HA.out w3 Z1 x.1 (eC.dr Ux Uq Ur) (λi q=>aD (US i q) Uq.size)).mono ?_;rintro en w4 ⟨rfl,Z4,Uw,UK⟩;have UG:=h3.step Uw Uv
      have⟨k7,k8⟩:=UG.rules))
  all_goals
   go_wp2;go_end0;refine⟨rfl,Z4,((eC.of_step st1.drew).trans (.of_kept Uq)).trans (.of_step Uw),?_,dM.step UJ Uw Ur⟩;simp only[decide_true,true_and];exact UK
 ·rw[hf]at h1⊢
  have HA:Hid (∀(w3:an) (Z1:ap) (v:LV),ek S (k+1) (some d) w3 Z1 db m1->Ua 195 #[ag db,aa f.num,vg v] w3 (jG S k (some d) w3 Z1 db (m1.put f.num [pC v]))):=
   λw3 Z1 v UI=>xj S k (some d) w3 Z1 db m1 f.num v UI ok1 (.inl ok2) Ue
  have⟨k1,k2⟩:=h1.rules;go_in
  go_wp2_with fail;refine hD.mono ?_;rintro en w1 ⟨rfl,UU,Ut,Uu⟩;obtain⟨Z1,st1,Ux,US⟩:∃Z1,fk w Z w1 Z1/\ek S (k+1) (some d) w1.drew Z1 db m1/\∀x,Z1 x->x<w1.heap.size:=⟨_,Ut.clip,Uu.clip.keep (λ_ _ _=>rfl),λx q=>q.2⟩;clear Ut Uu;have Uy:¬Z fb:=λq=>by have:=(UQ fb q).1;omega
  have Uz:=h1.step st1 Uy;have UA:dM w1.drew fb #[aa f.num,aa 1,aa (S.base f.ty),.pointer pq,.slice ra rn rc] 220:=Uz;have UE:dW w1.drew rb (b.extract 0 e) z deep:=dM.step hr0 st1.drew UB;have Ur:¬Z1 rb:=st1.not UR UB;have Uv:¬Z1 fb:=st1.not UM Uy;have UF:UOK w1.drew:=hu w1 Z1 st1;clear k1 k2 hD;have⟨k1,k2⟩:=Uz.rules;have⟨k3,k4⟩:=UA.rules;go_upto_region 1 with fail
  go_region_with
   (first
    |(
      go_at_call 194;refine(hV w1.drew UE UF).mono ?_;intro en w3 hq
      rcases hq.part with⟨x,rfl,rfl,Uq⟩|⟨x,rfl,rfl,Uq,UJ⟩
      ·unfold dL;go_wp2;exact⟨rfl,rfl,Z1,(eC.of_step st1.drew).trans (.of_kept Uq)⟩
      have h3:=UA.kept Uq Ug
      have⟨k5,k6⟩:=h3.rules)
    |(
      go_at_call 195;refine(HA.out w3 Z1 x.1 (eC.dr Ux Uq Ur)).mono ?_;rintro en w4 ⟨rfl,Z4,Uw,UK⟩;have UG:=h3.step Uw Uv
      have⟨k7,k8⟩:=UG.rules))
  all_goals
   go_wp2;go_end0;refine⟨rfl,Z4,((eC.of_step st1.drew).trans (.of_kept Uq)).trans (.of_step Uw),?_,dM.step UJ Uw Ur⟩;exact UK
 ·exact absurd hf h2
 ·rw[hf]at h1⊢
  have HA:Hid (∀(w3:an) (Z1:ap) (v:LV),ek S (k+1) (some d) w3 Z1 db m1->Ua 195 #[ag db,aa f.num,vg v] w3 (jG S k (some d) w3 Z1 db (m1.put f.num [pC v]))):=
   λw3 Z1 v UI=>xj S k (some d) w3 Z1 db m1 f.num v UI ok1 (.inl ok2) Ue
  have⟨k1,k2⟩:=h1.rules;go_in
  go_wp2_with fail;refine hD.mono ?_;rintro en w1 ⟨rfl,UU,Ut,Uu⟩;obtain⟨Z1,st1,Ux,US⟩:∃Z1,fk w Z w1 Z1/\ek S (k+1) (some d) w1.drew Z1 db m1/\∀x,Z1 x->x<w1.heap.size:=⟨_,Ut.clip,Uu.clip.keep (λ_ _ _=>rfl),λx q=>q.2⟩;clear Ut Uu;have Uy:¬Z fb:=λq=>by have:=(UQ fb q).1;omega
  have Uz:=h1.step st1 Uy;have UA:dM w1.drew fb #[aa f.num,aa 3,aa (S.base f.ty),.pointer pq,.slice ra rn rc] 220:=Uz;have UE:dW w1.drew rb (b.extract 0 e) z deep:=dM.step hr0 st1.drew UB;have Ur:¬Z1 rb:=st1.not UR UB;have Uv:¬Z1 fb:=st1.not UM Uy;have UF:UOK w1.drew:=hu w1 Z1 st1;clear k1 k2 hD;have⟨k1,k2⟩:=Uz.rules;have⟨k3,k4⟩:=UA.rules;go_upto_region 1 with fail
  go_region_with
   (first
    |(
      go_at_call 194;refine(hV w1.drew UE UF).mono ?_;intro en w3 hq
      rcases hq.part with⟨x,rfl,rfl,Uq⟩|⟨x,rfl,rfl,Uq,UJ⟩
      ·unfold dL;go_wp2;exact⟨rfl,rfl,Z1,(eC.of_step st1.drew).trans (.of_kept Uq)⟩
      have h3:=UA.kept Uq Ug
      have⟨k5,k6⟩:=h3.rules)
    |(
      go_at_call 195;refine(HA.out w3 Z1 x.1 (eC.dr Ux Uq Ur)).mono ?_;rintro en w4 ⟨rfl,Z4,Uw,UK⟩;have UG:=h3.step Uw Uv
      have⟨k7,k8⟩:=UG.rules))
  all_goals
   go_wp2;go_end0;refine⟨rfl,Z4,((eC.of_step st1.drew).trans (.of_kept Uq)).trans (.of_step Uw),?_,dM.step UJ Uw Ur⟩;exact UK
 ·exact absurd hf h4
section
variable {S:d8} {d sub:MT} {f:eT} {deep:Nat} {num:Int}
structure Dg (S:d8)(d:MT)(f:eT)(sub:MT):Prop where
 hs:eV S f=some sub
 hm:f.isMap=false
theorem Dg.kind (h:Dg S d f sub)(hf:dR d.fs f.num=some f):nS S (some d) f.num .msgs/\(∀kd,nS S (some d) f.num kd->kd= .msgs)/\nB S (some d) f.num=some sub:=by
 have hk:oO S f= .msgs:=by unfold oO;rw[h.hm,h.hs];rfl
 exact⟨λd' f' e1 e2=>by cases e1;rw[hf]at e2;cases e2;exact hk.symm,λkd q=>by rw[q d f rfl hf,hk],by unfold nB;simp[hf,h.hs]⟩
def vk (g:GF)(m:PM)(n:Int)(sm:PM):PM:=if g.form=2 then m.put n (m.get n++ [mV sm])else(m.without g.riv).put n [mV sm]
theorem Gi {mp:am->Option Nat}{b:am}{F a z e:Nat}{g:GF}{m:PM}(fg:FG S mp d f g)(hS:Eo S)(h:Dg S d f sub)(hd:deep<=8)(hf:dR d.fs f.num=some f)(hw:WM S a d m):
  jJ S b F d f m deep (fx (b.extract 0 e) a num 2 z)=xC S b F sub (if g.form=2 then PM.none else((m.get f.num).headD PV.none).2.2) deep (vk g m f.num) (ny (b.extract 0 e) z deep (kt mp g)):=by
 rw[Gh fg hS h.hs hd];have⟨⟨t1,t2⟩,_⟩:=lX hw hf h.hs
 have hM:(λsm=>gF S d f m ((eI f m).1,(eI f m).2.1,sm))=vk g m f.num:=funext λsm=>by
  rw[t1,t2];unfold gF vk;rw[h.hm,fg.rep,h.hs];simp only[aM,if_false,dF,Option.isNone_some,cB,cA];rw[xw,fg.riv];rfl
 rw[hM]
 have Vg:(eI f m).2.2=if g.form=2 then PM.none else((m.get f.num).headD PV.none).2.2:=by
  unfold eI;rw[h.hm,fg.rep]
  by_cases q:g.form=2
  ·simp only[q,decide_true,cJ,if_true];rfl
  ·simp[q]
 rw[Vg]
theorem g6.part {k:Nat}{w:an}{Z:ap}{rb db:Nat}{s:am}{e:Nat}{P:Fx PM}{en:Ending}{w':an}(h:g6 S k d w Z rb db s deep (oS e P) en w'):
  (∃x,P= .error x/\en=dL x.1 x.2/\∃Z',eC w Z rb w' Z')\/∃sm,P= .ok sm/\en= .returned (.tuple #[])/\∃Z',eC w Z rb w' Z'/\ek S (k+1) (some d) w' Z' db sm:=by
 cases P with
 |error x=>exact .inl ⟨x,rfl,h.1,h.2⟩
 |ok sm=>
  obtain⟨h1,Z',h2,h3,_⟩:=h;exact .inr ⟨sm,rfl,h1,Z',h2,h3⟩
section
variable {S:d8} {k:Nat} {T T':Option MT} {w w3 w4 w5:an} {Z Z3 Z4 Z5 C:ap} {rb nb db p y deep:Nat} {s:am} {M:PM->PM} {sm:PM}
theorem sJ (Ur:eC w Z rb w3 Z3)(hn:w.heap.size<=nb)(Uq:fk w3 Z3 w4 Z4)(hC:∀b,C b->Z4 b)(Us:eC w4 C nb w5 Z5):eC w Z rb w5 (λb=>Z4 b\/Z5 b):=by
 have U3:∀i,Z4 i->Z i\/w.heap.size<=i:=λi q=>(Uq.grow i q).elim (Ur.grow i) (λe=> .inr (aG Ur.size e))
 refine⟨Us.os.trans (Uq.os.trans Ur.os),Us.tape.trans (Uq.tape.trans Ur.tape),Us.output.trans (Uq.output.trans Ur.output),aG Ur.size (aG Uq.size Us.size),λi hi q1 q2=> ?_,λi q=> ?_⟩
 ·have h3:i<w3.heap.size:=aD hi Ur.size;have n3:=Ur.not hi q1;have n4:=Uq.not h3 n3;exact((Us.block i (aD h3 Uq.size) (λe=>n4 (hC i e)) Ue).trans (Uq.block i h3 n3)).trans (Ur.block i hi q1 q2)
 ·rcases q with q|q
  ·exact U3 i q
  ·exact(Us.grow i q).elim (λe=>U3 i (hC i e)) (λe=> .inr (aG (aG Ur.size Uq.size) e))
theorem Dh (Ur:eC w Z rb w3 Z3)(Uy:rb<w.heap.size)(hrZ:¬Z rb)(hn3:nb<w3.heap.size)(UB:¬Z3 nb)(U0:nb≠rb)(hrr:dW w3 rb s y deep)(Uq:fk w3 Z3 w4 Z4)(hH:Nc S k T w4 Z4 db p C T' M)(Us:eC w4 C nb w5 Z5)(U2:ek S k T' w5 Z5 p sm):
  ek S (k+1) T w5 (λb=>Z4 b\/Z5 b) db (M sm)/\dW w5 rb s y deep:=by
 have Vh:¬Z4 nb:=Uq.not hn3 UB;have U4:¬Z3 rb:=Ur.not Uy hrZ;have h3:rb<w3.heap.size:=aD Uy Ur.size;have Vi:¬Z4 rb:=Uq.not h3 U4;refine⟨hH.2 w5 Z5 sm (λb hz hc hl=>Us.block b hl hc (λe=>Vh (e▸hz))) Us.size Us.grow U2,?_⟩;exact((Us.block rb (aD h3 Uq.size) (λe=>Vi (hH.1 rb e)) (λe=>U0 e.symm)).trans (Uq.block rb h3 U4)).trans hrr
end
theorem JN (w:an)(B:Nat)(S:d8)(mp:am->Option Nat)(k:Nat)(d:MT)(f:eT)(g:GF)(fb:Nat)(Z:ap)(rb db:Nat)(b:am)(e a z deep F:Nat)(num:Int)(m:PM)(sub:MT)
  (I:oF w B S mp k d Z rb db b e a z deep m) (hfa:eJ w (λb=>b<B) mp g fb) (fg:FG S mp d f g) (hff:dR d.fs f.num=some f) (hS:Eo S) (hM:Dg S d f sub) (hkd:k+deep=8) (hRd:Ni S mp B b F) (hF:e-z<=F):
  Calls prog 133 #[ag fb,aa 2,ag rb,ag db] w (g6 S k d w Z rb db (b.extract 0 e) deep (jJ S b F d f m deep (fx (b.extract 0 e) a num 2 z))):=by
 have h4:g.form≠4:=λq=>by have:=hM.hm;rw[fg.map,q]at this;cases this
 have⟨UW,U9,Va,Vb⟩:=sI (deep:=deep) fg hS hM.hs Ue;rw[Gi fg hS hM Ue hff I.wm];have⟨ok1,ok2,Vc⟩:=hM.kind hff;have⟨pv,rv,h1,hfB,Uu,UX⟩:=hfa.blk;rw[dD h4,fg.eq]at UX;have UM:S.msg f.ty=some sub:=by have:=hM.hs;unfold eV at this;rw[hM.hm]at this;exact this
 have⟨UD,gs,Vs,Vt,Vu⟩:=I.cx.md f.ty sub UM;rw[Vs]at UX;subst UX;rw[Vb,fg.eq]at h1;have hD:=qp S k (some d) w Z db m rv g.riv I.hd Uu.1 fg.rlen (λx hx q=>by have:=Uu.2 x hx;have:=(I.hZ x q).1;omega);have Vj:(b.extract 0 e).size=e:=gp I.eb;have hab:=I.az;have hze:=I.ze;have Vk:=I.eb;have hbs:=I.bs;have U5:=I.rB;have UN:=I.rZ;have UI:=I.hZ;have UO:=I.cx.le;have Uy:rb<w.heap.size:=dM.lt I.hr;have hfl:=h1.lt;have hL:=λw1 (h:eJ w1 (λb=>b<B) mp g fb)=>sj w1 (λb=>b<B) mp g fb h
 have UP:=λw1 (h:dW w1 rb (b.extract 0 e) z deep)=>qg w1 rb (b.extract 0 e) z deep (kt mp g) h Ue Ue Ue U9 Va
 obtain⟨UE,Uv⟩:∃UE,kt mp g=UE:=⟨_,rfl⟩;rw[Uv]at hL UP⊢
 have U6:Hid (∀y:Nat×Nat,ny (b.extract 0 e) z deep UE= .ok y->z<y.1/\y.1<=y.2/\y.2<=e/\1<=k/\(b.extract 0 e).extract 0 y.2=b.extract 0 y.2):=λy hy=>by
  have⟨q1,q2⟩:=vT hy;have⟨v0,v1,v2⟩:=iU (z:=y.1) (e:=y.2) q1;rw[Vj]at v2
  have hlv:1<=UE:=by
   rw[<-Uv];unfold kt;rw[dD (λq=>h4 q.1),dE Vb];exact dm _
  exact⟨v0,v1,v2,Ue,jR Vk v2⟩
 clear Uv U9 Va UW;obtain⟨R,hR⟩:∃R,ny (b.extract 0 e) z deep UE=R:=⟨_,rfl⟩;rw[hR]at UP U6⊢;clear hR;have Vl:¬Z fb:=λq=>by have:=(UI fb q).1;omega
 obtain⟨m0,fn,Vd,Ve,HP⟩:∃m0 fn,(if g.form=2 then PM.none else((m.get f.num).headD PV.none).2.2)=m0/\((g.form=2/\fn=190\/(g.form==2)=false/\fn=191)/\WM S a sub m0)/\Hid (∀k',k=k'+1->∀(w3:an) (Z3:ap),ek S (k+1) (some d) w3 Z3 db (m.without g.riv)->(∀x,Z3 x->x<w3.heap.size)->Ua fn #[ag db,aa f.num] w3 (sC S k (some d) w3 Z3 db (some sub) m0 (vk g m f.num))):=by
  by_cases h2:g.form=2
  ·refine⟨_,_,rfl,⟨.inl ⟨h2,rfl⟩,?_⟩,?_⟩<;>rw[dE h2]
   ·exact WM.none S a sub
   ·rintro k' rfl w3 Z3 Uw UY;have hlen:=I.wm.len;rw[fg.lone Ue,iO]at Uw;have:=nC S k' (some d) w3 Z3 db m f.num (Uw.slot Ue) ok1 ok2 (λ⟨d',f',e1,e2,e3⟩=>by cases e1;rw[hff]at e2;cases e2;rw[fg.rep,h2]at e3;cases e3) (by have:=hlen.2.2 f.num;omega) (λq=>by have:=UY _ q;omega);rw[Vc]at this;have UQ:vk g m f.num=λm'=>m.put f.num (m.get f.num++ [mV m']):=funext λsm=>by unfold vk;rw[dE h2]
    rw[UQ];exact this
  ·refine⟨_,_,rfl,⟨.inr ⟨by simpa using h2,rfl⟩,?_⟩,?_⟩<;>rw[dD h2]
   ·have:=(lX I.wm hff hM.hs).2;unfold eI at this;rw[hM.hm,fg.rep]at this;simpa [h2]using this
   ·rintro k' rfl w3 Z3 Uw UY;have Vm:(m.without g.riv).get f.num=m.get f.num:=uL (by rw[fg.riv];exact F9 d f);have hlen:(m.without g.riv).fs.length<=a:=aG (bV _ _) I.wm.len.1;have UR:uG (some d) f.num:=⟨d,f,rfl,hff,by rw[fg.rep];simp[h2]⟩;have:=xl S k' (some d) w3 Z3 db (m.without g.riv) f.num Uw ok1 ok2 UR Ue UY;rw[Vc,Vm]at this;have UQ:vk g m f.num=λm'=>(m.without g.riv).put f.num [mV m']:=funext λsm=>by unfold vk;rw[dD h2]
    rw[UQ];exact this
 rw[Vd]
 have Vn:Hid (∀k',k=k'+1->∀(w4:an) (C:ap) (y:Nat×Nat) (nb p:Nat),Below B w w4->z<y.1->y.1<=y.2->y.2<=e->dW w4 nb (b.extract 0 y.2) y.1 ((deep:Int)+1)->ek S k (some sub) w4 C p m0->(∀x,C x->B<=x/\x<w4.heap.size)->B<=nb->¬C nb->
   Ua 83 #[ag UD,ag nb,ag p] w4 (g6 S k' sub w4 C nb p (b.extract 0 y.2) (deep+1) (oS y.2 (eE S b F sub m0 y.1 y.2 (deep+1))))):=by
  rintro k' rfl w4 C y nb p UL v0 v1 v2 Vv UZ hC Vw UV;exact hRd w4 C sub _ y.1 y.2 (deep+1) k' UD gs sub.name nb p (I.cx.on UL) (Vt.keep (λx q _=>UL.block x q)) Vu (hS.good.sub hM.hs) (by rw[Int.natCast_succ];exact Vv) UZ hC Vw UV v1 Ue Ue Ue (Ve.2.mono Ue)
 have Vo:∀w1,Below B w w1->eJ w1 (λb=>b<B) mp g fb:=λw1 US=>hfa.keep (λx q _=>US.block x q)
 have hr0:=I.hr;clear Vd;obtain⟨m1,Vf⟩:∃m1,m.without g.riv=m1:=⟨_,rfl⟩;rw[Vf]at hD HP;clear Vf;obtain⟨ra,rn,rc,rfl⟩:=dN Uu.1;have hf4:(g.form==4)=false:=by simpa using h4
 unfold gI at h1;have⟨k1,k2⟩:=h1.rules;go_in
 go_wp2_with fail;refine hD.mono ?_;rintro en w1 ⟨rfl,Z1',Ut,UF⟩;obtain⟨Z1,st1,Vx,UG⟩:∃Z1,eC w Z rb w1.drew Z1/\ek S (k+1) (some d) w1.drew Z1 db m1/\∀x,Z1 x->B<=x/\x<w1.heap.size:=⟨_,.of_step Ut.clip.drew,UF.clip.keep (λ_ _ _=>rfl),λx q=>⟨(Ut.grow x q.1).elim (λe=>(UI x e).1) (λe=>aG UO e),q.2⟩⟩;have U7:=h1.step Ut Vl;have Vp:dW w1.drew rb (b.extract 0 e) z deep:=dM.step hr0 Ut.drew UN;clear Ut UF k1 k2 hD;have UJ:dM w1.drew fb #[aa f.num,aa g.form,aa 16,ag UD,.slice ra rn rc] 220:=U7;have US:Below B w w1.drew:=st1.below UO (λx q=>(UI x q).1) U5;have UT:¬Z1 rb:=st1.not Uy UN;have⟨k1,k2⟩:=U7.rules;have⟨k3,k4⟩:=UJ.rules;have Uz:Hid (∀y:Nat×Nat,xC S b F sub m0 deep (vk g m f.num) (.ok y)=JK (vk g m f.num) y.2 (eE S b F sub m0 y.1 y.2 (deep+1))):=λ_=>rfl
 rcases Ve.1 with⟨h2,rfl⟩|⟨Vq,rfl⟩
 have Vq:(g.form==2)=true:=by simpa using h2
 clear h2
 focus go_upto_region 7 with fail
 rotate_left
 focus go_upto_region 9 with fail
 all_goals
  go_region_held2 (λw'=>w'.cell? (ai fb 0)=some (aa f.num)/\w'.cell? (ai fb 3)=some (ag UD))
   (first|exact⟨h5.cell 0,h5.cell 3⟩|exact⟨UK.cell 0,UK.cell 3⟩|exact⟨h3.cell 0,h3.cell 3⟩|exact⟨UJ.cell 0,UJ.cell 3⟩)
   (first
    |(
      go_at_call 186;refine(hL w1.drew (Vo w1.drew US)).mono ?_
      rintro en w2 ⟨rfl,rfl⟩)
    |(
      go_at_call 185;refine(UP w1.drew Vp).mono ?_;intro en w3 hq
      rcases hq.part with⟨x,rfl,rfl,Ux⟩|⟨y,nb,rfl,rfl,Ux,Vy,U0,UH,U1⟩
      ·unfold dL;go_wp2;exact⟨rfl,rfl,Z1,st1.trans (.of_kept Ux)⟩
      have⟨v0,v1,v2,v3,v4⟩:=U6.out y rfl;obtain⟨k',rfl⟩:∃k',k=k'+1:=⟨k-1,Ue⟩;have h3:=UJ.kept Ux Ug;have Ur:=st1.trans (.of_kept Ux);have Uw:=eC.dr Vx Ux UT;have hw1:w.heap.size<=w1.heap.size:=st1.size;have hw3:w1.heap.size<=w3.heap.size:=Ux.size;have hnb1:w1.heap.size<=nb:=Vy;have UA:nb<w3.heap.size:=dM.lt UH;have UB:¬Z1 nb:=λq=>by have:=(UG nb q).2;omega
      have UC:dW w3 nb (b.extract 0 y.2) y.1 ((deep:Int)+1):=by rw[<-v4];exact UH)
    |(
      first|go_at_call 191|go_at_call 190
      refine(HP.out k' rfl w3 Z1 Uw (λx q=>by have:=(UG x q).2;omega)).mono ?_;rintro en w4 ⟨p,Z4,C,rfl,Uq,UZ,hH,Vz⟩;have U8:∀x,Z4 x->B<=x:=λx q=>(Uq.grow x q).elim (λe=>(UG x e).1) (λe=>Ue)
      have UK:=h3.step Uq (λq=>by have:=(UG fb q).1;omega);have UU:dW w4 nb (b.extract 0 y.2) y.1 ((deep:Int)+1):=dM.step UC Uq UB;have UL:Below B w w4:=⟨Uq.os.trans Ur.os,Uq.tape.trans Ur.tape,Uq.output.trans Ur.output,aG Ur.size Uq.size,λi hi=>(Uq.block i Ue (λq=>by have:=(UG i q).1;omega)).trans ((Ur.below UO (λx q=>(UI x q).1) U5).block i hi)⟩
      have UV:¬C nb:=λq=>Uq.not UA UB (hH.1 nb q))
    |(
      go_at_call 83;refine(Vn.out k' rfl w4 C y nb p UL v0 v1 v2 UU UZ (λx q=>⟨U8 x (hH.1 x q),Vz x q⟩) Ue UV).mono ?_;intro en w5 VA
      rcases VA.part with⟨x,hP,rfl,Z5,Us⟩|⟨sm,hP,rfl,Z5,Us,U2⟩
      ·unfold dL;go_wp2;rw[Uz.out y,hP];exact⟨rfl,rfl,_,sJ Ur Ue Uq hH.1 Us⟩
      have h5:dM w5 fb #[aa f.num,aa g.form,aa 16,ag UD,.slice ra rn rc] 220:=(Us.block fb UK.lt (λq=>by have:=U8 fb (hH.1 fb q);omega) Ue).trans UK;have Vr:Hid (eE S b F sub m0 y.1 y.2 (deep+1)= .ok sm):=hP
      clear hP))
  all_goals
   go_wp2;go_end0;rw[Uz.out y,Vr.out];exact⟨rfl,_,sJ Ur Ue Uq hH.1 Us,Dh Ur Uy UN UA UB U0 U1 Uq hH Us U2⟩
end
section
variable {S:d8} {mp:am->Option Nat} {d:MT} {f:eT} {g:GF} {num:Int}
theorem Nk:gG kI CE=false/\gG kI IU=false/\gG kI eS=false/\jh kI=false:=Ui
theorem JO {s t:am}{n:Int}(hb:i8 mp t=S.base t)(hn:S.base t=16<->(S.msg t).isSome=true):FG S mp d ⟨s,t,eS,kI,n⟩ (kJ s t n):=by
 obtain⟨o1,o2,o3,o4⟩:=Nk;refine⟨rfl,.inr (.inl rfl),by unfold eT.isMap kJ;grind,by unfold eT.isRep kJ;grind,by unfold kJ;grind,?_,λ_=>rfl,by simp[kJ],hb,hn,λq=>by simp[kJ]at q⟩;unfold kL kJ;simp only
 have:∀o:eT,(gG o.how kI&&jh o.how&&decide (o.num≠n))=false:=λo=>by
  cases h:gG o.how kI with
  |false=>rfl
  |true=>
   have:jh o.how=false:=by
    rw[show o.how=kI from jd (gw.1 h),o4]
   grind
 rw[List.filter_eq_nil_iff.2 (λo _=>by grind)];rfl
theorem Bi (fg:FG S mp d f g)(h4:g.form=4):kG S mp (et f) [kJ nt f.key 1,kJ po f.ty 2]:=by
 have⟨q1,q2,q3,_⟩:=fg.key h4;refine⟨tH _ _,Uf,λn hn=> ?_,λn f' hn=> ?_⟩
 ·unfold et at hn;simp only[dR]at hn
  split at hn
  ·cases hn
  ·split at hn
   ·cases hn
   ·rename_i h1 h2
    exact oC λx hx=>by
     simp only[aN,bH,or_false]at hx
     rcases hx with rfl|rfl
     ·exact h1
     ·exact h2
 ·unfold et at hn;simp only[dR]at hn
  split at hn
  ·rename_i e
   cases hn
   subst e;exact⟨_,CS _ _,JO q1 ⟨λq=>Ue,λq=>by grind⟩⟩
  ·split at hn
   ·rename_i e
    cases hn
    subst e;exact⟨_,CT _ _,JO fg.base fg.nest⟩
   grind
def yS (f:eT)(m:PM)(sm:PM):PM:=m.put f.num (jt f.key (m.get f.num) (mV (fZ sm)))
theorem Gj {b:am}{F deep a z e:Nat}{m:PM}(fg:FG S mp d f g)(hS:Eo S)(h4:g.form=4)(hd:deep<=8):
  jJ S b F d f m deep (fx (b.extract 0 e) a num 2 z)=xC S b F (et f) PM.none deep (yS f m) (ny (b.extract 0 e) z deep (kt mp g)):=by
 have hm:f.isMap=true:=by rw[fg.map,h4];rfl
 rw[Gh fg hS (sub:=et f) (by unfold eV;rw[dE hm]) hd];have Vk:eI f m=PV.none:=by unfold eI;grind
 rw[Vk]
 have hM:(λsm=>gF S d f m (PV.none.1,PV.none.2.1,sm))=yS f m:=funext λsm=>by
  unfold gF yS;rw[dE hm];rfl
 rw[hM];rfl
theorem sK {w w3 w5:an}{Z Z3 Z5:ap}{rb nb eb:Nat}(Us:eC w Z rb w3 Z3)(hn:w.heap.size<=nb)(he:w.heap.size<=eb)(Ur:eC w3 (λx=>x=eb) nb w5 Z5):eC w Z rb w5 (λb=>Z3 b\/Z5 b):=
 ⟨Ur.os.trans Us.os,Ur.tape.trans Us.tape,Ur.output.trans Us.output,aG Us.size Ur.size,λi hi q1 q2=>(Ur.block i (aD hi Us.size) Ue Ue).trans (Us.block i hi q1 q2),
  λi q=>q.elim (Us.grow i) (λq=>(Ur.grow i q).elim (λe=> .inr Ue) (λe=> .inr (aG Us.size e)))⟩
theorem JP (w:an)(B:Nat)(S:d8)(mp:am->Option Nat)(k:Nat)(d:MT)(f:eT)(g:GF)(fb:Nat)(Z:ap)(rb db:Nat)(b:am)(e a z deep F:Nat)(num:Int)(m:PM)
  (I:oF w B S mp k d Z rb db b e a z deep m) (hfa:eJ w (λb=>b<B) mp g fb) (fg:FG S mp d f g) (hff:dR d.fs f.num=some f) (hS:Eo S) (h4:g.form=4) (hkd:k+deep=8) (hgd:lw S d) (hRd:Ni S mp B b F) (hF:e-z<=F):
  Calls prog 133 #[ag fb,aa 2,ag rb,ag db] w (g6 S k d w Z rb db (b.extract 0 e) deep (jJ S b F d f m deep (fx (b.extract 0 e) a num 2 z))):=by
 have hm:f.isMap=true:=by rw[fg.map,h4];rfl
 have Uv:eV S f=some (et f):=by unfold eV;rw[dE hm]
 have⟨UW,Ve,Vf,Vg⟩:=sI (deep:=deep) fg hS Uv Ue;rw[Gj fg hS h4 Ue];have⟨VB,kq2,VC,VD⟩:=fg.key h4;have Vl:oO S f= .ents f.key:=by unfold oO;rw[dE hm]
 have ok1:nS S (some d) f.num (.ents f.key):=λd' f' e1 e2=>by grind
 have ok2:∀kd,nS S (some d) f.num kd->kd= .ents f.key:=λkd q=>by rw[q d f rfl hff,Vl]
 have⟨pv,rv,h1,hfB,Ut,Vh⟩:=hfa.blk;rw[dE h4]at Vh;obtain⟨Uz,rfl,Vi⟩:=Vh;rw[fg.eq]at Vi;rw[Vg,fg.eq,h4]at h1;have UK:=fg.lone Ue;rw[UK]at Ut;have hD:=qp S k (some d) w Z db m rv [] I.hd Ut.1 Uf (λx hx q=>by have:=Ut.2 x hx;have:=(I.hZ x q).1;omega);rw[iO]at hD;have Vm:(b.extract 0 e).size=e:=gp I.eb;have hab:=I.az;have hze:=I.ze;have Vn:=I.eb;have Vo:=I.bs;have UL:=I.rB;have UZ:=I.rZ;have UH:=I.hZ;have UI:=I.cx.le;have Vp:rb<w.heap.size:=dM.lt I.hr;have hfl:=h1.lt;have hL:=λw1 (h:eJ w1 (λb=>b<B) mp g fb)=>sj w1 (λb=>b<B) mp g fb h
 have UM:=λw1 (h:dW w1 rb (b.extract 0 e) z deep)=>qg w1 rb (b.extract 0 e) z deep (kt mp g) h Ue Ue Ue Ve Vf
 have U0:=λw1 (h:eJ w1 (λb=>b<B) mp g fb)=>Gc w1 (λb=>b<B) mp g fb h h4
 have U1:=λw1 pv=>oB w1 (S.base f.key) pv Ue
 rw[fg.eq,VB]at U0;rw[VD]at U1;obtain⟨UE,Uw⟩:∃UE,kt mp g=UE:=⟨_,rfl⟩;rw[Uw]at hL UM⊢
 have U2:Hid (∀y:Nat×Nat,ny (b.extract 0 e) z deep UE= .ok y->z<y.1/\y.1<=y.2/\y.2<=e/\1<=k/\(b.extract 0 e).extract 0 y.2=b.extract 0 y.2):=λy hy=>by
  have⟨q1,q2⟩:=vT hy;have⟨v0,v1,v2⟩:=iU (z:=y.1) (e:=y.2) q1;rw[Vm]at v2
  have hlv:1<=UE:=by
   rw[<-Uw];unfold kt;rw[Vg]
   split<;>simp
  exact⟨v0,v1,v2,Ue,jR Vn v2⟩
 clear Uw Ve Vf UW;obtain⟨R,hR⟩:∃R,ny (b.extract 0 e) z deep UE=R:=⟨_,rfl⟩;rw[hR]at UM U2⊢;clear hR;have UN:¬Z fb:=λq=>by grind
 have hlen:=I.wm.len
 have Vq:Hid (∀k',k=k'+1->∀(w4:an) (C:ap) (y:Nat×Nat) (nb p:Nat),Below B w w4->z<y.1->y.1<=y.2->y.2<=e->dW w4 nb (b.extract 0 y.2) y.1 ((deep:Int)+1)->ek S k (some (et f)) w4 C p PM.none->(∀x,C x->B<=x/\x<w4.heap.size)->B<=nb->¬C nb->
   Ua 83 #[ag Uz,ag nb,ag p] w4 (g6 S k' (et f) w4 C nb p (b.extract 0 y.2) (deep+1) (oS y.2 (eE S b F (et f) PM.none y.1 y.2 (deep+1))))):=by
  rintro k' rfl w4 C y nb p Vj v0 v1 v2 hrn VE hC VF VG;exact hRd w4 C (et f) _ y.1 y.2 (deep+1) k' Uz _ eS nb p (I.cx.on Vj) (Vi.msg.keep (λx q _=>Vj.block x q)) (Bi fg h4) (hS.good.sub Uv) (by grind) VE hC VF VG v1 Ue Ue Ue (WM.none _ _ _)
 have UO:Hid (∀k',k=k'+1->∀(w6:an) (Z6 E:ap) (eb:Nat) (y:Nat×Nat) (sm:PM),z<y.1->y.1<=y.2->y.2<=e->eE S b F (et f) PM.none y.1 y.2 (deep+1)= .ok sm->ek S (k+1) (some d) w6 Z6 db m->ek S k (some (et f)) w6 E eb sm->(∀x,E x->¬Z6 x)->(∀x,Z6 x->x<w6.heap.size)->(∀x,E x->x<w6.heap.size)->
   Ua 187 #[ag db,aa f.num,.bool (eM iL f.key),ag eb] w6 λen w'=>en= .returned (.tuple #[])/\∃Z',fk w6 (λb=>Z6 b\/E b) w' Z'/\ek S (k+1) (some d) w' Z' db (yS f m sm)):=by
  rintro k' rfl w6 Z6 E eb y sm v0 v1 v2 VH UU VI UX VJ VK;have U3:=ku hS.good Vo F (et f) PM.none y.1 y.2 (deep+1) sm VH (hS.good.sub Uv) v1 Ue (WM.none _ _ _);have U4:=AZ (hgd f (eW hff).2 hm) U3;have hel:=U3.len.1;exact uK S k' (some d) w6 Z6 E db eb m sm f.num f.key _ UU VI.toKey VC UX VJ VK ok1 ok2 rfl U4.ky (by have⟨r,hr⟩:=U4.key;grind) Ue (by grind) Ue
 have U5:∀w1,Below B w w1->eJ w1 (λb=>b<B) mp g fb:=λw1 UP=>hfa.keep (λx q _=>UP.block x q)
 have hr0:=I.hr;obtain⟨ra,rn,rc,rfl⟩:=dN Ut.1;unfold gI at h1;have⟨k1,k2⟩:=h1.rules;go_in
 go_wp2_with fail;refine hD.mono ?_;rintro en w1 ⟨rfl,Z1',Uq,UF⟩;have⟨B1,KE⟩:=dS w1 #[ah,ah] 183;have U6:w.heap.size<=w1.heap.size:=Uq.size
 obtain⟨Z1,st1,VL,VM⟩:∃Z1,eC w Z rb (w1.alloc (ak #[ah,ah] 183)) Z1/\ek S (k+1) (some d) (w1.alloc (ak #[ah,ah] 183)) Z1 db m/\∀x,Z1 x->B<=x/\x<w1.heap.size:=
  ⟨_,.of_step (Uq.clip.below B1),UF.clip.keep (λx _ q=>B1.block x q),λx q=>⟨(Uq.grow x q.1).elim (λe=>(UH x e).1) (λe=>aG UI e),q.2⟩⟩
 have U7:=(h1.step Uq UN).below B1 (h1.step Uq UN).lt;have U8:dW (w1.alloc (ak #[ah,ah] 183)) rb (b.extract 0 e) z deep:=dM.step hr0 (Uq.below B1) UZ;have U9:=h1.step Uq UN;clear Uq UF k1 k2 hD;have⟨k1,k2⟩:=U9.rules;go_upto_region 4 with fail
 have hew:w1.heap.size<(w1.alloc (ak #[ah,ah] 183)).heap.size:=KE.lt;generalize w1.alloc (ak #[ah,ah] 183)=wa at*;generalize w1.heap.size=eb at*;clear k1 k2 U9 B1;have UJ:dM wa.drew fb #[aa f.num,aa 4,aa 16,ag Uz,.slice ra rn rc] 220:=U7;have UP:Below B w wa:=st1.below UI (λx q=>(UH x q).1) UL;have UQ:Below B w wa.drew:=UP.drew;have UR:dW wa.drew rb (b.extract 0 e) z deep:=U8;have UA:¬Z1 rb:=st1.not Vp UZ;have US:ek S (k+1) (some d) wa.drew Z1 db m:=VL.keep (λ_ _ _=>rfl);have Vr:dM wa.drew eb #[ah,ah] 183:=KE;have UB:eC w Z rb wa.drew Z1:=st1.trans (.of_below (Below.refl _ _).drew);have⟨k1,k2⟩:=U7.rules;have UC:Hid (∀y:Nat×Nat,xC S b F (et f) PM.none deep (yS f m) (.ok y)=JK (yS f m) y.2 (eE S b F (et f) PM.none y.1 y.2 (deep+1))):=λ_=>rfl
 go_region_held2 (λw'=>w'.cell? (ai fb 0)=some (aa f.num)/\w'.cell? (ai fb 3)=some (ag Uz))
  (first|exact⟨h5.cell 0,h5.cell 3⟩|exact⟨h3.cell 0,h3.cell 3⟩|exact⟨UJ.cell 0,UJ.cell 3⟩)
  (first
   |(
     go_at_call 186;refine(hL wa.drew (U5 wa.drew UQ)).mono ?_
     rintro en w2 ⟨rfl,rfl⟩)
   |(
     go_at_call 185;refine(UM wa.drew UR).mono ?_;intro en w3 hq
     rcases hq.part with⟨x,rfl,rfl,Ux⟩|⟨y,nb,rfl,rfl,Ux,VN,VO,UY,UG⟩
     ·unfold dL;go_wp2;exact⟨rfl,rfl,Z1,UB.trans (.of_kept Ux)⟩
     have⟨v0,v1,v2,v3,v4⟩:=U2.out y rfl;obtain⟨k',rfl⟩:∃k',k=k'+1:=⟨k-1,Ue⟩;have h3:=UJ.kept Ux (by grind);have Us:=UB.trans (.of_kept Ux);have Vs:=eC.dr US Ux UA;have hw3:wa.heap.size<=w3.heap.size:=Ux.size;have hnb1:wa.heap.size<=nb:=VN;have hnl3:nb<w3.heap.size:=dM.lt UY;have Vt:¬Z1 nb:=λq=>by grind
     have Vu:=Vr.kept Ux (by grind);have Vv:ek S (k'+1) (some (et f)) w3 (λx=>x=eb) eb PM.none:=ek.fresh Vu;have Vw:Below B w w3:=Us.below UI (λx q=>(UH x q).1) UL
     have UD:dW w3 nb (b.extract 0 y.2) y.1 ((deep:Int)+1):=by grind)
   |(
     go_at_call 83;refine(Vq.out k' rfl w3 (λx=>x=eb) y nb eb Vw v0 v1 v2 UD Vv (λx q=>Ue) Ue Ue).mono ?_;intro en w5 VP
     rcases VP.part with⟨x,hP,rfl,Z5,Ur⟩|⟨sm,hP,rfl,Z5,Ur,VQ⟩
     ·unfold dL;go_wp2;rw[UC.out y,hP];exact⟨rfl,rfl,_,sK Us Ue U6 Ur⟩
     have h5:dM w5 fb #[aa f.num,aa 4,aa 16,ag Uz,.slice ra rn rc] 220:=(Ur.block fb h3.lt Ue Ue).trans h3;have Va:Hid (eE S b F (et f) PM.none y.1 y.2 (deep+1)= .ok sm):=hP
     clear hP))
 have Vx:∀x,Z5 x->x=eb\/w3.heap.size<=x:=Ur.grow;have UT:=VQ.clip;have UU:ek S (k'+1+1) (some d) w5 Z1 db m:=Vs.keep λx q hl=>Ur.block x hl (λe=>by grind) (λe=>Vt (e▸q))
 have Vb:dW w5 rb (b.extract 0 e) y.2 deep:=(Ur.block rb (dM.lt UG) Ue (λe=>VO e.symm)).trans UG;have Vc:=sK Us Ue U6 Ur;have Vy:Below B w w5:=Vc.below UI (λx q=>(UH x q).1) UL;have UV:dM w5.drew fb #[aa f.num,aa 4,aa 16,ag Uz,.slice ra rn rc] 220:=h5;have hw5:w3.heap.size<=w5.heap.size:=Ur.size;clear k1 k2;have⟨k1,k2⟩:=h5.rules;go_upto_region 5 with fail
 go_region_held2 (λw'=>w'.cell? (ai fb 0)=some (aa f.num))
  (first|exact h9.cell 0|exact h8.cell 0|exact h7.cell 0|exact UV.cell 0)
  (first
   |(
     go_at_call 188;refine(U0 w5.drew (U5 w5.drew Vy.drew)).mono ?_;rintro en w7 ⟨VR,rfl,B7⟩
     have h7:=UV.below B7 UV.lt)
   |(
     go_at_call 189;refine(U1 w7 VR).mono ?_;rintro en w8 ⟨rfl,B8⟩;have h8:=h7.below B8 h7.lt
     have Uy:aj w5 w8:=dI (Uc w5).drew (dI B7 B8))
   |(
     go_at_call 187;refine(UO.out k' rfl w8 Z1 (λx=>Z5 x/\x<w5.heap.size) eb y sm v0 v1 v2 Va.out (UU.keep (λx _ q=>Uy.block x q)) (UT.keep (λx _ q=>Uy.block x q)) (λx q1 q2=>by grind) (λx q=>by have:=(VM x q).2;have:=Uy.size;omega) (λx q=>aD q.2 Uy.size)).mono ?_;rintro en w9 ⟨rfl,Z9,Uu,VS⟩;have Vd:∀x,x<wa.heap.size->x≠eb->¬Z1 x->¬(Z1 x\/(Z5 x/\x<w5.heap.size)):=λx q1 q2 q3 q=>q.elim q3 (λq=>(Vx x q.1).elim q2 (λe=>Ue))
     have h9:=h8.step Uu (Vd fb UJ.lt Ue (λq=>by grind))))
 all_goals
  go_wp2;go_end0;rw[UC.out y,Va.out];have Vz:dW w8 rb (b.extract 0 e) y.2 deep:=dM.below Vb Uy (dM.lt Vb);have VA:eC w Z rb w8 (λx=>Z1 x\/Z5 x):=Vc.trans (.of_below Uy);refine⟨rfl,Z9,VA.trans ⟨Uu.os,Uu.tape,Uu.output,Uu.size,λi hi q _=>Uu.block i hi (λe=>q (e.imp id (λe=>e.1))),λi q=>(Uu.grow i q).imp (λe=>e.imp id (λe=>e.1)) id⟩,VS,?_⟩;exact dM.step Vz Uu (Vd rb (dM.lt U8) Ue UA)
end
end
end Go.Proofs.YtfebdimolnobaaaGreatDoor
