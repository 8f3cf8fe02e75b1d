import Derived.Test.YtfebdimolnobaaaGreatDoorFcB
import Derived.Test.YtfebdimolnobaaaGreatDoorEnJ
import Derived.Test.YtfebdimolnobaaaGreatDoorFaceB
set_option maxRecDepth 100000
set_option maxHeartbeats 8000000
set_option linter.all false
namespace Go.Proofs.YtfebdimolnobaaaGreatDoor
open Go.RowKit Go.Proofs.Tryz
section
open Go.Maps
open VH
section
variable (g:Bool)
def yO (ks:aB)(K:aw->Prop)(ok:Bool)(v:Value)(w:aw)(e:Ending)(w':aw):Prop:=ee ks w w'/\K w'/\if ok=true then e= .returned v else∃(x:Nz) (y:Int),e=d5 x.1 y
abbrev FI (g:Bool):Nat:=bif g then 156 else 150
abbrev FT (g:Bool):Nat:=bif g then 100 else 95
abbrev FK (g:Bool):Nat:=bif g then 57 else 53
abbrev FS (g:Bool):Nat:=bif g then 56 else 52
abbrev FE (g:Bool):Nat:=bif g then 25 else 24
abbrev ZV (g:Bool):Value:=bif g then aa 0 else Vp
section
theorem Uf (a b:Addr)(w:aw):
  CallsD prog (FI g) #[.pointer (some a),.pointer (some b)] .returning w λe u' w'=>e= .returned (.tuple #[])/\u'= .returning/\w'=w:=by
 cases g<;>dsimp only[FI,cond]
 have f:=results150;refine callsD_of_wpS func150 rfl λc cs d=> ?_
 rotate_left;have f:=results156;refine callsD_of_wpS func156 rfl λc cs d=> ?_
 all_goals
  apply wpS_seq;apply wpS_region;simp[wpOpsS,go_sem,recoverD,d,Exit.thenS];refine wpS_of_wp ?_;rw[AK];go_wp2;cases c;simp_all [bodyPostS,results]
theorem Ug (ab bb:Nat)(k p:Int)(older:List PanicEntry)(w:aw)(x y:Value)(i:w.cell? (aj ab 0)=some x)(j:w.cell? (aj bb 0)=some y)(n:w.frozen? (aj ab 0)=false)(q:w.frozen? (aj bb 0)=false)(a:¬ab=bb):
  CallsD prog (FI g) #[ah ab,ah bb] (.panicking ({v:= .iface 142 (.agg #[aa k,aa p]),recovered:=false}::older)) w λe u' w'=>
   e= .returned (.tuple #[])/\u'= .panicking ({v:= .iface 142 (.agg #[aa k,aa p]),recovered:=true}::older)/\
    w'=(((w.setCell (aj ab 0) (aa k)).setCell (aj bb 0) (aa p)).alloc (am #[aa k,aa p] 142)).drew:=by
 have m:=Q3 k p;have d:=aV _ _ i;have f:=aV _ _ j;simp only at d f;have⟨o,r,s,t⟩:=gW (w:=w) (b:=ab) d;have⟨s1,s2,u,z⟩:=gW (w:=w) (b:=bb) f;have l:¬bb=ab:=λe=>a e.sy
 cases g<;>dsimp only[FI,cond]
 refine callsD_of_wpS func150 rfl λh cs c=> ?_
 rotate_left;refine callsD_of_wpS func156 rfl λh cs c=> ?_
 all_goals
  apply wpS_seq;apply wpS_region;simp[wpOpsS,go_sem,recoverD,c,Exit.thenS];refine wpS_of_wp ?_;rw[AK];go_wp2;go_region
  exact⟨rfl,_,rfl,.tuple #[],by simp[results],rfl,rfl,rfl⟩
variable {ks:aB} {K:aw->Prop} {E B:Nat}
theorem Uh (hks:∀x∈ks,x<E)(hK:qE E B K)(ok:Bool)(v:Value)(w:aw)(N:E<=w.heap.size)(M:w.heap.size+2<=B)(c0 c1 c2 c3:Value)(h:∀w0,ak w w0->w0.heap.size=w.heap.size+2->Vq (FK g) #[c0,c1,c2,c3] w0 (yO ks K ok v w0)):
  Vq (FT g) #[.func (Fn.func (FK g)) #[] #[c0,c1,c2,c3]] w λe w'=>ee ks w w'/\K w'/\if ok=true then e= .returned (.tuple #[v,aa 0,aa 0])else∃(x:Nz) (y:Int),e= .returned (.tuple #[ZV g,aa x.1,aa y]):=by
 have L:= @wA;have⟨m,s,t⟩:=gN w #[aa 0] #[aa 0] 24 3;have r:Hid (Calls _ _ _ _ _):=h _ m Vw;have u:=Ug g;have A:=Uf g;clear h;cases g<;>dsimp only[FI,FT,FK,ZV,cond]at*
 go_enter_defers func95,ntmps95
 rotate_left;go_enter_defers func100,ntmps100
 all_goals
  go_wp2_with fail;generalize(w.alloc (am #[aa 0] 24)).alloc (am #[aa 0] 3)=w1 at*;refine r.o.V ?_;rintro e w2 ⟨l,o,f⟩;have k:=s.kept l (λq=>by have:=hks _ q;omega);have d:=t.kept l (λq=>by have:=hks _ q;omega);have n:=(ee.oB (bs:=ks) m).J l;have⟨F,G⟩:=k.I;have⟨H,I⟩:=d.I;have O:=d.lt
  cases ok with
  |false=>
   rw[dQ Vw]at f;obtain⟨x,y,rfl⟩:=f;unfold d5;refine leaves_cons (args:= #[ah w.heap.size,ah (w.heap.size+1)]) ?_ ?_ ((u w.heap.size (w.heap.size+1) x.1 y [] w2 _ _ (F 0) (H 0) (G 0) (I 0) Vv).V ?_);.simp
   .simp[go_sem]
   rintro e J C ⟨rfl,rfl,rfl⟩;have a:=(((k.set 0 (aa x.1)).other (c:=w.heap.size+1) 0 (aa y) Vv).alloc (am #[aa x.1,aa y] 142)).cell 0;have b:=(((d.other (c:=w.heap.size) 0 (aa x.1) Vv).set 0 (aa y)).alloc (am #[aa x.1,aa y] 142)).cell 0;have i:ee ks w (((w2.setCell (aj w.heap.size 0) (aa x.1)).setCell (aj (w.heap.size+1) 0) (aa y)).alloc (am #[aa x.1,aa y] 142)).drew:=(((n.freshP (aE _) 0 _).freshP (bH _) 0 _).alloc _).drew;have j:K (((w2.setCell (aj w.heap.size 0) (aa x.1)).setCell (aj (w.heap.size+1) 0) (aa y)).alloc (am #[aa x.1,aa y] 142)).drew:=hK w2 _ o Vw λz D p=>(Below.l _ _ z (by simpa using p)).J ((et Vv).J (et Vv))
   simp at a b;simp[Leaves,settle,results,go_sem,a,b]
   exact⟨i,j,x.2⟩
  |true=>
   rw[dR rfl]at f;subst f;go_wp2;refine leaves_cons (args:= #[ah w.heap.size,ah (w.heap.size+1)]) ?_ ?_ ((A (aj w.heap.size 0) (aj (w.heap.size+1) 0) _).V ?_);.simp
   .simp[go_sem]
   rintro e J C ⟨rfl,rfl,rfl⟩;have a:=((k.set 0 (aa 0)).other (c:=w.heap.size+1) 0 (aa 0) Vv).cell 0;have b:=((d.other (c:=w.heap.size) 0 (aa 0) Vv).set 0 (aa 0)).cell 0;have i:ee ks w ((w2.setCell (aj w.heap.size 0) (aa 0)).setCell (aj (w.heap.size+1) 0) (aa 0)):=(n.freshP (aE _) 0 _).freshP (bH _) 0 _;have j:K ((w2.setCell (aj w.heap.size 0) (aa 0)).setCell (aj (w.heap.size+1) 0) (aa 0)):=hK w2 _ o Vw λz D p=>(et Vv).J (et Vv)
   simp at a b;simp[Leaves,settle,results,go_sem,a,b];exact⟨i,j⟩
theorem Ui (hks:∀x∈ks,x<E)(hK:qE E B K)(ok:Bool)(v:Value)(w:aw)(i:E<=w.heap.size)(f:w.heap.size+2<=B)(c0 c1 c2 c3:Value)(h:∀w0,ak w w0->w0.heap.size=w.heap.size+2->Vq (FK g) #[c0,c1,c2,c3] w0 (yO ks K ok v w0)):
  Calls prog (FS g) #[.func (Fn.func (FK g)) #[] #[c0,c1,c2,c3]] w λe w'=>ee ks w w'/\K w'/\e= .returned (.tuple #[if ok=true then v else ZV g,aa (if ok=true then 0 else 12)]):=by
 have d:=Uh g hks hK ok v w i f c0 c1 c2 c3 h;clear h;cases g<;>dsimp only[FT,FK,FS,ZV,cond]at*
 go_in
 rotate_left;go_in
 all_goals
  go_wp2_with fail;refine d.V ?_;rintro e w2 ⟨b,c,a⟩
  cases ok with
  |false=>
   rw[dQ Vw]at a;obtain⟨x,y,rfl⟩:=a;have j:(x.1 !=0)=true:=by simpa using x.2
   go_wp2;go_ret2
   exact⟨b,c,rfl⟩
  |true=>
   rw[dR rfl]at a;subst a;go_wp2;go_ret2;exact⟨b,c,rfl⟩
theorem SY (r:Value×Int)(w:aw)(s:∀x∈ks,x<w.heap.size)(H:qE w.heap.size (w.heap.size+6) K)(q:K w)(sb:Nat)(sv kv:Value)(bs:List d9)(y:List YM)(P:ax)(nm:au)(a:aC)(n c:Nat)(unk:au)(way:Int)(h1:dZ w sb #[sv,kv] 92)(T:fW w P sv bs y)(j:y.length<=2001)(X:way=1\/way=2)
  (p:(∀m∈y,(m.1.1.toList==nm.toList)=false)->r=(ZV g,5))
  (h:∀(i:Nat) (m:YM),y[i]?=some m->(m.1.1.toList==nm.toList)=true->∃ok v,r=(if ok=true then v else ZV g,if ok=true then 0 else 12)/\∀(w0:aw) (q0 q1 q2 q3:Nat),ak w w0->w0.heap.size=w.heap.size+6->w.heap.size<=q0/\w.heap.size<=q1/\w.heap.size<=q2/\w.heap.size<=q3->w0.cell? (aj q0 0)=some (aa way)->w0.cell? (aj q1 0)=some (ah m.1.2)->dZ w0 q2 #[.slice a n c,ag unk] 49->w0.cell? (aj q3 0)=some (ah sb)->
   Vq (FK g) #[ah q0,ah q1,ah q2,ah q3] w0 (yO ks K ok v w0)):
  Calls prog (FE g) #[ah sb,aa way,ag nm,.agg #[.slice a n c,ag unk]] w λe w'=>e= .returned (.tuple #[r.1,aa r.2])/\ee ks w w'/\K w':=by
 have Y:= @wA;obtain⟨w0,d⟩:=Vu (((w.alloc (am #[ah sb] 22)).alloc (am #[aa way] 3)).alloc (am #[.slice a n c,ag unk] 49));have b:ak w w0:=by rw[<-d];exact(((Below.refl _ _).alloc (aE _) _).alloc Vw _).alloc Vx _
 have l:dZ w0 w.heap.size #[ah sb] 22:=by rw[<-d];exact((dZ.new w _ _).alloc _).alloc _
 have o:dZ w0 (w.heap.size+1) #[aa way] 3:=by rw[<-d];exact(dZ.newAt Vw _ _).alloc _
 have u:dZ w0 (w.heap.size+1+1) #[.slice a n c,ag unk] 49:=by rw[<-d];exact dZ.newAt Vw _ _
 have C:=Ei w0 sb sv kv bs y P nm way (h1.G b h1.lt) (T.O λx _ j=>b.block x j) j X;have D:Hid (w0.heap.size=w.heap.size+3):=by show _=_;rw[<-d];simp
 have⟨s1,s2⟩:=l.I;have⟨Z,f⟩:=o.I;have Q:=Ui g s H;cases g<;>dsimp only[FK,FS,FE,ZV,cond]at*
 go_in
 rotate_left;go_in
 all_goals
  go_wp2_with fail;refine C.V ?_;clear C d;rintro e w1 ⟨rfl,⟨i,m,V,W,rfl⟩|⟨F,rfl⟩⟩
  .have⟨t,A⟩:=ec w1 #[ah m.1.2] 105;have J:(w1.alloc (am #[ah m.1.2] 105)).heap.size=w.heap.size+4:=by have:=D.o;simp;omega
   have⟨ok,v,I,U⟩:=h i m V W;have O:Hid _:=I;clear I p
   have R:=λw3 (G:Below (w1.alloc (am #[ah m.1.2] 105)).heap.size (w1.alloc (am #[ah m.1.2] 105)) w3) (hs:w3.heap.size=(w1.alloc (am #[ah m.1.2] 105)).heap.size+2)=>by
    have k:=dW t G;have S:=D.o;exact U w3 _ _ _ _ (dW b k) Vv ⟨Vv,Vv,Vv,aE _⟩ ((o.G k o.lt).cell 0) ((A.G G A.lt).cell 0) (u.G k u.lt) ((l.G k l.lt).cell 0)
   have N:=Q ok v (w1.alloc (am #[ah m.1.2] 105)) Vv Vv _ _ _ _ R;have f:=dW b t;go_wp2_with fail;refine N.V ?_;rintro e w3 ⟨L,M,rfl⟩;cases ok
   all_goals
    go_wp2;go_ret2;exact⟨by rw[O.o];rfl,(ee.oB f).J L,M⟩
  .obtain rfl:=p F;have f:=b.alloc b.size (am #[.pointer none] 105);clear h p F;go_wp2;go_ret2;exact⟨rfl,ee.oB f,H w _ q f.size λz _ j=>f.block z j⟩
end
end
end
section
variable {w w':aw} {P:ax} {v:Value} {bs:List d9} {y:List YM} {nm:au} {R:Fx PM} {e:Ending}
theorem ro (a:fW w P v bs y)(h:ki bs):y.length<=2001:=by
 have e:y.length=(el bs).length:=by rw[<-a.names];simp
 rw[e,jq,bO];exact aM (bZ _ _) h.ok.few
theorem EF (c:fW w P v bs y)(h:ki bs){i:Nat}{m:YM}(n:y[i]?=some m)(t:(m.1.1.toList==nm.toList)=true):
  ∃d gs,(er bs).msg nm=some d/\jk w (λb=>b<w.heap.size) (mR (y.map (·.1))) m.1.2 d.name gs/\lJ (er bs) (mR (y.map (·.1))) d gs/\mj (er bs) d:=by
 have l:(y.map (·.1)).map (·.1)=el bs:=by rw[bM];exact c.names
 have e:m.1.1.toList=nm.toList:=by simpa using t
 have o:fk (el bs) nm=true:=(jl _ _).2 ⟨m.1.1,by rw[<-c.names];exact aS.2 ⟨m,aL n,rfl⟩,e⟩;have⟨_,b,_,_,k,_,_⟩:=qo h.ok l o;have⟨j,a,r,_,C,u,z,A,B⟩:=rj c h k;have f:((y.map (·.1)).map (·.1)).Pairwise (λx y=>x.toList≠y.toList):=(by rw[l,jq];exact List.Pairwise.sublist (List.Sublist.map _ dE) h.ok.names);have p:m.1.1=a.1.1:=jJ (e.J u.sy);have g:=qT f (s:=m.1.1) (b:=m.1.2) (aS.2 ⟨m,aL n,rfl⟩);have q:=qT f (s:=a.1.1) (b:=a.1.2) (aS.2 ⟨a,aL r,rfl⟩);rw[p,q]at g;exact⟨_,a.2,k,by rw[<-Option.some.inj g];exact z,A,B⟩
theorem tN (a:fW w P v bs y)(c:∀m∈y,(m.1.1.toList==nm.toList)=false):(er bs).msg nm=none:=by
 have f:(y.map (·.1)).map (·.1)=el bs:=by rw[bM];exact a.names
 refine(xI f ?_).1
 cases hm:fk (el bs) nm with
 |false=>rfl
 |true=>
  have⟨x,b,d⟩:=(jl _ _).1 hm;rw[<-a.names]at b;obtain⟨m,e,rfl⟩:=aS.1 b;have:=c m e;rw[d]at this;simp at this
theorem mG.toK (h:mG w R e w'):rm [] (λ_ _=>True) w R e w':=by
 cases R with
 |error x=>exact⟨h.1,.oB h.2,trivial⟩
 |ok m=>
  obtain⟨v,a,b,c,d,f⟩:=h;exact⟨v,a,b,c,d,.oB f,trivial⟩
theorem lR.toRet (h:lR [] (λ_ _=>True) w R e w'):H6 w R e w':=by
 cases R with
 |error x=>exact⟨h.1,h.2.1.to_below (aE _) Vw⟩
 |ok m=>
  obtain⟨v,a,b,c,d,f,_⟩:=h;exact⟨v,a,b,c,d,f.to_below (aE _) Vw⟩
theorem Jz (w:aw)(sb:Nat)(v kv:Value)(bs:List d9)(y:List YM)(P:ax)(nm b:au)(h1:dZ w sb #[v,kv] 92)(a:fW w P v bs y)(h:ki bs)(C:UOK w)(c:b.size<=1800000000000):
  Vq 21 #[ah sb,aa 1,ag nm,ag b] w (H6 w (jj (er bs) nm b)):=by
 refine(AZ (ks:= []) (K:=λ_ _=>True) _ w Vw (λ_ _ _ _ _ _=>trivial) rfl trivial sb v kv bs y P nm b 1 h1 a (ro a h) (.inl rfl) (λg=> ?_) (λi m H D E F G A B z _ _ k l n _=> ?_)).V λ_ _ q=>q.toRet
 .unfold jj;rw[tN a g]
 .have⟨d,u,p,r,s,t⟩:=EF a h A B;have o:=Cn a h C;refine(Q4 _ H D E F G m.1.2 b k l n λw2 j=> ?_).V λ_ _ q=>q.toK
  have f:ak w w2:=dW z j;have e:jj (er bs) nm b=eY (er bs) b (b.size+1) d PM.none 0 b.size 1:=by unfold jj;rw[p]
  rw[e];exact F9 (er bs) (mR (y.map (·.1))) w.heap.size b (Q5 h) c w2 d m.1.2 u d.name (o.on f) (r.O λx q _=>f.block x q) s t
end
section
open Go.Maps
section
variable {w:aw} {P:ax} {v:Value} {bs:List d9} {y:List YM}
def yV (hM:fW w P v bs y)(h:ki bs):Mm w P (er bs) (mR (y.map (·.1))):=by
 refine⟨λt d a=> ?_,λt a=> ?_⟩
 .have⟨i,m,r,p,c,_,_,q,_⟩:=rj hM h a;have f:=aL r;refine⟨m.1.2,m.2,p,by rw[<-c];exact hM.msg m f,q,?_⟩;have l:m.1.1∈el bs:=by rw[<-hM.names];exact aS.2 ⟨m,f,rfl⟩
  have⟨b,n,o⟩:=aS.1 l;rw[<-c,<-o];exact(h.ok.ok b (bA.1 n).1).name
 .have j:(y.map (·.1)).map (·.1)=el bs:=by rw[bM];exact hM.names
  have g:(mR (y.map (·.1)) t).isSome=true:=by
   unfold jC at a;split at a
   .exfalso;have e:m9.length=15:=Vz;unfold ol at a
    cases hq:Di m9 t.toList 0 with
    |none=>rw[hq]at a;cases a
    |some k=>
     rw[hq]at a;have:=BQ _ _ _ _ hq;simp at a;omega
   .split at a;.assumption
    .cases a
  rw[sf,j]at g;have⟨_,b,_,_,c,_⟩:=qo h.ok j g;exact⟨_,c⟩
def Ba (hM:fW w P v bs y)(h:ki bs){i:Nat}{m:YM}(k:y[i]?=some m){nm:au}(r:(m.1.1.toList==nm.toList)=true):
  ∃d gs,(er bs).msg nm=some d/\jk w P (mR (y.map (·.1))) m.1.2 d.name gs/\lJ (er bs) (mR (y.map (·.1))) d gs/\mj (er bs) d/\d.name.size<=2000:=by
 have n:(y.map (·.1)).map (·.1)=el bs:=by rw[bM];exact hM.names
 have e:m.1.1.toList=nm.toList:=by simpa using r
 have o:fk (el bs) nm=true:=(jl _ _).2 ⟨m.1.1,by rw[<-hM.names];exact aS.2 ⟨m,aL k,rfl⟩,e⟩;have⟨_,b,_,_,c,_,_⟩:=qo h.ok n o;have⟨j,a,l,_,u,z,_,A,B⟩:=rj hM h c;have f:((y.map (·.1)).map (·.1)).Pairwise (λx y=>x.toList≠y.toList):=(by rw[n,jq];exact List.Pairwise.sublist (List.Sublist.map _ dE) h.ok.names);have p:m.1.1=a.1.1:=jJ (e.J z.sy);have g:=qT f (s:=m.1.1) (b:=m.1.2) (aS.2 ⟨m,aL k,rfl⟩);have q:=qT f (s:=a.1.1) (b:=a.1.2) (aS.2 ⟨a,aL l,rfl⟩);rw[p,q]at g;have⟨_,_,_,_,_,t⟩:=(yV hM h).md nm _ c;exact⟨_,a.2,c,by rw[<-Option.some.inj g,<-u];exact hM.msg a (aL l),A,B,t⟩
end
def jP (w:aw)(kp mk:Nat)(S:eF)(mp:an)(X:ax):Prop:=∃N pm,vO kp mk 0 S mp w N pm [] X
def jP.still {kp mk E B:Nat}{S:eF}{mp:an}{Y Z:ax}(g:kp<E)(hm:mk<E):qE E B λw=>jP w kp mk S mp λb=>(Y b/\b<E)\/(B<=b/\¬Z b):=by
 rintro a b ⟨N,pm,h⟩ _ c;refine⟨N,pm,(c kp (.inl g) h.kb.lt).J h.kb,h.mb.O (c mk (.inl hm) h.mb.lt),h.ne,h.ct,h.inj,λt p j=> ?_⟩;rcases h.pl t p j with⟨e,_⟩|⟨d,f,e,k,l⟩;.cases e
 .exact .inr ⟨d,f,e,k,l.O (λx q i=>c x (q.2.2.2.imp And.right And.left) i) (λ_ _ q=>q)⟩
def jP.less {w:aw}{kp mk:Nat}{S:eF}{mp:an}{X Y:ax}(h:jP w kp mk S mp X)(a:∀b,X b->b<w.heap.size->Y b):jP w kp mk S mp Y:=by
 obtain⟨N,pm,h⟩:=h;exact⟨N,pm,h.less a⟩
def JA (MK:qD)(w:aw)(sb kp mk:Nat)(v:Value)(bs:List d9)(y:List YM)(P:ax)(nm b:au)(h1:dZ w sb #[v,ah kp] 92)(j:fW w P v bs y)(h:ki bs)(R:UOK w)(Q:b.size<=1800000000000)
  (Y:ax) (d:jP w kp mk (er bs) (mR (y.map (·.1))) Y) (L:∀x,P x->Y x) (K:∀x,P x->x≠mk/\x≠kp) (k:sb≠mk/\sb≠kp) (n:2≠mk/\2≠kp) (r:3≠mk/\3≠kp):
  Vq 21 #[ah sb,aa 2,ag nm,ag b] w (lR [mk,kp] (λZ w'=>jP w' kp mk (er bs) (mR (y.map (·.1))) λx=>(Y x/\x<w.heap.size)\/(w.heap.size+9<=x/\¬Z x)) w (jj (er bs) nm b)):=by
 have⟨N,pm,g⟩:=id d;have C:=g.kb.lt;have D:=g.mb.lt;have X:∀Z:ax,qE w.heap.size (w.heap.size+9) λw'=>jP w' kp mk (er bs) (mR (y.map (·.1))) λx=>(Y x/\x<w.heap.size)\/(w.heap.size+9<=x/\¬Z x):=λ_=>jP.still C D
 have E:∀x∈ [mk,kp],x<w.heap.size:=λx c=>by
  simp only[aR,bW,or_false]at c;rcases c with rfl|rfl;.exact D
  .exact C
 have o:∀x,x≠mk->x≠kp->x∉ [mk,kp]:=λx h1 a=>by simp[h1,a]
 refine AZ _ w E X rfl (d.less λx S a=> .inl ⟨S,a⟩) sb v _ bs y P nm b 2 h1 j (ro j h) (.inr rfl) (λe=> ?_) (λi m w0 I J T U f s M O u l p t z=> ?_);.unfold jj;rw[tN j e]
 .have V:fW w (λx=>P x/\x<w.heap.size) v bs y:=j.V λx q a=>⟨q,a⟩
  have⟨d,H,A,B,F,g4,G⟩:=Ba V h f s;have e:jj (er bs) nm b=eY (er bs) b (b.size+1) d PM.none 0 b.size 1:=by unfold jj;rw[A]
  rw[e];have s:∀q,w.heap.size<=q->q∉ [mk,kp]:=λq e c=>by have:=E q c;omega
  have W:=nZ A;refine Rn E X _ w0 M.size O I J T U m.1.2 sb kp v b l p t z (h1.G M h1.lt) ⟨s _ u.1,s _ u.2.1,s _ u.2.2.1,s _ u.2.2.2,o sb k.1 k.2⟩ λw1 i f=> ?_
  have f:ak w w1:=dW M i;have k:fW w1 P v bs y:=j.O λx _ a=>f.block x a
  have j:∀x,(P x/\x<w.heap.size)->x<w.heap.size/\x≠mk/\x≠kp:=λx q=>⟨q.2,K x q.1⟩
  have l:=(yV V h).O (w':=w1) λx q _=>f.block x q.2
  have i:Cv kp mk w.heap.size 0 (er bs) (mR (y.map (·.1))) (λx=>P x/\x<w.heap.size) w1 N pm [] λx=>(Y x/\x<w.heap.size)\/w.heap.size+9<=x:=
   ⟨(g.less λx S a=> .inl ⟨S,a⟩).O (λx a=>f.block x a),l,f.size,Vw,λx c=> .inl ⟨L x c.1,c.2⟩,λx c=> .inr Vv,j,C,D⟩
  refine(SX kp mk w.heap.size (er bs) (mR (y.map (·.1))) _ MK w1 N pm m.1.2 d H _ i (by rw[W];exact A) (B.O λx q _=>f.block x q.2) F G).V ?_;rintro j w2 ⟨p,c,G,rfl,i,l,g,rF⟩;refine⟨p,rfl,rF,λZ L=>⟨c,G,l.less λx q a=>q.imp id λq=>⟨q,λz=>by have:=L x z;omega⟩⟩,?_⟩;have g:fW w2 P v bs y:=k.O λx q a=>rF.block x a (o x (K x q).1 (K x q).2)
  have F:UOK w1:=R.O (f.block _ R.lt1) (f.block _ R.lt2);have c:UOK w2:=F.O (rF.block _ F.lt1 (o _ n.1 n.2)) (rF.block _ F.lt2 (o _ r.1 r.2));have f:=Cn g h c
  have c:nT w2 (λx=>x<w2.heap.size) (er bs) (mR (y.map (·.1))) G:=λt q e=>by
   rcases l.pl t q e with⟨z,_⟩|⟨J,H,B,T,U⟩;.cases z
   .exact⟨J,H,B,U.mV (.V λx _ a=>a) (λ_ _ q=>q),T⟩
  have⟨J,H,B,T,U⟩:=c _ _ i;obtain rfl:d=J:=(by rw[W,A]at B;exact Option.some.inj B);refine Rt (er bs) b w2 d p λw3 Z rb g I j i L a e=> ?_
  exact Gm (er bs) (mR (y.map (·.1))) G w2.heap.size b (Q5 h) Q (b.size+1) w3 Z d PM.none 0 b.size 1 7 p H rb g (f.on I) (c.O λx q _=>I.block x q) (T.O (λx q _=>I.block x q) (λ_ _ q=>q)) U g4 j i L a e (aP _) (aE _) Vv rfl (WM.none _ _ _)
section
variable {bs:List d9} {w w':aw} {ks:aB} {K:(ax)->aw->Prop} {R:Fx PM} {e:Ending}
def mI (w:aw)(sb kp mk:Nat)(bs:List d9)(P:ax):Prop:=
 ∃v y,dZ w sb #[v,ah kp] 92/\(P sb/\P kp/\P mk/\sb≠kp/\sb≠mk)/\fW w (λb=>P b/\b≠sb/\b≠kp/\b≠mk) v bs y/\jP w kp mk (er bs) (mR (y.map (·.1))) P
theorem Ru (h:ki bs):(er bs).ms.length<=2001:=by
 show((gF bs).map me).length<=2001;rw[bO];exact aM (bZ _ _) h.ok.few
theorem Eg.toP {sb kp mk:Nat}{lo:Nat}(h:Eg w sb kp mk bs lo)(m:ki bs):mI w sb kp mk bs λb=>lo<=b:=by
 obtain⟨v,y,j,⟨c,d,e,f,g,i⟩,k,a⟩:=h;refine⟨v,y,j,⟨c,d,e,f,g⟩,k,0,λ_=>none,a.1,a.2,i,?_,λ_ _ _ q=>(by cases q),λ_ _ q=>(by cases q)⟩;have:=Ru m;have l:oy (er bs) (λ_=>none)<=(er bs).ms.length:=bZ _ _;omega
section
variable {w w':aw} {sb kp mk:Nat} {bs:List d9} {P P':ax}
theorem mI.O (h:mI w sb kp mk bs P)(hk:∀b,P b->b<w.heap.size->w'.heap[b]?=w.heap[b]?):mI w' sb kp mk bs P:=by
 obtain⟨v,y,f,c,i,N,pm,a⟩:=h;refine⟨v,y,(hk _ c.1 f.lt).J f,c,i.O (λb q e=>hk b q.1 e),N,pm,(hk _ c.2.1 a.kb.lt).J a.kb,a.mb.O (hk _ c.2.2.1 a.mb.lt),a.ne,a.ct,a.inj,λt p j=> ?_⟩;rcases a.pl t p j with⟨q,_⟩|⟨d,g,k,l,m⟩;.cases q
 .exact .inr ⟨d,g,k,l,m.O (λb q e=>hk b q.2.2.2 e) (λ_ _ q=>q)⟩
theorem mI.less (h:mI w sb kp mk bs P)(hp:∀b,P b->b<w.heap.size->P' b):mI w sb kp mk bs P':=by
 obtain⟨v,y,c,⟨d,e,f,g,i⟩,j,N,pm,a⟩:=h;exact⟨v,y,c,⟨hp _ d c.lt,hp _ e a.kb.lt,hp _ f a.mb.lt,g,i⟩,j.V λb q k=>⟨hp b q.1 k,q.2⟩,N,pm,a.less hp⟩
end
theorem lR.imp {K':(ax)->aw->Prop}(h:lR ks K w R e w')(d:∀Z,(∀b,Z b->w.heap.size<=b)->ee ks w w'->K Z w'->K' Z w'):lR ks K' w R e w':=by
 cases R with
 |error x=>exact⟨h.1,h.2.1,d _ (λ_ q=>q.elim) h.2.1 h.2.2⟩
 |ok m=>
  obtain⟨v,f,g,i,a,c,j⟩:=h;exact⟨v,f,g,i,a,c,d _ (λb q=>(a b q).1) c j⟩
theorem H6.toK (h:H6 w R e w')(b:∀Z,ak w w'->K Z w'):lR ks K w R e w':=by
 cases R with
 |error x=>exact⟨h.1,.oB h.2,b _ h.2⟩
 |ok m=>
  obtain⟨v,c,d,f,g,a⟩:=h;exact⟨v,c,d,f,g,.oB a,b _ a⟩
theorem Bb (MK:qD)(w:aw)(sb kp mk:Nat)(bs:List d9)(P:ax)(nm b:au)(way:Int)(s:mI w sb kp mk bs P)(h:ki bs)(t:UOK w)(d:b.size<=1800000000000)(B:way=1\/way=2)(f:¬P 2)(g:¬P 3):
  Vq 21 #[ah sb,aa way,ag nm,ag b] w (lR [mk,kp] (λZ w'=>mI w' sb kp mk bs λx=>(P x/\x<w.heap.size)\/(w.heap.size<=x/\¬Z x)) w (jj (er bs) nm b)):=by
 have⟨v,y,c,⟨u,i,j,k,l⟩,m,o⟩:=id s;rcases B with rfl|rfl;.exact(Jz w sb v _ bs y _ nm b c m h t d).V λe w' q=>q.toK λZ z=>(s.less (P':=λx=>(P x/\x<w.heap.size)\/(w.heap.size<=x/\¬Z x)) λx q a=> .inl ⟨q,a⟩).O λx _ a=>z.block x a
 .have n:mk<w.heap.size/\kp<w.heap.size:=(by obtain⟨_,_,p⟩:=o;exact⟨p.mb.lt,p.kb.lt⟩);refine(JA MK w sb kp mk v bs y _ nm b c m h t d _ o (λx q=>q.1) (λx q=>⟨q.2.2.2,q.2.2.1⟩) ⟨l,k⟩ ⟨λe=>f (e▸j),λe=>f (e▸i)⟩ ⟨λe=>g (e▸j),λe=>g (e▸i)⟩).V λe w' q=>q.imp λZ F C A=> ?_
  have r:∀x,x≠kp->x≠mk->x<w.heap.size->w'.heap[x]?=w.heap[x]?:=λx D E a=>C.block x a (by simp[D,E])
  refine⟨v,y,(r sb k l c.lt).J c,⟨.inl ⟨u,c.lt⟩,.inl ⟨i,n.2⟩,.inl ⟨j,n.1⟩,k,l⟩,(m.V (Q:=λx=>(P x/\x≠sb/\x≠kp/\x≠mk)/\x<w.heap.size) λx q a=>⟨q,a⟩).O (λx q a=>r x q.1.2.2.1 q.1.2.2.2 a)|>.V λx q _=>⟨.inl ⟨q.1.1,q.2⟩,q.1.2⟩,?_⟩;exact A.less λx q _=>q.imp id λq=>⟨Vv,q.2⟩
end
end
section
open Go.Maps
open VH
def EG {bs:List d9}(h:ki bs):Ew (er bs):=λt d g n f i=>by
 obtain⟨b,e,rfl⟩:=aS.1 (jx g);have⟨a,c⟩:=bA.1 e;have⟨_,j⟩:=fD i;have⟨p,k,l⟩:=List.mem_flatMap.1 j;obtain⟨fr,m,rfl⟩:=aS.1 l;have:=(h.ok.chk b a (by simpa using c)).flds p k fr m;have o:=this.lo;have q:=this.hi;show 0<=((jd fr.num.1:Nat):Int)/\((jd fr.num.1:Nat):Int)<=536870911;omega
abbrev FW (g:Bool):Nat:=bif g then 58 else 54
abbrev FP (g:Bool):Nat:=bif g then 59 else 55
abbrev oV (g:Bool)(b:au):Value:=bif g then aa b.size else ag b
section
variable {ks:aB} {K:aw->Prop} {E B:Nat}
def Uj (g:Bool)(hK:qE E B K)(ok:Bool)(v:Value)(w:aw)(f:K w)(q0 q1 q2 q3 mb:Nat)(a:aC)(n c:Nat)(unk:au)(j:w.cell? (aj q0 0)=some (aa 1))(k:w.cell? (aj q1 0)=some (ah mb))(d:dZ w q2 #[.slice a n c,ag unk] 49)
  (h:Vq (FW g) #[ah mb,.agg #[.slice a n c,ag unk]] w (kX ok v w)):
  Calls prog (FK g) #[ah q0,ah q1,ah q2,ah q3] w (yO ks K ok v w):=by
 have⟨o,p⟩:=d.I;have i:∀w2,ak w w2->K w2:=λw2 b=>hK w w2 f b.size λz _ l=>b.block z l
 cases g<;>dsimp only[FK,FW,cond]at*
 go_in
 rotate_left;go_in
 all_goals
  go_wp2_with fail;refine h.V ?_;intro e w2 m;rcases m.part with⟨rfl,rfl,b⟩|⟨rfl,y,z,rfl,b⟩;.go_wp2;go_ret;exact⟨.oB b,i w2 b,rfl⟩
  .unfold d5;go_wp2;exact⟨rfl,.oB b,i w2 b,y,_,rfl⟩
def Uk (g:Bool)(hK:qE E B K)(ok:Bool)(v:Value)(w:aw)(q0 q1 q2 q3 mb sb kp:Nat)(sv:Value)(a:aC)(n c:Nat)(unk:au)(A:w.cell? (aj q0 0)=some (aa 2))(d:w.cell? (aj q1 0)=some (ah mb))(i:dZ w q2 #[.slice a n c,ag unk] 49)(f:w.cell? (aj q3 0)=some (ah sb))(C:dZ w sb #[sv,ah kp] 92)
  (k:q1∉ks/\q2∉ks/\q3∉ks/\sb∉ks)
  (h:Vq 48 #[ah kp,ah mb] w.drew λe w1=>∃p,e= .returned (ah p)/\ee ks w.drew w1/\K w1/\Vq (FP g) #[ah p,.agg #[.slice a n c,ag unk]] w1 (kX ok v w1)):
  Calls prog (FK g) #[ah q0,ah q1,ah q2,ah q3] w (yO ks K ok v w):=by
 have D:q1<w.heap.size:=aV _ _ d;have F:q3<w.heap.size:=aV _ _ f
 have m:Hid (∀W:aw,ee ks w W->W.cell? (aj q1 0)=some (ah mb)/\W.cell? (aj q2 0)=some (.slice a n c)/\W.cell? (aj q2 1)=some (ag unk)/\W.cell? (aj q3 0)=some (ah sb)/\W.cell? (aj sb 1)=some (ah kp)):=λW j=>
  ⟨(bE (a:=(aj q1 0)) (j.block q1 D k.1)).J d,(i.kept j k.2.1).cell 0,(i.kept j k.2.1).cell 1,(bE (a:=(aj q3 0)) (j.block q3 F k.2.2.1)).J f,(C.kept j k.2.2.2).cell 1⟩
 have x:=m.o w.drew (ee.refl _ w).drew;clear d f;cases g<;>dsimp only[FK,FP,cond]at*
 go_in
 rotate_left;go_in
 all_goals
  go_upto_region 3 with fail
  go_region_held2 (λW=>W.cell? (aj q1 0)=some (ah mb)/\W.cell? (aj q2 0)=some (.slice a n c)/\W.cell? (aj q2 1)=some (ag unk)/\W.cell? (aj q3 0)=some (ah sb)/\W.cell? (aj sb 1)=some (ah kp))
   (first|exact m.o _ l|exact m.o _ rF|exact x)
   (first
    |(
      go_at_call 48;refine h.V ?_;rintro e w2 ⟨p,rfl,s,r,t⟩
      have rF:=ee.ofDrew s)
    |(
      first|go_at_call 55|go_at_call 59
      refine t.V ?_;intro e w3 u;rcases u.part with⟨rfl,rfl,b⟩|⟨rfl,y,z,rfl,b⟩;rotate_left
      .have l:=rF.J (ee.oB b);have o:=hK w2 w3 r b.size λz _ q=>b.block z q
       unfold d5;go_wp2;exact⟨rfl,l,o,y,_,rfl⟩
      have l:=rF.J (ee.oB b)
      have o:=hK w2 w3 r b.size λz _ q=>b.block z q))
  all_goals
   go_wp2;go_ret;exact⟨l,o,rfl⟩
end
def ko (S:eF)(nm:au)(m:PM):au×Int:=
 match S.msg nm with
 |none=>(⟨#[]⟩,5)
 |some d=>(if d6 S 8 d m=true then⟨(eI S 8 d m).toArray⟩else⟨#[]⟩,if d6 S 8 d m=true then 0 else 12)
def Ul (g:Bool)(w:aw)(sb:Nat)(sv kv:Value)(bs:List d9)(y:List YM)(P:ax)(nm:au)(Z:ax)(k:Nat)(mv:Value)(m:PM)(h1:dZ w sb #[sv,kv] 92)(n:fW w P sv bs y)(h:ki bs)(H:UOK w)(b:gV k w Z mv m)(u:pi k m)(v:∀d,(er bs).msg nm=some d->(eI (er bs) 8 d m).length<=2^47):
  Vq (FE g) #[ah sb,aa 1,ag nm,.agg #[mv,ag m.unk]] w λe w'=>e= .returned (.tuple #[oV g (ko (er bs) nm m).1,aa (ko (er bs) nm m).2])/\ak w w':=by
 obtain⟨a,c,rfl⟩:=b.form;refine(SY g (ks:= []) (K:=λ_=>True) (oV g (ko (er bs) nm m).1,(ko (er bs) nm m).2) w Vw (λ_ _ _ _ _=>trivial) trivial sb sv kv bs y P nm a m.fs.length c m.unk 1 h1 n (ro n h) (.inl rfl) (λz=> ?_) (λi o F G=> ?_)).V λe w' q=>⟨q.1,q.2.1.to_below (aE _) Vw⟩
 .unfold ko;rw[tN n z];cases g<;>rfl
 .have⟨d,t,j,r,s,N⟩:=EF n h F G;have p:=Cn n h H;refine⟨d6 (er bs) 8 d m,oV g ⟨(eI (er bs) 8 d m).toArray⟩,by unfold ko;rw[j];dsimp only;cases d6 (er bs) 8 d m<;>cases g<;>rfl,λl I J L M f _ _ A C D _=> ?_⟩;refine Uj g (E:=0) (B:=0) (λ_ _ _ _ _=>trivial) _ _ l trivial I J L M o.1.2 a _ c m.unk A C D ?_;cases g;.exact Mq (EG h) l Z _ m d o.1.2 t d.name k (p.on f) (r.O λx q _=>f.block x q) s (EG h _ _ j) (b.G f (aE _)) u (v d j)
  .exact yN (EG h) l Z _ m d o.1.2 t d.name k (p.on f) (r.O λx q _=>f.block x q) s (EG h _ _ j) (b.G f (aE _)) u (v d j)
def Um (g:Bool)(MK:qD)(w:aw)(sb kp mk:Nat)(sv:Value)(bs:List d9)(y:List YM)(P:ax)(nm:au)(Z:ax)(k:Nat)(mv:Value)(m:PM)(h1:dZ w sb #[sv,ah kp] 92)(s:fW w P sv bs y)(h:ki bs)(U:UOK w)(u:gV k w Z mv m)(hZ:¬Z mk/\¬Z kp)(hO:pi k m)(b:∀d,(er bs).msg nm=some d->(eI (er bs) 8 d m).length<=2^47)
  (Y:ax) (j:jP w kp mk (er bs) (mR (y.map (·.1))) Y) (hY:∀x,P x->Y x) (S:∀x,P x->x≠mk/\x≠kp) (v:sb≠mk/\sb≠kp) (A:2≠mk/\2≠kp) (C:3≠mk/\3≠kp):
  Vq (FE g) #[ah sb,aa 2,ag nm,.agg #[mv,ag m.unk]] w λe w'=>e= .returned (.tuple #[oV g (ko (er bs) nm m).1,aa (ko (er bs) nm m).2])/\ee [mk,kp] w w'/\jP w' kp mk (er bs) (mR (y.map (·.1))) λx=>(Y x/\x<w.heap.size)\/(w.heap.size+6<=x/\¬False):=by
 obtain⟨a,c,rfl⟩:=u.form;have⟨N,pm,o⟩:=id j;have L:=o.kb.lt;have J:=o.mb.lt;have f:qE w.heap.size (w.heap.size+6) λw'=>jP w' kp mk (er bs) (mR (y.map (·.1))) λx=>(Y x/\x<w.heap.size)\/(w.heap.size+6<=x/\¬False):=jP.still (Z:=λ_=>False) L J
 have p:∀x∈ [mk,kp],x<w.heap.size:=λx l=>by
  simp only[aR,bW,or_false]at l;rcases l with rfl|rfl;.exact J
  .exact L
 have r:∀x,x≠mk->x≠kp->x∉ [mk,kp]:=λx h1 i=>by simp[h1,i]
 refine SY g (oV g (ko (er bs) nm m).1,(ko (er bs) nm m).2) w p f (j.less λx V b=> .inl ⟨V,b⟩) sb sv _ bs y P nm a m.fs.length c m.unk 2 h1 s (ro s h) (.inr rfl) (λn=> ?_) (λi z t D=> ?_);.unfold ko;rw[tN s n];cases g<;>rfl
 .have i:fW w (λx=>P x/\x<w.heap.size) sv bs y:=s.V λx q b=>⟨q,b⟩
  have⟨d,W,j,I,O,n,R⟩:=Ba i h t D;have X:=nZ j;refine⟨d6 (er bs) 8 d m,oV g ⟨(eI (er bs) 8 d m).toArray⟩,by unfold ko;rw[j];dsimp only;cases d6 (er bs) 8 d m<;>cases g<;>rfl,λn q0 q1 q2 q3 t T Q D F G H=> ?_⟩;have M:∀q,w.heap.size<=q->q∉ [mk,kp]:=λq hq l=>by have:=p q l;omega
  refine Uk g f _ _ n q0 q1 q2 q3 z.1.2 sb kp sv a _ c m.unk D F G H (h1.G t h1.lt) ⟨M _ Q.2.1,M _ Q.2.2.1,M _ Q.2.2.2,r sb v.1 v.2⟩ ?_;have f:ak w n.drew:=t.drew;have t:fW n.drew P sv bs y:=s.O λx _ b=>f.block x b
  have p:∀x,(P x/\x<w.heap.size)->x<w.heap.size/\x≠mk/\x≠kp:=λx q=>⟨q.2,S x q.1⟩
  have s:=(yV i h).O (w':=n.drew) λx q _=>f.block x q.2
  have i:n.drew.heap.size=w.heap.size+6:=T
  have i:Cv kp mk w.heap.size 0 (er bs) (mR (y.map (·.1))) (λx=>P x/\x<w.heap.size) n.drew N pm [] λx=>(Y x/\x<w.heap.size)\/(w.heap.size+6<=x/\¬False):=
   ⟨(o.less λx V b=> .inl ⟨V,b⟩).O (λx b=>f.block x b),s,f.size,Vw,λx l=> .inl ⟨hY x l.1,l.2⟩,λx l=> .inr ⟨Vv,id⟩,p,L,J⟩
  refine(SX kp mk w.heap.size (er bs) (mR (y.map (·.1))) _ MK n.drew N pm z.1.2 d W _ i (by rw[X];exact j) (I.O λx q _=>f.block x q.2) O R).V ?_;rintro v w2 ⟨p,l,i,rfl,s,D,o,rF⟩;refine⟨p,rfl,rF,⟨l,i,D⟩,?_⟩;have o:fW w2 P sv bs y:=t.O λx q b=>rF.block x b (r x (S x q).1 (S x q).2)
  have O:UOK n.drew:=U.O (f.block _ U.lt1) (f.block _ U.lt2);have n:UOK w2:=O.O (rF.block _ O.lt1 (r _ A.1 A.2)) (rF.block _ O.lt2 (r _ C.1 C.2));have l:=Cn o h n
  have W:nT w2 (λx=>x<w2.heap.size) (er bs) (mR (y.map (·.1))) i:=λt q hq=>by
   rcases D.pl t q hq with⟨z,_⟩|⟨R,F,G,H,I⟩;.cases z
   .exact⟨R,F,G,I.mV (.V λx _ b=>b) (λ_ _ q=>q),H⟩
  have⟨R,F,G,H,I⟩:=W _ _ s;obtain rfl:d=R:=(by rw[X,j]at G;exact Option.some.inj G);have i:gV k w2 Z (.slice a m.fs.length c) m:=(u.G f (aE _)).O λx q b=>rF.block x b (r x (λe=>hZ.1 (e▸q)) (λe=>hZ.2 (e▸q)))
  cases g;.exact Mx (EG h) w2 Z _ m d p F k l W H I (EG h _ _ j) i hO (b d j)
  .exact yU (EG h) w2 Z _ m d p F k l W H I (EG h _ _ j) i hO (b d j)
def Pj (g:Bool)(MK:qD)(w:aw)(sb kp mk:Nat)(bs:List d9)(P:ax)(nm:au)(way:Int)(Z:ax)(k:Nat)(mv:Value)(m:PM)(D:mI w sb kp mk bs P)(h:ki bs)(F:UOK w)(H:way=1\/way=2)(i:¬P 2)(j:¬P 3)(f:gV k w Z mv m)(A:∀b,Z b->¬P b)(z:pi k m)(a:∀d,(er bs).msg nm=some d->(eI (er bs) 8 d m).length<=2^47):
  Vq (FE g) #[ah sb,aa way,ag nm,.agg #[mv,ag m.unk]] w λe w'=>e= .returned (.tuple #[oV g (ko (er bs) nm m).1,aa (ko (er bs) nm m).2])/\ee [mk,kp] w w'/\mI w' sb kp mk bs λx=>(P x/\x<w.heap.size)\/w.heap.size<=x:=by
 have⟨v,y,c,⟨G,l,n,o,p⟩,r,t⟩:=id D;rcases H with rfl|rfl;.exact(Ul g w sb v _ bs y _ nm Z k mv m c r h F f z a).V λe w' q=>⟨q.1,.oB q.2,(D.less (P':=λx=>(P x/\x<w.heap.size)\/w.heap.size<=x) λx q a=> .inl ⟨q,a⟩).O λx _ a=>q.2.block x a⟩
 .have s:mk<w.heap.size/\kp<w.heap.size:=(by obtain⟨_,_,u⟩:=t;exact⟨u.mb.lt,u.kb.lt⟩);refine(Um g MK w sb kp mk v bs y _ nm Z k mv m c r h F f ⟨λq=>A _ q n,λq=>A _ q l⟩ z a _ t (λx q=>q.1) (λx q=>⟨q.2.2.2,q.2.2.1⟩) ⟨p,o⟩ ⟨λe=>i (e▸n),λe=>i (e▸l)⟩ ⟨λe=>j (e▸n),λe=>j (e▸l)⟩).V λe w' q=>⟨q.1,q.2.1,?_⟩
  have I:=q.2.1;have C:∀x,x≠kp->x≠mk->x<w.heap.size->w'.heap[x]?=w.heap[x]?:=λx J L a=>I.block x a (by simp[J,L])
  refine⟨v,y,(C sb o p c.lt).J c,⟨.inl ⟨G,c.lt⟩,.inl ⟨l,s.2⟩,.inl ⟨n,s.1⟩,o,p⟩,(r.V (Q:=λx=>(P x/\x≠sb/\x≠kp/\x≠mk)/\x<w.heap.size) λx q a=>⟨q,a⟩).O (λx q a=>C x q.1.2.2.1 q.1.2.2.2 a)|>.V λx q _=>⟨.inl ⟨q.1.1,q.2⟩,q.1.2⟩,?_⟩;exact q.2.2.less λx q _=>q.imp id λq=>Vv
end
def PO {t:au}(b:dX t=3)(a:im 3 t=true):fo (ol t)=true\/ol t=13:=by
 have c:t.toList∈m9:=by have:=nj b;simpa [jK]using this
 have:(fo (ol t)||decide (ol t=13))=true:=by
  unfold ol;unfold im at a;generalize t.toList=l at c a
  revert l;decide+kernel
 simp_all
def Sb {bs:List d9}(h:ki bs):Th (er bs)/\∀d∈(er bs).ms,(d.fs.map (·.num)).Nodup:=by
 have m:∀d∈(er bs).ms,∃b,b∈bs/\b.enum=false/\d=me b:=λd g=>by
  obtain⟨b,c,rfl⟩:=aS.1 g;have:=bA.1 c;grind
 refine⟨⟨(Q5 h).name,λd g n f l=> ?_,λd g f l=> ?_,λd g f l q=> ?_⟩,λd g=> ?_⟩;.obtain⟨b,c,i,rfl⟩:=m d g;have⟨e,t⟩:=fD l;obtain⟨p,j,fr,k,rfl⟩:=uJ.1 t;have:=(h.ok.chk b c i).flds p j fr k;have v:=this.lo;have w:=this.hi;have e:((jd fr.num.1:Nat):Int)=n:=e;omega
 .obtain⟨b,c,i,rfl⟩:=m d g;obtain⟨p,j,fr,k,rfl⟩:=uJ.1 l;exact uH h (zN bs) (Qb h c i j k)
 .obtain⟨b,c,i,rfl⟩:=m d g;obtain⟨p,j,fr,k,rfl⟩:=uJ.1 l;have⟨_,s,_⟩:=uI (h.ok.shape b c p j) k;rw[s]at q;have⟨o,u⟩:=yk h c i j k (of_decide_eq_true q);have e:(er bs).base (jM fr.key)=ol (jM fr.key):=sC h o;refine⟨tA h o,?_,?_⟩;.show fo ((er bs).base (jM fr.key))=true\/(er bs).base (jM fr.key)=13;rw[e];exact PO o u
  .show iM ((er bs).base (jM fr.key))=fk jp (jM fr.key);rw[e];exact DX o
 .obtain⟨b,c,i,rfl⟩:=m d g
  have e:(me b).fs.map (·.num)=(b.parts.flatMap (λp=>p.fields.map (λf=>jd f.num.1))).map (λn:Nat=>(n:Int)):=by
   show(b.parts.flatMap λp=>p.fields.map (ic p.oneof)).map (·.num)=_;rw[List.map_flatMap,List.map_flatMap];congr 1;funext p;rw[bM,bM];rfl
  rw[e];exact List.Pairwise.map _ (λa b r e=>r Vv) (h.ok.chk b c i).nums
end Go.Proofs.YtfebdimolnobaaaGreatDoor
