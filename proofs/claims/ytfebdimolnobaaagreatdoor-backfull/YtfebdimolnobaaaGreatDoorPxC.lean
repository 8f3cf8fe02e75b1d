import Derived.Test.YtfebdimolnobaaaGreatDoorPxB
import Derived.Test.YtfebdimolnobaaaGreatDoorWkE
set_option maxRecDepth 100000
set_option maxHeartbeats 8000000
set_option linter.all false
namespace Go.Proofs.YtfebdimolnobaaaGreatDoor
open Go.RowKit Go.Proofs.Tryz
def qU (a b:au):gQ a b=true<->a.toList=b.toList:=by unfold gQ;simp
def qi {t:au}:∀{l:List d9},(∃b∈l,b.name.1.toList=t.toList)->∃(i:Nat) (b:d9),l[i]?=some b/\b.name.1.toList=t.toList/\lw (l.map me) t=some (me b)
 | [],h=>by simp_all
 |c::l,h=>by
  by_cases q:c.name.1.toList=t.toList;.exact⟨0,c,rfl,q,by rw[bC,lw,dR (show gQ (me c).name t=true from(qU _ _).2 q)]⟩
  .obtain⟨b,a,f⟩:=h;rcases aR.1 a with rfl|a;.simp_all
   .have⟨i,d,g,j,k⟩:=qi (t:=t) (l:=l) ⟨b,a,f⟩;exact⟨i+1,d,by simpa using g,j,by rw[bC,lw,dQ (show¬gQ (me c).name t=true from λe=>q ((qU _ _).1 e))];exact k⟩
def qm {t:au}:∀{l:List d9},(∀b∈l,b.name.1.toList≠t.toList)->lw (l.map me) t=none
 | [],_=>rfl
 |c::l,h=>by
  rw[bC,lw,dQ (show¬gQ (me c).name t=true from λe=>h c aZ ((qU _ _).1 e))];exact qm (λb a=>h b (aY _ a))
def Kr {z:List (au×Nat)}{s t:au}(h:s.toList=t.toList):mR z s=mR z t:=by
 obtain rfl:s=t:=(by apply cS;apply cX.1;rw[<-ByteArray.toList_eq,<-ByteArray.toList_eq];exact h);rfl
def qo {bs:List d9}(a:DH bs){z:List (au×Nat)}(f:z.map (·.1)=el bs){t:au}(h:fk (el bs) t=true):
  ∃(i:Nat) (b:d9) (blk:Nat),(gF bs)[i]?=some b/\(er bs).msg t=some (me b)/\z[i]?=some (b.name.1,blk)/\mR z t=some blk:=by
 have⟨x,q,k⟩:=(jl _ _).1 h;obtain⟨c,p,rfl⟩:=aS.1 q;have⟨i,b,e,n,o⟩:=qi (t:=t) (l:=gF bs) ⟨c,p,k⟩;have d:(z.map (·.1))[i]?=some b.name.1:=by rw[f,jq,aT,e];rfl
 rw[aT]at d;have⟨y,r,m⟩:=bi.1 d;have g:y=(b.name.1,y.2):=by rw[<-m]
 have j:(z.map (·.1)).Pairwise (λx y=>x.toList≠y.toList):=(by rw[f,jq];exact List.Pairwise.sublist (List.Sublist.map _ dE) a.names);refine⟨i,b,y.2,e,o,by rw[r,<-g],?_⟩;rw[<-Kr n];exact qT j (by grind)
def xI {bs:List d9}{z:List (au×Nat)}(c:z.map (·.1)=el bs){t:au}(h:fk (el bs) t=false):(er bs).msg t=none/\mR z t=none:=by
 refine⟨qm (λb a e=> ?_),?_⟩;.have:fk (el bs) t=true:=(jl _ _).2 ⟨_,aS.2 ⟨b,a,rfl⟩,e⟩;simp_all
 .have:=sf z t;simp_all
def ix (ps:List fK):aA:=ps.filterMap λp=>p.oneof.map (·.1)
def nr {types:aA}:∀(fs:List eW) (names:aA) (nums:aB) (n:aA) (m:aB),gB types names nums fs= .ok (n,m)->∀s,fk names s=true->fk n s=true
 | [],names,nums,n,m,h,s,hs=>by
  simp[gB]at h
  simp_all
 |f::fs,names,nums,n,m,h,s,hs=>by
  unfold gB at h;split at h;.cases h
  .rename_i c b a;have g:=sU a;refine nr fs c b n m h s ?_;rw[g.2.2.2.1,lZ,hs];rfl
def sX {types:aA}:∀(ps:List fK) (names:aA) (nums:aB) (n:aA) (m:aB),gS types names nums ps= .ok (n,m)->(∀p∈ps,∀o,p.oneof=some o->dX o.1=1)->
  (ix ps).Pairwise (λx y=>x.toList≠y.toList)/\(∀s∈ix ps,fk names s=false)
 | [],names,nums,n,m,_,_=>⟨List.Pairwise.nil,by simp[ix]⟩
 |p::ps,names,nums,n,m,h,hk=>by
  unfold gS at h;split at h;.cases h
  .rename_i f j a;have ih:=sX ps f j n m h (λq d=>hk q (aY _ d))
   cases ho:p.oneof with
   |none=>
    have e:ix (p::ps)=ix ps:=by simp[ix,ho]
    rw[e];refine⟨ih.1,λs c=> ?_⟩;have i:=ih.2 s c;unfold nh at a;rw[ho]at a;have r:gB types names nums p.fields= .ok (f,j):=by simpa [mX]using a
    cases q:fk names s;.rfl
    .rw[nr _ _ _ _ _ r s q]at i
     cases i
   |some o=>
    have e:ix (p::ps)=o.1::ix ps:=by simp[ix,ho]
    rw[e];have u:dX o.1=1:=hk p aZ o ho;unfold nh at a;rw[ho]at a
    have d:(mX (some o)==1)=true:=by
     show(dX o.1==1)=true
     (simp;omega)
    rw[dR d]at a;split at a;.cases a
    .rename_i t;have k:iT names o.1=false:=by simpa [jM]using t
     have v:fk names o.1=false:=(by unfold iT at k;simp_all);have g:∀s,fk (names++ [o.1]) s=true->fk f s=true:=nr _ _ _ _ _ a;refine⟨List.Pairwise.cons (λy w l=> ?_) ih.1,λs c=> ?_⟩;.have b:=ih.2 y w;rw[g y (by rw[lZ];simp[fk,l])]at b;cases b
     .rcases aR.1 c with rfl|c;.exact v
      .have b:=ih.2 s c;cases q:fk names s;.rfl
       .rw[g s (by rw[lZ,q];rfl)]at b;cases b
def nt {types:aA}:∀(bs:List d9) (names:aA) (m:Nat),fR types names m bs= .ok ()->∀b∈bs,b.enum=false->∃a c,gS types [] [] b.parts= .ok (a,c)
 | [],_,_,_,b,d,_=>by simp at d
 |x::bs,names,m,h,b,d,he=>by
  unfold fR at h;split at h;.cases h
  .split at h
   .rename_i f;split at h;.cases h
    .rcases aR.1 d with rfl|d;.simp_all
     .exact nt bs _ _ h b d he
   .split at h;.cases h
    .split at h;.cases h
     .rename_i g e;rcases aR.1 d with rfl|d;.grind
      .exact nt bs _ _ h b d he
def Fq {t:au}{bs:List d9}(h:iU t= .ok bs){b:d9}(e:b∈bs)(j:b.enum=false):(ix b.parts).Pairwise (λx y=>x.toList≠y.toList):=by
 have f:=r9 h;unfold iU at h;split at h;.cases h
 .split at h;.cases h
  .split at h;.cases h
   .rename_i i;cases h;have⟨a,c,d⟩:=nt _ _ _ i b e j;refine(sX _ _ _ _ _ d (λp d o l=> ?_)).1;rcases(f.shape b e p d).2 with⟨m,g,k,_⟩|⟨g,_⟩;.simp_all
    simp_all
def lx (d:MT)(f:fw):ar:=(d.fs.filter λo=>gQ o.how f.how&&i9 o.how&&decide (o.num≠f.num)).map (·.num)
def Aq (s:au):i9 (oL s)=true:=by
 rfl
def Ou {s t:au}(h:gQ (oL s) (oL t)=true):s.toList=t.toList:=by
 rw[qU]at h;unfold oL at h;rw[ByteArray.toList_eq,ByteArray.toList_eq]at h⊢;simp_all
def Ar (form:Int):i9 (rI none form)=false:=by
 unfold rI;simp only;split;.decide
 .split;.decide
  .split<;>decide
def QP {q p:fK}{o:W}{f g:eW}(a:p.oneof=some o)(b:∀o2,q.oneof=some o2->o2.1.toList≠o.1.toList):(gQ (ic q.oneof g).how (ic p.oneof f).how&&i9 (ic q.oneof g).how)=false:=by
 cases VJ:q.oneof with
 |none=>
  show(gQ (rI none g.form) _&&i9 (rI none g.form))=false
  rw[Ar,cW]
 |some o2=>
  rw[a];show(gQ (oL o2.1) (oL o.1)&&i9 (oL o2.1))=false;cases h:gQ (oL o2.1) (oL o.1);.rfl
  .exact absurd (Ou h) (b o2 VJ)
def As {q p:fK}{o:W}{f:eW}(a:p.oneof=some o)(b:∀o2,q.oneof=some o2->o2.1.toList≠o.1.toList):
  ((q.fields.map (ic q.oneof)).filter λx=>gQ x.how (ic p.oneof f).how&&i9 x.how&&decide (x.num≠(ic p.oneof f).num))= []:=by
 rw[List.filter_eq_nil_iff];intro x c;obtain⟨g,_,rfl⟩:=aS.1 c;rw[QP a b];simp
def Ov (s:au):gQ s s=true:=(qU _ _).2 rfl
def QQ {b:d9}(a:(ix b.parts).Pairwise (λx y=>x.toList≠y.toList))(c:BE b){p:fK}(m:p∈b.parts){f:eW}(C:f∈p.fields):lx (me b) (ic p.oneof f)=qf p f:=by
 unfold lx me;simp only;rw[List.filter_flatMap]
 cases ho:p.oneof with
 |none=>
  have A:∀q∈b.parts,((q.fields.map (ic q.oneof)).filter λx=>gQ x.how (ic none f).how&&i9 x.how&&decide (x.num≠(ic none f).num))= []:=(by intro q _;rw[List.filter_eq_nil_iff];intro x _ j;simp only[aQ]at j;have e:x.how.toList=(rI none f.form).toList:=(qU _ _).1 j.1.1;have z:x.how=rI none f.form:=(by apply cS;apply cX.1;rw[<-ByteArray.toList_eq,<-ByteArray.toList_eq];exact e);have i:=j.1.2;rw[z,Ar]at i;cases i);rw[List.flatMap_eq_nil_iff.2 A];rcases(c p m).2 with⟨o,i,_⟩|⟨_,g,D,_⟩;.simp_all
  .rw[D]at C;have e:f=g:=by simp_all
   unfold qf
   simp_all
 |some o=>
  have⟨n,r,l⟩:=List.append_of_mem m;have s:ix b.parts=ix n++o.1::ix r:=(by rw[l];simp[ix,ho]);rw[s,cl]at a;obtain⟨_,k,B⟩:=a;rw[bu]at k
  have u:∀q∈n,∀d,q.oneof=some d->d.1.toList≠o.1.toList:=λq h d t=>
   B d.1 (List.mem_filterMap.2 ⟨q,h,by simp_all⟩) o.1 aZ
  have v:∀q∈r,∀d,q.oneof=some d->d.1.toList≠o.1.toList:=λq h d t e=>
   k.1 d.1 (List.mem_filterMap.2 ⟨q,h,by simp_all⟩) e.sy
  rw[l,da,bt];rw[List.flatMap_eq_nil_iff.2 (λq h=>by rw[<-ho];exact As ho (u q h)),List.flatMap_eq_nil_iff.2 (λq h=>by rw[<-ho];exact As ho (v q h))];rw[aX,bV,ho];have w:((p.fields.map (ic (some o))).filter λx=>gQ x.how (ic (some o) f).how&&i9 x.how&&decide (x.num≠(ic (some o) f).num))=(p.fields.filter λx=>decide (jE x≠jE f)).map (ic (some o)):=(by rw[List.filter_map];congr 1;apply List.filter_congr;intro x _;show(gQ (oL o.1) (oL o.1)&&i9 (oL o.1)&&decide ((jd x.num.1:Int)≠(jd f.num.1:Int)))=decide (jE x≠jE f);rw[Ov,Aq];rfl);rw[w,bM];rfl
section
open VH
def Q6 (l:List sD)(v:Value)(t:Int)(e:Ending):Prop:=
 (∃(i g:Nat) (x:sD),l[i]?=some x/\x.n=t/\(∀j y,l[j]?=some y->j<i->y.n≠t)/\v.ownBlock=some g/\e= .returned (.pointer (some (aj g (i*8)))))\/((∀x∈l,x.n≠t)/\e= .returned (.pointer none))
def Q7 (w:aw)(pb:Nat)(v:Value)(l:List sD)(t:Int)(lo:Nat)(p:dZ w pb #[v] 254)(d:w.ownsRow lo 268 8 v l.length (l.flatMap jg))(h1:∀x∈l,x.c1.oneCell'=true/\x.c2.oneCell'=true/\x.c3.oneCell'=true/\x.c4.oneCell'=true/\x.c5.oneCell'=true/\x.c6.oneCell'=true/\x.c7.oneCell'=true)
  (m:l.Pairwise (λa b=>a.n<=b.n)) (K:l.length<=2199023255000):
  Calls prog 141 #[ah pb,aa t] w λe w'=>Q6 l v t e/\ak w w':=by
 have z:=LW w v l t lo d h1 m K;obtain⟨a,c,rfl⟩:=iB d;have⟨L,M⟩:=p.I;go_in
 go_wp2_with fail;refine z.V ?_;rintro e w1 ⟨⟨i,rfl,B,o,s⟩,r⟩;have⟨O,P⟩:=(p.G r p.lt).I;clear z L M;by_cases hf:(l.map (·.n))[i]?=some t
 .have h:decide ((l.map (·.n))[i]?=some t)=true:=by simpa using hf
  rw[h]
  have k:i<l.length:=by
   by_cases q:i<l.length;.exact q
   .rw[bg Vx]at hf;cases hf
  rw[aT]at hf;have⟨x,n,F⟩:=bi.1 hf;obtain⟨g,rfl,_,I,_⟩:=eJ d Vv;have C:Hid (l[i]?=some x):=n
  have D:Hid (∀j y,l[j]?=some y->j<i->y.n≠t):=λj y J f=>by
   have:=o j y.n (by rw[aT,J];rfl) f;omega
  clear hf n h B o s;go_wp2;go_ret;exact⟨.inl ⟨i,g,x,C.o,F,D.o,rfl,Vw⟩,r⟩
 .have h:decide ((l.map (·.n))[i]?=some t)=false:=by simpa using hf
  rw[h]
  have E:∀x∈l,x.n≠t:=λx n e=>by
   have⟨j,f⟩:=bX.1 n;have A:(l.map (·.n))[j]?=some x.n:=by rw[aT,f];rfl
   by_cases hji:j<i;.have:=o j x.n A hji;omega
   .by_cases he:j=i;.subst he;rw[A,e]at hf;exact hf rfl
    .have u:j<l.length:=by
      by_cases q:j<l.length;.exact q
      .rw[bg Vv]at f;cases f
     have k:i<l.length:=Vv;rw[cg]at m;have G:=m i j k u Vv;have N:=s i (l[i].n) (by rw[aT,aO k];rfl) (aE _);rw[aO u]at f;rw[Option.some.inj f]at G;have H:l[i].n=t:=Vv;exact hf (by rw[aT,aO k];simp[H])
  clear hf h B o s m;go_wp2;go_ret;exact⟨.inr ⟨E,rfl⟩,r⟩
end
section
variable {P:Program} {ops:Array Oper} {Q:Exit->Act->aw->Prop}
def ve (l:List Bool)(i:Nat)(h:l[i]?=some false):(l.set i true).count false+1=l.count false:=by
 induction l generalizing i with
 |nil=>cases h
 |cons x a ih=>
  cases i with
  |zero=>simp only[cq,Option.some.injEq]at h;subst h;simp
  |succ i=>
   simp only[cp]at h;have q:=ih i h;simp only[aG,List.count_cons];omega
def rl {L:Array Bool}{i:Nat}(h:L.getD i true=false):L.toList[i]?=some false:=by
 rw[bS];rw[Array.getD_eq_getD_getElem?]at h
 cases hq:L[i]? with
 |none=>rw[hq]at h;cases h
 |some x=>rw[hq]at h;exact dV some h
def Ii (P:Program)(ops:Array Oper)(Q:Exit->Act->aw->Prop)(J:Array Bool->Act->aw->Prop)(i:Nat)(o:Oper):Prop:=
 ∀L a w,J L a w->L.getD i true=false->(o.after.all λe=> !Region.binds .any e||L.getD e.on false)=true->
  ∀K:Act->aw->Prop,Shut (∀a' w',J (L.setIfInBounds i true) a' w'->K a' w')->
   if Region.wanted o (yielded ops a.tmps)=true then Oper.wp P o a w K Q else K (a.put o.dst undef) w
def eX {af:Array Edge}{L:Array Bool}{k:Nat}(a:(af.all λe=> !Region.binds .any e||L.getD e.on false)=true)(c:(af.any λe=>Region.binds .any e&&e.on==k)=true):L.getD k false=true:=by
 have⟨i,b,h⟩:=Array.any_eq_true.1 c;rw[aQ]at h;have q:=Array.all_eq_true.1 a i b;rw[h.1,dC,dA,beq_iff_eq.1 h.2]at q;exact q
def nJ (P:Program)(ops:Array Oper)(Q:Exit->Act->aw->Prop)(J:Array Bool->Act->aw->Prop)(k:Nat)(l:List Oper):Prop:=∀j o,l[j]?=some o->Ii P ops Q J (k+j) o
def nJ.nil {J:Array Bool->Act->aw->Prop}{k:Nat}:nJ P ops Q J k []:=λj o h=>by cases h
def nJ.cons {J:Array Bool->Act->aw->Prop}{k:Nat}{o:Oper}{l:List Oper}(h:Ii P ops Q J k o)(b:nJ P ops Q J (k+1) l):nJ P ops Q J k (o::l):=λj x a=>by
 cases j with
 |zero=>simp only[cq,Option.some.injEq]at a;subst a;exact h
 |succ j=>simp only[cp]at a;have q:=b j x a;rwa [Nat.add_right_comm,dg]at q
def Mn (ops:Array Oper):Bool:=(List.range ops.size).all λi=>((ops[i]?).map λo=>o.after.all λe=> !Region.binds .any e||decide (e.on<i)).getD true
def Jq (hb:Mn ops=true){L:Array Bool}(h:Region.ready .any ops L= [])(n:Nat):∀i,i<n->i<ops.size->L.getD i true=true:=by
 induction n with
 |zero=>intro i k;omega
 |succ n ih=>
  intro i k a;by_cases hn:i<n;.exact ih i hn a
  have e:i=n:=Vv;subst e
  cases hg:L.getD i true with
  |true=>rfl
  |false=>
   have b:i∈Region.ready .any ops L:=(by refine mem_ready.2 ⟨hg,_,bU a,λe j g=> ?_⟩;have q:=ca.1 hb i (List.mem_range.2 a);rw[bU a]at q;have c:=Array.all_eq_true_iff_forall_mem.1 q e j;rw[g,dC,dA]at c;have l:=of_decide_eq_true c;have d:=ih e.on l Vv;have m:e.on<L.size:=(by have f:=rl hg;rw[bS]at f;have⟨o,_⟩:=bK.1 f;omega);rw[Array.getD_eq_getD_getElem?,bU m]at d⊢;exact d);rw[h]at b;cases b
def Jr {L:Array Bool}(h:L.toList.count false=0)(i:Nat):L.getD i true=true:=by
 cases hg:L.getD i true with
 |true=>rfl
 |false=>
  have q:=ve _ _ (rl hg);omega
def Js {J:Array Bool->Act->aw->Prop}(hb:Mn ops=true)(t:nJ P ops Q J 0 ops.toList)(h:∀L a w,J L a w->(∀i,i<ops.size->L.getD i true=true)->Q .normal a w):
  ∀(fuel:Nat) (L:Array Bool) (a:Act) (w:aw),L.toList.count false<=fuel->J L a w->wpAny P .any ops Q fuel L a w:=by
 intro fuel
 induction fuel with
 |zero=>
  intro L a w r d;refine⟨List.eq_nil_iff_forall_not_mem.2 λi b=> ?_,h _ _ _ d λi _=>Jr Vv i⟩;have q:=ve _ _ (rl (mem_ready.1 b).1)
  omega
 |succ n ih=>
  intro L a w r d;refine⟨λc=>h _ _ _ d λi b=>Jq hb c (i+1) i (Nat.lt_succ_self i) b,λi b=> ?_⟩;have⟨c,o,j,l⟩:=mem_ready.1 b;have q:=ve _ _ (rl c);have f:=t i o (by rw[bS];exact j);rw[Nat.zero_add]at f;refine wpOp_step j λk p=>f L a w d c ?_ k λg w' m=>p g w' (ih _ g w' ?_ m)
  .rw[Array.all_eq_true_iff_forall_mem];intro e s
   cases hb:Region.binds .any e with
   |false=>rfl
   |true=>simpa using l e s hb
  .rw[Array.toList_setIfInBounds];omega
def kE {id:Nat}{a:Act}{w:aw}(J:Array Bool->Act->aw->Prop)(hm:P.follows .mixedOrders=true)(b:J (Array.replicate ops.size false) a w.drew)
  (hb:Mn ops=true) (c:∀L a w,J L a w->(∀i,i<ops.size->L.getD i true=true)->Q .normal a w) (d:nJ P ops Q J 0 ops.toList):(Code.region id ops true).wp P Q a w:=
 wp_region_any hm (Js hb d c _ _ _ _ Vw b)
end
end Go.Proofs.YtfebdimolnobaaaGreatDoor
