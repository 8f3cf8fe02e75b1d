import Derived.Test.YtfebdimolnobaaaGreatDoorPxC
import Derived.Test.YtfebdimolnobaaaGreatDoorRefO
set_option maxRecDepth 100000
set_option maxHeartbeats 8000000
set_option linter.all false
namespace Go.Proofs.YtfebdimolnobaaaGreatDoor
open Go.RowKit Go.Proofs.Tryz
section
variable {bs:List dS} {t:au}
theorem EA {ws:List W}{j:Nat}(h:nY ws= .ok (bs,j)):∀b∈bs,dN b.name.1=1:=by
 refine od (Q:=λb=>dN b.name.1=1) (λi b j a=> ?_) _ _ _ _ h;unfold ir at a;split at a;.unfold j9 at a;have⟨_,d,_,a⟩:=dQ a;have⟨n,e,c,a⟩:=dQ a;have⟨_,f,_,a⟩:=dQ a;have⟨l,g,_,a⟩:=dQ a;have⟨_,k,_,a⟩:=dQ a;simp at a;obtain⟨rfl,_⟩:=a;exact(gJ _ _ _ _ _ c).2.2
 .unfold gz at a;have⟨_,d,_,a⟩:=dQ a;have⟨n,e,c,a⟩:=dQ a;have⟨_,f,_,a⟩:=dQ a;have⟨l,g,_,a⟩:=dQ a;have⟨_,k,_,a⟩:=dQ a;simp at a;obtain⟨rfl,_⟩:=a;exact(gJ _ _ _ _ _ c).2.2
structure mJ (bs:List dS):Prop where
 ok:Cv bs
 nm:∀b∈bs,dN b.name.1=1
 ones:∀b∈bs,b.enum=false->(g7 b.parts).Pairwise (λx y=>x.toList≠y.toList)
theorem qb (h:gI t= .ok bs):mJ bs:=by
 refine⟨mr h,?_,λb c d=>Ei h c d⟩;unfold gI at h;split at h;.cases h
 .split at h;.cases h
  .rename_i a;split at h;.cases h
   .cases h;exact EA a
theorem rW {s:au}(h:s.toList=t.toList):dN s=dN t:=by rw[ja h]
theorem xF (h:mJ bs)(a:dN t=3):(eM bs).msg t=none:=by
 refine pU λb c e=> ?_
 have:=h.nm b (cl.1 c).1;rw[rW e,a]at this;omega
theorem Gb (a:dN t=3):rN t<=14:=by
 unfold rN;have b:t.toList∈lA:=by have:=oj a;simpa [ip]using this
 generalize t.toList=l at b
 revert l;decide+kernel
theorem zV (h:mJ bs){z:List (au×Nat)}(a:z.map (·.1)=dZ bs)(c:dN t=3\/(dN t=1/\eC (eZ bs) t=true)):(eM bs).base t=16<->((eM bs).msg t).isSome=true:=by
 rw[vK h.ok a c];unfold jd;by_cases h3:dN t=3;.rw[dH h3,xF h h3];have:=Gb h3;simp;omega
 .rw[dG h3]
  cases hm:eC (dZ bs) t with
  |true=>
   have⟨_,_,_,_,b,_,e⟩:=pV h.ok a hm
   simp_all
  |false=>
   have⟨d,b⟩:=wR a hm;simp_all
theorem JQ (a:dN t=3):tP (rN t)=eC jD t:=by
 have b:t.toList∈lA:=by have:=oj a;simpa [ip]using this
 have e:eC jD t=eC jD ⟨t.toList.toArray⟩:=(by unfold eC;rw[ByteArray.toList_eq,ByteArray.toList_eq]);unfold rN;rw[e];generalize t.toList=l at b
 revert l;decide+kernel
end
section
open Go.Maps Go.Sort
open Tq
def vy (k:LV):ay:= [.int .u64 k.1,ae k.2]
def Dd:∀(ss:List LV) (t:Nat),t<ss.length*2->(kC ss)[t]?=some ((vy ss.toArray[t/2]!)[t%2]!)
 | [],t,h=>by simp at h
 |k::ss,0,_=>by simp[kC,vy]
 |k::ss,1,_=>by simp[kC,vy]
 |k::ss,t+2,h=>by
  have b:(t+2)/2=t/2+1:=Te;have c:(t+2)%2=t%2:=Te;have d:t<ss.length*2:=by simp at h;omega
  have a:t/2<ss.length:=Te;rw[b,c];have:=Dd ss t d;simp only[kC,cg];rw[this];congr 3;simp[a]
def z9 (ss:List LV):(flatK vy 2 ss.toArray).toList=kC ss:=by
 apply List.ext_getElem?;intro t;by_cases h:t<ss.length*2;.rw[Dd ss t h,bT,cr (by simpa using h),<-get_flatK vy 2 ss.toArray t (by simpa using h),getElem!_pos _ t (by simpa using h)]
 .rw[bi Tg,bi (by rw[j0];omega)]
def RI (w:aw)(lo:Nat)(v:Value)(l:List LV)(e:Ending)(w':aw):Prop:=
 e= .returned (.tuple #[])/\∃l':List LV,l'.Perm l/\l'.Pairwise (λa b=>¬oK b a)/\w'.ownsRow lo 386 2 v l.length (kC l')/\w.grownBy w' v.ownBlock
def Pi (w:aw)(lo:Nat)(v:Value)(l:List LV)(k:w.ownsRow lo 386 2 v l.length (kC l))(R:l.length<=1099511627776):
  S9 355 #[v,.func (.func 275) #[] #[]] w (RI w lo v l):=by
 by_cases h0:l= [];.subst h0;obtain⟨a,c,rfl⟩:=ig k;refine(AnyF.slices_SortFunc_none (P:=prog) (ρ:=Tryz.sortK_ren) Tryz.sortK a c _ w).V ?_;rintro e w' ⟨rfl,rfl⟩;exact⟨rfl,[],List.Perm.refl _,List.Pairwise.nil,k,⟨rfl,rfl,rfl,aD _,λ_ _ _=>rfl⟩⟩
 .rcases k.2 with⟨rfl,G⟩|⟨g,f,A,rfl,I,q,M,L,N,O⟩;.exact absurd (br G) h0
  .have z:g<w.heap.size:=dP.lt q;have F:∀args w,(callFunc 275 args).run prog w= .ok (.enter 275 args) w:=enters_of func275 Tj rfl;have D:CmpLays prog 275 #[] vy 2 EL g 0 l.toArray.size w:=λm os Q h x y=>EM x y _
   have H:HoldsK vy 2 w g 0 l.toArray:=(by have:=zp (enc:=id) (w:=w) (g:=g) (ss:=kC l) q (by rw[j0,List.map_id,Nat.mul_comm];exact O);rw[<-z9]at this;exact this);have s:=AnyQ.slices_SortFunc Tryz.sortK 2 (λ_=>isAgg386 _) (λ_=>sizeOf386 _) vy (λ_=>rfl) (λx v u=>by simp[vy]at u;rcases u with rfl|rfl<;>rfl) EL RH 275 #[] g 0 f l.toArray w F D H z Tg;have p:l.toArray.size=l.length:=Tf;rw[p]at s;refine s.V ?_;rintro e w' ⟨rfl,o,n,os,r,C,rfl⟩;have h:o.size=l.length:=by rw[r.1];exact p
   obtain⟨b,rfl⟩:∃b:List LV,b.toArray=o:=⟨o.toList,Tf⟩;have t:b.length=l.length:=by simpa using h
   refine⟨rfl,b,?_,?_,?_,tM (enc:=id) (flatK vy 2 b.toArray)⟩;.have d:=r.2.2;rw[<-p]at d;rw[dA,show l.toArray.size=b.toArray.size from by simp[t],dA]at d;simpa using d
   .rw[cj];intro i j J K B;have d:=C i j (aM _) B Te;rw[getElem!_pos b.toArray i (by simpa using J),getElem!_pos b.toArray j (by simpa using K),bN,Ne,QA]at d;simpa using d
   .refine⟨by rw[j0];omega,.inr ⟨g,f,_,rfl,I,Cs (enc:=id) (flatK vy 2 b.toArray) q,M,L,by simp[putCells,N],?_⟩⟩;have:=Ct (enc:=id) A (kC b) (by rw[j0];omega);rw[j0,List.map_id]at this;have E:flatK vy 2 b.toArray=(kC b).toArray:=by rw[<-z9]
    rw[E,Nat.mul_comm,<-t];exact this
def QX (w:aw)(S:List LV->Prop)(e:Ending)(w':aw):Prop:=
 ∃(v:Value) (ss l:List LV),e= .returned v/\S ss/\l.Perm ss/\l.Pairwise (λa b=>¬oK b a)/\w'.ownsRow w.heap.size 386 2 v l.length (kC l)/\aj w w'
def De (w:aw)(Bm N:Nat)(S:List LV->Prop)(p:N<=1099511627776)(q:∀ss,S ss->ss.length<=N)(s:EF w Bm S N):
  Calls prog 273 #[.func (.func 356) #[] #[ag Bm],.func (.func 275) #[] #[]] w (QX w S):=by
 have o:∀args w,(callFunc 356 args).run prog w= .ok (.enter 356 args) w:=enters_of func356 Tj rfl;have t:maxLen=9223372036854775807:=rfl;have n:=(Kl {fn:=λ_=>True} 3 (λ_=>trivial) rfl Te _ #[ag Bm] o S N Te Te w (s _ _ (λ_=>trivial) rfl Te)).calls (λ_ _ h=>by cases h);go_in
 go_wp2_with fail;refine n.V ?_;rintro e w1 ⟨v,ss,rfl,d,b,f⟩;obtain⟨a,c,rfl⟩:=ig b;go_wp2_with fail;refine(Pi w1 w.heap.size _ ss b (aL (q ss d) p)).V ?_;rintro e w2 ⟨rfl,l,g,j,m,r⟩;go_wp2;go_ret;have i:l.length=ss.length:=g.length_eq;exact⟨_,ss,l,rfl,d,g,j,by rw[i];exact m,f.grown r f.size (λk e=>(b.lt k e).1)⟩
end
section
open Tq
def BY (f:Nat):Value:= .func (.func f) #[] #[]
def Gr (k:Nat):Nat:=if ed k=0 then 182 else if ed k=5 then 352 else 353
def Dk (k:Nat):Option Nat:=
 if k=0\/k=9\/k=15 then some 347 else if k=2 then some 348 else if k=4 then some 349 else if k=5 then some 350 else if k=6 then some 351 else none
def mL (w:aw)(Q:ax)(k:Nat)(v:Value):Prop:=
 (Dk k=none/\v=BY (Gr k))\/∃t nb bb,Dk k=some t/\v= .func (.func 447) #[] #[ag nb,ag bb]/\dP w nb #[BY t] 423/\dP w bb #[BY (Gr k)] 489/\Q nb/\Q bb
def mL.O {w w':aw}{Q:ax}{k:Nat}{v:Value}(h:mL w Q k v)(g:∀b,Q b->b<w.heap.size->w'.heap[b]?=w.heap[b]?):mL w' Q k v:=by
 rcases h with h|⟨t,nb,a,i,j,c,d,e,f⟩;.exact .inl h
 .exact .inr ⟨t,nb,a,i,j,(g nb e c.lt).J c,(g a f d.lt).J d,e,f⟩
def Kw (w:aw)(f t:Nat):Calls prog 444 #[BY f,BY t] w λe w'=>∃nb bb,e= .returned (.func (.func 447) #[] #[ag nb,ag bb])/\
  dP w' nb #[BY t] 423/\dP w' bb #[BY f] 489/\w.heap.size<=nb/\w.heap.size<=bb/\aj w w':=by
 have a:= @yG;unfold BY;go_in
 go_wp2;go_ret;exact⟨_,_,rfl,dP.newAt Tf _ _,(dP.new w _ _).alloc _,Te,aD _,((Below.refl _ _).alloc (aD _) _).alloc Tf _⟩
def Q0 (w:aw)(k:Nat)(e:Ending)(w':aw):Prop:=∃v,e= .returned v/\mL w' (λb=>w.heap.size<=b) k v/\aj w w'
def ER (w:aw)(k:Nat)(a:jf k=true):Calls prog 437 #[aa k] w (Q0 w k):=by
 have l:k=0\/k=1\/k=2\/k=3\/k=4\/k=5\/k=6\/k=7\/k=8\/k=9\/k=10\/k=11\/k=12\/k=15:=(by unfold jf at a;simp at a;omega);clear a;have j:∀f t,S9 444 #[.func (.func f) #[] #[],.func (.func t) #[] #[]] w _:=Kw w;rcases l with rfl|rfl|rfl|rfl|rfl|rfl|rfl|rfl|rfl|rfl|rfl|rfl|rfl|rfl
 all_goals
  go_in
  go_wp2_with (first|(go_at_call 444;refine(j _ _).V ?_;rintro e w' ⟨nb,b,rfl,c,d,g,h,i⟩))
  go_ret
  first
   |exact⟨_,rfl,.inl ⟨Th,rfl⟩,Below.refl _ _⟩
   |exact⟨_,rfl,.inr ⟨_,nb,b,rfl,rfl,c,d,g,h⟩,i⟩
section
variable (w:aw) {s:au} {a k:Nat} {x:Int×Nat}
theorem dY.ofDrew {bs:aB}{w w':aw}(h:dY bs w.drew w'):dY bs w w':=⟨h.os,h.tape,h.output,h.size,h.block⟩
def lI (v:Value)(args:ay)(w:aw)(R:Ending->aw->Prop):Prop:=∃(f:Nat) (cap:ay),v= .func (.func f) #[] cap.toArray/\(∀args w,(callFunc f args).run prog w= .ok (.enter f args) w)/\S9 f (args++cap).toArray w R
def ug (s:au)(a k:Nat):Fx (Int×Nat):=if ed k=0 then j8 s a s.size else if ed k=5 then je s a 4 else je s a 8
theorem Hy {x:Int×Int}(h:ug s a k= .error x):iN s a k= .error x:=by
 unfold iN;unfold ug at h;rw[h]
theorem Kx (h:ug s a k= .ok x):iN s a k= .ok (jc k x.1,x.2):=by
 unfold iN;unfold ug at h;rw[h]
theorem Ns (h:j8 s a s.size= .ok x):0<=x.1/\x.1<2^64:=by
 obtain⟨n,z⟩:=x;have⟨b,c,d,e⟩:=jr h;exact⟨To,To⟩
def RJ (n:Int):Int:=if 0<n then 1 else 0
theorem Ky (n:Int)(a:0<=n):S9 351 #[.int .u64 n] w λe w'=>e= .returned (.int .u64 (RJ n))/\w'=w:=FK w n a
theorem ET (rb:Nat)(s:au)(a:Nat)(deep:Int)(k t nb bb:Nat)(h:d6 w rb s a deep)(F:a<=s.size)(B:s.size<=2^47)(d:Dk k=some t)(K:dP w nb #[BY t] 423)(H:dP w bb #[BY (Gr k)] 489)(j:nb≠rb)(i:bb≠rb):
  Calls prog 447 #[ag rb,ag nb,ag bb] w (py w rb s deep (iN s a k) (Value.int .u64)):=by
 have A:k=0\/k=2\/k=4\/k=5\/k=6\/k=9\/k=15:=by
  unfold Dk at d;by_cases h1:k=0\/k=9\/k=15;.omega
  .rw[dG h1]at d;by_cases h2:k=2;.omega
   .rw[dG h2]at d;by_cases h3:k=4;.omega
    .rw[dG h3]at d;by_cases h4:k=5;.omega
     .rw[dG h4]at d;by_cases h5:k=6;.omega
      .rw[dG h5]at d;cases d
 have E:=mx w.drew rb s a deep h B;have D:=AJ w.drew rb s a deep h F B;have f:=K.drew;have g:=H.drew;have G:=f.cell 0;have z:=g.cell 0;obtain⟨r,l⟩:∃r,Hid (iN s a k=r):=⟨_,rfl⟩;have p:Hid (∀x,ug s a k= .error x->r= .error x):=λx b=>l.o.sy.J (Hy b)
 have q:Hid (∀x,ug s a k= .ok x->r= .ok (jc k x.1,x.2)):=λx b=>l.o.sy.J (Kx b)
 rw[l.o];obtain⟨n,m⟩:=Td (Gr k);have u:n=if k=9 then 352 else 182:=(by rw[<-m];rcases A with rfl|rfl|rfl|rfl|rfl|rfl|rfl<;>decide);rw[m]at z;unfold BY at G z;rcases A with rfl|rfl|rfl|rfl|rfl|rfl|rfl
 all_goals
  cases d;simp at u;subst u;clear m;go_in
  go_upto_region 1 with fail
  go_region_held2 (λW=>W.cell? (ai nb 0)=w.drew.cell? (ai nb 0)/\W.cell? (ai bb 0)=w.drew.cell? (ai bb 0))
   (first|exact y|exact⟨rfl,rfl⟩)
   (first
    |(
      go_at_call 182;refine E.V ?_;intro e w1 o;rcases o.part with⟨x,b,rfl,c⟩|⟨x,b,rfl,c,v⟩;.obtain rfl:=p.o x b;unfold dX;go_wp2;exact⟨rfl,c.ofDrew,rfl⟩
      obtain rfl:=q.o x b;have⟨C,I⟩:=Ns b
      have y:w1.cell? (ai nb 0)=w.drew.cell? (ai nb 0)/\w1.cell? (ai bb 0)=w.drew.cell? (ai bb 0):=⟨((f.kept c (by simpa using j)).cell 0).J (f.cell 0).sy,((g.kept c (by simpa using i)).cell 0).J (g.cell 0).sy⟩)
    |(
      go_at_call 352;refine D.V ?_;intro e w1 o;rcases o.part with⟨x,b,rfl,c⟩|⟨x,b,rfl,c,v⟩;.obtain rfl:=p.o x b;unfold dX;go_wp2;exact⟨rfl,c.ofDrew,rfl⟩
      obtain rfl:=q.o x b
      have y:w1.cell? (ai nb 0)=w.drew.cell? (ai nb 0)/\w1.cell? (ai bb 0)=w.drew.cell? (ai bb 0):=⟨((f.kept c (by simpa using j)).cell 0).J (f.cell 0).sy,((g.kept c (by simpa using i)).cell 0).J (g.cell 0).sy⟩)
    |(go_at_call 347;refine(wU _ _).V ?_;rintro e w2 ⟨rfl,rfl⟩)
    |(go_at_call 348;refine(AK _ _).V ?_;rintro e w2 ⟨rfl,rfl⟩)
    |(go_at_call 349;refine(Jj _ _).V ?_;rintro e w2 ⟨rfl,rfl⟩)
    |(go_at_call 350;refine(El _ _ C I).V ?_;rintro e w2 ⟨rfl,rfl⟩)
    |(go_at_call 351;refine(Ky _ _ C).V ?_;rintro e w2 ⟨rfl,rfl⟩))
  go_wp2;go_ret;exact⟨c.ofDrew,rfl,v⟩
theorem Q1 {w:aw}{Q:ax}{v:Value}(p:mL w Q k v)(rb:Nat)(s:au)(a:Nat)(deep:Int)(h:d6 w rb s a deep)(c:a<=s.size)(b:s.size<=2^47)(g:¬Q rb)(d:jf k=true):
  lI v [ag rb] w (py w rb s deep (iN s a k) (Value.int .u64)):=by
 rcases p with⟨f,rfl⟩|⟨t,nb,l,f,rfl,m,n,q,u⟩
 .have o:k=1\/k=3\/k=7\/k=8\/k=10\/k=11\/k=12:=by
   have i:k<=15:=by unfold jf at d;simp at d;omega
   have:∀j:Nat,j<=15->jf j=true->Dk j=none->j=1\/j=3\/j=7\/j=8\/j=10\/j=11\/j=12:=Th;exact this k i d f
  have e:∀(r:Fx (Int×Nat)),(match r with| .error x=> .error x| .ok x=> .ok (x.1,x.2):Fx (Int×Nat))=r:=λr=>by cases r<;>rfl
  rcases o with rfl|rfl|rfl|rfl|rfl|rfl|rfl;.exact⟨182,[],rfl,enters_of func182 Tj rfl,by have:=mx w rb s a deep h b;rw[<-e (j8 s a s.size)]at this;exact this⟩
  .exact⟨182,[],rfl,enters_of func182 Tj rfl,by have:=mx w rb s a deep h b;rw[<-e (j8 s a s.size)]at this;exact this⟩
  .exact⟨352,[],rfl,enters_of func352 Tj rfl,by have:=AJ w rb s a deep h c b;rw[<-e (je s a 4)]at this;exact this⟩
  .exact⟨353,[],rfl,enters_of func353 Tj rfl,by have:=vO w rb s a deep h c b;rw[<-e (je s a 8)]at this;exact this⟩
  .exact⟨353,[],rfl,enters_of func353 Tj rfl,by have:=vO w rb s a deep h c b;rw[<-e (je s a 8)]at this;exact this⟩
  .exact⟨352,[],rfl,enters_of func352 Tj rfl,by have:=AJ w rb s a deep h c b;rw[<-e (je s a 4)]at this;exact this⟩
  .exact⟨353,[],rfl,enters_of func353 Tj rfl,by have:=vO w rb s a deep h c b;rw[<-e (je s a 8)]at this;exact this⟩
 .exact⟨447,[_,_],rfl,enters_of func447 Tj rfl,ET w rb s a deep k t nb l h c b f m n (λe=>g (e▸q)) (λe=>g (e▸u))⟩
end
section
variable {w:aw} {Q:ax} {k:Nat} {v:Value}
def mM (w:aw)(Q:ax)(k:Nat)(v:Value):Prop:=
 (k=13/\v=BY 435)\/(k=14/\v=BY 436)\/(jf k=true/\∃nb nv,v= .func (.func 438) #[] #[ag nb]/\dP w nb #[nv] 489/\Q nb/\mL w Q k nv)
theorem mM.O {w':aw}(h:mM w Q k v)(d:∀b,Q b->b<w.heap.size->w'.heap[b]?=w.heap[b]?):mM w' Q k v:=by
 rcases h with h|h|⟨e,nb,i,f,a,c,g⟩;.exact .inl h
 .exact .inr (.inl h)
 .exact .inr (.inr ⟨e,nb,i,f,(d nb c a.lt).J a,c,g.O d⟩)
theorem mL.form (h:mL w Q k v):∃f cap,v= .func (.func f) #[] cap:=by
 rcases h with⟨_,rfl⟩|⟨t,nb,a,_,rfl,_⟩;.exact⟨_,_,rfl⟩
 .exact⟨_,_,rfl⟩
theorem mL.V {Q':ax}(h:mL w Q k v)(a:∀b,Q b->Q' b):mL w Q' k v:=by
 rcases h with h|⟨t,nb,c,d,e,f,g,i,j⟩;.exact .inl h
 .exact .inr ⟨t,nb,c,d,e,f,g,a _ i,a _ j⟩
def Q2 (w:aw)(k:Nat)(e:Ending)(w':aw):Prop:=∃v,e= .returned v/\mM w' (λb=>w.heap.size<=b) k v/\aj w w'
theorem Ad (w:aw)(k:Nat)(pv:Value)(q:k<=15):Calls prog 420 #[.agg #[aa k,pv]] w (Q2 w k):=by
 have s:= @yG;have a:∀o,aj w (w.alloc o):=λo=>(Tb w).alloc (aD _) o
 have h:=dP.new w #[aa k,pv] 216;have⟨t,u⟩:=h.I;by_cases h13:k=13
 .subst h13;go_in
  go_wp2;go_ret;exact⟨_,rfl,.inl ⟨rfl,rfl⟩,a _⟩
 .by_cases h14:k=14
  .subst h14;go_in
   go_wp2;go_ret;exact⟨_,rfl,.inr (.inl ⟨rfl,rfl⟩),a _⟩
  .have f:jf k=true:=(by have:∀j:Nat,j<=15->j≠13->j≠14->jf j=true:=Th;exact this k q h13 h14);have l:((k:Int)==13)=false:=Tg;have m:((k:Int)==14)=false:=Tg;have n:=ER (w.S6 #[aa k,pv] 216) k f;go_in
   go_wp2_with fail;refine n.V ?_;rintro e w1 ⟨x,rfl,d,i⟩;obtain⟨v,g,rfl⟩:=d.form;go_wp2;go_ret;have c:=dL (a _) i;refine⟨_,rfl,.inr (.inr ⟨f,_,_,rfl,dP.new w1 _ _,c.size,?_⟩),c.alloc c.size _⟩;exact(d.V (λb p=>by simp at p;omega)).O λb _ r=>Below.l _ _ b r
end
end
def PC (w:World)(t:ByteArray):
  Calls prog 423 #[.string t] w λe w'=>e= .returned (.bool (eC jD t))/\Below w.heap.size w w':=by
 have B:=(Tb w).alloc (aD _) (Obj.cells (eh jD).toArray 9)
 have b:(w.alloc (Obj.cells (eh jD).toArray 9)).ownsRow w.heap.size 9 1 (.slice (some ⟨w.heap.size,0,none⟩) 6 6) jD.length (eh jD):=
  ⟨rfl,.inr ⟨_,6,_,rfl,aD _,heap_alloc_new w _,Th,Th,rfl,rfl⟩⟩
 go_in
 go_wp2_with fail;refine(MD _ _ _ jD t Th b).V ?_;rintro e _ ⟨⟨r,rfl,d⟩,rfl⟩;have a:=d.ge;cases hm:eC jD t;.rw[hm]at a;have c:¬0<=r:=of_decide_eq_false a;go_wp2;go_ret;exact⟨im (by rw[hm]),B⟩
 .rw[hm]at a;have c:0<=r:=dI a;go_wp2;go_ret;exact⟨im (by rw[hm]),B⟩
def PD (w:World)(t:ByteArray)(x y:PV)(xm ym:Value)(xu yu:ByteArray)(n:0<=x.1/\x.1<2^64)(p:0<=y.1/\y.1<2^64):
  Calls prog 384 #[.string t,.agg #[.int .u64 x.1,.string x.2.1,xm,.string xu],.agg #[.int .u64 y.1,.string y.2.1,ym,.string yu]] w λe w'=>e= .returned (.bool (kL t x y))/\Below w.heap.size w w':=by
 have g:=(Tb w).alloc (aD _) (Obj.cells #[.int .u64 x.1,.string x.2.1,xm,.string xu] 55);have B:=g.alloc Tf (Obj.cells #[.int .u64 y.1,.string y.2.1,ym,.string yu] 55);have d:=(dP.new w #[.int .u64 x.1,.string x.2.1,xm,.string xu] 55).alloc (Obj.cells #[.int .u64 y.1,.string y.2.1,ym,.string yu] 55);have f:=dP.new1 w (Obj.cells #[.int .u64 x.1,.string x.2.1,xm,.string xu] 55) #[.int .u64 y.1,.string y.2.1,ym,.string yu] 55;go_in
 go_wp2_with fail;refine(PC _ t).V ?_;rintro e w2 ⟨rfl,a⟩;have h:=d.G a d.lt;have j:=f.G a f.lt;have⟨o,q⟩:=h.I;have⟨r,s⟩:=j.I;have c:Below w.heap.size w w2:=B.J ⟨a.os,a.tape,a.output,a.size,λi m=>a.block i (by have:=B.size;omega)⟩;cases hs:(t.toList== [115,116,114,105,110,103])
 .cases hm:eC jD t;.have b:Hid (kL t x y=decide (x.1<y.1)):=(by unfold kL gP;rw[show og.toList= [115,116,114,105,110,103]from by decide+kernel,hs,hm];rfl);go_wp2;go_ret;exact⟨by rw[b.o];rfl,c⟩
  .have b:Hid (kL t x y=decide (AD x.1<AD y.1)):=(by unfold kL gP;rw[show og.toList= [115,116,114,105,110,103]from by decide+kernel,hs,hm];rfl);have k:wrap64 x.1=AD x.1:=by unfold wrap64 AD;split<;>omega
   have l:wrap64 y.1=AD y.1:=by unfold wrap64 AD;split<;>omega
   go_wp2;go_ret;exact⟨by rw[b.o];rfl,c⟩
 .have b:Hid (kL t x y=Op.bytesLess x.2.1.toList y.2.1.toList):=(by unfold kL gP;rw[show og.toList= [115,116,114,105,110,103]from by decide+kernel,hs];rfl);go_wp2;go_ret;exact⟨by rw[b.o];rfl,c⟩
def OH (w0 w:World)(D:Below w0.heap.size w0 w)(k:Nat)(Z:Nat->Prop)(mv:Value)(v kv:PV)(rest:List PV)(h:gQ (k+1) w0 Z mv v.2.2)(p:v.2.2.get 1=kv::rest)(C:v.2.2.fs.length<=1073741824):
  Calls prog 385 #[.agg #[.int .u64 v.1,.string v.2.1,mv,.string v.2.2.unk]] w λe w'=>∃mv',e= .returned (.agg #[.int .u64 kv.1,.string kv.2.1,mv',.string kv.2.2.unk])/\gQ k w0 Z mv' kv.2.2/\Below w.heap.size w w':=by
 obtain⟨d,f,rfl⟩:=h.form;have u:=(dP.new w (S5 v d f) 55).alloc (Obj.cells #[.int .u64 0,.string ⟨#[]⟩,.slice none 0 0,.string ⟨#[]⟩] 55);have m:=dP.new1 w (Obj.cells (S5 v d f) 55) #[.int .u64 0,.string ⟨#[]⟩,.slice none 0 0,.string ⟨#[]⟩] 55;have r:=(Tb w).alloc (aD _) (Obj.cells (S5 v d f) 55);have B:=r.alloc Tf (Obj.cells #[.int .u64 0,.string ⟨#[]⟩,.slice none 0 0,.string ⟨#[]⟩] 55);have⟨T,U⟩:=u.I;have n:Below w0.heap.size w0 ((w.S6 (S5 v d f) 55).S6 #[.int .u64 0,.string ⟨#[]⟩,.slice none 0 0,.string ⟨#[]⟩] 55):=dL D B;have t:Hid (v.2.2.get 1=kv::rest):=p;clear p;go_in
 go_wp2_with fail;refine(FY w0 _ n k Z _ v.2.2 v.2.2.unk 1 h C).V ?_;rintro e w2 ⟨S,rfl,l,j⟩;rw[t.o]at l;obtain⟨Q,R,rfl⟩:=l.form;obtain⟨N,L,M⟩:=l;have⟨G,q,H,I,J,K⟩:=M.get (i:=0) (v:=kv) rfl;obtain⟨E,F,rfl⟩:=q.form;obtain⟨g,rfl,_,c,a⟩:=dV L.1 Tf;have b:=dL n j;have x:=a w2 (b.block g c) _ _ H;have y:=a w2 (b.block g c) _ _ I;have z:=a w2 (b.block g c) _ _ J;have A:=a w2 (b.block g c) _ _ K;simp only[Nat.zero_mul,dg]at x y z A;have o:=m.G j m.lt;have⟨O,P⟩:=o.I;have hlen:(0:Int)<((kv::rest).length:Int):=Tf;have s:Below w.heap.size w w2:=dL B j;clear a;go_wp2;refine dJ (dW results385 _ _ rfl (o.sets_all [_,_,_,_] rfl) underlying55 Tj) rfl ?_;exact⟨_,rfl,q,fH Te [_,_,_,_] 0 s⟩
section
variable {c9:Nat} {P:Value->PM->Prop} {ov:Value} {Tt:ay} {acc:List PV} {x:PV}
structure Bp (w wr:aw)(c9:Nat)(vc kc:aq)(P:Value->PM->Prop)(ov:Value)(Tt:ay)(acc:List PV):Prop where
 b5:dP wr w.heap.size vc 55
 b9:dP wr c9 kc 55
 row:wr.ownsRow (c9+1) 55 4 ov acc.length Tt
 vs:nQ P Tt acc
 bl:aj w wr
 lt:w.heap.size<c9
theorem Bp.on {w wr wb:aw}{vc kc:aq}(h:Bp w wr c9 vc kc P ov Tt acc)(a:aj wr wb):Bp w wb c9 vc kc P ov Tt acc:=
 ⟨h.b5.G a h.b5.lt,h.b9.G a h.b9.lt,dR h.row (λb c=>a.block b (h.row.lt b c).2),h.vs,dL h.bl a,h.lt⟩
theorem Bp.append {w wb w5:aw}{vc kc:aq}{v' mv:Value}(h:Bp w wb c9 vc kc P ov Tt acc)
  (a:w5.ownsRow (c9+1) 55 4 v' (acc.length+1) (Tt++ [.int .u64 x.1,ae x.2.1,mv,ae x.2.2.unk])) (c:wb.grownBy w5 ov.ownBlock) (m:P mv x.2.2):
  Bp w w5 c9 vc kc P v' (Tt++ [.int .u64 x.1,ae x.2.1,mv,ae x.2.2.unk]) (acc++ [x]):=by
 have d:∀b,ov.ownBlock=some b->c9+1<=b:=λb f=>(h.row.lt b f).1
 have g:∀b,b<c9+1->some b≠ov.ownBlock:=λb f e=>by have:=d b e.sy;omega
 have k:=h.lt;refine⟨h.b5.grown c (g _ Te),h.b9.grown c (g _ Te),by simpa using a,h.vs.append ⟨mv,[],rfl,m,rfl⟩,?_,k⟩;exact h.bl.grown c h.bl.size (λj i=>by have:=d j i;omega)
theorem Dw {t:au}{v:PV}{l:List PV}{j:Nat}(h:l[j]?=some x)(done:Bool):
  gq t v done (l.drop j)=(if !done&&(kL t (fJ v) (fJ x)||lP (fJ v) (fJ x))then [v]else [])++
   ((if lP (fJ v) (fJ x)then []else [x])++gq t v (done||(kL t (fJ v) (fJ x)||lP (fJ v) (fJ x))) (l.drop (j+1))):=by
 have a:=gl h;rw[aS a];rw[aP a]at h;cases h;rfl
structure Ij (x:PV):Prop where
 key:∃rest,x.2.2.get 1=fJ x::rest
 lo:0<=(fJ x).1
 hi:(fJ x).1<18446744073709551616
 len:x.2.2.fs.length<=1073741824
theorem Nz (w:aw)(k:Nat)(Z:ax)(t:au)(lv mv:Value)(l:List PV)(v:PV)(h:fk (gQ (k+1) w Z) w Z lv l)(hm:gQ (k+1) w Z mv v.2.2)(a:l.length<=1073741824)(hZ:∀b,w.heap.size<=b->Z b)
  (m:Ij v) (f:∀x∈l,Ij x):
  Calls prog 311 #[ae t,lv,.agg #[.int .u64 v.1,ae v.2.1,mv,ae v.2.2.unk]] w λe w'=>∃vv,e= .returned vv/\fk (gQ (k+1) w' Z) w' Z vv (iF t l v)/\aj w w':=by
 have⟨i0,u,C,TM,TN⟩:=info_parts Tryz.infoV;obtain⟨Q,S,rfl⟩:=hm.form;obtain⟨a,c,rfl⟩:=h.form;obtain⟨cs,y,n⟩:=h;have⟨d,c⟩:=m.key;have⟨B,K⟩:=eY w (S5 v Q S) 55;have⟨j,o⟩:=K.I;obtain⟨R,a⟩:=Td (iF t l v);have g:Hid (R= []++gq t v false (l.drop 0)):=a.sy;rw[a];clear a;have A:=m.lo;have D:=m.hi;go_in
 go_wp2_with fail;refine(OH w _ B k Z _ v (fJ v) d hm c m.len).V ?_;rintro e w1 ⟨c,rfl,a,V⟩;obtain⟨r,s,rfl⟩:=a.form;have c:=(K.G V K.lt).alloc (ak #[.int .u64 (fJ v).1,ae (fJ v).2.1,.slice r (fJ v).2.2.fs.length s,ae (fJ v).2.2.unk] 55);have d:=dP.new w1 #[.int .u64 (fJ v).1,ae (fJ v).2.1,.slice r (fJ v).2.2.fs.length s,ae (fJ v).2.2.unk] 55;have a:=dL (dL B V) ((Tb w1).alloc (aD _) (ak #[.int .u64 (fJ v).1,ae (fJ v).2.1,.slice r (fJ v).2.2.fs.length s,ae (fJ v).2.2.unk] 55));have i:w.heap.size<w1.heap.size:=aI K.lt V.size
 have m:Bp w (w1.alloc (ak #[.int .u64 (fJ v).1,ae (fJ v).2.1,.slice r (fJ v).2.2.fs.length s,ae (fJ v).2.2.unk] 55)) w1.heap.size (S5 v Q S) #[.int .u64 (fJ v).1,ae (fJ v).2.1,.slice r (fJ v).2.2.fs.length s,ae (fJ v).2.2.unk] (gQ (k+1) w Z) (ah) [] []:=
  ⟨c,d,aX _ _ _ _,rfl,a,i⟩
 clear c d a K B j o;go_upto_region 4 with fail
 generalize w1.alloc (ak #[.int .u64 (fJ v).1,ae (fJ v).2.1,.slice r (fJ v).2.2.fs.length s,ae (fJ v).2.2.unk] 55)=w2 at*;generalize w1.heap.size=c9 at*;go_wp2;go_loopw [7,8,10] (λo d i wr=>∃(j:Nat) (done:Bool) (c:ay) (a:List PV),j<=l.length/\a.length<=2*j/\Hid (R=a++gq t v done (l.drop j))/\Bp w wr c9 (S5 v Q S) #[.int .u64 (fJ v).1,ae (fJ v).2.1,.slice r (fJ v).2.2.fs.length s,ae (fJ v).2.2.unk] (gQ (k+1) w Z) o c a/\d= .bool done/\i=aa j) (λ_ _ i _=>l.length-(intOf i).toNat)
 case atStart=>exact⟨0,false,[],[],aM _,aM _,g,m,rfl,rfl⟩
 case round=>
  obtain⟨j,done,c,a,g,Ty,J,P,rfl,rfl⟩:=hrel;obtain⟨T,U,rfl⟩:=ig P.row;have TQ:c9+1<=wr.heap.size:=P.b9.lt;by_cases TC:j<l.length
  .have g:(j:Int)<(l.length:Int):=Te;have⟨x,p⟩:=gx TC;have⟨g,q1,q2,q3,q4,q5⟩:=n.get p;obtain⟨g,i,rfl⟩:=q1.form;obtain⟨g,rfl,_,q,n⟩:=dV y.1 Te;have M:=f x (aO p);have⟨H,F⟩:=M.key;have t1:=n wr (P.bl.block g q) _ _ q2;have t2:=n wr (P.bl.block g q) _ _ q3;have t3:=n wr (P.bl.block g q) _ _ q4;have t4:=n wr (P.bl.block g q) _ _ q5;have G:=M.lo;have y:=M.hi;obtain⟨L,m⟩:=Td (kL t (fJ v) (fJ x));obtain⟨E,i⟩:=Td (lP (fJ v) (fJ x));have f:Hid (R=a++((if !done&&(L||E)then [v]else [])++((if E then []else [x])++gq t v (done||(L||E)) (l.drop (j+1))))):=(by rw[J.o,Dw p,m,i];rfl);have W:Hid (kL t (fJ v) (fJ x)=L):=m;have z:Hid (lP (fJ v) (fJ x)=E):=i;clear J m i;go_wp2_with fail;refine(OH w _ P.bl k Z _ x (fJ x) H q1 F M.len).V ?_;rintro e w3 ⟨i,rfl,F,p⟩;obtain⟨i,m,rfl⟩:=F.form;have X:=(P.on p).on ((Tb w3).alloc (aD _) (ak #[.int .u64 (fJ x).1,ae (fJ x).2.1,.slice i (fJ x).2.2.fs.length m,ae (fJ x).2.2.unk] 55));have N:=dP.new w3 #[.int .u64 (fJ x).1,ae (fJ x).2.1,.slice i (fJ x).2.2.fs.length m,ae (fJ x).2.2.unk] 55;clear t1 t2 t3 t4;go_upto_region 8 with fail
   generalize w3.alloc (ak #[.int .u64 (fJ x).1,ae (fJ x).2.1,.slice i (fJ x).2.2.fs.length m,ae (fJ x).2.2.unk] 55)=w4 at*;have⟨m,K⟩:=X.b9.I;have⟨M,V⟩:=N.I;go_wp2_with fail;refine(PD _ t (fJ v) (fJ x) _ _ _ _ ⟨A,D⟩ ⟨G,y⟩).V ?_;rintro e H ⟨rfl,i⟩;rw[W.o];have A:=X.on i;have Y:=N.G i N.lt;clear m K M V P X N;have⟨m,K⟩:=A.b9.I;have⟨M,V⟩:=Y.I;go_upto_region 9 with fail
   go_cut [13]from 16 to 63 (λi I=>i= .bool E/\I=H)
   case first=>
    by_cases hn:(fJ v).1=(fJ x).1
    .have O:(decide ((fJ v).1=(fJ x).1)&&((fJ v).2.1.toList==(fJ x).2.1.toList))=E:=z.o;rw[decide_eq_true hn,Bool.true_and]at O;have i:((fJ v).1==(fJ x).1)=true:=by simp[hn]
     clear hn;cases E
     .go_wp2;go_meet
      case rel=>exact⟨rfl,rfl⟩
     .go_wp2;go_meet
      case rel=>exact⟨rfl,rfl⟩
    .have O:(decide ((fJ v).1=(fJ x).1)&&((fJ v).2.1.toList==(fJ x).2.1.toList))=E:=z.o;rw[decide_eq_false hn,dh]at O;subst O;go_wp2;go_meet
     case rel=>exact⟨rfl,rfl⟩
   case rest=>
    obtain⟨rfl,i⟩:=hcut;obtain rfl:=i.sy;obtain⟨B,p⟩:=Td ((!done&&(L||E)));have y:Hid ((!done&&(L||E))=B):=p;clear p;go_upto_region 10 with fail
    go_cut [50]from 16 to 63 (λp I=>p= .bool B/\I=H)
    case first=>
     obtain rfl:=y.o;clear f y W z;cases done
     .cases L
      .go_wp2;go_meet
       case rel=>exact⟨rfl,rfl⟩
      .go_wp2;go_meet
       case rel=>exact⟨rfl,rfl⟩
     .go_wp2;go_meet
      case rel=>exact⟨rfl,rfl⟩
    case rest=>
     obtain⟨rfl,i⟩:=hcut;obtain rfl:=i.sy;have X:c9+1<=H.heap.size:=A.b9.lt;have⟨N,O⟩:=A.b5.I;go_upto_if 50 with fail
     go_cut [7,8]from 16 to 63 (λo d I=>∃(p:Bool) (c:ay) (a:List PV),d= .bool p/\a.length<=2*j+1/\Hid (R=a++((if E then []else [x])++gq t v p (l.drop (j+1))))/\Bp w I c9 (S5 v Q S) #[.int .u64 (fJ v).1,ae (fJ v).2.1,.slice r (fJ v).2.2.fs.length s,ae (fJ v).2.2.unk] (gQ (k+1) w Z) o c a)
     case first=>
      cases B
      .go_wp2;go_meet
       case rel=>
        refine⟨done,c,a,rfl,Te,?_,A⟩;have e:(done||(L||E))=done:=by have:=y.o;cases done<;>simp_all
        have:=f.o;rw[y.o,e]at this;exact this
      .go_wp2_with (first|(at_builtin;refine wpList_append_lies _ rfl _ _ 56 rfl (c9+1) 55 i0 _ 4 64 underlying56 u C TM TN rfl Th (.slice T a.length U) a.length c rfl (A.row.alloc _) _ 1 1 [_,_,_,_] rfl rfl (p7 _ _ _ _ _ _) ?g1 Te ?g63 ?gby Tg _ rfl ?_;rotate_right;intro r G w6 F D i o))
       case g1=>exact⟨rfl,rfl,rfl,rfl⟩
       case g63=>unfold maxLen;omega
       case gby=>omega
       go_meet
       case rel=>
        refine⟨true,_,a++ [v],rfl,Tg,?_,(A.on (Tc H _)).append F D hm⟩;have e:(done||(L||E))=true:=by have:=y.o;cases done<;>simp_all
        have d:R=(a++ [v])++((if E then []else [x])++gq t v true (l.drop (j+1))):=by rw[f.o,y.o,e];simp
        exact d
     case rest=>
      clear f A Y m K M V N O y Ty X TQ W z;obtain⟨p,c,a,rfl,Ty,f,P⟩:=hcut;obtain⟨T,U,rfl⟩:=ig P.row;have TQ:c9+1<=wc.heap.size:=P.b9.lt;have t1:=n wc (P.bl.block g q) _ _ q2;have t2:=n wc (P.bl.block g q) _ _ q3;have t3:=n wc (P.bl.block g q) _ _ q4;have t4:=n wc (P.bl.block g q) _ _ q5;cases E
      .have Y:Hid (R=(a++ [x])++gq t v p (l.drop (j+1))):=by
        have d:R=(a++ [x])++gq t v p (l.drop (j+1)):=by rw[f.o];simp
        exact d
       clear f;go_wp2_with (first|(at_builtin;refine wpList_append_lies _ rfl _ _ 56 rfl (c9+1) 55 i0 _ 4 64 underlying56 u C TM TN rfl Th (.slice T a.length U) a.length c rfl (P.row.alloc _) _ 1 1 [_,_,_,_] rfl rfl (p7 _ _ _ _ _ _) ?g1 Te ?g63 ?gby Tg _ rfl ?_;rotate_right;intro r G w6 F D i o))
       case g1=>exact⟨rfl,rfl,rfl,rfl⟩
       case g63=>unfold maxLen;omega
       case gby=>omega
       go_roundw
       case rel=>exact⟨j+1,p,_,a++ [x],Te,Tg,Y,(P.on (Tc wc _)).append F D q1,rfl,by go_num⟩
       case measure=>simp[intOf];omega
      .have Y:Hid (R=a++gq t v p (l.drop (j+1))):=f.o;clear f;go_wp2;go_roundw
       case rel=>exact⟨j+1,p,c,a,Te,Te,Y,P,rfl,by go_num⟩
       case measure=>simp[intOf];omega
  .have d:j=l.length:=Te;have z:Hid (R=a++gq t v done []):=(by have:=J.o;rw[d,cL (aD _)]at this;exact this);have⟨N,O⟩:=P.b5.I;have d:=P.lt;clear J;cases done
   .go_wp2_with (first|(at_builtin;refine wpList_append_lies _ rfl _ _ 56 rfl (c9+1) 55 i0 _ 4 64 underlying56 u C TM TN rfl Th (.slice T a.length U) a.length c rfl (P.row.alloc _) _ 1 1 [_,_,_,_] rfl rfl (p7 _ _ _ _ _ _) ?g1 Te ?g63 ?gby Tg _ rfl ?_;rotate_right;intro r G w6 F D i o))
    case g1=>intro u c;simp at c;rcases c with rfl|rfl|rfl|rfl<;>rfl
    case g63=>unfold maxLen;omega
    case gby=>omega
    go_ret;have C:=(P.on (Tc wr _)).append F D hm;have c:R=a++ [v]:=by have:=z.o;simpa [gq]using this
    rw[c];exact⟨_,rfl,⟨_,⟨iz C.row (aM _),λb d=>hZ b (by have:=(C.row.lt b d).1;omega)⟩,C.vs.imp (λ_ _ h=>h.G C.bl (aD _))⟩,C.bl⟩
   .go_wp2;go_ret;have c:R=a:=by have:=z.o;simpa [gq]using this
    rw[c];exact⟨_,rfl,⟨_,⟨iz P.row (aM _),λb d=>hZ b (by have:=(P.row.lt b d).1;omega)⟩,P.vs.imp (λ_ _ h=>h.G P.bl (aD _))⟩,P.bl⟩
end
def Am (w:aw)(sb:Nat)(S:eE)(lo:Nat):Prop:=iE w (λb=>lo<=b) sb S
def GL (w:aw)(sb:Nat)(l:aA)(lo:Nat):Prop:=∃S,Am w sb S lo/\S.ms.map (λm=>m.name)=l
def QE (w:aw)(sb lo:Nat)(l:aA)(hlen:l.length<=2001)(K:GL w sb l lo):
  Calls prog 18 #[ag sb] w λe w'=>∃v',e= .returned v'/\w'.ownsRow w.heap.size 9 1 v' l.length (eh l)/\aj w w':=by
 have⟨I,y,C,D,E⟩:=info_parts Tryz.info9;obtain⟨S,⟨O,J,cs,h1,_,b,o,_⟩,f⟩:=K;have n:S.ms.length=l.length:=by rw[<-f,bm]
 replace b:=b.1;rw[n]at b
 have F:∀(k:Nat) (x:au),l[k]?=some x->cs[k*2]?=some (ae x):=λk x c=>by
  rw[<-f,aT,bg]at c;obtain⟨m,H,rfl⟩:=c;have⟨_,_,q,_⟩:=o.get H;exact q
 clear n f o;obtain⟨M,N,rfl⟩:=ig b;go_in
 go_wp2;go_loopw [3,4] (λv i wr=>∃k:Nat,k<=l.length/\i=aa k/\wr.ownsRow w.heap.size 9 1 v k (eh (l.take k))/\aj w wr) (λ_ i _=>l.length-(intOf i).toNat)
 case atStart=>exact⟨0,aM _,rfl,by simpa [eh]using aX w w.heap.size 9 1,Below.refl _ _⟩
 case round=>
  obtain⟨k,L,rfl,d,a⟩:=hrel;have⟨P,Q⟩:=(h1.G a h1.lt).I;by_cases hlt:k<l.length
  .have⟨x,c⟩:=gx hlt;obtain⟨g,rfl,_,z,h⟩:=dV b Te;have q:=h wr (a.block g z) (k*2) _ (F k x c);have t:(k:Int)<(l.length:Int):=Te;clear h;go_wp2_with (first|(at_builtin;refine wpList_append_own_at _ rfl _ _ 30 rfl w.heap.size 9 I _ 1 16 underlying30 y C D E rfl Th u3 _ _ rfl (d.alloc _) _ 1 1 [_] rfl rfl (cell_one_new _ _ _) ?h1 ?h63 ?hby ?hba ?_;rotate_right;intro v' w1 A B r p))
   case h1=>intro u s;simp at s;subst s;rfl
   case h63=>unfold maxLen;omega
   case hby=>omega
   case hba=>have:=a.size;simp;omega
   go_roundw
   case rel=>
    refine⟨k+1,Te,by go_num,?_,?_⟩;.rw[bu,c];simpa [eh]using A
    .exact(a.alloc a.size _).grown B (by have:=a.size;simp;omega) (λj G=>(d.lt j G).1)
   case measure=>simp[intOf];omega
  .have t:¬(k:Int)<(l.length:Int):=Te;obtain rfl:k=l.length:=Te;go_wp2;go_ret;refine⟨_,rfl,?_,a⟩;simpa using d
section
variable {ws:List W} {p:PS} {n:Nat}
theorem yk (ws:List W)(p:PS):(rH ws p).i=(fG ws 1 ⟨#[]⟩ p).i/\(rH ws p).bad=(fG ws 1 ⟨#[]⟩ p).bad/\(rH ws p).used=p.used:=by
 unfold rH;split<;>exact⟨rfl,rfl,rfl⟩
theorem yn (ws:List W)(p:PS):(nX ws p).i=(fG ws 1 ⟨#[]⟩ p).i/\(nX ws p).bad=(fG ws 1 ⟨#[]⟩ p).bad/\(nX ws p).used=p.used:=by
 unfold nX;split<;>exact⟨rfl,rfl,rfl⟩
theorem GM (H:jY ws)(h:iC ws p):vB ws (Ce ws p):=by
 have b:=fQ H h 1 ⟨#[]⟩
 have d:iC ws (Dx ws p):=by
  have⟨a,_,c⟩:=yk ws p;refine⟨?_,?_⟩;.show(rH ws p).i<_;rw[a];exact b.lt
  .show(rH ws p).used.length<=(rH ws p).i;rw[a,c];exact b.used
 exact⟨fQ H d 0 ⟨#[123]⟩,λ_=>aM _,λ_=>aM _⟩
theorem LC (H:jY ws)(h:iC ws p):iC ws (BC ws p):=by
 have a:iC ws (fG ws 0 ⟨#[125]⟩ (uo ws p).p):=fQ H (Gz H ws.length _ (GM H h)).ok 0 ⟨#[125]⟩;exact⟨a.lt,a.used⟩
theorem LD (ws:List W):∀(n:Nat) (s:FD),s.p.i<=(Al ws n s).p.i
 |0,_=>aD _
 |n+1,s=>by
  rw[Al];split
  .refine aL ?_ (LD ws n _);unfold nW;split;.exact aL (bC _) (E8 ws (ew s))
   .split;.exact aL (bC _) (E9 ws (ew s))
    .split;.exact aL (bC _) (yj ws _ (ew s))
     .exact yj ws _ s
  .exact aD _
theorem LE (ws:List W)(p:PS):p.i<=(BC ws p).i:=by
 refine aL ?_ (ik ws 0 ⟨#[125]⟩ (uo ws p).p);refine aL ?_ (LD ws ws.length (Ce ws p));refine aL ?_ (ik ws 0 ⟨#[123]⟩ (Dx ws p));show p.i<=(rH ws p).i;rw[(yk ws p).1];exact ik _ _ _ _
theorem Fe (H:jY ws):∀(n:Nat) (p:PS) (l:aA),iC ws p->iC ws (se ws n p l)
 |0,_,_,h=>h
 |n+1,p,l,h=>by
  rw[se];split;.exact Fe H n _ _ (Fc H h l)
  .exact h
theorem LF (ws:List W):∀(n:Nat) (p:PS) (l:aA),p.i<=(se ws n p l).i
 |0,_,_=>aD _
 |n+1,p,l=>by
  rw[se];split;.exact aL (PH ws p l) (LF ws n _ _)
  .exact aD _
theorem LG (H:jY ws)(h:iC ws p):iC ws (rI ws p):=by
 have b:=fQ H h 1 ⟨#[]⟩;have⟨a,_,c⟩:=yn ws p;refine fQ H (p:={nX ws p with names:=p.names++ [(gM ws 1 ⟨#[]⟩ p).1],enums:=p.enums++ [(gM ws 1 ⟨#[]⟩ p).1]}) ⟨?_,?_⟩ 0 ⟨#[123]⟩;.show(nX ws p).i<_;rw[a];exact b.lt
 .show(nX ws p).used.length<=(nX ws p).i;rw[a,c];exact b.used
theorem LH (H:jY ws)(h:iC ws p):iC ws (BD ws p):=fQ H (Fe H _ _ _ (LG H h)) 0 ⟨#[125]⟩
theorem LI (ws:List W)(p:PS):p.i<=(BD ws p).i:=by
 refine aL ?_ (ik ws 0 ⟨#[125]⟩ _);refine aL ?_ (LF ws _ _ _);refine aL ?_ (ik ws 0 ⟨#[123]⟩ {nX ws p with names:=p.names++ [(gM ws 1 ⟨#[]⟩ p).1],enums:=p.enums++ [(gM ws 1 ⟨#[]⟩ p).1]});show p.i<=(nX ws p).i;rw[(yn ws p).1];exact ik _ _ _ _
def sf (ws:List W)(p:PS):PS:=
 if(gh ws p).1.toList== [109,101,115,115,97,103,101]then BC ws (eJ p)
 else if(gh ws p).1.toList== [101,110,117,109]then BD ws (eJ p)
 else{p with bad:=(gh ws p).2}
def tz (ws:List W):Nat->PS->PS
 |0,p=>p
 |n+1,p=>if decide (p.bad<0)&&decide (p.i+1<ws.length)then tz ws n (sf ws p)else p
theorem tA (h:(decide (p.bad<0)&&decide (p.i+1<ws.length))=false):tz ws n p=p:=by
 cases n with
 |zero=>rfl
 |succ n=>rw[tz,dG (by rw[h];decide)]
theorem LJ (h:(decide (p.bad<0)&&decide (p.i+1<ws.length))=true)(a:0<n):tz ws n p=tz ws (n-1) (sf ws p):=by
 cases n with
 |zero=>omega
 |succ n=>rw[tz,dH h];rfl
structure PB (ws:List W)(p:PS):Prop where
 ok:iC ws p
 names:p.names.length<=p.i
 msgs:p.msgs.length<=p.i
 enums:p.enums.length<=p.i
theorem nH (h:iC ws p)(a:p.i+1<ws.length):iC ws (eJ p):=⟨a,aL h.used (bC _)⟩
theorem LK (H:jY ws)(h:PB ws p)(k:p.i+1<ws.length):PB ws (sf ws p):=by
 have e:=nH h.ok k;have g:=h.names;have i:=h.msgs;have j:=h.enums;unfold sf;split
 .have a:=GJ ws (eJ p);have b:(BC ws (eJ p)).names=_:=dK (λt=>t.1) a;have c:(BC ws (eJ p)).msgs=_:=dK (λt=>t.2.1) a;have d:(BC ws (eJ p)).enums=_:=dK (λt=>t.2.2) a;have f:p.i+1<=(BC ws (eJ p)).i:=LE ws (eJ p);refine⟨LC H e,?_,?_,?_⟩;.rw[b];show(p.names++ [_]).length<=_;rw[bf,cE];omega
  .rw[c];show(p.msgs++ [_]).length<=_;rw[bf,cE];omega
  .rw[d];show p.enums.length<=_;omega
 .split
  .have a:=GI ws (eJ p);have b:(BD ws (eJ p)).names=_:=dK (λt=>t.1) a;have c:(BD ws (eJ p)).msgs=_:=dK (λt=>t.2.1) a;have d:(BD ws (eJ p)).enums=_:=dK (λt=>t.2.2) a;have f:p.i+1<=(BD ws (eJ p)).i:=LI ws (eJ p);refine⟨LH H e,?_,?_,?_⟩;.rw[b];show(p.names++ [_]).length<=_;rw[bf,cE];omega
   .rw[c];show p.msgs.length<=_;omega
   .rw[d];show(p.enums++ [_]).length<=_;rw[bf,cE];omega
  .exact⟨⟨h.ok.lt,h.ok.used⟩,g,i,j⟩
theorem DB (a:p.bad<0)(c:p.i+1<ws.length):fo ws (sf ws p)<fo ws p:=by
 have b:∀t:PS,p.i+1<=t.i->fo ws t<fo ws p:=λt d=>by
  unfold fo;rw[dH a];split<;>omega
 unfold sf;split;.exact b _ (LE ws (eJ p))
 .split;.exact b _ (LI ws (eJ p))
  .unfold fo;rw[dH a,dG (by simp only;omega)];omega
theorem LL (H:jY ws):∀(n:Nat) (p:PS),PB ws p->PB ws (tz ws n p)
 |0,_,h=>h
 |n+1,p,h=>by
  rw[tz];split
  .next hc=>
   have a:p.i+1<ws.length:=dI (bK _ _▸hc).2;exact LL H n _ (LK H h a)
  .exact h
def qR (names:aA):List W->Int->Int
 | [],wr=>wr
 |u::us,wr=>qR names us (if eC names u.1 then wr else fA wr u.2)
def yo:PS:=⟨0,-1,-1,[],[],[],[]⟩
def pI (t:au):PS:=tz (eB t) (eB t).length yo
def Ff (t:au):Except (Int×Int) eE:=
 if 2000<t.size then .error (2,0)
 else if 0<=(pI t).bad then .error (2,(pI t).bad)
 else if 0<=qR (pI t).names (pI t).used (pI t).wrong then .error (3,qR (pI t).names (pI t).used (pI t).wrong)
 else .ok ⟨(pI t).msgs,(pI t).enums⟩
def PJ (w:aw)(r:Except (Int×Int) eE)(e:Ending)(w':aw):Prop:=
 (match r with
 | .error (k,p)=>e= .returned (.tuple #[.pointer none,aa k,aa p])
 | .ok S=>∃sb,e= .returned (.tuple #[ag sb,aa 0,aa 0])/\Am w' sb S w.heap.size/\S.ms.length<=2001)/\aj w w'
theorem yq (t:au)(d:t.size<=2000):jY (eB t):=by
 have W:=lm t d;have hlen:=jA t;have b:=Ax t;refine⟨Te,λk x a c=> ?_,λk x a=> ?_⟩
 .rcases gK a with⟨e,_⟩|⟨_,rfl⟩;.omega
  .exact absurd (show 0<(ByteArray.mk #[]).size from c) Th
 .rcases gK a with⟨_,h⟩|⟨_,rfl⟩;.have:=jJ t t.size 0 x h;omega
  .exact aM _
end
end Go.Proofs.YtfebdimolnobaaaGreatDoor
