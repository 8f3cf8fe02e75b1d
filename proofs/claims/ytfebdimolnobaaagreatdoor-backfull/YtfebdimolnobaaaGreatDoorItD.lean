import Derived.Test.YtfebdimolnobaaaGreatDoorWkN
import Derived.Test.YtfebdimolnobaaaGreatDoorFnA
set_option maxRecDepth 100000
set_option maxHeartbeats 8000000
set_option linter.all false
namespace Go.Proofs.YtfebdimolnobaaaGreatDoor
open Go.RowKit Go.Proofs.Tryz
section
open Go.Maps Go.Sort
open VH
def vZ (k:LV):ay:= [.int .u64 k.1,ag k.2]
def Ec:∀(ss:List LV) (t:Nat),t<ss.length*2->(lA ss)[t]?=some ((vZ ss.toArray[t/2]!)[t%2]!)
 | [],t,h=>by simp at h
 |k::ss,0,_=>by simp[lA,vZ]
 |k::ss,1,_=>by simp[lA,vZ]
 |k::ss,t+2,h=>by
  have b:(t+2)/2=t/2+1:=Vv;have c:(t+2)%2=t%2:=Vv;have d:t<ss.length*2:=by simp at h;omega
  have a:t/2<ss.length:=Vv;rw[b,c];have:=Ec ss t d;simp only[lA,cp];rw[this];congr 3;simp[a]
def AH (ss:List LV):(flatK vZ 2 ss.toArray).toList=lA ss:=by
 apply List.ext_getElem?;intro t;by_cases h:t<ss.length*2;.rw[Ec ss t h,bS,bU (by simpa using h),<-get_flatK vZ 2 ss.toArray t (by simpa using h),getElem!_pos _ t (by simpa using h)]
 .rw[bg Vx,bg (by rw[kW];omega)]
def TS (w:aw)(lo:Nat)(v:Value)(l:List LV)(e:Ending)(w':aw):Prop:=
 e= .returned (.tuple #[])/\∃l':List LV,l'.Perm l/\l'.Pairwise (λa b=>¬lI b a)/\w'.ownsRow lo 386 2 v l.length (lA l')/\w.grownBy w' v.ownBlock
def Q1 (w:aw)(lo:Nat)(v:Value)(l:List LV)(k:w.ownsRow lo 386 2 v l.length (lA l))(R:l.length<=4398046511104):
  Vq 355 #[v,.func (.func 275) #[] #[]] w (TS w lo v l):=by
 by_cases h0:l= [];.subst h0;obtain⟨a,c,rfl⟩:=iB k;refine(AnyF.slices_SortFunc_none (P:=prog) (ρ:=Tryz.sortK_ren) Tryz.sortK a c _ w).V ?_;rintro e w' ⟨rfl,rfl⟩;exact⟨rfl,[],List.Perm.refl _,List.Pairwise.nil,k,⟨rfl,rfl,rfl,aE _,λ_ _ _=>rfl⟩⟩
 .rcases k.2 with⟨rfl,G⟩|⟨g,f,C,rfl,I,q,M,L,N,O⟩;.exact absurd (bF G) h0
  .have B:g<w.heap.size:=dZ.lt q;have F:∀args w,(callFunc 275 args).run prog w= .ok (.enter 275 args) w:=enters_of func275 VA rfl;have A:CmpLays prog 275 #[] vZ 2 yw g 0 l.toArray.size w:=λm os Q h x y=>yx x y _
   have H:HoldsK vZ 2 w g 0 l.toArray:=(by have:=Aj (enc:=id) (w:=w) (g:=g) (ss:=lA l) q (by rw[kW,List.map_id,Nat.mul_comm];exact O);rw[<-AH]at this;exact this);have s:=AnyQ.slices_SortFunc Tryz.sortK 2 (λ_=>isAgg386 _) (λ_=>sizeOf386 _) vZ (λ_=>rfl) (λx v u=>by simp[vZ]at u;rcases u with rfl|rfl<;>rfl) yw TR 275 #[] g 0 f l.toArray w F A H B Vx;have p:l.toArray.size=l.length:=Vw;rw[p]at s;refine s.V ?_;rintro e w' ⟨rfl,o,n,os,r,z,rfl⟩;have h:o.size=l.length:=by rw[r.1];exact p
   obtain⟨b,rfl⟩:∃b:List LV,b.toArray=o:=⟨o.toList,Vw⟩;have t:b.length=l.length:=by simpa using h
   refine⟨rfl,b,?_,?_,?_,uw (enc:=id) (flatK vZ 2 b.toArray)⟩;.have d:=r.2.2;rw[<-p]at d;rw[dI,show l.toArray.size=b.toArray.size from by simp[t],dI]at d;simpa using d
   .rw[cg];intro i j J K D;have d:=z i j (aP _) D Vv;rw[getElem!_pos b.toArray i (by simpa using J),getElem!_pos b.toArray j (by simpa using K),cn,Ne,Sr]at d;simpa using d
   .refine⟨by rw[kW];omega,.inr ⟨g,f,_,rfl,I,DE (enc:=id) (flatK vZ 2 b.toArray) q,M,L,by simp[putCells,N],?_⟩⟩;have:=DF (enc:=id) C (lA b) (by rw[kW];omega);rw[kW,List.map_id]at this;have E:flatK vZ 2 b.toArray=(lA b).toArray:=by rw[<-AH]
    rw[E,Nat.mul_comm,<-t];exact this
def SN (w:aw)(S:List LV->Prop)(e:Ending)(w':aw):Prop:=
 ∃(v:Value) (ss l:List LV),e= .returned v/\S ss/\l.Perm ss/\l.Pairwise (λa b=>¬lI b a)/\w'.ownsRow w.heap.size 386 2 v l.length (lA l)/\ak w w'
def Ed (w:aw)(Bm N:Nat)(S:List LV->Prop)(p:N<=4398046511104)(q:∀ss,S ss->ss.length<=N)(s:FZ w Bm S N):
  Calls prog 273 #[.func (.func 356) #[] #[ah Bm],.func (.func 275) #[] #[]] w (SN w S):=by
 have o:∀args w,(callFunc 356 args).run prog w= .ok (.enter 356 args) w:=enters_of func356 VA rfl;have t:maxLen=9223372036854775807:=rfl;have j:=(LI {fn:=λ_=>True} 3 (λ_=>trivial) rfl Vv _ #[ah Bm] o S N Vv Vv w (s _ _ (λ_=>trivial) rfl Vv)).calls (λ_ _ h=>by cases h);go_in
 go_wp2_with fail;refine j.V ?_;rintro e w1 ⟨v,ss,rfl,d,b,f⟩;obtain⟨a,c,rfl⟩:=iB b;go_wp2_with fail;refine(Q1 w1 w.heap.size _ ss b (aM (q ss d) p)).V ?_;rintro e w2 ⟨rfl,l,g,n,i,r⟩;go_wp2;go_ret;have m:l.length=ss.length:=g.length_eq;exact⟨_,ss,l,rfl,d,g,n,by rw[m];exact i,f.grown r f.size (λk e=>(b.lt k e).1)⟩
end
section
open VH
def Dk (f:Nat):Value:= .func (.func f) #[] #[]
def H9 (k:Nat):Nat:=if eM k=0 then 182 else if eM k=5 then 352 else 353
def Ek (k:Nat):Option Nat:=
 if k=0\/k=9\/k=15 then some 347 else if k=2 then some 348 else if k=4 then some 349 else if k=5 then some 350 else if k=6 then some 351 else none
def nF (w:aw)(Q:ax)(k:Nat)(v:Value):Prop:=
 (Ek k=none/\v=Dk (H9 k))\/∃t nb bb,Ek k=some t/\v= .func (.func 447) #[] #[ah nb,ah bb]/\dZ w nb #[Dk t] 423/\dZ w bb #[Dk (H9 k)] 489/\Q nb/\Q bb
def nF.O {w w':aw}{Q:ax}{k:Nat}{v:Value}(h:nF w Q k v)(g:∀b,Q b->b<w.heap.size->w'.heap[b]?=w.heap[b]?):nF w' Q k v:=by
 rcases h with h|⟨t,i,a,j,l,c,d,e,f⟩;.exact .inl h
 .exact .inr ⟨t,i,a,j,l,(g i e c.lt).J c,(g a f d.lt).J d,e,f⟩
def LR (w:aw)(f t:Nat):Calls prog 444 #[Dk f,Dk t] w λe w'=>∃nb bb,e= .returned (.func (.func 447) #[] #[ah nb,ah bb])/\
  dZ w' nb #[Dk t] 423/\dZ w' bb #[Dk f] 489/\w.heap.size<=nb/\w.heap.size<=bb/\ak w w':=by
 have a:= @wA;unfold Dk;go_in
 go_wp2;go_ret;exact⟨_,_,rfl,dZ.newAt Vw _ _,(dZ.new w _ _).alloc _,Vv,aE _,((Below.refl _ _).alloc (aE _) _).alloc Vw _⟩
def SP (w:aw)(k:Nat)(e:Ending)(w':aw):Prop:=∃v,e= .returned v/\nF w' (λb=>w.heap.size<=b) k v/\ak w w'
def Gb (w:aw)(k:Nat)(a:fo k=true):Calls prog 437 #[aa k] w (SP w k):=by
 have l:k=0\/k=1\/k=2\/k=3\/k=4\/k=5\/k=6\/k=7\/k=8\/k=9\/k=10\/k=11\/k=12\/k=15:=(by unfold fo at a;simp at a;omega);clear a;have j:∀f t,Vq 444 #[.func (.func f) #[] #[],.func (.func t) #[] #[]] w _:=LR w;rcases l with rfl|rfl|rfl|rfl|rfl|rfl|rfl|rfl|rfl|rfl|rfl|rfl|rfl|rfl
 all_goals
  go_in
  go_wp2_with (first|(go_at_call 444;refine(j _ _).V ?_;rintro e w' ⟨m,b,rfl,c,d,g,h,i⟩))
  go_ret
  first
   |exact⟨_,rfl,.inl ⟨Vy,rfl⟩,Below.refl _ _⟩
   |exact⟨_,rfl,.inr ⟨_,m,b,rfl,rfl,c,d,g,h⟩,i⟩
section
variable (w:aw) {s:au} {a k:Nat} {x:Int×Nat}
theorem ee.ofDrew {bs:aB}{w w':aw}(h:ee bs w.drew w'):ee bs w w':=⟨h.os,h.tape,h.output,h.size,h.block⟩
def mH (v:Value)(args:ay)(w:aw)(R:Ending->aw->Prop):Prop:=∃(f:Nat) (cap:ay),v= .func (.func f) #[] cap.toArray/\(∀args w,(callFunc f args).run prog w= .ok (.enter f args) w)/\Vq f (args++cap).toArray w R
def uS (s:au)(a k:Nat):Fx (Int×Nat):=if eM k=0 then iV s a s.size else if eM k=5 then ju s a 4 else ju s a 8
theorem Je {x:Int×Int}(h:uS s a k= .error x):jG s a k= .error x:=by
 unfold jG;unfold uS at h;rw[h]
theorem LS (h:uS s a k= .ok x):jG s a k= .ok (lE k x.1,x.2):=by
 unfold jG;unfold uS at h;rw[h]
theorem OV (h:iV s a s.size= .ok x):0<=x.1/\x.1<2^64:=by
 obtain⟨n,z⟩:=x;have⟨b,c,d,e⟩:=jm h;exact⟨VF,VF⟩
def TT (n:Int):Int:=if 0<n then 1 else 0
theorem LT (n:Int)(a:0<=n):Vq 351 #[.int .u64 n] w λe w'=>e= .returned (.int .u64 (TT n))/\w'=w:=wI w n a
theorem Gc (rb:Nat)(s:au)(a:Nat)(deep:Int)(k t nb bb:Nat)(h:ei w rb s a deep)(F:a<=s.size)(B:s.size<=2^47)(d:Ek k=some t)(K:dZ w nb #[Dk t] 423)(H:dZ w bb #[Dk (H9 k)] 489)(j:nb≠rb)(i:bb≠rb):
  Calls prog 447 #[ah rb,ah nb,ah bb] w (pV w rb s deep (jG s a k) (Value.int .u64)):=by
 have A:k=0\/k=2\/k=4\/k=5\/k=6\/k=9\/k=15:=by
  unfold Ek at d;by_cases h1:k=0\/k=9\/k=15;.omega
  .rw[dQ h1]at d;by_cases h2:k=2;.omega
   .rw[dQ h2]at d;by_cases h3:k=4;.omega
    .rw[dQ h3]at d;by_cases h4:k=5;.omega
     .rw[dQ h4]at d;by_cases h5:k=6;.omega
      .rw[dQ h5]at d;cases d
 have E:=nw w.drew rb s a deep h B;have D:=BL w.drew rb s a deep h F B;have f:=K.drew;have g:=H.drew;have G:=f.cell 0;have z:=g.cell 0;obtain⟨r,l⟩:∃r,Hid (jG s a k=r):=⟨_,rfl⟩;have p:Hid (∀x,uS s a k= .error x->r= .error x):=λx b=>l.o.sy.J (Je b)
 have q:Hid (∀x,uS s a k= .ok x->r= .ok (lE k x.1,x.2)):=λx b=>l.o.sy.J (LS b)
 rw[l.o];obtain⟨n,m⟩:=Vu (H9 k);have u:n=if k=9 then 352 else 182:=(by rw[<-m];rcases A with rfl|rfl|rfl|rfl|rfl|rfl|rfl<;>decide);rw[m]at z;unfold Dk at G z;rcases A with rfl|rfl|rfl|rfl|rfl|rfl|rfl
 all_goals
  cases d;simp at u;subst u;clear m;go_in
  go_upto_region 1 with fail
  go_region_held2 (λW=>W.cell? (aj nb 0)=w.drew.cell? (aj nb 0)/\W.cell? (aj bb 0)=w.drew.cell? (aj bb 0))
   (first|exact y|exact⟨rfl,rfl⟩)
   (first
    |(
      go_at_call 182;refine E.V ?_;intro e w1 o;rcases o.part with⟨x,b,rfl,c⟩|⟨x,b,rfl,c,v⟩;.obtain rfl:=p.o x b;unfold d5;go_wp2;exact⟨rfl,c.ofDrew,rfl⟩
      obtain rfl:=q.o x b;have⟨C,I⟩:=OV b
      have y:w1.cell? (aj nb 0)=w.drew.cell? (aj nb 0)/\w1.cell? (aj bb 0)=w.drew.cell? (aj bb 0):=⟨((f.kept c (by simpa using j)).cell 0).J (f.cell 0).sy,((g.kept c (by simpa using i)).cell 0).J (g.cell 0).sy⟩)
    |(
      go_at_call 352;refine D.V ?_;intro e w1 o;rcases o.part with⟨x,b,rfl,c⟩|⟨x,b,rfl,c,v⟩;.obtain rfl:=p.o x b;unfold d5;go_wp2;exact⟨rfl,c.ofDrew,rfl⟩
      obtain rfl:=q.o x b
      have y:w1.cell? (aj nb 0)=w.drew.cell? (aj nb 0)/\w1.cell? (aj bb 0)=w.drew.cell? (aj bb 0):=⟨((f.kept c (by simpa using j)).cell 0).J (f.cell 0).sy,((g.kept c (by simpa using i)).cell 0).J (g.cell 0).sy⟩)
    |(go_at_call 347;refine(px _ _).V ?_;rintro e w2 ⟨rfl,rfl⟩)
    |(go_at_call 348;refine(sY _ _).V ?_;rintro e w2 ⟨rfl,rfl⟩)
    |(go_at_call 349;refine(Kw _ _).V ?_;rintro e w2 ⟨rfl,rfl⟩)
    |(go_at_call 350;refine(Fs _ _ C I).V ?_;rintro e w2 ⟨rfl,rfl⟩)
    |(go_at_call 351;refine(LT _ _ C).V ?_;rintro e w2 ⟨rfl,rfl⟩))
  go_wp2;go_ret;exact⟨c.ofDrew,rfl,v⟩
theorem SQ {w:aw}{Q:ax}{v:Value}(p:nF w Q k v)(rb:Nat)(s:au)(a:Nat)(deep:Int)(h:ei w rb s a deep)(c:a<=s.size)(b:s.size<=2^47)(g:¬Q rb)(d:fo k=true):
  mH v [ah rb] w (pV w rb s deep (jG s a k) (Value.int .u64)):=by
 rcases p with⟨f,rfl⟩|⟨t,q,l,f,rfl,m,n,u,y⟩
 .have o:k=1\/k=3\/k=7\/k=8\/k=10\/k=11\/k=12:=by
   have i:k<=15:=by unfold fo at d;simp at d;omega
   have:∀j:Nat,j<=15->fo j=true->Ek j=none->j=1\/j=3\/j=7\/j=8\/j=10\/j=11\/j=12:=Vy;exact this k i d f
  have e:∀(r:Fx (Int×Nat)),(match r with| .error x=> .error x| .ok x=> .ok (x.1,x.2):Fx (Int×Nat))=r:=λr=>by cases r<;>rfl
  rcases o with rfl|rfl|rfl|rfl|rfl|rfl|rfl;.exact⟨182,[],rfl,enters_of func182 VA rfl,by have:=nw w rb s a deep h b;rw[<-e (iV s a s.size)]at this;exact this⟩
  .exact⟨182,[],rfl,enters_of func182 VA rfl,by have:=nw w rb s a deep h b;rw[<-e (iV s a s.size)]at this;exact this⟩
  .exact⟨352,[],rfl,enters_of func352 VA rfl,by have:=BL w rb s a deep h c b;rw[<-e (ju s a 4)]at this;exact this⟩
  .exact⟨353,[],rfl,enters_of func353 VA rfl,by have:=wH w rb s a deep h c b;rw[<-e (ju s a 8)]at this;exact this⟩
  .exact⟨353,[],rfl,enters_of func353 VA rfl,by have:=wH w rb s a deep h c b;rw[<-e (ju s a 8)]at this;exact this⟩
  .exact⟨352,[],rfl,enters_of func352 VA rfl,by have:=BL w rb s a deep h c b;rw[<-e (ju s a 4)]at this;exact this⟩
  .exact⟨353,[],rfl,enters_of func353 VA rfl,by have:=wH w rb s a deep h c b;rw[<-e (ju s a 8)]at this;exact this⟩
 .exact⟨447,[_,_],rfl,enters_of func447 VA rfl,Gc w rb s a deep k t q l h c b f m n (λe=>g (e▸u)) (λe=>g (e▸y))⟩
end
section
variable {w:aw} {Q:ax} {k:Nat} {v:Value}
def nG (w:aw)(Q:ax)(k:Nat)(v:Value):Prop:=
 (k=13/\v=Dk 435)\/(k=14/\v=Dk 436)\/(fo k=true/\∃nb nv,v= .func (.func 438) #[] #[ah nb]/\dZ w nb #[nv] 489/\Q nb/\nF w Q k nv)
theorem nG.O {w':aw}(h:nG w Q k v)(d:∀b,Q b->b<w.heap.size->w'.heap[b]?=w.heap[b]?):nG w' Q k v:=by
 rcases h with h|h|⟨f,e,j,g,a,c,i⟩;.exact .inl h
 .exact .inr (.inl h)
 .exact .inr (.inr ⟨f,e,j,g,(d e c a.lt).J a,c,i.O d⟩)
theorem nF.form (h:nF w Q k v):∃f cap,v= .func (.func f) #[] cap:=by
 rcases h with⟨_,rfl⟩|⟨t,b,a,_,rfl,_⟩;.exact⟨_,_,rfl⟩
 .exact⟨_,_,rfl⟩
theorem nF.V {Q':ax}(h:nF w Q k v)(a:∀b,Q b->Q' b):nF w Q' k v:=by
 rcases h with h|⟨t,l,c,d,e,f,g,i,j⟩;.exact .inl h
 .exact .inr ⟨t,l,c,d,e,f,g,a _ i,a _ j⟩
def SR (w:aw)(k:Nat)(e:Ending)(w':aw):Prop:=∃v,e= .returned v/\nG w' (λb=>w.heap.size<=b) k v/\ak w w'
theorem AM (w:aw)(k:Nat)(pv:Value)(q:k<=15):Calls prog 420 #[.agg #[aa k,pv]] w (SR w k):=by
 have s:= @wA;have a:∀o,ak w (w.alloc o):=λo=>(Vs w).alloc (aE _) o
 have h:=dZ.new w #[aa k,pv] 216;have⟨t,u⟩:=h.I;by_cases h13:k=13
 .subst h13;go_in
  go_wp2;go_ret;exact⟨_,rfl,.inl ⟨rfl,rfl⟩,a _⟩
 .by_cases h14:k=14
  .subst h14;go_in
   go_wp2;go_ret;exact⟨_,rfl,.inr (.inl ⟨rfl,rfl⟩),a _⟩
  .have f:fo k=true:=(by have:∀j:Nat,j<=15->j≠13->j≠14->fo j=true:=Vy;exact this k q h13 h14);have l:((k:Int)==13)=false:=Vx;have m:((k:Int)==14)=false:=Vx;have n:=Gb (w.Vn #[aa k,pv] 216) k f;go_in
   go_wp2_with fail;refine n.V ?_;rintro e w1 ⟨x,rfl,d,i⟩;obtain⟨v,g,rfl⟩:=d.form;go_wp2;go_ret;have c:=dW (a _) i;refine⟨_,rfl,.inr (.inr ⟨f,_,_,rfl,dZ.new w1 _ _,c.size,?_⟩),c.alloc c.size _⟩;exact(d.V (λb p=>by simp at p;omega)).O λb _ r=>Below.l _ _ b r
end
def Co {w w1 w2:aw}{rb vb:Nat}{s:au}{z:Nat}{deep:Int}(x:LV)(f:ee [rb] w w1)(c:dZ w1 vb #[.int .u64 0,Vp,ai,Vp] 55)(k:w.heap.size<=vb)(j:rb<w.heap.size)(b:ee [rb] w1 w2)(g:ei w2 rb s z deep):
  dZ (((((w2.setCell (aj vb 0) (.int .u64 x.1)).setCell (aj vb 1) (ag x.2)).setCell (aj vb 2) (ai)).setCell (aj vb 3) (Vp))) vb #[.int .u64 x.1,ag x.2,ai,Vp] 55/\
  ee [rb] w (((((w2.setCell (aj vb 0) (.int .u64 x.1)).setCell (aj vb 1) (ag x.2)).setCell (aj vb 2) (ai)).setCell (aj vb 3) (Vp)))/\
  ei (((((w2.setCell (aj vb 0) (.int .u64 x.1)).setCell (aj vb 1) (ag x.2)).setCell (aj vb 2) (ai)).setCell (aj vb 3) (Vp))) rb s z deep:=by
 have h:dZ w2 vb #[.int .u64 0,Vp,ai,Vp] 55:=(b.block _ c.lt Vx).J c;refine⟨(((h.set 0 _).set 1 _).set 2 _).set 3 _,?_,(((dZ.other g 0 _ Vv).other 1 _ Vv).other 2 _ Vv).other 3 _ Vv⟩;have a:=f.J b
 exact⟨a.os,a.tape,a.output,by simpa using a.size,λi d e=>by
  rw[dY,dQ Vv,dY,dQ Vv,dY,dQ Vv,dY,dQ Vv]
  exact a.block i d e⟩
def LU {w:aw}{Q:ax}{k:Nat}{v:Value}(d:nG w Q k v)(rb:Nat)(s:au)(a:Nat)(deep:Int)(h:ei w rb s a deep)(R:a<=s.size)(B:s.size<=2^47)(P:¬Q rb)(C:UOK w)(p:rb≠2)(q:rb≠3):
  mH v [ah rb] w (pV w rb s deep (gG s a k) wN):=by
 have j:ee [rb] w (w.alloc (am #[.int .u64 0,Vp,ai,Vp] 55)):=(ee.refl _ _).alloc _;have A:ei (w.alloc (am #[.int .u64 0,Vp,ai,Vp] 55)) rb s a deep:=dZ.alloc h _;have g:=dZ.new w #[.int .u64 0,Vp,ai,Vp] 55;have K:UOK (w.alloc (am #[.int .u64 0,Vp,ai,Vp] 55)):=C.O (j.block _ C.lt1 (by simp;exact λe=>p e.sy)) (j.block _ C.lt2 (by simp;exact λe=>q e.sy));have z:rb<w.heap.size:=dZ.lt h;obtain⟨r,l⟩:∃r,Hid (gG s a k=r):=⟨_,rfl⟩;rw[l.o];rcases d with⟨rfl,rfl⟩|⟨rfl,rfl⟩|⟨n,G,S,rfl,L,U,M⟩
 .refine⟨435,[],rfl,enters_of func435 VA rfl,?_⟩;have i:Hid (gG s a 13=(match rQ s a with| .error x=> .error x| .ok x=> .ok ((0,x.1),x.2))):=rfl;show Vq 435 #[ah rb] w _;go_enter func435,ntmps435;go_wp2_with fail;generalize(w.alloc (am #[.int .u64 0,Vp,ai,Vp] 55))=w1 at*;refine(Kx w1 rb s a deep A B K p q).V ?_
  cases d:rQ s a with
  |error x=>
   rintro e w2 ⟨c,m⟩;obtain rfl:e=d5 x.1 x.2:=m;obtain rfl:r= .error x:=by rw[<-l.o,i.o,d]
   unfold d5;go_wp2
   exact⟨rfl,j.J c,rfl⟩
  |ok x=>
   rintro e w2 ⟨c,rfl,o⟩;obtain rfl:r= .ok (((0,x.1):LV),x.2):=by rw[<-l.o,i.o,d]
   obtain⟨t,u,y⟩:=Co ((0,x.1):LV) j g (aE _) z c o;obtain⟨H,I⟩:=(show dZ w2 w.heap.size _ _ from(c.block _ g.lt Vx).J g).I;go_wp2;exact dU (ew results435 _ _ rfl t underlying55 VA) rfl ⟨u,rfl,y⟩
 .refine⟨436,[],rfl,enters_of func436 VA rfl,?_⟩;have i:Hid (gG s a 14=(match oq s a with| .error x=> .error x| .ok x=> .ok ((0,x.1),x.2))):=rfl;show Vq 436 #[ah rb] w _;go_enter func436,ntmps436;go_wp2_with fail;generalize(w.alloc (am #[.int .u64 0,Vp,ai,Vp] 55))=w1 at*;refine(Hc w1 rb s a deep A B).V ?_
  cases d:oq s a with
  |error x=>
   rintro e w2 ⟨c,m⟩;obtain rfl:e=d5 x.1 x.2:=m;obtain rfl:r= .error x:=by rw[<-l.o,i.o,d]
   unfold d5;go_wp2
   exact⟨rfl,j.J c,rfl⟩
  |ok x=>
   rintro e w2 ⟨c,rfl,o⟩;obtain rfl:r= .ok (((0,x.1):LV),x.2):=by rw[<-l.o,i.o,d]
   obtain⟨t,u,y⟩:=Co ((0,x.1):LV) j g (aE _) z c o;obtain⟨H,I⟩:=(show dZ w2 w.heap.size _ _ from(c.block _ g.lt Vx).J g).I;go_wp2;exact dU (ew results436 _ _ rfl t underlying55 VA) rfl ⟨u,rfl,y⟩
 .have D:k≠13/\k≠14:=by
   constructor;.intro e;rw[e]at n;exact absurd n Vy
   .intro e;rw[e]at n;exact absurd n Vy
  have i:Hid (gG s a k=(match jG s a k with| .error x=> .error x| .ok x=> .ok ((x.1,⟨#[]⟩),x.2))):=(by show gG s a k=_;unfold gG;rw[dQ D.1,dQ D.2];all_goals (cases jG s a k<;>rfl));refine⟨438,[ah G],rfl,enters_of func438 VA rfl,?_⟩;have J:nF (w.alloc (am #[.int .u64 0,Vp,ai,Vp] 55)) Q k S:=M.O λb _ O=>Below.l _ _ b O
  obtain⟨f,N,rfl,T,E⟩:=SQ J rb s a deep A R B P n;have F:=(L.alloc (am #[.int .u64 0,Vp,ai,Vp] 55)).cell 0;simp only[cG,cq]at F;show Vq 438 #[ah rb,ah G] w _;go_enter func438,ntmps438;go_wp2_with fail;clear F;generalize(w.alloc (am #[.int .u64 0,Vp,ai,Vp] 55))=w1 at*;refine E.V ?_;clear E
  cases d:jG s a k with
  |error x=>
   rintro e w2 ⟨c,m⟩;obtain rfl:e=d5 x.1 x.2:=m;obtain rfl:r= .error x:=by rw[<-l.o,i.o,d]
   unfold d5;go_wp2
   exact⟨rfl,j.J c,rfl⟩
  |ok x=>
   rintro e w2 ⟨c,rfl,o⟩;obtain rfl:r= .ok (((x.1,⟨#[]⟩):LV),x.2):=by rw[<-l.o,i.o,d]
   obtain⟨t,u,y⟩:=Co ((x.1,⟨#[]⟩):LV) j g (aE _) z c o;obtain⟨H,I⟩:=(show dZ w2 w.heap.size _ _ from(c.block _ g.lt Vx).J g).I;go_wp2;exact dU (ew results438 _ _ rfl t underlying55 VA) rfl ⟨u,rfl,y⟩
def Mt (kind kd:Int)(pk:Bool):Bool:=decide (kind=kd)||(decide (kind=2)&&pk)
def Mu (w:aw)(g i:Nat)(kind kd:Int)(pk:Bool)(h1:w.cell? (aj g (i+1))=some (aa kd))(c:w.cell? (aj g (i+2))=some (.bool pk)):
  Calls prog 142 #[.pointer (some (aj g i)),aa kind] w λe w'=>e= .returned (.bool (Mt kind kd pk))/\ak w w':=by
 unfold Mt;by_cases e1:kind=kd
 .have a:(kind==kd)=true:=by simp[e1]
  simp only[e1,decide_true,dt];rw[e1]at a;subst e1;go_in
  go_wp2;go_ret;exact⟨rfl,Below.refl _ _⟩
 .have a:(kind==kd)=false:=by simp[e1]
  simp only[e1,decide_false,dA];by_cases e2:kind=2
  .have b:(kind==2)=true:=by simp[e2]
   simp only[e2,decide_true,df];subst e2;go_in
   go_wp2;go_ret;exact⟨rfl,Below.refl _ _⟩
  .have b:(kind==2)=false:=by simp[e2]
   simp only[e2,decide_false,cV];go_in
   go_wp2;go_ret;exact⟨rfl,Below.refl _ _⟩
end
def pX:Nat->PM->Nat
 |0,_=>0
 |k+1,m=>m.unk.size+(m.fs.map λx=>30+(x.2.map λv=>30+v.2.1.size+pX k v.2.2).sum).sum
def qG {α:Type}{g:α->ap}{h:α->Nat}:∀{l:List α},(∀x∈l,(g x).length<=h x)->(l.flatMap g).length<=(l.map h).sum
 | [],_=>aP _
 |x::l,hx=>by
  have b:=hx x aZ;have c:=qG (l:=l) λy a=>hx y (aY _ a)
  grind
def vg (v:Int):(vi v).length<=10:=(nY 9 v).1
section
variable {S:eF} {R:MT->PM->ap} {f:fw}
def CD {v:PV}{W:Nat}(h:∀t,(R t v.2.2).length<=W):(gp S R f v).length<=10+v.2.1.size+W:=by
 unfold gp;have a:v.2.1.data.toList.length=v.2.1.size:=Vw;split
 .unfold fI;rw[aN];split;.rename_i t _;have:=h t;have:=vg ((R t v.2.2).length:Int);omega
  .have:=vg (([]:ap).length:Int);grind
 .split;.unfold fI;rw[aN,a];have:=vg (v.2.1.size:Int);omega
  .split;.rw[iI];omega
   .split;.rw[iI];omega
    .split;.have:=vg (Cq v.1);omega
     .have:=vg v.1;omega
def Pk {l:List PV}{W:PV->Nat}(h:∀v∈l,∀t,(R t v.2.2).length<=W v):(kN S R f l).length<=30+(l.map λv=>30+v.2.1.size+W v).sum:=by
 have c:∀n k,(fH n k).length<=10:=λn k=>(nY 9 (n*8+k)).1
 unfold kN;split
 .have b:(nH S R f l).length<=(l.map λv=>30+v.2.1.size+W v).sum:=qG λv a=>by
   have:=CD (S:=S) (f:=f) (h v a);omega
  have d:=vg ((nH S R f l).length:Int);have e:=c f.num (oZ S f);unfold fI
  (simp;omega)
 .have b:(l.flatMap λv=>fH f.num (oZ S f)++gp S R f v).length<=(l.map λv=>30+v.2.1.size+W v).sum:=qG λv a=>by
   have:=CD (S:=S) (f:=f) (h v a);grind
  omega
end
def qH {S:eF}:∀(n k:Nat) (d:MT) (m:PM),pi k m->(eI S n d m).length<=pX k m
 |0,_,_,_,_=>aP _
 |_+1,0,_,_,h=>h.elim
 |n+1,k+1,d,m,h=>by
  rw[eI,pX,aN,show m.unk.data.toList.length=m.unk.size by simp]
  have:=qG (g:=kj S (eI S n) d) (h:=λx:PF=>30+(x.2.map λv=>30+v.2.1.size+pX k v.2.2).sum) (l:=m.fs) λx b=>by
   unfold kj;split;.simp
   .exact Pk λv a t=>qH n k t v.2.2 ((h.2.2 x b).2 v a).2.2.2
  omega
section
open VH
def yZ (v c:Nat):Nat:=if c=0 then v%300 else if c=1 then 18446744073709551615-v%300 else if c=2 then v*17179869184 else if c=3 then v*4 else v
def JI (t v:Nat):Nat:=if t=0\/t=4\/t=9\/t=15 then(if v%4294967296<2147483648 then v%4294967296 else v%4294967296+18446744069414584320)else if t=2\/t=7\/t=11 then v%4294967296 else if t=6 then v%2 else v
def zg (raw:ar)(i t:Nat):Nat:=JI t (yZ (iY raw i 1073741824) (iY raw (i+1) 6))
def MO (w:aw)(Z:ax)(gb:Nat)(raw:ar)(i t:Nat)(m:Gv w Z gb raw i)(q:i+2<4398046511104):Calls prog 106 #[ah gb,aa t] w λe w'=>e= .returned (.int .u64 (zg raw i t))/\Gv w' Z gb raw (i+2)/\ee [gb] w w':=by
 have j:=λW (h:Gv W Z gb raw i)=>mJ W Z gb raw i 1073741824 h Vv Vv
 have l:=λW (h:Gv W Z gb raw (i+1))=>mJ W Z gb raw (i+1) 6 h Vv Vv
 have r:iY raw i 1073741824<1073741824:=ia _ Vv;have p:iY raw (i+1) 6<6:=ia _ Vv;unfold zg;generalize iY raw i 1073741824=v at*;generalize iY raw (i+1) 6=c at*;go_in
 go_wp2_with fail;refine(j _ m).V ?_;rintro e w1 ⟨rfl,f,b⟩;go_wp2_with fail;refine(l _ f).V ?_;rintro e w2 ⟨rfl,g,d⟩;have a:=b.J d;clear j l f b d m;have o:c=0\/c=1\/c=2\/c=3\/c=4\/c=5:=Vv;have n:bits .xor .u64 IntKind.u64.max ((v:Int)%300)=18446744073709551615-(v:Int)%300:=(by have a:∀k:Fin 300,bits .xor .u64 IntKind.u64.max (k.val:Int)=18446744073709551615-(k.val:Int):=Vz;have:=a ⟨v%300,Vv⟩;simpa using this);rcases o with rfl|rfl|rfl|rfl|rfl|rfl
 all_goals
  go_wp2
 all_goals
  go_ret;refine⟨dV (λx:Int=>Ending.returned (.int .u64 x)) ?_,g,a⟩;simp only[beq_iff_eq,beq_eq_false_iff_ne,ne_eq]at*;unfold JI;simp only[yZ,if_true,if_false,reduceCtorEq,Nat.reduceEqDiff,Nat.zero_ne_one,Nat.one_ne_zero];clear g a p
  try rw[n]
  clear n
  try simp (disch:=omega) only[dD,wrap64,wrap32,IntKind.wrap_u64]
  first|omega|((repeat' split)<;>omega)
end
section
variable {f:fw} {n:Int} {S:eF} {k:Nat} {t d:MT} {ahead:List PF}
structure Th (S:eF):Prop where
 name:∀d∈S.ms,gQ d.name eS=false
 num:∀d∈S.ms,∀n f,ed d.fs n=some f->1<=n/\n<=536870911
 sub:∀d∈S.ms,∀f∈d.fs,S.base f.ty=16<->(S.msg f.ty).isSome=true
 key:∀d∈S.ms,∀f∈d.fs,f.isMap=true->S.msg f.key=none/\(fo (S.base f.key)=true\/S.base f.key=13)/\iM (S.base f.key)=fk jp f.key
def sF (S:eF)(d:MT):Prop:=d∈S.ms\/∃d'∈S.ms,∃f∈d'.fs,f.isMap=true/\d=eR f
theorem nL {g:fw}(h:ed (eR f).fs n=some g):(n=1/\g=mW f)\/(n=2/\g=pJ f):=by
 simp only[eR,ed]at h;split at h;.cases h;exact .inl ⟨Vv,rfl⟩
 .split at h;.cases h;exact .inr ⟨Vv,rfl⟩
  .cases h
theorem iQ (f:fw):(mW f).isMap=false/\(pJ f).isMap=false/\(mW f).isRep=false/\(pJ f).isRep=false:=⟨lW.1,lW.1,lW.2.1,lW.2.1⟩
theorem jQ (h:f.isMap=false):fB S f=S.base f.ty:=by unfold fB;rw[h];rfl
theorem lD (h:f.isMap=false):fC S f=S.msg f.ty:=by unfold fC;rw[h];rfl
theorem kG (h:f.isMap=true):fC S f=some (eR f):=by unfold fC;rw[h];rfl
theorem Qq (h:fo k=true\/k=13):k≠16:=by
 rcases h with h|h;.unfold fo at h;grind
 .omega
section
variable {S:eF} (hS:Th S) {d:MT}
include hS
theorem sF.num (h:sF S d)(a:ed d.fs n=some f):1<=n/\n<=536870911:=by
 rcases h with h|⟨b,c,g,e,i,rfl⟩;.exact hS.num d h n f a
 .rcases nL a with⟨rfl,_⟩|⟨rfl,_⟩<;>exact⟨Vv,Vv⟩
theorem sF.subF (h:sF S d)(c:ed d.fs n=some f):PC S f:=by
 unfold PC;rcases h with h|⟨a,b,g,e,i,rfl⟩
 .cases hM:f.isMap with
  |true=>rw[zq hM,kG hM];simp
  |false=>rw[jQ hM,lD hM];exact hS.sub d h f (fD c).2
 .rcases nL c with⟨_,rfl⟩|⟨_,rfl⟩;.have⟨j,k,_⟩:=hS.key a b g e i;rw[jQ (iQ g).1,lD (iQ g).1];show S.base g.key=16<->(S.msg g.key).isSome=true;rw[j];have:=Qq k;simp[this]
  .rw[jQ (iQ g).2.1,lD (iQ g).2.1];exact hS.sub a b g e
omit hS in
theorem sF.sub (h:sF S d)(b:ed d.fs n=some f)(a:fC S f=some t):sF S t:=by
 cases hM:f.isMap with
 |false=>rw[lD hM]at a;exact .inl (jx a)
 |true=>
  rw[kG hM]at a;cases a;rcases h with h|⟨c,e,g,i,j,rfl⟩;.exact .inr ⟨d,h,f,(fD b).2,hM,rfl⟩
  .rcases nL b with⟨_,rfl⟩|⟨_,rfl⟩;.rw[(iQ g).1]at hM;cases hM
   .rw[(iQ g).2.1]at hM;cases hM
theorem RT {dp:Nat}(h:sF S t)(j:dp<=8)(e:∀f,t=eR f->dp=8->(S.msg f.ty).isSome=false):pU S t dp=false:=by
 unfold pU;split;.simp;omega
 .rename_i b;simp only[cO,cT,not_or,Bool.not_eq_false,bne_iff_ne,ne_eq,Decidable.not_not]at b;obtain⟨a,c⟩:=b;rcases h with h|⟨i,_,g,_,_,rfl⟩;.rw[hS.name t h]at a;cases a
  .exact e g rfl c
end
theorem CS {x:Nat}:∀{l:aB},x∈l->x<=l.sum
 |y::l,h=>by
  rw[ck];rcases aR.1 h with rfl|h;.omega
  .have:=CS h;omega
theorem Ix {t:au}{x y:PV}(c:0<=x.1/\x.1<2^64/\(gQ t lF=true->x.1=0)/\(gQ t lF=false->x.2.1=eS))(f:0<=y.1/\y.1<2^64/\(gQ t lF=true->y.1=0)/\(gQ t lF=false->y.2.1=eS)):
  (kS t x y=true<->lI (kr t x) (kr t y))/\(iD x y=true->jH (kr t x) (kr t y)):=by
 obtain⟨g,i,j,a⟩:=c;obtain⟨k,l,m,b⟩:=f;refine⟨?_,λh=> ?_⟩
 .unfold kS lI kr
  cases hs:gQ t lF with
  |true=>
   simp_all
  |false=>
   rw[a hs,b hs];have e:¬Op.bytesLess eS.toList eS.toList=true:=Vz;simp only[e,and_false,or_false,aU,if_false]
   cases fk jp t with
   |true=>
    simp only[if_true,dS];unfold Dy
    split<;>split<;>omega
   |false=>simp
 .unfold iD at h;simp only[aQ,dS,gR]at h;unfold jH kr;simp_all
theorem tZ {sg:Bool}:∀{l:List PV} {last:Option LV},jI sg last l=true->(∀e∈l,(e.2.2.fs.length==2)=true/\ox e.2.2.unk=true)/\l.Pairwise (λx y=>lI (tI sg x) (tI sg y))/\∀k,last=some k->∀e∈l,lI k (tI sg e)
 | [],_,_=>⟨λe h=>by grind,.nil,λk _ e h=>by grind⟩
 |x::l,last,h=>by
  unfold jI at h;simp only[aQ]at h;obtain⟨⟨⟨m,n⟩,a⟩,f⟩:=h;have⟨o,j,c⟩:=tZ f;refine⟨λe b=> ?_,.cons (λy i=>c _ rfl y i) j,λk g e b=> ?_⟩;.grind
  .subst g;have a:lI k (tI sg x):=(Cl _ _).1 (of_decide_eq_true a);rcases aR.1 b with rfl|b;.exact a
   .exact kh a (c _ rfl e b)
theorem Y5 {m:PM}(a:pX (k+1) m<=2^47):∀x∈m.fs,(x.2.map λv=>30+v.2.1.size+pX k v.2.2).sum<=2^47:=λx b=>by
 rw[pX]at a;have:30+(x.2.map λv=>30+v.2.1.size+pX k v.2.2).sum<=(m.fs.map λx=>30+(x.2.map λv=>30+v.2.1.size+pX k v.2.2).sum).sum:=CS (aS.2 ⟨x,b,rfl⟩);omega
section
variable {S:eF} (hS:Th S)
include hS
theorem M8 {k':Nat}{l:List PV}(A:sF S d)(q:ed d.fs n=some f)(c:f.isMap=true)(j:fG S (d6 S k) f l=true)(K:∀v∈l,pi k' v.2.2):
  (∀v∈l,gD v.2.2=v.2.2)/\(l.Pairwise λx y=>kS f.key (fS y) (fS x)=false/\iD (fS y) (fS x)=false)/\(k=1->l≠ []->(S.msg f.ty).isSome=false):=by
 have s:d∈S.ms:=by
  rcases A with h|⟨R,A,g,T,V,rfl⟩;.exact h
  .rcases nL q with⟨_,rfl⟩|⟨_,rfl⟩;.rw[(iQ g).1]at c;cases c
   .rw[(iQ g).2.1]at c;cases c
 have⟨X,N,O⟩:=hS.key d s f (fD q).2 c;unfold fG ku at j;rw[dR c,O]at j;simp only[aQ,ca]at j;obtain⟨⟨_,J⟩,E⟩:=j;have⟨u,F,_⟩:=tZ E
 have z:∀v∈l,d6 S k (eR f) v.2.2=true:=λv a=>by
  have:=J v a;unfold eE at this;rw[dR (zq c),kG c]at this;simp_all
 cases k with
 |zero=>
  have:∀v∈l,False:=λv a=>by have:=z v a;cases this
  cases l with
  |nil=>simp
  |cons v l=>grind
 |succ k=>
  have o:=λv a=>Bl (z v a) (u v a).1 (u v a).2
  have r:∀v∈l,tI (fk jp f.key) v=kr f.key (fS v)/\0<=(fS v).1/\(fS v).1<2^64/\(gQ f.key lF=true->(fS v).1=0)/\(gQ f.key lF=false->(fS v).2.1=eS):=λv a=>by
   have⟨x,y,i,e,_⟩:=o v a;have p:fS v=x:=by unfold fS;rw[i];rfl
   have C:Rc v=x:=by unfold Rc;rw[i];rfl
   have W:0<=x.1/\x.1<2^64:=by
    have:=K v a;rw[i]at this
    cases k' with
    |zero=>exact this.elim
    |succ k'=>
     have:=(this.2.2 (1,[x]) (by simp[PM.fs])).2 x aZ;omega
   have w:fB S (mW f)=S.base f.key:=jQ (iQ f).1;refine⟨by unfold tI FQ kr;rw[C,p],by simp_all,by simp_all,λm=> ?_,λm=> ?_⟩;.rw[p];have I:fB S (mW f)=13:=w.J (mm.2 m);unfold eE at e;grind
   .rw[p]
    have B:fo (fB S (mW f))=true:=by
     rw[w];rcases N with h|h;.exact h
     .rw[mm.1 h]at m;cases m
    exact dV Prod.fst (rz B e).1
  refine⟨λv a=> ?_,F.imp_of_mem fun{x y} e b h=> ?_,λU L=> ?_⟩;.have⟨x,y,i,_⟩:=o v a;rw[i,ET]
  .have⟨G,e⟩:=r x e;have⟨H,b⟩:=r y b;have⟨P,Q⟩:=Ix b e;rw[G,H]at h;constructor
   .cases hc:kS f.key (fS y) (fS x)with
    |false=>rfl
    |true=>exact absurd (kh h (P.1 hc)) (pC _)
   .cases hc:iD (fS y) (fS x)with
    |false=>rfl
    |true=>exact absurd (Q hc).sy (lP h)
  .obtain rfl:k=0:=Vv
   cases l with
   |nil=>simp_all
   |cons v l=>
    have⟨x,y,_,_,b⟩:=o v aZ
    cases hc:(S.msg f.ty).isSome with
    |false=>rfl
    |true=>
     have D:fB S (pJ f)=16:=(jQ (iQ f).2.1).J ((hS.sub d s f (fD q).2).2 hc);have⟨t,M⟩:=co.1 hc;unfold eE at b;rw[dR D,lD (iQ f).2.1]at b;rw[show S.msg (pJ f).ty=some t from M]at b;simp only[aQ]at b;cases b.2
theorem Y6 {n deep:Nat}{x:PF}{u:au}(F:n+1+deep=9)(i:sF S d)
  (ih:∀t m,sF S t->d6 S n t m=true->pi k m->pX k m<=2^47->rd S (bl (eI S n t m)) t PM.none (deep+1)= .ok m)
  (c:(match ed d.fs x.1 with|none=>false|some f=>kx (lx d f) x.1 ahead&&fG S (d6 S n) f x.2)=true)
  (b:∀v∈x.2,0<=v.1/\v.1<2^64/\v.2.1.size<=4398046511104/\pi k v.2.2) (w:(x.2.map λv=>30+v.2.1.size+pX k v.2.2).sum<=2^47):
  rd S (bl (kj S (eI S n) d x)) d (.mk ahead u) deep= .ok (.mk (ahead++ [x]) u):=by
 have y:∀v∈x.2,pX k v.2.2<=2^47:=λv a=>by
  have:30+v.2.1.size+pX k v.2.2<=(x.2.map λv=>30+v.2.1.size+pX k v.2.2).sum:=CS (aS.2 ⟨v,a,rfl⟩);omega
 cases hf:ed d.fs x.1 with
 |none=>simp_all
 |some f=>
  rw[hf]at c;simp only[aQ]at c;obtain⟨z,l⟩:=c;have⟨A,B⟩:=i.num hS hf;unfold kj;rw[hf];refine M6 A B hf (i.subF hS hf) z l (λv a=> ?_) ?_ (λv a t j p=> ?_) (λh=> ?_);.grind
  .have D:(x.2.flatMap λv=>gp S (eI S n) f v).length<=(x.2.map λv=>30+v.2.1.size+pX k v.2.2).sum:=qG λv a=>by
    have:=CD (S:=S) (f:=f) (R:=eI S n) (v:=v) (W:=pX k v.2.2) λt=>qH n k t v.2.2 (b v a).2.2.2
    omega
   omega
  .have s:n≠0:=(by rintro rfl;cases p);have o:=i.sub hf j;refine⟨ih t v.2.2 o p (b v a).2.2.2 (y v a),RT hS o Vv (λg r E=> ?_),?_⟩
   .have h:f.isMap=true:=by
     cases h:f.isMap with
     |true=>rfl
     |false=>
      exfalso;rw[lD h]at j;have:=hS.name t (jx j);rw[r]at this;have this:gQ eS eS=false:=this
      revert this;decide+kernel
    rw[kG h]at j;have e:=Option.some.inj j;rw[r]at e
    have C:f.ty=g.ty:=by
     have:=dV (λq:MT=>q.fs.map (·.ty)) e;simp[eR]at this;simp_all
    rw[<-C];exact(M8 hS i hf h l (λv a=>(b v a).2.2.2)).2.2 Vv (List.ne_nil_of_mem a)
   .have:=qH (S:=S) n k t v.2.2 (b v a).2.2.2;grind
  .have:=M8 hS i hf h l (λv a=>(b v a).2.2.2);grind
theorem CT:∀(n deep:Nat) (d:MT) (m:PM) (k:Nat),n+deep=9->sF S d->d6 S n d m=true->pi k m->pX k m<=2^47->rd S (bl (eI S n d m)) d PM.none deep= .ok m
 |0,_,_,_,_,_,_,h,_,_=>by cases h
 |_+1,_,_,_,0,_,_,_,h,_=>h.elim
 |n+1,deep,d,m,k+1,hn,hd,h,hO,hw=>by
  rw[d6]at h;simp only[aQ]at h;obtain⟨q,p⟩:=h
  have fields:∀(l ahead:List PF),(∀x∈l,x∈m.fs)->gX S (d6 S n) d ahead l=true->rd S (bl (l.flatMap (kj S (eI S n) d))) d (.mk ahead eS) deep= .ok (.mk (ahead++l) eS):=λl=>by
   induction l with
   |nil=>
    intro ahead _ _;rw[bV]
    rfl
   |cons x l f=>
    intro ahead e a;rw[gX]at a;simp only[aQ]at a;obtain⟨b,g⟩:=a;have c:=e x aZ;rw[bt,pH];have:=f (ahead++ [x]) (λy s=>e y (aY _ s)) g;rw[bj]at this;exact Gu (Y6 hS hn hd (λt m r i j o=>CT n (deep+1) t m k Vv r i j o) b (hO.2.2 x c).2 (Y5 hw x c)) this
  rw[eI,pH];refine Gu (fields m.fs [] (λ_ h=>h) q) ?_;rw[CJ,RQ p];obtain⟨fs,u⟩:=m;show Except.ok (PM.mk fs (eS++u))=_;have:eS++u=u:=jA VB;rw[this]
end
end
def Su (d:MT)(y x:PF):Prop:=y.1<x.1/\∀f,ed d.fs x.1=some f->y.1∉lx d f
def kn (S:eF)(R:MT->PM->Bool)(d:MT)(x:PF):Prop:=∃f,ed d.fs x.1=some f/\fG S R f x.2=true
def pK {S:eF}{R:MT->PM->Bool}{d:MT}:∀{l a:List PF},gX S R d a l=true<->(∀x∈l,kn S R d x)/\l.Pairwise (Su d)/\∀y∈a,∀x∈l,Su d y x
 | [],a=>by simp[gX]
 |x::l,a=>by
  rw[gX,aQ,pK]
  have b:(match ed d.fs x.1 with|none=>false|some f=>kx (lx d f) x.1 a&&fG S R f x.2)=true<->kn S R d x/\∀y∈a,Su d y x:=by
   unfold kn Su
   cases hf:ed d.fs x.1 with
   |none=>simp
   |some f=>
    simp only[aQ,kx,ca,dS,cT,decide_eq_false_iff_not,Option.some.injEq];grind
  refine(and_congr b Iff.rfl).J ?_;rw[bu];grind
section
variable {n:Int} {vs:List PV}
end
def rA:∀{fs:List fw} {f:fw},(fs.map (·.num)).Nodup->f∈fs->ed fs f.num=some f
 |g::fs,f,h,a=>by
  rw[bC,List.nodup_cons]at h;rcases aR.1 a with rfl|a;.rw[ed,dR rfl]
  .rw[ed,dQ (λe=>h.1 (aS.2 ⟨f,a,e.sy⟩)),rA h.2 a]
def CU {a b:au}(h:gQ a b=true):a=b:=by
 refine jA ?_;rw[gR,ByteArray.toList_eq,ByteArray.toList_eq]at h;exact h
section
variable {d:MT} (hd:(d.fs.map (·.num)).Nodup)
def ue {f:fw}{k:Int}:k∈lx d f<->∃o∈d.fs,o.num=k/\o.how=f.how/\i9 f.how=true/\k≠f.num:=by
 unfold lx;rw[aS];constructor;.rintro⟨o,a,rfl⟩;rw[bA]at a;simp only[aQ,dS]at a;obtain⟨h,⟨c,g⟩,b⟩:=a;have e:=CU c;grind
 .rintro⟨o,a,rfl,e,g,b⟩;refine⟨o,bA.2 ⟨a,?_⟩,rfl⟩;simp only[aQ,dS];exact⟨⟨by rw[gR,e],by simp_all⟩,b⟩
include hd
end
section
variable {b:au}
end
section
variable {fit:Int->Int->Bool}
def nM {s:au}{G a:Nat}(d:a<s.size):nS fit s (G+1) a=true<->∃r,fO s a s.size= .ok r/\fit r.num r.kind=false/\nS fit s G r.e=true:=by
 have c:fO s a s.size=match jY s a with| .error x=> .error x| .ok x=>fN s a x.1.1 x.1.2 x.2:=(by rw[<-wL (aE _),CR,qX];rfl)
 rw[nS,dR d,c];unfold OW
 cases ht:jY s a with
 |error x=>simp
 |ok x=>
  simp only[aQ,cT];unfold L7;rw[qY s a x.1.1]
  cases hr:fN s a x.1.1 x.1.2 x.2 with
  |error y=>simp
  |ok r=>
   have⟨e,f,_⟩:=Iv (ES ht) hr;simp_all
def Iy {t:au}{r:pO}(h:fO t 0 t.size= .ok r)(c:r.e=t.size)(a:fit r.num r.kind=false):pW fit t=true:=by
 have⟨_,_,d,_,_,_⟩:=jf h;refine(nM Vv).2 ⟨r,h,a,?_⟩
 cases hs:t.size with
 |zero=>omega
 |succ k=>rw[nS,dQ Vv]
end
def pT:Nat->PM->Prop
 |0,_=>False
 |k+1,m=>∀x∈m.fs,∀v∈x.2,0<=v.1/\v.1<2^64/\pT k v.2.2
abbrev Dn (k:Nat)(v:PV):Prop:=0<=v.1/\v.1<2^64/\pT k v.2.2
def pT.none (k:Nat):pT (k+1) PM.none:=λx c=>by simp[PM.none,PM.fs]at c
def EU:ox eS=true:=Vz
def GC:zG PM.none=true:=Vz
section
variable {S:eF} {R:MT->PM->Bool} {b:au} {f:fw} {r:pO} {a e:Nat}
end
section
variable {S:eF}
def PG (f g:fw)(h:g=mW f\/g=pJ f):lx (eR f) g= []:=by
 have d:i9 g.how=false:=(by rcases h with rfl|rfl<;>exact(by rfl:i9 lM=false))
 cases hr:lx (eR f) g with
 |nil=>rfl
 |cons k l=>
  have⟨_,_,_,_,c,_⟩:=ue.1 (show k∈lx (eR f) g by simp_all);simp_all
def EV {R:MT->PM->Bool}{f:fw}{x y:PV}(m:eE S R (mW f) x=true)(h:eE S R (pJ f) y=true):gX S R (eR f) [] [(1,[x]),(2,[y])]=true:=by
 have k:ed (eR f).fs 1=some (mW f):=rfl;have j:ed (eR f).fs 2=some (pJ f):=rfl
 have d:∀g z,g=mW f\/g=pJ f->eE S R g z=true->fG S R g [z]=true:=λg z c i=>by
  have l:g.isMap=false:=by rcases c with rfl|rfl<;>exact lW.1
  have n:gQ g.how eS=false:=by rcases c with rfl|rfl<;>exact lW.2.2
  unfold fG nR ku;simp_all
 refine pK.2 ⟨λz i=> ?_,?_,λy h=>by simp at h⟩
 .simp only[aR,bW,or_false]at i;rcases i with rfl|rfl;.exact⟨_,k,d _ _ (.inl rfl) m⟩
  .exact⟨_,j,d _ _ (.inr rfl) h⟩
 .simp only[bu,ba,forall_eq,bW,false_implies,implies_true,List.Pairwise.nil,and_true];refine⟨Vv,λg c=> ?_⟩;have c:ed (eR f).fs 2=some g:=c;rw[j]at c;cases c;rw[PG f _ (.inr rfl)];simp
end
def CV {sg:Bool}:∀{l:List PV} {last:Option LV},(∀e∈l,(e.2.2.fs.length==2)=true/\ox e.2.2.unk=true)->l.Pairwise (λx y=>lI (tI sg x) (tI sg y))->(∀k,last=some k->∀e∈l,lI k (tI sg e))->jI sg last l=true
 | [],_,_,_,_=>VB
 |x::l,last,h1,h2,h3=>by
  rw[bu]at h2;unfold jI;simp only[aQ];refine⟨⟨h1 x aZ,?_⟩,CV (λe c=>h1 e (aY _ c)) h2.2 λk d e c=>by simp_all⟩
  cases last with
  |none=>rfl
  |some k=>exact decide_eq_true ((Cl _ _).2 (h3 k rfl x aZ))
end Go.Proofs.YtfebdimolnobaaaGreatDoor
