import Derived.Test.YtfebdimolnobaaaGreatDoorDfH
import Derived.Sort.Walk0
import Derived.DeepKeys4
import Derived.Shelf.SlIter.Collect
set_option maxRecDepth 100000
set_option maxHeartbeats 8000000
set_option linter.all false
namespace Go.Proofs.YtfebdimolnobaaaGreatDoor
open Go.RowKit Go.Proofs.Tryz
def jH (a b:LV):Prop:=a.1=b.1/\a.2.toList=b.2.toList
def FL (x y:ap):Op.bytesLess x y=true<->x<y:=by rw[bytesLess_eq];simp
def pC (a:LV):¬lI a a:=by
 rintro(h|⟨_,h⟩);.omega
 .rw[FL]at h;grind
def kh {a b c:LV}(h:lI a b)(k:lI b c):lI a c:=by
 unfold lI at*;simp only[FL]at*;grind
def tu (a b:LV):lI a b\/jH a b\/lI b a:=by
 unfold lI jH;simp only[FL];grind
def tw {a b c:LV}(k:jH a b)(h:lI b c):lI a c:=by
 obtain⟨d,e⟩:=k;unfold lI at*;simp_all
def jH.sy {a b:LV}(h:jH a b):jH b a:=⟨h.1.sy,h.2.sy⟩
def lP {a b:LV}(h:lI a b):¬jH a b:=λk=>pC b (tw k.sy h)
def gR {a b:au}:gQ a b=true<->a.toList=b.toList:=by unfold gQ;simp
def Lm {t:au}{x y:PV}(c:Fi t x)(d:Fi t y):kS t x y=true<->lI (kr t x) (kr t y):=by
 obtain⟨f,g,_,h,a⟩:=c;obtain⟨i,j,_,k,b⟩:=d;unfold kS lI kr
 cases hs:gQ t lF with
 |true=>
  simp_all
 |false=>
  rw[a hs,b hs];have e:¬Op.bytesLess eS.toList eS.toList=true:=Vz;simp only[e,and_false,or_false,aU,if_false]
  cases fk jp t with
  |true=>
   simp only[if_true,dS];unfold Dy
   split<;>split<;>omega
  |false=>simp
def Cf {t:au}{x y:PV}(a:Fi t x)(b:Fi t y):iD x y=true<->jH (kr t x) (kr t y):=by
 unfold iD jH kr;have:=a.lo;have:=a.hi;have:=b.lo;have:=b.hi;simp only[aQ,dS,gR];grind
def vD {t:au}{v:PV}:∀{l:List PV},(∀x∈l,iD (fS v) (fS x)=false)->gC t v true l=l
 | [],_=>rfl
 |x::l,h=>by
  rw[gC];simp only[dC,cV,aU,if_false,aX,h x Vw,dt];rw[vD λy a=>h y (by grind)];rfl
def vE {t:au}{v:PV}(c:Fi t (fS v)):∀{l:List PV},(∀x∈l,Fi t (fS x))->l.Pairwise (λa b=>lI (kr t (fS a)) (kr t (fS b)))->
  ∃l1 mid l2,l=l1++(mid++l2)/\jX t l v=l1++v::l2/\(mid= []\/∃x,mid= [x]/\jH (kr t (fS v)) (kr t (fS x)))/\(∀x∈l1,lI (kr t (fS x)) (kr t (fS v)))/\∀x∈l2,lI (kr t (fS v)) (kr t (fS x))
 | [],_,_=>⟨[],[],[],rfl,rfl,.inl rfl,Vw,Vw⟩
 |x::l,hk,hs=>by
  have e:=hk x Vw;rw[bu]at hs;have j:lI (kr t (fS v)) (kr t (fS x))\/jH (kr t (fS v)) (kr t (fS x))->∀y∈l,lI (kr t (fS v)) (kr t (fS y)):=λh y f=>h.elim (λq=>kh q (hs.1 y f)) (λq=>tw q (hs.1 y f))
  have i:lI (kr t (fS v)) (kr t (fS x))\/jH (kr t (fS v)) (kr t (fS x))->gC t v true l=l:=λh=>vD λy f=>by
   rw[cn];intro q;exact lP (j h y f) ((Cf c (hk y (by grind))).1 q)
  rcases tu (kr t (fS v)) (kr t (fS x))with h|h|h
  .have g:=(Lm c e).2 h;have d:iD (fS v) (fS x)=false:=(by rw[cn];exact λq=>lP h ((Cf c e).1 q));refine⟨[],[],x::l,rfl,?_,.inl rfl,Vw,?_⟩;.unfold jX;rw[gC,g,d];simp_all
   simp_all
  .have d:=(Cf c e).2 h;refine⟨[],[x],l,rfl,?_,.inr ⟨x,rfl,h⟩,Vw,j (.inr h)⟩;unfold jX;rw[gC,d];simp_all
  .have g:kS t (fS v) (fS x)=false:=(by rw[cn];exact λq=>pC _ (kh ((Lm c e).1 q) h));have d:iD (fS v) (fS x)=false:=(by rw[cn];exact λq=>lP h ((Cf c e).1 q).sy);have⟨l1,mid,l2,o,k,m,p,n⟩:=vE c (l:=l) (λy f=>hk y (by grind)) hs.2;refine⟨x::l1,mid,l2,by simp_all,?_,m,?_,n⟩
   .unfold jX at k⊢;rw[gC,g,d]
    (simp;omega)
   simp_all
section
open Go.Maps
section
variable {k q:LV} {p:Nat} {ks2 km:List LV} {ps2 pm:aB} {w:aw} {D:DataW Unit}
theorem FM:Keyed prog 386:=Keyed.of_law (deep_law (m:=2) Vv VA VA VA)
theorem Ln:prog.keyType 386=true:=VA
theorem FN:prog.cellsOf 386=2:=VA
theorem Lo:prog.cellsOf 53=1:=VA
theorem DT:prog.cellsOf 9=1:=VA
structure zW (k:LV):Prop where
 lo:0<=k.1
 hi:k.1<2^64
 sz:k.2.size<=maxLen
theorem QZ (h:zW k):∃kl,Go.keyOf prog 386 (kV k)=some kl:=by
 unfold keyOf kV;have d:Nat.ble 1 prog.types.size=true:=VA;have e:=Nat.le_of_ble_eq_true d;obtain⟨N,c⟩:∃N,prog.types.size+1=N+1+1:=⟨prog.types.size-1,Vv⟩;have b:(Lit.int .u64 k.1).wf=true:=(by show(decide (0<=k.1)&&decide (k.1<=18446744073709551615))=true;have:=h.lo;have:=h.hi;simp;omega);have a:=h.sz;rw[Ln,c];simp[underlying386,Value.formed,FN,Program.keyLits,Lo,DT,underlying53,underlying9,b,a,Value.cells]
theorem jJ {a b:au}(h:a.toList=b.toList):a=b:=by
 rw[ByteArray.toList_eq,ByteArray.toList_eq]at h;cases a;cases b;simp at h;rw[h]
theorem yg:∀{ks:List LV} {ps:aB},(∀x∈ks,¬jH x q)->j7 ks ps q=none
 | [],_,_=>by rw[j7];intros;simp_all
 |_::_,[],_=>by rw[j7];intros;simp_all
 |x::ks,y::ps,h=>by
  rw[j7,dQ (λe=>h x Vw ⟨e.1,gR.1 e.2⟩)];exact yg λz a=>h z (by simp[a])
theorem uG (hm:(km= []/\pm= [])\/∃k' p',km= [k']/\pm= [p']/\jH k k'):∀{ks1:List LV} {ps1:aB},ks1.length=ps1.length->(∀x∈ks1,¬jH x k)->
  j7 (ks1++k::ks2) (ps1++p::ps2) q=if k.1=q.1/\gQ k.2 q.2=true then some p else j7 (ks1++(km++ks2)) (ps1++(pm++ps2)) q
 | [],[],_,_=>by
  simp only[aX];rw[j7];split;.rfl
  .rename_i a;rcases hm with⟨rfl,rfl⟩|⟨k',p',rfl,rfl,b⟩;.rfl
   .simp only[bo,aX]
    rw[j7,dQ (λe=>a ⟨b.1.J e.1,gR.2 (b.2.J (gR.1 e.2))⟩)]
 | [],_::_,h,_=>by simp at h
 |_::_,[],h,_=>by simp at h
 |x::ks1,y::ps1,h,a=>by
  simp only[bo];rw[j7,j7,uG hm (by simpa using h) (λz c=>a z (by simp[c]))];by_cases hx:x.1=q.1/\gQ x.2 q.2=true;.rw[dR hx,dR hx,dQ (λe=>a x Vw ⟨hx.1.J e.1.sy,(gR.1 hx.2).J (gR.1 e.2).sy⟩)]
  .rw[dQ hx,dQ hx]
theorem yh {k:TypeId}{R:Value->Option (DataW Unit×List MemPlace)}{b n:Nat}(h:w.ownsMap prog k R b n D):w.ownsMap prog k R b (Go.Maps.size D) D:=by
 obtain⟨a,clock,c,F,d,rfl⟩:=h;exact⟨a,clock,c,F,by simp[Go.Maps.size,length_sorted],rfl⟩
theorem j8.put {w':aw}{mb n:Nat}{kl:Lit}{ks1:List LV}{ps1:aB}(hm:(km= []/\pm= [])\/∃k' p',km= [k']/\pm= [p']/\jH k k')(r:ks1.length=ps1.length)(h1:∀x∈ks1,¬jH x k)(A:∀x∈ks2,¬jH x k)
  (a:w.ownsMap prog 386 gO mb n D) (f:Go.Maps.size D=(ks1++(km++ks2)).length) (b:∀(k:LV) kl,Go.keyOf prog 386 (kV k)=some kl->∀z,D.atKey kl z=SJ (j7 (ks1++(km++ks2)) (ps1++(pm++ps2)) k) z)
  (c:Go.keyOf prog 386 (kV k)=some kl) (d:w'.ownsMap prog 386 gO mb (n+1) (D.put kl (oM (some p)))):j8 w' mb (ks1++k::ks2) (ps1++p::ps2):=by
 have hlen:Go.Maps.size (D.put kl (oM (some p)))=(ks1++k::ks2).length:=by
  rw[size_put (a.tidy FM)];rcases hm with⟨rfl,rfl⟩|⟨k',p',rfl,rfl,j⟩
  .have s:j7 (ks1++([]++ks2)) (ps1++([]++ps2)) k=none:=yg λx l=>by
    simp only[aX,aW]at l;exact l.elim (h1 x) (A x)
   rw[has_false_of_atKey (λz=>by rw[b k kl c z,s];rfl),f];simp;omega
  .have o:∃m,j7 (ks1++([k']++ks2)) (ps1++([p']++ps2)) k=some m:=(by have:=uG (k:=k') (q:=k) (p:=p') (ks2:=ks2) (ps2:=ps2) (km:= []) (pm:= []) (.inl ⟨rfl,rfl⟩) r (λx l q=>h1 x l ⟨q.1.J j.1.sy,q.2.J j.2.sy⟩);exact⟨p',this.J (dR ⟨j.1.sy,gR.2 j.2.sy⟩)⟩);obtain⟨m,t⟩:=o;rw[has_true_of_atKey (y:=oM (some m)) (λz=>by rw[b k kl c z,t];rfl),f];simp
 refine⟨_,by rw[<-hlen];exact yh d,hlen,λq B i z=> ?_⟩;rw[uG hm r h1];by_cases e:k.1=q.1/\gQ k.2 q.2=true
 .rw[dR e];have u:k.2=q.2:=jJ (gR.1 e.2);have v:kV k=kV q:=by unfold kV;rw[e.1,u]
  rw[<-v,c]at i;cases i;exact atKey_put_same a.isMap (FM.key c) _ _
 .rw[dQ e,atKey_put_other];.exact b q B i z
  .intro h;subst h;have g:=FM.inj i c;unfold kV at g;simp at g;exact e ⟨g.1.sy,by rw[g.2];exact gR.2 rfl⟩
theorem j8.made (w:aw):j8 (w.alloc (.map #[] 0)) w.heap.size [] []:=
 ⟨_,World.ownsMap_made w prog 386 gO,rfl,λ_ _ _ _=>rfl⟩
end
end
section
open VH
def yo (S:eF)(k:Nat)(T:Option MT)(w:aw)(Z:ax)(db:Nat)(m:PM)(n:Int)(v:LV)(h:eQ S (k+1) T w Z db m)(M:oO S T n .vals)(L:(∀kd,oO S T n kd->kd= .vals)\/∀f∈m.fs,f.1≠n)(c:m.fs.length<2199023255000)(p:(m.get n).length<2199023255000):
  Calls prog 268 #[ah db,aa n,wN v] w (kD S k T w Z db (m.put n (m.get n++ [re v]))):=by
 have⟨i0,W,X,VW,VX⟩:=info_parts Tryz.infoV;obtain⟨sv,uv,l,Y,s,o⟩:=h;have⟨z,i⟩:=ec w #[.int .u64 v.1,ag v.2,ai,Vp] 55;have a:=s.c.blk.lt;have j:=s.c.row.lt;have E:=s.O (λb _ G=>z.block b G);have R:=nA o (λb _ G=>z.block b G);have d:=uF _ db sv uv l n E.c (by rw[o.len];exact c);have a:∀b,Y b->b<w.heap.size:=s.yl;clear o s;unfold wN;go_in
 go_wp2_with fail;generalize w.alloc (am #[.int .u64 v.1,ag v.2,ai,Vp] 55)=w0 at*;refine d.V ?_;rintro e w1 a;obtain⟨g,c,pre,x,post,A,B,q,r,rfl,O,D,l,K⟩:=qt E R a;clear a E R d
 have U:=i.kept K (by
  simp only[aR,dq,not_or]
  exact⟨Vv,λe=>by have:=(j _ e).2;omega⟩)
 have⟨a,c⟩:=U.I;have⟨⟨E,F⟩,C⟩:=O.ofVals L;have⟨l,s,x,B,a⟩:=O.cells rfl;have V:=(O.y.c.row.lt g rfl).2;have a:w.heap.size<w1.heap.size:=U.lt
 have P:∀(w' d:aw) (a:Option Nat),ak w1 w'->w'.grownBy d a->(∀b,a=some b->A b)->d.heap[g]?=w1.heap[g]?:=λw' d a y H o=>
  (H.block g (aI V y.size) (λe=>O.y.ys g rfl (.inl (o g e.sy)))).J (y.block g V)
 have I:Hid (∀(w' d:aw) (a:Option Nat),ak w1 w'->w'.grownBy d a->(∀b,a=some b->A b)->d.heap[g]?=w1.heap[g]?):=P;clear P
 have J:Hid (∀(w' d:aw) (a:Option Nat) (j i N:Nat) (cs:ay) (lv:List LV),ak w1 w'->w'.grownBy d a->(∀b,a=some b->A b)->d.ownsRow 0 55 4 (Vr j N i) N cs->N=lv.length+1->cs=lv.flatMap mU++mU v->m.get n=lv.map re->(a=some j\/j=w1.heap.size+1)->
   kD S k T w Z db (m.put n (m.get n++ [re v])) (.returned (.tuple #[])) (d.setCell (aj g (pre.length*4+1)) (Vr j N i))):=by
  intro w' d a j i N cs lv y H o g A c q r;have⟨a,t,u⟩:=O.vals (lv:=lv++ [v]) o Vw y H g (by rw[A];simp) (by rw[c];simp) (r.imp id (λe=>Vv)) M E F;rw[q];refine⟨rfl,a,?_,by simpa using u⟩;have a:fP w Z w0 Z:=(fP.refl w Z).G z;exact(a.J D).J t
 rcases C with⟨u,a⟩|⟨g,z,lv,o,u,c,F,Q⟩
 .rw[u]at s;have q:ak w1 (w1.drew.alloc (am #[.int .u64 v.1,ag v.2,ai,Vp] 55)):=((Below.refl _ _).drew).alloc (aE _) _;have o:Hid (m.get n= []):=a;clear l x B u a;go_upto_region 2 with fail
  go_region_law (first|(refine step_append_lies _ VB _ _ _ VB 0 55 i0 _ 4 64 underlying56 W X VW VX rfl Vv (ai) 0 [] VB (br _ _ _ _) (aj w1.heap.size 0) 1 1 [_,_,_,_] VB VB (bz (t:=55) (fr:=(0,0)) (heap_alloc_new w1.drew _)) VD Vv VC Vv Vv (w1.heap.size+1) Vw ?_;intro j i d C r D y;have⟨A,E,G,H,K⟩:=O.cells (I.o _ d _ q r (λb e=>by cases e))))
  all_goals
   go_end0;exact J.o _ d _ j i _ _ [] q r (λb e=>by cases e) C rfl rfl o.o D
 .rw[u]at s;have q:ak w1 (w1.drew.alloc (am #[.int .u64 v.1,ag v.2,ai,Vp] 55)):=((Below.refl _ _).drew).alloc (aE _) _;have a:=(Q.lt g rfl).2;have a:lv.length<2199023255000:=by rw[F]at p;simpa using p
  have a:Hid (m.get n=lv.map re):=F;clear l x B u F p;go_upto_region 2 with fail
  go_region_law (first|(refine step_append_lies _ VB _ _ _ VB 0 55 i0 _ 4 64 underlying56 W X VW VX rfl Vv (Vr g lv.length z) lv.length (lv.flatMap mU) VB (Q.drew.alloc _) (aj w1.heap.size 0) 1 1 [_,_,_,_] VB VB (bz (t:=55) (fr:=(0,0)) (heap_alloc_new w1.drew _)) VD Vv VC Vv Vv (w1.heap.size+1) Vw ?_;intro j i d C r D y;have⟨A,E,G,H,K⟩:=O.cells (I.o _ d _ q r (λb e=>by cases e;exact c))))
  all_goals
   go_end0;exact J.o _ d _ j i _ _ lv q r (λb e=>by cases e;exact c) C rfl rfl a.o D
end
section
open Go.Maps Go.Sort
def LE:WideMaps.KeyLaw prog 386:=deep_law (m:=2) Vv VA VA VA
def LF {a b:LV}(h:kV a=kV b):a=b:=by
 unfold kV at h;simp only[Value.agg.injEq,Array.mk.injEq,List.cons.injEq,Value.int.injEq,true_and,Value.string.injEq,and_true]at h;exact cY h.1 h.2
def D9 {v:Value}{kl:Lit}(h:Go.keyOf prog 386 v=some kl):∃k:LV,v=kV k/\zW k:=by
 obtain⟨m,L,rfl,a,_⟩:=keyOf_top VA h;have g:Nat.ble 1 prog.types.size=true:=VA;have i:=Nat.le_of_ble_eq_true g;obtain⟨N,f⟩:∃N,prog.types.size+1=N+1+1:=⟨prog.types.size-1,Vv⟩;rw[f]at a;obtain⟨l⟩:=m
 have j:l.length=2:=by
  simp only[Program.keyLits,underlying386,FN]at a;split at a;.rename_i q;exact q.1
  .cases a
 obtain⟨b,c,rfl⟩:∃b c,l= [b,c]:=by
  match l,j with
  | [b,c],_=>exact⟨b,c,rfl⟩
 .simp[Program.keyLits,underlying386,FN,Lo,DT,underlying53,underlying9]at a
  cases b with
  |int q n=>
   simp only at a;by_cases hq:q= .u64/\(Lit.int .u64 n).wf=true
   .rw[dR hq]at a
    cases c with
    |string t=>
     simp only[Option.bind_some,Function.comp]at a;by_cases hs:t.size<=maxLen;.obtain⟨rfl,e⟩:=hq;have d:(decide (0<=n)&&decide (n<=18446744073709551615))=true:=e;simp only[aQ,dS]at d;exact⟨(n,t),rfl,⟨d.1,by show n<_;omega,hs⟩⟩
     .rw[dQ hs]at a
      simp at a
    |_=>simp at a
   .rw[dQ hq]at a
    simp at a
  |_=>simp at a
def qz (D0:DataW Unit)(left:Lit->Bool)(ss:List LV):Prop:=ss.Nodup/\(∀k∈ss,zW k)/\∀(k:LV) kl,Go.keyOf prog 386 (kV k)=some kl->(k∈ss<->(has D0 kl=true/\left kl=false))
def qz.start (D0:DataW Unit):qz D0 (has D0) []:=⟨List.nodup_nil,Vw,λk a _=>by cases has D0 a<;>simp⟩
def qz.step {D0:DataW Unit}{left:Lit->Bool}{ss:List LV}(h:qz D0 left ss){x:LV}{kl:Lit}{y:DataW Unit}(p:zW x)(c:Go.keyOf prog 386 (kV x)=some kl)(j:left kl=true)(m:∀zd,D0.atKey kl zd=y):qz D0 (λz=>left z&& !z.sameKey kl) (ss++ [x]):=by
 have g:has D0 kl=true:=has_true_of_atKey m;have i:x∉ss:=λq=>by have:=((h.2.2 x kl c).1 q).2;rw[j]at this;cases this
 refine⟨dM.2 ⟨h.1,Vw,λa n b f=>by simp at f;subst f;exact λe=>i (e▸n)⟩,λk c=>by
  rcases aW.1 c with c|c;.exact h.2.1 k c
  .simp at c;subst c;exact p,λk o d=> ?_⟩
 obtain⟨s,rfl⟩:=LE.str c;obtain⟨r,rfl⟩:=LE.str d;by_cases e:k=x;.subst e;rw[c]at d;cases d;simp[g,Lit.sameKey]
 .have l:r≠s:=λq=>by
   subst q;exact e (LF (LE.inj d c))
  simp[h.2.2 k _ d,e,Lit.sameKey,l]
def Ck {v:Value}{y:DataW Unit×List MemPlace}(h:gO v=some y):∃o:Option Nat,v=ii o:=by
 unfold gO at h;split at h;.exact⟨none,rfl⟩
 .rename_i b;exact⟨some b,rfl⟩
 .cases h
def LG (F:Fence)(n:Nat)(S:∀f,F.fn f)(C:F.round=none)(a:1<=n)(l Bm b nn:Nat)(D0:DataW Unit)(J:List LV->aw->Prop)
  (U:∀pre x W,J pre W->pre.length<Go.Maps.size D0->YieldAt F (n-1) prog l #[kV x] W λe W'=>e= .returned (.bool true)/\J (pre++ [x]) W'/\KeepsWalks W W')
  (W:aw) (i:AbidesFrom W.heap.size J) (hm:W.cell? (aj Bm 0)=some (.map (some b))) (d:W.ownsMap prog 386 gO b nn D0) (R:J [] W):
  CallsIn F n prog 356 #[.func (.yield l) #[] #[],ah Bm] W λe W'=>(∃v,e= .returned v)/\∃ss:List LV,(qz D0 (λ_=>false) ss/\ss.length<=Go.Maps.size D0)/\J ss W':=by
 refine callsIn_of_wp func356 rfl (S _) ?_ C;simp only[ntmps356,dO,bw,dh,Nat.reduceAdd,Nat.reduceSub,dy,dz,dP,dF,aX,bo]
 gi_wp2_with (first
  |(gi_at_range;refine wpListIn_range_own _ rfl _ 247 rfl 386 180 FM underlying247 _ b nn _ rfl d ?_;intro c D z Z)
  |gi_in)
 go_frame
 gi_loopw [3] (λ_ wr=>∃(left:Lit->Bool) (a:Nat) (ss:List LV),wr.ranges prog 386 gO b W.heap.size nn D0 left a/\ss.length+a<=Go.Maps.size D0/\qz D0 left ss/\J ss wr) (λ_ wr=>wr.rangeLeft b W.heap.size)
 case atStart=>exact⟨_,_,[],D,Vw,qz.start D0,i [] W c none R z (λr e=>by cases e)⟩
 case round=>
  obtain⟨left,a,ss,g,X,t,s⟩:=hrel
  gi_wp2_with (first
   |(gi_at_next;refine wpListIn_next_ranges _ rfl _ rfl 386 FM gO kV ii (λkey d Y=>by obtain⟨k,rfl,_⟩:=D9 Y;exact⟨k,rfl⟩) (λv y u=>by obtain⟨o,rfl⟩:=Ck u;exact⟨o,rfl⟩) b W.heap.size nn _ _ _ rfl g ?_ ?_)
   |gi_in)
  .intro V A
   gi_wp2
   go_end0;have a:left=λ_=>false:=funext A
   subst a;exact⟨⟨_,rfl⟩,ss,⟨t,Vv⟩,s⟩
  .intro j m c d a h w2 E q G u H I B L M N;have⟨x',Q,O⟩:=D9 q;obtain rfl:=LF Q;have K:J ss w2:=i ss wr w2 (some W.heap.size) s L (λr e=>by cases e;exact⟨aE _,g.iter_walk⟩);have h:J ss (w2.alloc (am #[.int .u64 j,ag m] 386)):=i ss w2 _ none K (World.grownBy_alloc w2 _ none) (λr e=>by cases e);have⟨fn,w,assign,body,a,T⟩:=U ss ((j,m):LV) _ h Vv;unfold kV at N a;clear M
   gi_wp2
   refine T.mono ?_;rintro e a ⟨rfl,h,P⟩
   gi_wp2
   have p:=I.of_walks ((KeepsWalks.alloc _ _).trans P);go_roundw
   case rel=>exact⟨_,E,ss++ [(j,m)],p,Vx,t.step O q G H,h⟩
   case measure=>rw[p.left_eq,g.left_eq];exact B
def LH (F:Fence)(n:Nat)(d:∀f,F.fn f)(b:F.round=none)(l Bm:Nat)(J:List LV->aw->Prop)(W:aw)(g:AbidesFrom W.heap.size J)
  (hm:W.cell? (aj Bm 0)=some (.map none)) (c:J [] W):
  CallsIn F n prog 356 #[.func (.yield l) #[] #[],ah Bm] W λe W'=>(∃v,e= .returned v)/\∃ss:List LV,ss= []/\J ss W':=by
 refine callsIn_of_wp func356 rfl (d _) ?_ b;simp only[ntmps356,dO,bw,dh,Nat.reduceAdd,Nat.reduceSub,dy,dz,dP,dF,aX,bo];have i:=run_range_nilMap (P:=prog) W 247 386 180 underlying247;have h:∀a,(Instr.next (ah W.heap.size) false a).run prog (W.alloc (.mapIter none 0 #[] 0))=_:=λa=>run_next_nilMap _ a 0 0 #[]
 gi_wp2
 refine wpIn_loop_rounds 1 ?_;rw[roundsIn_succ]
 gi_wp2
 go_end0;exact⟨⟨_,rfl⟩,[],rfl,g [] W _ none c (World.grownBy_alloc W _ none) (λr e=>by cases e)⟩
def FZ (w:aw)(Bm:Nat)(S:List LV->Prop)(N:Nat):Prop:=∀(F:Fence) (n:Nat),(∀f,F.fn f)->F.round=none->1<=n->SeqGives F n prog 356 #[ah Bm] kV S N w
def F0 {w:aw}{Bm b nn:Nat}{D0:DataW Unit}(c:Bm<w.heap.size)(hm:w.cell? (aj Bm 0)=some (.map (some b)))(a:w.ownsMap prog 386 gO b nn D0):
  FZ w Bm (λss=>qz D0 (λ_=>false) ss/\ss.length<=Go.Maps.size D0) (Go.Maps.size D0):=λF n m g s l J W d o q j=>by
 have h:W.ownsMap prog 386 gO b nn D0:=(by have f:=a.lt;obtain⟨i,clock,r,e,t,k⟩:=a;exact⟨i,clock,(d.block b f).trans r,e,t,k⟩);exact LG F n m g s l Bm b nn D0 J q W o ((d.cell (p:=(aj Bm 0)) c).trans hm) h j
def Ea {w:aw}{Bm:Nat}(a:Bm<w.heap.size)(hm:w.cell? (aj Bm 0)=some (.map none)):FZ w Bm (λss=>ss= []) 0:=
 λF n d b _ l J W f e _ c=>LH F n d b l Bm J W e ((f.cell (p:=(aj Bm 0)) a).trans hm) c
end
end Go.Proofs.YtfebdimolnobaaaGreatDoor
