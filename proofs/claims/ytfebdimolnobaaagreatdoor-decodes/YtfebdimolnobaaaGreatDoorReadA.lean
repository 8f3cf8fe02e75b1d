import Derived.Test.YtfebdimolnobaaaGreatDoorTreeOK
import Derived.Shelf.SlSortCmp.Whole1
import Derived.Shelf.SlSortCmp.NoneTotal
import Derived.Laws.AppendOwnNone
set_option maxRecDepth 100000
set_option maxHeartbeats 8000000
set_option linter.all false
namespace Go.Proofs.YtfebdimolnobaaaGreatDoor
open Go.RowKit Go.Proofs.Tryz
section
attribute [local go_sem] jk jm jn
def gK {t:au}{k:Nat}{x:W}(h:(eB t)[k]?=some x):(k<(yH t).length/\x∈yH t)\/(k=(yH t).length/\x=(⟨#[]⟩,t.size)):=by
 unfold eB at h;by_cases hk:k<(yH t).length;.rw[bW hk]at h;exact .inl ⟨hk,aO h⟩
 .rw[cM Te]at h;by_cases he:k-(yH t).length=0;.rw[he]at h;simp at h;exact .inr ⟨Te,h.sy⟩
  .rw[bi Tg]at h;cases h
def jA (t:au):(eB t).length=(yH t).length+1:=by simp[eB]
def Ax (t:au):(yH t).length<=t.size:=by have:=pL t t.size 0;simpa [yH]using this
def Ou (t:au):∀n k,k<=t.size->∀i,k<=i->i<iW lM t n k->lM (fR t i)=true
 |0,k,_,i,h1,h2=>by simp[iW]at h2;omega
 |n+1,k,hk,i,h1,h2=>by
  unfold iW at h2;by_cases hc:(decide (k<t.size)&&lM (fR t k))=true
  .rw[dH hc]at h2;have a:k<t.size/\lM (fR t k)=true:=by simpa using hc
   by_cases he:i=k;.subst he;exact a.2
   .exact Ou t n (k+1) a.1 i Te h2
  .rw[dG hc]at h2;omega
def Ck {t:au}{a e i:Nat}(h:a+i<e)(c:e<=t.size):fR (t.extract a e) i=fR t (a+i):=by
 have b:i<(t.extract a e).size:=by rw[aU];omega
 rw[<-gX b,<-gX (by omega:a+i<t.size)];congr 2;exact ByteArray.getElem_extract _
def QM {t:au}{a:Nat}(h:a<t.size)(c:lM (fR t a)=true):∀i,a<=i->i<ic t a->lM (fR t i)=true:=by
 intro i e b;have d:ww (fR t a)=false:=(by unfold lM at c;unfold ww;simp at c⊢;omega);by_cases he:i=a;.subst he;exact c
 .unfold ic at b;simp only[d,c,Bool.true_and,aN,if_false]at b;split at b;.exact Ou t t.size (a+1) h i Te b
  .omega
def tJ (t:au):∀n a,∀x∈jT t n a,∃c,c<t.size/\x=(t.extract c (ic t c),c)/\Cg (fR t c)=false
 |0,a,x,h=>by simp[jT]at h
 |n+1,a,x,h=>by
  unfold jT at h;by_cases ha:a<t.size
  .rw[dH ha]at h;by_cases hg:Cg (fR t a)=true;.rw[dH hg]at h;exact tJ t n (a+1) x h
   .rw[dG hg]at h;rcases aR.1 h with rfl|h;.exact⟨a,ha,rfl,by simpa using hg⟩
    .exact tJ t n _ x h
  .rw[dG ha]at h;simp at h
def rm (M:Nat):∀(l:an) (acc:Nat),(∀c∈l,48<=c.toNat/\c.toNat<=57)->(∃u,Lib.parseUintM M acc l= .ok u)\/Lib.parseUintM M acc l= .range
 | [],acc,_=> .inl ⟨acc,rfl⟩
 |c::l,acc,h=>by
  have a:=h c Tf;unfold Lib.parseUintM;rw[dH a];split;.exact .inr rfl
  .split;.exact .inr rfl
   .exact rm M l _ (λc a=>h c (by simp[a]))
def MA {s:au}{i:Nat}{c:UInt8}(h:s.data.toList[i]?=some c):fR s i=(c.toNat:Int):=by
 have a:i<s.size:=by
  by_cases a:i<s.data.toList.length;.simpa using a
  .rw[bi Te]at h;cases h
 rw[<-gX a];have:s.data.toList[i]?=some s[i]:=(by rw[aP (by simpa using a)];rfl);rw[this]at h;rw[Option.some.inj h]
def Fu {c:Int}:lM c=true<->48<=c/\c<=57:=by simp[lM]
def IU {s:au}(j:s.size<=2000)(k:0<s.size)(h:∀i,i<s.size->lM (fR s i)=true):jL s:=by
 refine⟨j,?_⟩
 have b:s.data.toList≠ []:=by
  intro e;have:s.data.toList.length=0:=by rw[e];rfl
  have f:s.data.toList.length=s.size:=Tf;omega
 unfold Lib.parseUintB;rw[dG b];refine rm _ _ _ λc g=> ?_
 have⟨i,a⟩:=bY.1 g;have f:=MA a
 have d:i<s.size:=by
  by_cases hi2:i<s.data.toList.length;.simpa using hi2
  .rw[bi Te]at a;cases a
 have l:=Fu.1 (h i d);omega
def uz {t:au}{x:W}(f:x∈yH t)(a:lM (fR x.1 0)=true):∀i,i<x.1.size->lM (fR x.1 i)=true:=by
 obtain⟨c,b,rfl,_⟩:=tJ t t.size 0 x f;have e:=oM t c b;intro i d;simp only at d a⊢;rw[aU]at d;rw[Ck Te e.2]at a⊢;exact QM b (by simpa using a) (c+i) Te Te
def Cl {s:au}(h:dN s=2):lM (fR s 0)=true:=by
 unfold dN iP at h;split at h;.omega
 .split at h;.assumption
  .split at h;.omega
   .split at h<;>omega
def lm (t:au)(c:t.size<=2000):tI (eB t):=by
 refine⟨?_,?_,?_⟩;.rw[jA];have:=Ax t;omega
 .intro k x a;rcases gK a with⟨_,h⟩|⟨_,rfl⟩;.have:=jJ t t.size 0 x h;omega
  .show(ByteArray.mk #[]).size<=2000;decide
 .intro k x a b;rcases gK a with⟨_,h⟩|⟨_,rfl⟩;.have:=jJ t t.size 0 x h;exact IU Te Te (uz h (Cl b))
  .have:dN (ByteArray.mk #[])=4:=rfl;rw[this]at b;omega
end
section
open Go.Maps
attribute [local go_sem] jk jm jn
def gI (t:ByteArray):Except (Int×Nat) (List dS):=
 if 2000<t.size then .error (2,0)
 else
  match nY (eB t)with
  | .error p=> .error (2,p)
  | .ok (bs,_)=>
   match fD (eZ bs) [] 0 bs with
   | .error p=> .error (3,p)
   | .ok _=> .ok bs
def Ha {w:World}{base rb:Nat}{t:ByteArray}{v:Value}(p:t.size<=2000)(i:w.ownsRow base 148 3 v (eB t).length ((eB t).flatMap wC))(f:dP w rb #[v,.int .i64 0] 158)(m:∀b,v.ownBlock=some b->b≠rb):∃wb,Rd w rb wb (eB t) 0:=by
 have hlen:=jA t;have q:=Ax t;obtain⟨a,n,c,rfl⟩:=dO i;have r:=d9 i;subst r;obtain⟨g,rfl,z,u,o⟩:=dV i Te;have j:=o w rfl;have W:=lm t p;refine⟨g,Te,Te,λe=>m g rfl e.sy,⟨c,by simpa using f.cell 0⟩,by simpa using f.cell 1,f.I.2 1,λk x d=> ?_,λk x d s=> ?_,λk x d=> ?_⟩
 .have l:∀x,(wC x).length=3:=λ_=>rfl
  refine⟨?_,?_,?_⟩;.have:=j (k*3+0) _ ((fW wC 3 l _ k x d 0 Te).J rfl);simpa using this
  .exact j (k*3+1) _ ((fW wC 3 l _ k x d 1 Te).J rfl)
  .exact j (k*3+2) _ ((fW wC 3 l _ k x d 2 Te).J rfl)
 .rcases gK d with⟨y,_⟩|⟨_,rfl⟩;.omega
  .exact absurd (show 0<(ByteArray.mk #[]).size from s) Th
 .refine⟨W.size k x d,?_⟩;rcases gK d with⟨_,h⟩|⟨_,rfl⟩;.have:=jJ t t.size 0 x h;omega
  .exact p
def MC (w:World)(r:Except (Int×Nat) (List dS))(e:Ending)(w':World):Prop:=
 (match r with
 | .error (k,p)=>e=dX k p
 | .ok bs=>∃a n c cs,e= .returned (.agg #[.slice a n c])/\d5 w' (λx=>w.heap.size<=x) 152 6 (.slice a n c) bs.length cs/\eQ w' (λx=>w.heap.size<=x) cs bs)/\Below w.heap.size w w'
def SH (w:World)(t:ByteArray)(X:t.size<=2^47)(W:GOK w):
  Calls prog 36 #[.string t] w (MC w (gI t)):=by
 have⟨C,I⟩:=eY w #[.slice none 0 0] 87;generalize hr:gI t=r;have G:Hid (gI t=r):=hr;clear hr;by_cases hl:2000<t.size
 .have U:(2000:Int)<(t.size:Int):=Te;obtain rfl:r= .error (2,0):=by rw[<-G.o,gI,dH hl]
  go_in
  go_wp2_with fail;refine(IM _ _ _).V ?_;rintro e w2 ⟨rfl,rfl⟩;go_wp2;exact⟨rfl,rfl,C⟩
 .have x:t.size<=2000:=Te;have U:decide ((2000:Int)<(t.size:Int))=false:=Tg
  have l:Hid ((match nY (eB t)with
   | .error p=> .error (2,p)
   | .ok (bs,_)=>
    match fD (eZ bs) [] 0 bs with
    | .error p=> .error (3,p)
    | .ok _=> .ok bs)=r):=by
   have:=G.o;rw[gI,dG hl]at this;exact this
  clear hl;go_in
  go_wp2_with fail;refine(Sn t _ x).V ?_;rintro e w1 ⟨v,rfl,i,m⟩;obtain⟨y,B,z,rfl⟩:=dO i;have D:Below w.heap.size w w1:=C.J (m.V Tf);have J:=I.G m I.lt;have E:=D.alloc D.size (Obj.cells #[.slice y B z,.int .i64 0] 158);have K:=J.alloc (Obj.cells #[.slice y B z,.int .i64 0] 158);have⟨c,a⟩:=Ha (rb:=w1.heap.size) x (i.alloc (Obj.cells #[.slice y B z,.int .i64 0] 158)) (dP.new w1 _ _) (λb d=>by have:=(i.lt b d).2;omega);have f:=J.lt;clear i m U;go_wp2_with fail;refine(Su _ w1.heap.size c (eB t) a).V ?_
  cases h3:nY (eB t)with
  |error p=>
   rintro e w3 ⟨rfl,j,A⟩;obtain rfl:r= .error (2,p):=by rw[<-l.o,h3]
   unfold dX;go_wp2;refine⟨rfl,rfl,E.J ⟨A.os,A.tape,A.output,A.size,λk f=> ?_⟩⟩
   rw[Below.block A k Tg,BT,dM,dG Te]
  |ok q=>
   obtain⟨bs,j⟩:=q;rintro e w3 ⟨⟨a,n,c,cs,rfl,S,R⟩,g,A⟩
   have F:Below w.heap.size w w3:=E.J ⟨A.os,A.tape,A.output,A.size,λk f=>by
    rw[Below.block A k Tg,BT,dM,dG Te]⟩
   have f:=K.adv_ A K.lt Te;have h:w1.heap.size+1<=w3.heap.size:=by have:=A.size;simpa using this
   have T:=S.V (S':=λb=>w.heap.size<b) (λb d _=>by simp at d;omega);have O:=R.V (S':=λb=>w.heap.size<b) (λb d _=>by simp at d;omega);have N:=wI (lm t x) h3;have h:=F.alloc F.size (Obj.cells #[.slice a n c] 87);have L:=f.alloc (Obj.cells #[.slice a n c] 87);have H:=dP.new w3 #[.slice a n c] 87;have P:=T.O (w':=w3.S6 #[.slice a n c] 87) (λb _ d=>Below.l _ _ _ d);have Q:=O.O (w':=w3.S6 #[.slice a n c] 87) (λb _ d=>Below.l _ _ _ d);have f:GOK (w3.S6 #[.slice a n c] 87):=W.O (h.block _ W.lt);clear S R g T O;go_wp2_with fail;refine(SG _ a n c bs cs _ P Q N.2 N.1 f).V ?_
   cases h4:fD (eZ bs) [] 0 bs with
   |error p=>
    rintro e g ⟨s,f⟩;obtain rfl:e=dX 3 p:=s;obtain rfl:r= .error (3,p):=by rw[<-l.o,h3];simp only[h4]
    unfold dX;go_wp2
    exact⟨rfl,rfl,h.J (f.V h.size)⟩
   |ok u=>
    rintro e g ⟨s,f⟩;obtain rfl:e= .returned (.tuple #[]):=s;obtain rfl:r= .ok bs:=by rw[<-l.o,h3];simp only[h4]
    have V:=h.J (f.V h.size);have M:=L.G f L.lt;have Z:=H.G f H.lt;have h:=P.O (w':=g) (λb _ d=>f.block b d);have i:=Q.O (w':=g) (λb _ d=>f.block b d);have⟨e,f⟩:=M.I;have⟨e,f⟩:=Z.I;go_wp2;have e:=M.sets_all [.slice a n c] rfl;have Y:Below w.heap.size w (g.setCells w.heap.size 0 [.slice a n c]):=V.J ((Below.refl w.heap.size g).setCell (p:=⟨w.heap.size,0,none⟩) (aD _) (.slice a n c));refine dJ (dW results36 _ _ rfl e underlying87 Tj) rfl ⟨⟨a,n,c,cs,rfl,?_,?_⟩,Y⟩;.have o:=h.O (w':=g.setCells w.heap.size 0 [.slice a n c]) (λb d _=>eI _ _ (by have:w.heap.size<b:=d;omega) _ _);exact o.V (λb d _=>by have:w.heap.size<b:=d;omega)
    .have o:=i.O (w':=g.setCells w.heap.size 0 [.slice a n c]) (λb d _=>eI _ _ (by have:w.heap.size<b:=d;omega) _ _);exact o.V (λb d _=>by have:w.heap.size<b:=d;omega)
def dZ (bs:List dS):List ByteArray:=(bs.filter λb=> !b.enum).map λb=>b.name.1
def kK (w:World)(ta:Option Addr)(tn tc:Nat)(bs:List dS)(cs:List Value)(S:Nat->Prop)(H:d5 w S 152 6 (.slice ta tn tc) bs.length cs)(W:eQ w S cs bs)(hlen:bs.length<=2001)(q:∀b∈bs,oU b):
  Calls prog 66 #[.agg #[.slice ta tn tc]] w λe w'=>∃v,e= .returned v/\w'.ownsRow w.heap.size 9 1 v (dZ bs).length (eh (dZ bs))/\Below w.heap.size w w':=by
 have X:=d9 H.1;subst X;have⟨M,Z,j,u,J⟩:=info_parts Tryz.info9;have C:=(Tb w).alloc (aD _) (Obj.cells #[.slice ta bs.length tc] 87);go_in
 go_wp2;go_loopw [3,9] (λv i wr=>∃(k:Nat) (l:List ByteArray),k<=bs.length/\i= .int .i64 k/\l.length<=k/\Hid (l++dZ (bs.drop k)=dZ bs)/\wr.ownsRow w.heap.size 9 1 v l.length (eh l)/\Below w.heap.size w wr) (λ_ i _=>bs.length-(intOf i).toNat)
 case atStart=>exact⟨0,[],aM _,rfl,aD _,by simp[Hid],aX _ _ _ _,C⟩
 case round=>
  clear C;obtain⟨k,l,c,rfl,a,p,E,m⟩:=hrel;by_cases hlt:k<bs.length
  .have⟨b,f⟩:=gx hlt;have Y:=q b (aO f);have n:bs.drop k=b::bs.drop (k+1):=(by rw[aS hlt];rw[aP hlt]at f;rw[Option.some.inj f]);obtain⟨g,rfl,_,V,G⟩:=dV H.1 Te;have⟨s,x,t,z,B,A,r,N,O,P,Q,R,d⟩:=W.get f;have a:=G wr (m.block g V);rw[Nat.add_zero]at r;have y:=a _ _ r;have g:=a _ _ N;have i:=a _ _ O;have q:=a _ _ P;have C:=a _ _ Q;have H:=a _ _ R;have D:=dP.new wr #[.bool b.enum,.int .i64 (dN b.name.1),.string b.name.1,.int .i64 b.name.2,.slice s x t,.slice z B A] 152;have c:=m.alloc m.size (Obj.cells #[.bool b.enum,.int .i64 (dN b.name.1),.string b.name.1,.int .i64 b.name.2,.slice s x t,.slice z B A] 152);have o:=E.alloc (Obj.cells #[.bool b.enum,.int .i64 (dN b.name.1),.string b.name.1,.int .i64 b.name.2,.slice s x t,.slice z B A] 152);clear G a r N O P Q R f d;cases hen:b.enum
   .rw[hen]at y D c o;have d:Hid ((l++ [b.name.1])++dZ (bs.drop (k+1))=dZ bs):=(by have:=p.o;rw[n]at this;simpa [dZ,hen,Hid]using this);clear n;go_wp2_with fail;refine(Sz _ _ Y.name).V ?_;rintro e a ⟨rfl,F⟩;have h:=c.J (F.V c.size);have I:=eL F o;clear y g i q C H;go_wp2_with (first|(at_builtin;refine wpList_append_own_at _ rfl _ _ 30 rfl w.heap.size 9 M _ 1 16 underlying30 Z j u J rfl Th u3 _ _ rfl (I.alloc _) _ 1 1 [_] rfl rfl (cell_one_new _ _ _) ?h1 ?h63 ?hby ?hba ?_;rotate_right;intro v' a T U L K))
    case h1=>intro u M;simp at M;subst M;rfl
    case h63=>unfold maxLen;omega
    case hby=>omega
    case hba=>have:=h.size;simp;omega
    refine⟨⟨k+1,l++ [b.name.1],Te,by go_num,Tg,d,?_,?_⟩,by simp[intOf];omega⟩;.simpa [eh]using T
    .exact(h.alloc h.size _).grown U (by have:=h.size;simp;omega) (λj a=>(I.lt j a).1)
   .rw[hen]at y D c o;have d:Hid (l++dZ (bs.drop (k+1))=dZ bs):=(by have:=p.o;rw[n]at this;simpa [dZ,hen,Hid]using this);clear n;go_wp2;go_roundw
    case rel=>exact⟨k+1,l,Te,by go_num,Te,d,o,c⟩
    case measure=>simp[intOf];omega
  .have J:bs.drop k= []:=by rw[ci];omega
   have d:Hid (l=dZ bs):=(by have:=p.o;rw[J]at this;simpa [dZ,Hid]using this);clear J;go_wp2;go_ret;refine⟨_,rfl,?_,m⟩;rw[<-d.o];exact E
end
end Go.Proofs.YtfebdimolnobaaaGreatDoor
namespace Go.Proofs
open Go.Shelf
theorem Tryz.bShelfSrt {f:FuncId}{B:Func}(h:((prog.funcs[f]?).elim "" Func.name== "runtime.NumGoroutine")=false)(k:prog.funcs[f]?=some {B with name:=(prog.funcs[f]?).elim "" Func.name}):Bears prog f B:=⟨_,h,k⟩
def Tryz.sortF_ren:Go.Shelf.Ren:=⟨fun|6=>112|15=>169|14=>168|28=>254|29=>255|20=>246|21=>247|22=>248|23=>249|24=>250|25=>251|26=>252|27=>253|46=>331|47=>332|48=>333|49=>334|50=>335|57=>400|n=>n,fun|22=>106|24=>212|25=>222|3=>3|39=>295|0=>0|53=>164|55=>53|4=>4|46=>367|45=>366|50=>331|5=>5|9=>9|66=>428|70=>431|76=>468|77=>469|n=>n,fun|n=>n⟩
theorem Tryz.sortF:Go.Proofs.SlLaysF.n6 Tryz.prog Tryz.sortF_ren:=by constructor<;>first|kernel_rfl|(intro w;kernel_rfl)|(apply Tryz.bShelfSrt<;>kernel_rfl)
end Go.Proofs
namespace Go.Proofs.YtfebdimolnobaaaGreatDoor
open Go.RowKit Go.Proofs.Tryz
section
open Go.Maps Go.Sort
open Tq
def O2 (a b:Nat)(x y:Int)(w:aw)(f:w.cell? (ai a 0)=some (aa x))(g:w.cell? (ai b 0)=some (aa y)):
  Calls prog 113 #[ag a,ag b] w λe w'=>e= .returned (aa (kI x y))/\∃q,w'=w.drewN q:=by
 have d:=qA x y;generalize kI x y=c at d⊢;have h:w.drew.cell? (ai a 0)=some (aa x):=f;have i:w.drew.cell? (ai b 0)=some (aa y):=g;go_in
 go_wp2;go_region_with (first|(go_at_call 114;refine(d _).V ?_;rintro e w' ⟨rfl,rfl⟩))
 all_goals
  go_wp2;go_ret;exact⟨rfl,1,rfl⟩
end
section
open Go.Maps Go.Sort
section
variable {α:Type} [Inhabited α] {enc:α->Value}
def Cs {w:aw}{g n:Nat}{os:Array Obj}{Tr:aq}{e:TypeId}{fr:Nat×Nat}(d:Array α)(a:w.heap[g]?=some (.cells Tr e fr)):
  (sortWorld enc w g 0 n d os).heap[g]?=some (.cells (putCells enc 0 d Tr) e fr):=by
 have b:g<w.heap.size:=(bJ.1 a).1;unfold sortWorld;rw[heap_grow_old _ _ (by simpa using b)];simp[putRow,mapBlock,Sort.ahead,Array.getElem?_modify,a,onCells]
def tM {w:aw}{g n:Nat}{os:Array Obj}(d:Array α):w.grownBy (sortWorld enc w g 0 n d os) (some g):=by
 refine⟨rfl,rfl,rfl,by simp[sortWorld],λk b a=> ?_⟩;unfold sortWorld;rw[heap_grow_old _ _ (by simpa using b)];have:g≠k:=λe=>a (by rw[e])
 simp[putRow,mapBlock,Sort.ahead,Array.getElem?_modify,this]
def Ct (Tr:aq)(ts:List α)(h:ts.length<=Tr.size):(putCells enc 0 ts.toArray Tr).toList.take ts.length=ts.map enc:=by
 apply List.ext_getElem?;intro j;by_cases hj:j<ts.length;.rw[cG hj,bT];simp[putCells,hj,show j<Tr.size by omega]
 .rw[List.getElem?_take_eq_none Te,bi Tg]
def Cu {w:aw}{base g cap n m:Nat}{e:TypeId}{os:Array Obj}{Tr:aq}{ts:List α}(b:ts.length=m)(a:base<=g)(f:w.heap[g]?=some (.cells Tr e (0,0)))
  (h1:m<=cap) (c:cap<=maxLen) (d:Tr.size=cap*1):
  (sortWorld enc w g 0 n ts.toArray os).ownsRow base e 1 (Ta g m cap) m (ts.map enc):=
 ⟨by simp[b],.inr ⟨g,cap,_,rfl,a,Cs _ f,h1,c,by simp[putCells,d],by rw[Nat.mul_one,<-b];exact Ct Tr ts Te⟩⟩
def zp {w:aw}{g:Nat}{Tr:aq}{e:TypeId}{ss:List α}(c:w.heap[g]?=some (.cells Tr e (0,0)))(f:Tr.toList.take ss.length=ss.map enc):Holds enc w g 0 ss.toArray:=by
 intro j d;have a:j<ss.length:=by simpa using d
 refine⟨?_,by simp[World.frozen?,c]⟩;have b:(Tr.toList.take ss.length)[j]?=(ss.map enc)[j]?:=by rw[f]
 rw[cG a]at b;simp only[World.cell?,c,dg];simp only[Option.isSome_none,aN,if_false];rw[<-bT,b];simp[a]
end
def zq {β:Type}{p:β->Prop}:∀l:List β,(∀x∈l,p x)->∃D:List {x:β//p x},D.map (·.1)=l
 | [],_=>⟨[],rfl⟩
 |x::l,h=>by
  have⟨D,a⟩:=zq l (λy b=>h y (cv _ b));exact⟨⟨x,h x co⟩::D,by simp[a]⟩
def kJ (w:aw)(g:Nat):Type:={x:Int×Nat//w.cell? (ai x.2 0)=some (aa x.1)/\x.2≠g}
def kJ.enc {w:aw}{g:Nat}(x:kJ w g):Value:=gR (some x.1.2)
def kJ.cf {w:aw}{g:Nat}(x y:kJ w g):Int:=kI x.1.1 y.1.1
def kJ.lt {w:aw}{g:Nat}(x y:kJ w g):ltOf (kJ.cf (w:=w) (g:=g)) x y=decide (x.1.1<y.1.1):=by
 unfold ltOf kJ.cf;rw[bV];simp[nC]
def kJ.swo (w:aw)(g:Nat):SWO (ltOf (kJ.cf (w:=w) (g:=g)))where
 irrefl x:=by rw[kJ.lt];simp
 trans x y z h1 h2:=by rw[kJ.lt]at*;simp at*;omega
 ntrans x y z h1 h2:=by rw[kJ.lt]at*;simp at*;omega
def O3 (w:aw)(lo:Nat)(v:Value)(l:List (Int×Nat))(e:Ending)(w':aw):Prop:=
 e= .returned (.tuple #[])/\∃l':List (Int×Nat),l'.Perm l/\l'.Pairwise (λa b=>a.1<=b.1)/\w'.ownsRow lo 212 1 v l.length (fh (l'.map (·.2)))/\w.grownBy w' v.ownBlock
def O4 (w:aw)(lo:Nat)(v:Value)(l:List (Int×Nat))(d:w.ownsRow lo 212 1 v l.length (fh (l.map (·.2))))(W:∀x∈l,w.cell? (ai x.2 0)=some (aa x.1))(Q:∀x∈l,v.ownBlock≠some x.2)(a:l.length<=2001):
  S9 112 #[v,.func (.func 113) #[] #[]] w (O3 w lo v l):=by
 by_cases h0:l= [];.subst h0;obtain⟨a,c,rfl⟩:=ig d;refine(AnyF.slices_SortFunc_none (P:=prog) (ρ:=Tryz.sortF_ren) {Tryz.sortF with} a c _ w).V ?_;rintro e w' ⟨rfl,rfl⟩;exact⟨rfl,[],List.Perm.refl _,List.Pairwise.nil,d,⟨rfl,rfl,rfl,aD _,λ_ _ _=>rfl⟩⟩
 .rcases d.2 with⟨rfl,T⟩|⟨g,o,f,rfl,V,r,c,Z,P,b⟩;.exact absurd (br T) h0
  .have G:g<w.heap.size:=dP.lt r;have C:∀x∈l,w.cell? (ai x.2 0)=some (aa x.1)/\x.2≠g:=λx E=>⟨W x E,λe=>Q x E (by rw[e];rfl)⟩
   have⟨F,J⟩:=List.exists_mem_of_ne_nil l h0;haveI:Inhabited (kJ w g):=⟨⟨F,C F J⟩⟩;obtain⟨D,p⟩:∃D:List (kJ w g),D.map (·.1)=l:=zq l C;have s:D.length=l.length:=by rw[<-p];simp
   have L:fh (l.map (·.2))=D.map kJ.enc:=(by rw[<-p];unfold fh;rw[bI,bI];rfl);have S:∀args w,(callFunc 113 args).run prog w= .ok (.enter 113 args) w:=enters_of func113 Tj rfl
   have O:CmpLays1 prog 113 #[] (kJ.enc (w:=w) (g:=g)) kJ.cf g 0 D.toArray.size w:=by
    intro m os B h x y
    have t:∀z:kJ w g,(sortWorld kJ.enc w g 0 m B os).cell? (ai z.1.2 0)=some (aa z.1.1):=λz=>by
     have d:=aZ _ _ z.2.1;have H:=(tM (enc:=kJ.enc) (w:=w) (g:=g) (n:=m) (os:=os) B).block z.1.2 d (λe=>z.2.2 (Option.some.inj e));exact(bz (a:=(ai z.1.2 0)) H).J z.2.1
    refine(O2 x.1.2 y.1.2 x.1.1 y.1.1 _ (t x) (t y)).V ?_;rintro e w' ⟨rfl,q,rfl⟩;exact⟨rfl,q,#[],by rw[grow_empty]⟩
   have U:Holds kJ.enc w g 0 D.toArray:=zp r (by rw[s,<-L];simpa using b);have A:=Any.slices_SortFunc Tryz.sortF kJ.enc (λ_=>rfl) kJ.cf (kJ.swo w g) 113 #[] g 0 o D.toArray w S O U G Tg;have k:(D.toArray.size)=l.length:=by simpa using s
   rw[k]at A;refine A.V ?_;rintro e w' ⟨rfl,b,n,os,u,M,rfl⟩;have h:b.size=l.length:=by rw[u.1];exact k
   refine⟨rfl,b.toList.map (·.1),?_,?_,?_,tM b⟩;.have f:=u.2.2;rw[<-k]at f;rw[dA,show D.toArray.size=b.size from by rw[h];exact k,dA]at f;rw[<-p];exact List.Perm.map _ (by simpa using f)
   .rw[cn,cj];intro i j X Y K;have I:i<b.size:=by simpa using X
    have N:j<b.size:=by simpa using Y
    have f:=M i j (aM _) K Te;rw[kJ.lt,getElem!_pos b i I,getElem!_pos b j N]at f;simp at f⊢;exact f
   .have R:fh ((b.toList.map (·.1)).map (·.2))=b.toList.map kJ.enc:=(by unfold fh;rw[bI,bI];rfl);rw[R];have:=Cu (enc:=kJ.enc) (n:=n) (os:=os) (ts:=b.toList) (m:=l.length) (by simpa using h) V r c Z P;simpa using this
end
section
open Go.Maps
open Tq
section
variable {f:ek} {p:ft} {w' w:aw} {P:ax} {mp:am} {tb:Int} {tv:Value}
def RS (f:ek)(p:ft)(fa:aC)(fc c9 pb:Nat)(w':aw):Prop:=w'.cell? (ai c9 0)=some (aa f.form)/\w'.cell? (ai c9 1)=some (aa (lO f.key))/\w'.cell? (ai c9 2)=some (ae (jp f.key))/\w'.cell? (ai c9 3)=some (aa (mY f.key))/\w'.cell? (ai c9 4)=some (aa (dN f.type.1))/\w'.cell? (ai c9 5)=some (ae f.type.1)/\w'.cell? (ai c9 6)=some (aa f.type.2)/\w'.cell? (ai c9 7)=some (aa (dN f.name.1))/\w'.cell? (ai c9 8)=some (ae f.name.1)/\w'.cell? (ai c9 9)=some (aa f.name.2)/\w'.cell? (ai c9 10)=some (aa (dN f.num.1))/\w'.cell? (ai c9 11)=some (ae f.num.1)/\w'.cell? (ai c9 12)=some (aa f.num.2)/\w'.cell? (ai pb 0)=some (aa (lO p.oneof))/\w'.cell? (ai pb 1)=some (ae (jp p.oneof))/\w'.cell? (ai pb 2)=some (aa (mY p.oneof))/\w'.cell? (ai pb 3)=some (.slice fa p.fields.length fc)
theorem RS.of {fa:aC}{fc c9 pb:Nat}(h:dP w' c9 (FC f) 211)(k:dP w' pb #[aa (lO p.oneof),ae (jp p.oneof),aa (mY p.oneof),.slice fa p.fields.length fc] 208):RS f p fa fc c9 pb w':=
 ⟨h.cell 0,h.cell 1,h.cell 2,h.cell 3,h.cell 4,h.cell 5,h.cell 6,h.cell 7,h.cell 8,h.cell 9,h.cell 10,h.cell 11,h.cell 12,k.cell 0,k.cell 1,k.cell 2,k.cell 3⟩
def ri (w':aw)(P:ax)(mp:am)(f:ek)(tb:Int)(tv:Value):Prop:=
 if f.form=4 then tb=16/\∃eb,tv=gR (some eb)/\lQ w' P mp (jp f.key) f.type.1 eb else tb=jd mp f.type.1/\tv=gR (yJ mp f.type.1)
theorem ri.O (i:∀b,P b->b<w.heap.size->w'.heap[b]?=w.heap[b]?)(h:ri w P mp f tb tv):ri w' P mp f tb tv:=by
 unfold ri at h⊢;split at h;.rename_i a;rw[dH a];obtain⟨d,c,e,g⟩:=h;exact⟨d,c,e,g.O i⟩
 .rename_i a;rw[dG a];exact h
theorem ri.V {Q:ax}(i:∀b,P b->b<w.heap.size->Q b)(h:ri w P mp f tb tv):ri w Q mp f tb tv:=by
 unfold ri at h⊢;split at h;.rename_i a;rw[dH a];obtain⟨d,c,e,g⟩:=h;exact⟨d,c,e,g.V i⟩
 .rename_i a;rw[dG a];exact h
theorem AG (w:aw)(b n:Nat)(mp:am)(f:ek)(i:Eg f)(H:gk w b n mp)(h:BOK w):
  S9 110 #[.map (some b),.agg (FC f)] w λe w'=>∃tb tv,e= .returned (.agg #[aa tb,tv])/\ri w' (λb=>w.heap.size<=b) mp f tb tv/\aj w w':=by
 refine(Cr w b n mp f i H h).V ?_;rintro e w' ⟨a,c⟩;unfold I5 at a;by_cases h0:f.form=4;.rw[dH h0]at a;obtain⟨d,rfl,g⟩:=a;exact⟨16,_,rfl,by unfold ri;rw[dH h0];exact⟨rfl,d,rfl,g⟩,c⟩
 .rw[dG h0]at a;exact⟨_,_,a,by unfold ri;rw[dG h0];exact⟨rfl,rfl⟩,c⟩
theorem I7 {fb:Nat}{rv:Value}(c:dP w fb #[aa (iY f),aa f.form,aa tb,tv,rv] 220)(d:P fb)
  (e:d5 w P 3 1 rv (pQ p f).length (gA (pQ p f))) (b:ri w P mp f tb tv):eR w P mp (sF p f) fb:=by
 unfold ri at b;unfold eR;show if f.form=4 then _ else _;split at b;.rename_i a;rw[dH a];obtain⟨rfl,g,rfl,h⟩:=b;rw[a]at c;exact⟨rv,g,c,d,e,h⟩
 .rename_i a;rw[dG a];obtain⟨rfl,rfl⟩:=b;exact⟨rv,c,d,e⟩
end
end
def Jd {b:au}{a e:Nat}:∀f i n m z,wL b a e f i n= .ok (m,z)->i+f=10->0<=n->n<2^(7*i)->0<=m/\m<2^64/\a+i<z/\z<=e
 |0,i,n,m,z,h,_,_,_=>by simp[wL]at h
 |f+1,i,n,m,z,h,hi,h0,h1=>by
  rw[wL]at h;split at h
  .rename_i k;split at h;.simp at h
   .rename_i g;have d:=AH (i:=i) (c:=fR b (a+i)) h0 h1;split at h
    .rename_i s;simp only[Except.ok.injEq,Prod.mk.injEq]at h;obtain⟨rfl,rfl⟩:=h;refine⟨d.1,?_,Te,Te⟩;by_cases hi9:i=9
     .subst hi9;have u:=iy b (a+9);have j:¬1<fR b (a+9):=λh=>g ⟨rfl,h⟩
      simp only[Nat.reduceMul,Int.reducePow]at h1⊢;omega
     .have q:(2:Int)^(7*(i+1))<=2^63:=wS Te;have r:=d.2;omega
    .have⟨l,o,v,p⟩:=Jd f (i+1) _ m z h Te d.1 d.2;exact⟨l,o,Te,p⟩
  .simp at h
def jr {b:au}{a e:Nat}{m:Int}{z:Nat}(h:j8 b a e= .ok (m,z)):0<=m/\m<2^64/\a<z/\z<=e:=by
 have:=Jd 10 0 0 m z h rfl Te Th;simpa using this
def FI {b:au}{a e:Nat}:∀f i n c p,wL b a e f i n= .error (c,p)->(c=6\/c=7)/\p=a
 |0,i,n,c,p,h=>by
  simp[wL]at h
  omega
 |f+1,i,n,c,p,h=>by
  rw[wL]at h;split at h
  .split at h;.simp at h;omega
   .split at h;.simp at h
    .exact FI f _ _ c p h
  .simp at h;omega
def vM {b:au}{a e:Nat}{c p:Int}(h:j8 b a e= .error (c,p)):(c=6\/c=7)/\p=a:=FI 10 0 0 c p h
section
variable {b:au} {a e fr:Nat} {t:Int}
def Je (h1:j8 b a e= .ok (t,fr))(h:t/8<1\/536870911<t/8):jj b a e= .error (8,(a:Int)):=by
 unfold jj;rw[h1];exact dH h
def Jf (h1:j8 b a e= .ok (t,fr))(h:¬(t/8<1\/536870911<t/8))(hk:t%8=0):jj b a e=match j8 b fr e with
  | .error x=> .error x
  | .ok (n,c)=> .ok ⟨t/8,0,a,fr,c,n⟩:=by
 unfold jj;rw[h1];exact(dG h).J (dH hk)
def Ek (h1:j8 b a e= .ok (t,fr))(h:¬(t/8<1\/536870911<t/8))(hk:t%8=2):jj b a e=match j8 b fr e with
  | .error x=> .error x
  | .ok (n,c)=>if(c:Int)+n<=e then .ok ⟨t/8,2,a,c,c+n.toNat,0⟩else .error (6,(c:Int)):=by
 unfold jj;rw[h1];exact(dG h).J ((dG Te).J ((dG Te).J ((dG Te).J (dH hk))))
def Jg (h1:j8 b a e= .ok (t,fr))(h:¬(t/8<1\/536870911<t/8))(hk:t%8=1):jj b a e=if fr+8<=e then .ok ⟨t/8,1,a,fr,fr+8,vi (b.extract fr (fr+8))⟩else .error (6,(fr:Int)):=by
 unfold jj;rw[h1];exact(dG h).J ((dG Te).J (dH hk))
def Jh (h1:j8 b a e= .ok (t,fr))(h:¬(t/8<1\/536870911<t/8))(hk:t%8=5):jj b a e=if fr+4<=e then .ok ⟨t/8,5,a,fr,fr+4,vi (b.extract fr (fr+4))⟩else .error (6,(fr:Int)):=by
 unfold jj;rw[h1];exact(dG h).J ((dG Te).J ((dG Te).J (dH hk)))
def MR (h1:j8 b a e= .ok (t,fr))(h:¬(t/8<1\/536870911<t/8))(hk:t%8≠0/\t%8≠1/\t%8≠5/\t%8≠2):jj b a e= .error (9,(a:Int)):=by
 unfold jj;rw[h1];exact(dG h).J ((dG hk.1).J ((dG hk.2.1).J ((dG hk.2.2.1).J (dG hk.2.2.2))))
end
section
open Tq
def po (s:au)(a:Nat)(n:Int):Fx (au×Nat):=if(a:Int)+n<=s.size then .ok (s.extract a (a+n.toNat),a+n.toNat)else .error (6,a)
def wT (w:aw)(rb:Nat)(s:au)(a:Nat)(deep:Int)(n:Int)(h:d6 w rb s a deep)(m:a<=s.size)(p:s.size<=2^47)(b:0<=n)(d:n<2^64):
  Calls prog 196 #[ag rb,.int .u64 n] w (py w rb s deep (po s a n) Value.string):=by
 obtain⟨L,i⟩:=Td (s.extract a s.size);have f:L.size=s.size-a:=by rw[<-i,aU];omega
 have l:Hid (∀(w:aw),d6 w rb s a deep->S9 272 #[ag rb] w λe w'=>e= .returned (ae L)/\∃q,w'=w.drewN q):=λw h=>by
  rw[<-i];exact Ej w rb s a deep h m
 have C:IntKind.u64.wrap (L.size:Int)=(L.size:Int):=gL Te Te;unfold po;by_cases hle:(a:Int)+n<=s.size
 .rw[dH hle];obtain⟨k,rfl⟩:=bS b;have u:Hid (a+k<=s.size):=by show a+k<=s.size;omega
  have y:(k:Int)<=2^47:=Te;have v:(a:Int)<=2^47:=Te;have x:decide (L.size<k)=false:=Tg;have z:IntKind.i64.wrap (k:Int)=(k:Int):=by simp[IntKind.wrap,IntKind.bits,IntKind.signed];omega
  clear i f hle b d m p;go_in
  go_wp2_with fail;refine(l.o _ h).V ?_;rintro e w2 ⟨rfl,q,rfl⟩;have g:=h.drewN q;have j:dY [rb] w (w.drewN q):=(dY.refl _ _).drewN q;generalize w.drewN q=wq at*;have⟨A,B⟩:=dP.I g;clear h l;go_wp2_with fail;have o:d6 (wq.setCell (ai rb 1) (aa ((a:Int)+(k:Int)))) rb s (a+k) deep:=by unfold d6;simpa using dP.set g 1 (aa ((a:Int)+(k:Int)))
  have t:=j.set1 (c:=rb) Tf 1 (aa ((a:Int)+(k:Int)));refine(vL _ _ _ _ _ a o Te u.o).V ?_;rintro e w3 ⟨rfl,r,rfl⟩;go_wp2;go_ret;exact⟨t.drewN r,rfl,o.drewN r⟩
 .rw[dG hle];obtain⟨k,rfl⟩:=bS b;have x:decide (L.size<k)=true:=Tg;clear i f hle b d m p;go_in
  go_wp2_with fail;refine(l.o _ h).V ?_;rintro e w2 ⟨rfl,q,rfl⟩;have g:=h.drewN q;have j:dY [rb] w (w.drewN q):=(dY.refl _ _).drewN q;generalize w.drewN q=wq at*;have⟨A,B⟩:=dP.I g;go_wp2_with fail;refine(IM _ _ _).V ?_;rintro e D ⟨rfl,rfl⟩;go_wp2;exact⟨rfl,j,rfl⟩
def eU (s:au)(a:Nat):Fx (Nat×Nat):=
 match j8 s a s.size with
 | .error x=> .error x
 | .ok x=>if(x.2:Int)+x.1<=s.size then .ok (x.2,x.2+x.1.toNat)else .error (6,x.2)
def FJ (w:aw)(rb:Nat)(s:au)(deep:Int)(r:Fx (Nat×Nat))(e:Ending)(w':aw):Prop:=
 dY [rb] w w'/\(match r with
 | .error x=>e=dX x.1 x.2
 | .ok x=>∃nb,e= .returned (ag nb)/\w.heap.size<=nb/\nb≠rb/\d6 w' nb (s.extract 0 x.2) x.1 deep/\d6 w' rb s x.2 deep)
def oo (w:aw)(rb:Nat)(s:au)(a:Nat)(deep:Int)(h:d6 w rb s a deep)(t:s.size<=2^47):
  Calls prog 197 #[ag rb] w (FJ w rb s deep (eU s a)):=by
 obtain⟨r,f⟩:∃r,Hid (eU s a=r):=⟨_,rfl⟩;rw[f.o];go_in
 go_wp2_with fail;refine(mx w rb s a deep h t).V ?_
 cases hv:j8 s a s.size with
 |error x=>
  rintro e w2 ⟨g,k⟩;obtain rfl:e=dX x.1 x.2:=k;obtain rfl:r= .error x:=by rw[<-f.o,eU,hv]
  unfold dX;go_wp2
  exact⟨rfl,g,rfl⟩
 |ok x=>
  obtain⟨n,z⟩:=x;have⟨C,D,F,E⟩:=jr hv;rintro e w2 ⟨g,k,i⟩;have i:=i;obtain rfl:e= .returned (.int .u64 n):=k;have⟨A,B⟩:=dP.I i;go_wp2_with fail;refine(wT w2 rb s z deep n i E t C D).V ?_;unfold po;by_cases hle:(z:Int)+n<=s.size
  .rw[dH hle];obtain rfl:r= .ok (z,z+n.toNat):=by rw[<-f.o,eU,hv];simp only;rw[dH hle]
   rintro e w3 ⟨j,d,c⟩;have d:=d;subst d;obtain⟨m,q⟩:=Td (z+n.toNat);have c:=c;rw[q]at c;have l:Hid (z+n.toNat=m):=q;have v:m<=s.size:=Te;have o:=g.J j;have u:rb<w3.heap.size:=dP.lt c;have p:rb<w.heap.size:=dP.lt h;have⟨A,B⟩:=dP.I c;have b:dP w3.drew rb #[ae s,aa m,aa deep] 244:=c;go_wp2
   go_region_held3 (λw'=>w'.cell? (ai rb 0)=some (ae s)/\w'.cell? (ai rb 1)=some (aa m)/\w'.cell? (ai rb 2)=some (aa deep))
    (first|exact⟨(b.alloc _).cell 0,(b.alloc _).cell 1,(b.alloc _).cell 2⟩|exact⟨b.cell 0,b.cell 1,b.cell 2⟩)
    (fail)
   all_goals
    go_wp2;go_ret;have y:=dP.newAt (w:=w3) rfl #[ae (s.extract 0 m),aa z,aa deep] 244;exact⟨(o.alloc _).drew,_,rfl,by have:=o.size;omega,Te,by show d6 _ _ (s.extract 0 (z+n.toNat)) z deep;rw[l.o];exact y,by show d6 _ _ s (z+n.toNat) deep;rw[l.o];exact b.alloc _⟩
  .rw[dG hle];obtain rfl:r= .error (6,(z:Int)):=by rw[<-f.o,eU,hv];simp only;rw[dG hle]
   rintro e w3 ⟨j,d⟩;obtain rfl:e=dX 6 z:=d;unfold dX;go_wp2;exact⟨rfl,g.J j,rfl⟩
end
def Hp {l:List PF}{n:Int}{i:Nat}{f:PF}(h:l[i]?=some f):io (l.drop i) n=if f.1=n then f.2 else io (l.drop (i+1)) n:=by
 have a:=gl h;rw[aS a];rw[aP a]at h;cases h;rfl
def FY (w0 w:aw)(q:aj w0 w)(k:Nat)(Z:ax)(mv:Value)(m:PM)(u:au)(n:Int)(h:gQ (k+1) w0 Z mv m)(D:m.fs.length<=1073741824):
  Calls prog 227 #[.agg #[mv,ae u],aa n] w λe w'=>∃vv,e= .returned vv/\fk (gQ k w0 Z) w0 Z vv (m.get n)/\aj w w':=by
 obtain⟨a,c,rfl⟩:=h.form;obtain⟨cs,t,v⟩:=h;have⟨B,K⟩:=eY w #[.slice a m.fs.length c,ae u] 49;have⟨E,F⟩:=K.I;have r:Hid (m.get n=io (m.fs.drop 0) n):=rfl;go_in
 go_wp2;go_loop [5] (λi=>∃j:Nat,j<=m.fs.length/\Hid (m.get n=io (m.fs.drop j) n)/\i=aa j) (λi=>m.fs.length-(intOf i).toNat)
 case atStart=>exact⟨0,aM _,r,rfl⟩
 case round=>
  obtain⟨j,C,d,rfl⟩:=hrel;by_cases TB:j<m.fs.length
  .have x:(j:Int)<(m.fs.length:Int):=Te;have⟨f,s⟩:=gx TB;have⟨vv,y,z,A⟩:=v.get s;obtain⟨g,rfl,_,p,o⟩:=dV t.1 Te;have G:=o (w.alloc (ak #[Ta g m.fs.length c,ae u] 49)) ((Below.l _ _ _ (aI p q.size)).J (q.block g p)) _ _ z;have H:=o (w.alloc (ak #[Ta g m.fs.length c,ae u] 49)) ((Below.l _ _ _ (aI p q.size)).J (q.block g p)) _ _ A;have l:=Hp (n:=n) s;by_cases he:f.1=n
   .have b:Hid (m.get n=f.2):=by rw[d.o,l,dH he];rfl
    clear o l d r;go_wp2;go_ret;exact⟨vv,rfl,by rw[b.o];exact y,B⟩
   .have b:Hid (m.get n=io (m.fs.drop (j+1)) n):=by rw[d.o,l,dG he];rfl
    clear o l d r;go_wp2;go_round
    case rel=>exact⟨j+1,Te,b,by go_num⟩
    case measure=>simp[intOf];omega
  .have b:Hid (m.get n= []):=by rw[d.o,cL Te];rfl
   go_wp2;go_ret;exact⟨_,rfl,by rw[b.o];exact fk.nil _ _ _,B⟩
def Tryz.infoV:(prog.info? 55).map (λi=>(i.zero,i.size,i.bytes))=some (some (.agg #[.int .u64 0,S8,ah,S8]),4,64):=Tj
def Tryz.infoF:(prog.info? 58).map (λi=>(i.zero,i.size,i.bytes))=some (some (.agg #[aa 0,ah]),2,32):=Tj
def nQ.one {P:Value->PM->Prop}(b:∀v m,P v m->v.oneCell'=true):∀{l:List PV} {cs:ay},nQ P cs l->∀u∈cs,u.oneCell'=true
 | [],_,h,u,a=>by rw[show _= []from h]at a;simp at a
 |_::l,_,⟨mv,rest,h1,h2,h3⟩,u,a=>by
  rw[h1]at a;simp only[aR]at a;rcases a with rfl|rfl|rfl|rfl|a;.rfl
  .rfl
  .exact b _ _ h2
  .rfl
  .exact h3.one b u a
def gQ.one {k:Nat}{w:aw}{Z:ax}{v:Value}{m:PM}(h:gQ k w Z v m):v.oneCell'=true:=by
 obtain⟨a,c,rfl⟩:=h.form;rfl
def p7 (w:aw)(t:TypeId)(a b c d:Value):∀j u,[a,b,c,d][j]?=some u->(w.alloc (.cells #[a,b,c,d] t)).cell? (((ai w.heap.size 0):Addr).add j)=some u:=by
 intro j u e
 match j,e with
 |0,e=>simp at e;subst e;exact(dP.new w #[a,b,c,d] t).cell 0
 |1,e=>simp at e;subst e;exact(dP.new w #[a,b,c,d] t).cell 1
 |2,e=>simp at e;subst e;exact(dP.new w #[a,b,c,d] t).cell 2
 |3,e=>simp at e;subst e;exact(dP.new w #[a,b,c,d] t).cell 3
 |j+4,e=>simp at e
def JG (w:aw)(t:TypeId)(a b:Value):∀j u,[a,b][j]?=some u->(w.alloc (.cells #[a,b] t)).cell? (((ai w.heap.size 0):Addr).add j)=some u:=by
 intro j u c
 match j,c with
 |0,c=>simp at c;subst c;exact(dP.new w #[a,b] t).cell 0
 |1,c=>simp at c;subst c;exact(dP.new w #[a,b] t).cell 1
 |j+2,c=>simp at c
def AS (w:aw)(k:Nat)(Z:ax)(lv mv:Value)(l:List PV)(v:PV)(h:fk (gQ k w Z) w Z lv l)(hm:gQ k w Z mv v.2.2)(a:l.length<=1073741824)(F:∀b,w.heap.size<=b->Z b):
  Calls prog 312 #[lv,.agg #[.int .u64 v.1,ae v.2.1,mv,ae v.2.2.unk]] w λe w'=>∃vv,e= .returned vv/\fk (gQ k w' Z) w' Z vv (l++ [v])/\aj w w':=by
 have⟨p,m,q,r,s⟩:=info_parts Tryz.infoV;obtain⟨c,d,rfl⟩:=hm.form;obtain⟨cs,h1,o⟩:=h;have P:=o.one (λ_ _ h=>h.one);have C:=o.len;have⟨B,K⟩:=eY w (S5 v c d) 55;have⟨a,f⟩:=K.I;have E:nQ (gQ k w Z) [.int .u64 v.1,ae v.2.1,.slice c v.2.2.fs.length d,ae v.2.2.unk] [v]:=⟨_,[],rfl,hm,rfl⟩;have z:Hid (nQ (gQ k w Z) (cs++ [.int .u64 v.1,ae v.2.1,.slice c v.2.2.fs.length d,ae v.2.2.unk]) (l++ [v])):=o.append E;have H:w.heap.size<(w.alloc (Obj.cells (S5 v c d) 55)).heap.size:=K.lt;clear o E;rcases h1.1.2 with⟨rfl,U⟩|⟨g,y,T,rfl,X,J,Y,i,o,D⟩
 .have R:l= []:=br U;subst R;obtain rfl:cs= []:=br C;have n:∀w1:aw,w1.ownsRow w1.heap.size 55 4 (ah) 0 []:=λw1=>aX _ _ _ _
  go_in
  go_upto_region 2 with fail
  generalize w.alloc (Obj.cells (S5 v c d) 55)=w1 at*;go_wp2_with (first|(at_builtin;refine wpList_append_own_none rfl _ _ 56 rfl w1.heap.size 55 p 4 underlying56 m (ah) 0 [] rfl (n _) rfl ?_)|(at_builtin;refine wpList_append_own_at _ rfl _ _ 56 rfl w1.heap.size 55 p _ 4 64 underlying56 m q r s rfl Th (ah) 0 [] rfl ((n _).alloc _) _ 1 1 [_,_,_,_] rfl rfl (p7 _ _ _ _ _ _) ?g1 ?g63 ?gby ?gba ?_;rotate_right;intro E w6 x t Q O))
  case g1=>intro u I;simp at I;rcases I with rfl|rfl|rfl|rfl<;>rfl
  case g63=>unfold maxLen;omega
  case gby=>omega
  case gba=>simp
  go_ret;have f:aj w w6:=(B.alloc Te _).grown t Tg (λj a=>by simp[Value.ownBlock]at a);refine⟨_,rfl,⟨_,?_,z.o.imp (λ_ _ h=>h.G f (aD _))⟩,f⟩;have:=d5.of x;exact d5.V (by simpa using this) (λb V _=>F b Te)
 .have A:=h1.1.cells (g:=g) rfl;have S:g<w.heap.size:=dP.lt J;have M:Hid (∀j u,cs[j]?=some u->(w.alloc (Obj.cells (S5 v c d) 55)).cell? (((ai g 0):Addr).add j)=some u):=(by intro j u a;rw[<-A j u a];exact cI _ _ _ (by simp[Addr.add];split<;>exact S));have n:∀w1:aw,w1.ownsRow w1.heap.size 55 4 (ah) 0 []:=λw1=>aX _ _ _ _
  clear A X J Y i o D;go_in
  go_upto_region 2 with fail
  generalize w.alloc (Obj.cells (S5 v c d) 55)=w1 at*;go_wp2_with (first|(at_builtin;refine wpList_append_own_at _ rfl _ _ 56 rfl w1.heap.size 55 p _ 4 64 underlying56 m q r s rfl Th (ah) 0 [] rfl (n _) (ai g 0) l.length y cs rfl C M.o ?h1 ?h63 ?hby ?hba ?_;rotate_right;intro c d D i W G;have N:=K.grown i (by simp[Value.ownBlock]);have⟨o,u⟩:=N.I)|(at_builtin;refine wpList_append_own_at _ rfl _ _ 56 rfl w1.heap.size 55 p _ 4 64 underlying56 m q r s rfl Th c _ _ rfl (D.alloc _) _ 1 1 [_,_,_,_] rfl rfl (p7 _ _ _ _ _ _) ?g1 ?g63 ?gby ?gba ?_;rotate_right;intro E w6 x t Q O))
  case h1=>exact P
  case h63=>unfold maxLen;omega
  case hby=>omega
  case hba=>exact aD _
  case g1=>exact⟨rfl,rfl,rfl,rfl⟩
  case g63=>unfold maxLen;omega
  case gby=>omega
  case gba=>have:=i.size;simp;omega
  go_ret;have L:aj w d:=B.grown i Te (λj a=>by simp[Value.ownBlock]at a);have f:aj w w6:=(L.alloc (by have:=i.size;omega) _).grown t (by have:=i.size;simp;omega) (λj a=>by have:=(D.lt j a).1;omega);refine⟨_,rfl,⟨_,?_,z.o.imp (λ_ _ h=>h.G f (aD _))⟩,f⟩;have:=d5.of x;exact d5.V (by simpa using this) (λb V _=>F b Te)
section
open Tq
def Pm (l:List tG)(v:Value)(t:Int)(e:Ending):Prop:=
 (∃(i g:Nat) (x:tG),l[i]?=some x/\x.n=t/\(∀j y,l[j]?=some y->j<i->y.n≠t)/\v.ownBlock=some g/\e= .returned (.pointer (some (ai g (i*8)))))\/((∀x∈l,x.n≠t)/\e= .returned (.pointer none))
def Pn (w:aw)(pb:Nat)(v:Value)(l:List tG)(t:Int)(lo:Nat)(p:dP w pb #[v] 254)(d:w.ownsRow lo 268 8 v l.length (l.flatMap iT))(h1:∀x∈l,x.c1.oneCell'=true/\x.c2.oneCell'=true/\x.c3.oneCell'=true/\x.c4.oneCell'=true/\x.c5.oneCell'=true/\x.c6.oneCell'=true/\x.c7.oneCell'=true)
  (m:l.Pairwise (λa b=>a.n<=b.n)) (K:l.length<=1073741824):
  Calls prog 141 #[ag pb,aa t] w λe w'=>Pm l v t e/\aj w w':=by
 have z:=KJ w v l t lo d h1 m K;obtain⟨a,c,rfl⟩:=ig d;have⟨L,M⟩:=p.I;go_in
 go_wp2_with fail;refine z.V ?_;rintro e w1 ⟨⟨i,rfl,B,o,s⟩,r⟩;have⟨O,P⟩:=(p.G r p.lt).I;clear z L M;by_cases hf:(l.map (·.n))[i]?=some t
 .have h:decide ((l.map (·.n))[i]?=some t)=true:=by simpa using hf
  rw[h]
  have k:i<l.length:=by
   by_cases q:i<l.length;.exact q
   .rw[bi Tg]at hf;cases hf
  rw[aT]at hf;have⟨x,n,F⟩:=bg.1 hf;obtain⟨g,rfl,_,I,_⟩:=dV d Te;have C:Hid (l[i]?=some x):=n
  have D:Hid (∀j y,l[j]?=some y->j<i->y.n≠t):=λj y J f=>by
   have:=o j y.n (by rw[aT,J];rfl) f;omega
  clear hf n h B o s;go_wp2;go_ret;exact⟨.inl ⟨i,g,x,C.o,F,D.o,rfl,Tf⟩,r⟩
 .have h:decide ((l.map (·.n))[i]?=some t)=false:=by simpa using hf
  rw[h]
  have E:∀x∈l,x.n≠t:=λx n e=>by
   have⟨j,f⟩:=bY.1 n;have A:(l.map (·.n))[j]?=some x.n:=by rw[aT,f];rfl
   by_cases hji:j<i;.have:=o j x.n A hji;omega
   .by_cases he:j=i;.subst he;rw[A,e]at hf;exact hf rfl
    .have u:j<l.length:=by
      by_cases q:j<l.length;.exact q
      .rw[bi Te]at f;cases f
     have k:i<l.length:=Te;rw[cj]at m;have G:=m i j k u Te;have N:=s i (l[i].n) (by rw[aT,aP k];rfl) (aD _);rw[aP u]at f;rw[Option.some.inj f]at G;have H:l[i].n=t:=Te;exact hf (by rw[aT,aP k];simp[H])
  clear hf h B o s m;go_wp2;go_ret;exact⟨.inr ⟨E,rfl⟩,r⟩
end
def Ds {l:List MT}{s:au}{i:Nat}{m:MT}(h:l[i]?=some m):jG (l.drop i) s=if gP m.name s then some m else jG (l.drop (i+1)) s:=by
 have a:=gl h;rw[aS a];rw[aP a]at h;cases h;rfl
def Dt {l:List fB}{n:Int}{i:Nat}{f:fB}(h:l[i]?=some f):ei (l.drop i) n=if f.num=n then some f else ei (l.drop (i+1)) n:=by
 have a:=gl h;rw[aS a];rw[aP a]at h;cases h;rfl
def dP.new2 (w:aw)(o o2:Obj)(cs:aq)(T:TypeId):dP (((w.alloc o).alloc o2).alloc (.cells cs T)) (w.heap.size+1+1) cs T:=by
 have:=dP.new ((w.alloc o).alloc o2) cs T;simpa using this
def kW {fn:Func}{p q:Tmp}{ty:TypeId}{b:Nat}{cs:aq}{fs:Array Field}(h:fn.results= #[.cell p ty,.tmp q])(tmps:aq)(W:aw)(e:tmps.getD p undef=ag b)(K:dP W b cs ty)
  (f:prog.underlying ty=some (.struct fs)) (c:(prog.info? ty).map (·.size)=some cs.size):
  (results fn tmps).run prog W= .ok (.tuple #[.agg cs,tmps.getD q undef]) W:=by
 have d:=run_loadVar_row (P:=prog) W b ty ty cs (0,0) _ K f rfl c;have a:tmps[p]?.getD undef=ag b:=by simpa using e
 simp only[results,h];simp[a,asAddr,d]
def OG (w:aw)(P:ax)(r:Option MT)(en:Ending)(w':aw):Prop:=
 match r with
 |some d=>∃fv,en= .returned (.tuple #[.agg #[ae d.name,fv],.bool true])/\kB w' P fv d.fs/\aj w w'
 |none=>en= .returned (.tuple #[.agg #[S8,ah],.bool false])/\aj w w'
def EY (w:aw)(P:ax)(sb:Nat)(S:eE)(name:au)(h:iE w P sb S)(F:S.ms.length<=4000):
  Calls prog 148 #[ag sb,ae name] w (OG w P (S.msg name)):=by
 have⟨L,z,cs,t,C,m,u,D⟩:=h.at_;obtain⟨I,J,rfl⟩:=ig m.1;have⟨B,K⟩:=eY w #[S8,ah] 111;have⟨G,H⟩:=K.I;have⟨O,Q⟩:=(t.alloc (ak #[S8,ah] 111)).I;obtain⟨R,k⟩:=Td (S.msg name);have f:Hid (R=jG (S.ms.drop 0) name):=k.sy;rw[k];clear k;go_in
 go_wp2;go_loop [6] (λi=>∃j:Nat,j<=S.ms.length/\Hid (R=jG (S.ms.drop j) name)/\i=aa j) (λi=>S.ms.length-(intOf i).toNat)
 case atStart=>exact⟨0,aM _,f,rfl⟩
 case round=>
  obtain⟨j,E,b,rfl⟩:=hrel;by_cases Ts:j<S.ms.length
  .have y:(j:Int)<(S.ms.length:Int):=Te;have⟨d,n⟩:=gx Ts;have⟨A,p,v,x⟩:=u.get n;obtain⟨q,r,rfl⟩:=p.form;obtain⟨g,rfl,_,o,e⟩:=dV m.1 Te;have M:=e (w.S6 #[S8,ah] 111) (Below.l _ _ _ o) _ _ v;have N:=e (w.S6 #[S8,ah] 111) (Below.l _ _ _ o) _ _ x;have c:=Ds (s:=name) n;cases he:(d.name.toList==name.toList)
   .have a:Hid (R=jG (S.ms.drop (j+1)) name):=by rw[b.o,c,gP,he];rfl
    clear e c b f;go_wp2;go_round
    case rel=>exact⟨j+1,Te,a,by go_num⟩
    case measure=>simp[intOf];omega
   .have a:Hid (R=some d):=by rw[b.o,c,gP,he];rfl
    clear e c b f;go_wp2;refine dJ (kW results148 _ _ rfl (dP.new w _ _) underlying111 Tj) rfl ?_;rw[a.o];have l:=(Tb w).alloc (aD _) (ak #[ae d.name,.slice q d.fs.length r] 111);exact⟨_,rfl,p.G l,l⟩
  .have a:Hid (R=none):=by rw[b.o,cL Te];rfl
   go_wp2;refine dJ (kW results148 _ _ rfl (dP.new w _ _) underlying111 Tj) rfl ?_;rw[a.o];exact⟨rfl,B⟩
def Nx (w:aw)(f:fB):
  Calls prog 383 #[.agg (fI f).toArray] w λe w'=>∃fv,e= .returned (.agg #[S8,fv])/\kB w' (λb=>w.heap.size<=b) fv (eX f).fs/\aj w w':=by
 have K:=dP.new w #[ae f.name,ae f.ty,ae f.key,ae f.how,aa f.num] 178;have⟨c,d⟩:=K.I;unfold fI;go_in
 go_wp2;refine dJ (dW results383 _ _ rfl ((dP.new1 _ _ _ _).alloc _) underlying111 Tj) rfl ?_;refine⟨_,rfl,⟨⟨rfl,.inr ⟨w.heap.size+1+1,2,_,rfl,aM _,dP.new2 _ _ _ _ _,aD 2,Th,rfl,rfl⟩⟩,λb a=> ?_⟩,?_⟩;.simp[Value.ownBlock]at a;omega
 .exact((Tc w _).alloc Tf _).alloc Tg _
def Q6 (w:aw)(r:Option fB)(en:Ending)(w':aw):Prop:=
 match r with
 |some f=>en= .returned (.tuple #[.agg (fI f).toArray,.bool true])/\aj w w'
 |none=>en= .returned (.tuple #[.agg #[S8,S8,S8,S8,aa 0],.bool false])/\aj w w'
def Pz (w:aw)(P:ax)(fv:Value)(name:au)(fs:List fB)(n:Int)(h:kB w P fv fs)(v:fs.length<=4000):
  Calls prog 222 #[.agg #[ae name,fv],aa n] w (Q6 w (ei fs n)):=by
 obtain⟨p,l,rfl⟩:=h.form;have K:=(dP.new w #[ae name,.slice p fs.length l] 111).alloc (ak #[S8,S8,S8,S8,aa 0] 178);have o:=(Tb w).alloc (aD _) (ak #[ae name,.slice p fs.length l] 111);have B:=o.alloc Tf (ak #[S8,S8,S8,S8,aa 0] 178);have⟨x,y⟩:=K.I;obtain⟨R,m⟩:=Td (ei fs n);have e:Hid (R=ei (fs.drop 0) n):=m.sy;rw[m];clear m;go_in
 go_wp2;go_loop [6] (λi=>∃j:Nat,j<=fs.length/\Hid (R=ei (fs.drop j) n)/\i=aa j) (λi=>fs.length-(intOf i).toNat)
 case atStart=>exact⟨0,aM _,e,rfl⟩
 case round=>
  obtain⟨j,u,b,rfl⟩:=hrel;by_cases Ts:j<fs.length
  .have t:(j:Int)<(fs.length:Int):=Te;obtain⟨f,q⟩:∃d,fs[j]?=some d:=⟨_,aP Ts⟩;obtain⟨g,rfl,r,s,k⟩:=h.get q;have⟨z,A,C,D,E⟩:=k ((w.S6 #[ae name,Ta g fs.length l] 111).S6 #[S8,S8,S8,S8,aa 0] 178) (B.block g s);have c:=Dt (n:=n) q;by_cases he:f.num=n
   .have a:Hid (R=some f):=by rw[b.o,c,dH he];rfl
    clear k c b e;go_wp2;refine dJ (kW results222 _ _ rfl (dP.new1 _ _ _ _) underlying178 Tj) rfl ?_;rw[a.o];exact⟨by subst he;rfl,o.alloc Tf _⟩
   .have a:Hid (R=ei (fs.drop (j+1)) n):=by rw[b.o,c,dG he];rfl
    clear k c b e;go_wp2;go_round
    case rel=>exact⟨j+1,Te,a,by go_num⟩
    case measure=>simp[intOf];omega
  .have a:Hid (R=none):=by rw[b.o,cL Te];rfl
   go_wp2;refine dJ (kW results222 _ _ rfl (dP.new1 _ _ _ _) underlying178 Tj) rfl ?_;rw[a.o];exact⟨rfl,B⟩
end Go.Proofs.YtfebdimolnobaaaGreatDoor
