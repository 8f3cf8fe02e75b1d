import Derived.Test.YtfebdimolnobaaaGreatDoorTreeTy
import Derived.Test.YtfebdimolnobaaaGreatDoorDfF
import Derived.Sort.Walk0
import Derived.DeepKeys4
set_option maxRecDepth 100000
set_option maxHeartbeats 8000000
set_option linter.all false
namespace Go.Proofs.YtfebdimolnobaaaGreatDoor
open Go.RowKit Go.Proofs.Tryz
section
variable {types:aA} {nums:aB} {f:ek} {bs:List dS}
structure Hg (types:aA)(f:ek):Prop where
 key:f.form=4->lO f.key=3
 lo:1<=gV f.num.1
 hi:gV f.num.1<=536870911
 ty:dN f.type.1=1->eC types f.type.1=true
 kg:f.form=4->fL (lO f.key) (jp f.key)=true
theorem sJ {names:aA}{n:aA}{m:aB}(h:ld types names nums f= .ok (n,m)):Hg types f/\yI nums (gV f.num.1)=false/\m=nums++ [gV f.num.1]/\n=names++ [f.name.1]/\eC names f.name.1=false:=by
 unfold ld uy jQ at h;split at h;.grind
 .rename_i b;split at h;.grind
  .rename_i d;split at h;.grind
   .rename_i c;split at h;.grind
    .split at h;.grind
     .rename_i a;simp at h;unfold lD at a;unfold nj at d;unfold gE at c;simp at a d b c;refine⟨⟨λe=> ?_,Te,Te,λg=> ?_,b⟩,a.2.2,h.2.sy,h.1.sy,c.2⟩;.have:=b e;unfold fL at this;simp_all
      simp_all
theorem nL:∀(fs:List ek) (names:aA) (nums:aB) (n:aA) (m:aB),fX types names nums fs= .ok (n,m)->nums.Nodup->
  (∀f∈fs,Hg types f)/\m=nums++fs.map (λf=>gV f.num.1)/\m.Nodup
 | [],names,nums,n,m,h,hd=>by
  simp[fX]at h
  simp_all
 |f::fs,names,nums,n,m,h,hd=>by
  unfold fX at h;split at h;.cases h
  .rename_i d c a;have e:=sJ a;have b:=wH a hd;have g:=nL fs d c n m h b.2.2;grind
theorem sK:∀(ps:List ft) (names:aA) (nums:aB) (n:aA) (m:aB),gF types names nums ps= .ok (n,m)->nums.Nodup->
  (∀p∈ps,∀f∈p.fields,Hg types f)/\m=nums++ps.flatMap (λp=>p.fields.map (λf=>gV f.num.1))/\m.Nodup
 | [],names,nums,n,m,h,hd=>by
  simp[gF]at h
  simp_all
 |p::ps,names,nums,n,m,h,hd=>by
  unfold gF at h;split at h;.cases h
  .rename_i d b a
   have c:(∀f∈p.fields,Hg types f)/\b=nums++p.fields.map (λf=>gV f.num.1)/\b.Nodup:=by
    unfold lE at a;split at a
    .split at a;.cases a
     .exact nL _ _ _ _ _ a hd
    .exact nL _ _ _ _ _ a hd
   have e:=sK ps d b n m h c.2.2;grind
structure ML (types:aA)(b:dS):Prop where
 flds:∀p∈b.parts,∀f∈p.fields,Hg types f
 nums:(b.parts.flatMap (λp=>p.fields.map (λf=>gV f.num.1))).Nodup
theorem lq (l r:aA)(s:au):eC (l++r) s=(eC l s||eC r s):=by simp[eC]
theorem ru:∀(bs:List dS) (names:aA) (m:Nat),fD types names m bs= .ok ()->
  (∀b∈bs,b.enum=false->ML types b)/\(eZ bs).Pairwise (λx y=>x.toList≠y.toList)/\(∀b∈bs,eC names b.name.1=false)
 | [],names,m,_=>⟨Tf,List.Pairwise.nil,Tf⟩
 |b::bs,names,m,h=>by
  have key:∀f,fD types (names++ [b.name.1]) f bs= .ok ()->gE names b.name.1=false->(b.enum=false->ML types b)->
    (∀x∈b::bs,x.enum=false->ML types x)/\(eZ (b::bs)).Pairwise (λx y=>x.toList≠y.toList)/\(∀x∈b::bs,eC names x.name.1=false):=by
   intro f i d o;have g:=ru bs _ f i;refine⟨?_,?_,?_⟩;.simp_all
   .refine List.Pairwise.cons ?_ g.2.1;intro y l;obtain⟨c,k,rfl⟩:=aV.1 l;have:=g.2.2 c k;rw[lq]at this;simp[eC]at this;simp_all
   .intro x e;rcases aR.1 e with rfl|e;.unfold gE at d;simp_all
    .have:=g.2.2 x e;rw[lq]at this;simp_all
  unfold fD at h;split at h;.cases h
  .rename_i d;simp only[Bool.not_eq_true]at d;split at h;.grind
   .split at h;.cases h
    .split at h;.cases h
     .rename_i n j;obtain⟨a,c⟩:=n;have g:=sK b.parts [] [] a c j List.nodup_nil;exact key (m+1) h d (λ_=>⟨g.1,by grind⟩)
structure Cv (bs:List dS):Prop where
 ok:∀b∈bs,oU b
 few:bs.length<=2001
 shape:∀b∈bs,Ay b
 chk:∀b∈bs,b.enum=false->ML (eZ bs) b
 names:(eZ bs).Pairwise (λx y=>x.toList≠y.toList)
theorem mr {t:au}(h:gI t= .ok bs):Cv bs:=by
 unfold gI at h;split at h;.cases h
 .split at h;.cases h
  .rename_i a;split at h;.cases h
   .rename_i c;cases h;have b:=lm t Te;have g:=ru _ _ _ c;exact⟨(wI b a).1,(wI b a).2,Cn b a,g.1,g.2.1⟩
theorem Cv.field (h:Cv bs){b:dS}(a:b∈bs)(j:b.enum=false){p:ft}(e:p∈b.parts)(d:f∈p.fields):Ov f:=by
 have c:=(h.chk b a j).flds p e f d;have s:=(h.shape b a p e).1 f d;refine⟨⟨(h.ok b a).fnum p e f d,c.hi⟩,⟨λg=> ?_,s.size⟩⟩;have i:=c.key g;have⟨x,o⟩:=cX.1 (s.key.1 g);rw[o]at i⊢;have k:dN x.1=3:=i;refine⟨rfl,?_⟩;show x.1.size<=2000;have n:x.1.toList∈lA:=by have:=oj k;simpa [ip]using this
 have m:∀l∈lA,l.length<=2000:=Th;have:=m _ n;rw[ByteArray.toList_eq]at this;simp_all
end
section
open Go.Maps Go.ChangeMaps Go.WideMaps Go.WideElems
open Tq
def Tryz.info105:(prog.info? 105).map (λi=>(i.zero,i.size,i.bytes))=some (some (.pointer none),1,8):=Tj
def nM (z:List (au×Nat)):am:=z.foldl (λa x=>iZ a x.1 x.2) (λ_=>none)
def I9 (z:List (au×Nat))(s:au)(b:Nat):nM (z++ [(s,b)])=iZ (nM z) s b:=by simp[nM]
structure Hh (w0 wr:aw)(kb:Nat)(v:Value)(z:List (au×Nat)):Prop where
 row:wr.ownsRow w0.heap.size 105 1 v z.length (fh (z.map (·.2)))
 map:gk wr kb z.length (nM z)
 msg:∀x∈z,dP wr x.2 #[ae x.1,ah] 108/\w0.heap.size<=x.2/\v.ownBlock≠some x.2
 nd:(z.map (·.2)).Nodup
 kept:dY [kb] w0 wr
def gk.put {w w':aw}{kb n:Nat}{mp:am}{s:au}{b:Nat}{D:DataW Unit}(h1:w.ownsMap prog 9 gG kb n D)(a:∀s:au,D.atKey (qX s) (oh none)=oh (mp s))
  (h:w'.ownsMap prog 9 gG kb (n+1) (D.put (qX s) (oh (some b)))):gk w' kb (n+1) (iZ mp s b):=⟨_,h,MG (World.ownsMap.isMap h1) a s b⟩
def Hh.snoc {w0 wr w2 w5:aw}{kb:Nat}{v v':Value}{z:List (au×Nat)}{s:au}(h:Hh w0 wr kb v z)(E:kb<w0.heap.size)
  (f:(wr.alloc (.cells #[ae s,ah] 108)).grownBy w2 (some kb)) (hm:gk w2 kb (z.length+1) (iZ (nM z) s wr.heap.size)) {o:Obj}
  (d:(w2.alloc o).grownBy w5 v.ownBlock) (n:w5.ownsRow w0.heap.size 105 1 v' (z.length+1) (fh (z.map (·.2))++ [gR (some wr.heap.size)])) (m:v'.ownBlock=v.ownBlock\/v'.ownBlock=some (w2.alloc o).heap.size):
  Hh w0 w5 kb v' (z++ [(s,wr.heap.size)]):=by
 have p:=h.row.lt;have q:=h.kept.size;have F:wr.heap.size+1<=w2.heap.size:=by have:=f.size;simpa using this
 have y:some kb≠v.ownBlock:=λe=>by have:=(p _ e.sy).1;omega
 have t:∀{b:Nat} {cs:aq} {T:TypeId},dP (wr.alloc (.cells #[ae s,ah] 108)) b cs T->b≠kb->v.ownBlock≠some b->dP w5 b cs T:=λB j i=>
  ((B.grown f (λe=>j (Option.some.inj e))).alloc o).grown d (λe=>i e.sy)
 have r:∀x,x<w2.heap.size+1->v.ownBlock≠some x->v'.ownBlock≠some x:=λx g j e=>by
  rcases m with i|i;.exact j (i▸e)
  .rw[i]at e;have:=Option.some.inj e;simp at this;omega
 refine⟨?_,?_,?_,?_,?_⟩;.rw[bM,bf];simp only[cu,List.map_nil,bF,dz,rt];exact n
 .rw[I9,bf];exact hm.O ((d.block kb (by have:=hm.lt;simp;omega) y).J (Below.l _ _ _ hm.lt))
 .intro x g;rcases aQ.1 g with g|g;.have⟨w,G,l⟩:=h.msg x g;have:=w.lt;exact⟨t (w.alloc _) Te l,G,r _ Te l⟩
  .simp at g;subst g;have l:v.ownBlock≠some wr.heap.size:=λe=>by have:=(p _ e).2;omega
   exact⟨t (dP.new _ _ _) (by show wr.heap.size≠kb;omega) l,q,r _ (by show wr.heap.size<w2.heap.size+1;omega) l⟩
 .rw[bM,dB];refine⟨h.nd,Tf,?_⟩;intro a A c C;obtain⟨x,g,rfl⟩:=aV.1 A;simp at C;have:=(h.msg x g).1.lt;omega
 .refine⟨?_,?_,?_,?_,?_⟩;.rw[d.os];exact f.os.J h.kept.os
  .rw[d.tape];exact f.tape.J h.kept.tape
  .rw[d.output];exact f.output.J h.kept.output
  .have:=d.size;simp at this;omega
  .intro k D u;have j:(w2.alloc o).heap[k]?=w2.heap[k]?:=Below.l _ _ _ Te;have i:(wr.alloc (.cells #[ae s,ah] 108)).heap[k]?=wr.heap[k]?:=Below.l _ _ _ Te;rw[d.block k Tg (λe=>by have:=(p _ e.sy).1;omega),j,f.block k Tg (λe=>u (by simp at e;simp[e])),i];exact h.kept.block k D u
end
section
open Tq
def eG (mp:am)(g:GF):Nat:=if g.form=4 then 16 else jd mp g.f.ty
def AN:∀(l:List (an)) (s:an) (k n:Nat),vg l s k=some n->n<k+l.length
 | [],s,k,n,h=>by simp[vg]at h
 |x::l,s,k,n,h=>by
  unfold vg at h;split at h;.simp at h;subst h;simp
  .have:=AN l s (k+1) n h;simp;omega
def nP (mp:am)(t:au):jd mp t<=16:=by
 unfold jd rN;split
 .cases h:vg lA t.toList 0 with
  |none=>simp
  |some n=>
   have:=AN lA t.toList 0 n h;have e:lA.length=15:=rfl;simp;omega
 .split<;>omega
def CE (mp:am)(g:GF):eG mp g<=16:=by
 unfold eG;split;.omega
 .exact nP mp _
def eR.blk {w:aw}{P:ax}{mp:am}{g:GF}{fb:Nat}(h:eR w P mp g fb):
  ∃pv rv,dP w fb #[aa g.f.num,aa g.form,aa (eG mp g),pv,rv] 220/\P fb/\d5 w P 3 1 rv g.riv.length (gA g.riv)/\
   (if g.form=4 then∃eb,pv=gR (some eb)/\lQ w P mp g.f.key g.f.ty eb else pv=gR (yJ mp g.f.ty)):=by
 unfold eR at h;unfold eG;split at h;.rename_i a;obtain⟨rv,eb,b,c,d,e⟩:=h;rw[dH a];refine⟨gR (some eb),rv,by rw[a];exact b,c,d,?_⟩;rw[dH a];exact⟨eb,rfl,e⟩
 .rename_i a;obtain⟨rv,b,c,d⟩:=h;rw[dG a];exact⟨_,rv,b,c,d,by rw[dG a]⟩
def lQ.msg {w:aw}{P:ax}{mp:am}{k v:au}{eb:Nat}(h:lQ w P mp k v eb):jX w P mp eb eS [lF oe k 1,lF qZ v 2]:=by
 obtain⟨c,b,a,d,e,f,g,i⟩:=h;refine⟨c,[b,a],d,e,f,b,[a],rfl,?_,a,[],rfl,?_,rfl⟩;.unfold eR;rw[dG (by simp[lF])];exact g
 .unfold eR;rw[dG (by simp[lF])];exact i
def it (mp:am)(g:GF):Bool:=(g.form==2)&&jf (eG mp g)
def oX (w:aw)(P:ax)(mp:am)(g:GF)(fb:Nat)(h:eR w P mp g fb):
  Calls prog 209 #[ag fb] w λe w'=>e= .returned (.bool (it mp g))/\aj w w':=by
 have⟨f,k,c,_,_,_⟩:=h.blk;have d:=En;have a:=CE mp g;unfold it;have⟨i,j⟩:=c.I;cases hf:(g.form==2)
 .go_in
  go_wp2;go_ret;exact⟨rfl,Below.refl _ _⟩
 .go_in
  go_wp2_with fail;refine(d w (eG mp g) f a).V ?_;rintro e w2 ⟨rfl,b⟩;go_wp2;go_ret;exact⟨rfl,b⟩
def my (mp:am)(g:GF)(kind:Int):Bool:=(kind==(ed (eG mp g):Int))||((kind==2)&&it mp g)
def Pa (w:aw)(P:ax)(mp:am)(g:GF)(fb:Nat)(kind:Int)(h:eR w P mp g fb):
  Calls prog 183 #[ag fb,aa kind] w λe w'=>e= .returned (.bool (my mp g kind))/\aj w w':=by
 have⟨l,o,j,_,_,_⟩:=h.blk;have f:=CE mp g;have c:=rQ w (eG mp g) l f;have d:Hid (∀w2:aw,aj w w2->S9 209 #[ag fb] w2 λe w'=>e= .returned (.bool (it mp g))/\aj w2 w'):=λw2 a=>oX w2 P mp g fb (h.O (λb _ k=>a.block b k))
 unfold my;have⟨m,n⟩:=j.I;generalize eG mp g=gb at*;generalize(ed gb:Int)=wb at*;generalize it mp g=pg at*;cases hf:(kind==wb)
 .cases Tu:(kind==2)
  .go_in
   go_wp2_with fail;refine c.V ?_;rintro e w2 ⟨rfl,a⟩;go_wp2;go_ret;exact⟨rfl,a⟩
  .go_in
   go_wp2_with fail;refine c.V ?_;rintro e w2 ⟨rfl,a⟩;go_wp2_with fail;refine(d.o w2 a).V ?_;rintro e w3 ⟨rfl,i⟩;go_wp2;go_ret;exact⟨rfl,eD a i⟩
 .go_in
  go_wp2_with fail;refine c.V ?_;rintro e w2 ⟨rfl,a⟩;go_wp2;go_ret;exact⟨rfl,a⟩
def kA (mp:am)(g:GF):Int:=if g.form=4/\jd mp g.f.ty=16 then 2 else if eG mp g=16 then 1 else 0
def tQ (k v:au): [lF oe k 1,lF qZ v 2].Pairwise (λx y=>x.f.num<=y.f.num):=by simp[lF]
def CF (k v:au):iI [lF oe k 1,lF qZ v 2] 1=some (lF oe k 1):=by simp[iI,lF]
def CG (k v:au):iI [lF oe k 1,lF qZ v 2] 2=some (lF qZ v 2):=by simp[iI,lF]
def sO (w:aw)(P:ax)(mp:am)(g:GF)(fb:Nat)(h:eR w P mp g fb):
  Calls prog 186 #[ag fb] w λe w'=>e= .returned (aa (kA mp g))/\w'=w:=by
 have⟨y,z,f,_,_,i⟩:=h.blk;have⟨k,x⟩:=f.I;unfold kA;by_cases hf:g.form=4
 .rw[dH hf]at i;obtain⟨o,rfl,p⟩:=i;have c:=AM w P mp o eS _ 2 p.msg (tQ _ _) Tf;rw[CG]at c;have l:(g.form==4)=true:=by simp[hf]
  unfold gR at k;have a:eG mp g=16:=by unfold eG;rw[dH hf]
  rw[a]at k;by_cases ht:jd mp g.f.ty=16
  .rw[dH ⟨hf,ht⟩];clear hf h f;go_in
   go_wp2_with fail;refine c.V ?_;rintro e w2 ⟨⟨v,rfl,j⟩,rfl⟩;have⟨m,n,b,_,_,_⟩:=j.blk;have d:eG mp (lF qZ g.f.ty 2)=16:=by unfold eG;rw[dG (by simp[lF])];exact ht
   rw[d]at b;have⟨t,u⟩:=b.I;go_wp2;go_ret;exact⟨rfl,rfl⟩
  .rw[dG (λq=>ht q.2),dH a];clear hf h f;go_in
   go_wp2_with fail;refine c.V ?_;rintro e w2 ⟨⟨v,rfl,j⟩,rfl⟩;have⟨m,n,b,_,_,_⟩:=j.blk;have d:eG mp (lF qZ g.f.ty 2)=jd mp g.f.ty:=by unfold eG;rw[dG (by simp[lF])];rfl
   rw[d]at b;have⟨t,u⟩:=b.I;have s:((jd mp g.f.ty:Int)==16)=false:=Tg;go_wp2;go_ret;exact⟨rfl,rfl⟩
 .have l:(g.form==4)=false:=by simp[hf]
  rw[dG (λq=>hf q.1)];clear i;by_cases a:eG mp g=16
  .rw[dH a];rw[a]at k;clear hf;go_in
   go_wp2;go_ret;exact⟨rfl,rfl⟩
  .rw[dG a];have r:((eG mp g:Int)==16)=false:=Tg;clear hf a;go_in
   go_wp2;go_ret;exact⟨rfl,rfl⟩
end
def jZ (a b:LV):Prop:=a.1=b.1/\a.2.toList=b.2.toList
def Ex (x y:an):Op.bytesLess x y=true<->x<y:=by rw[bytesLess_eq];simp
def qI (a:LV):¬oK a a:=by
 rintro(h|⟨_,h⟩);.omega
 .rw[Ex]at h;grind
def ox {a b c:LV}(h:oK a b)(k:oK b c):oK a c:=by
 unfold oK at*;simp only[Ex]at*;grind
def AW (a b:LV):oK a b\/jZ a b\/oK b a:=by
 unfold oK jZ;simp only[Ex];grind
def xB {a b c:LV}(k:jZ a b)(h:oK b c):oK a c:=by
 obtain⟨d,e⟩:=k;unfold oK at*;simp_all
def jZ.sy {a b:LV}(h:jZ a b):jZ b a:=⟨h.1.sy,h.2.sy⟩
def mf {a b:LV}(h:oK a b):¬jZ a b:=λk=>qI b (xB k.sy h)
def iu {a b:au}:gP a b=true<->a.toList=b.toList:=by unfold gP;simp
def JL {t:au}{x y:PV}(c:D7 t x)(d:D7 t y):kL t x y=true<->oK (lC t x) (lC t y):=by
 obtain⟨f,g,_,h,a⟩:=c;obtain⟨i,j,_,k,b⟩:=d;unfold kL oK lC
 cases hs:gP t og with
 |true=>
  simp_all
 |false=>
  rw[a hs,b hs];have e:¬Op.bytesLess eS.toList eS.toList=true:=Ti;simp only[e,and_false,or_false,aN,if_false]
  cases eC jD t with
  |true=>
   simp only[if_true,decide_eq_true_eq];unfold AD
   split<;>split<;>omega
  |false=>simp
def AX {t:au}{x y:PV}(a:D7 t x)(b:D7 t y):lP x y=true<->jZ (lC t x) (lC t y):=by
 unfold lP jZ lC;have:=a.lo;have:=a.hi;have:=b.lo;have:=b.hi;simp only[bK,decide_eq_true_eq,iu];grind
def uG {t:au}{v:PV}:∀{l:List PV},(∀x∈l,lP (fJ v) (fJ x)=false)->gq t v true l=l
 | [],_=>rfl
 |x::l,h=>by
  rw[gq];simp only[du,dh,aN,if_false,be,h x Tf,cF];rw[uG λy a=>h y (by grind)];rfl
def uH {t:au}{v:PV}(c:D7 t (fJ v)):∀{l:List PV},(∀x∈l,D7 t (fJ x))->l.Pairwise (λa b=>oK (lC t (fJ a)) (lC t (fJ b)))->
  ∃l1 mid l2,l=l1++(mid++l2)/\iF t l v=l1++v::l2/\(mid= []\/∃x,mid= [x]/\jZ (lC t (fJ v)) (lC t (fJ x)))/\(∀x∈l1,oK (lC t (fJ x)) (lC t (fJ v)))/\∀x∈l2,oK (lC t (fJ v)) (lC t (fJ x))
 | [],_,_=>⟨[],[],[],rfl,rfl,.inl rfl,Tf,Tf⟩
 |x::l,hk,hs=>by
  have e:=hk x Tf;rw[bU]at hs;have j:oK (lC t (fJ v)) (lC t (fJ x))\/jZ (lC t (fJ v)) (lC t (fJ x))->∀y∈l,oK (lC t (fJ v)) (lC t (fJ y)):=λh y f=>h.elim (λq=>ox q (hs.1 y f)) (λq=>xB q (hs.1 y f))
  have i:oK (lC t (fJ v)) (lC t (fJ x))\/jZ (lC t (fJ v)) (lC t (fJ x))->gq t v true l=l:=λh=>uG λy f=>by
   rw[bN];intro q;exact mf (j h y f) ((AX c (hk y (by grind))).1 q)
  rcases AW (lC t (fJ v)) (lC t (fJ x))with h|h|h
  .have g:=(JL c e).2 h;have d:lP (fJ v) (fJ x)=false:=(by rw[bN];exact λq=>mf h ((AX c e).1 q));refine⟨[],[],x::l,rfl,?_,.inl rfl,Tf,?_⟩;.unfold iF;rw[gq,g,d];simp_all
   simp_all
  .have d:=(AX c e).2 h;refine⟨[],[x],l,rfl,?_,.inr ⟨x,rfl,h⟩,Tf,j (.inr h)⟩;unfold iF;rw[gq,d];simp_all
  .have g:kL t (fJ v) (fJ x)=false:=(by rw[bN];exact λq=>qI _ (ox ((JL c e).1 q) h));have d:lP (fJ v) (fJ x)=false:=(by rw[bN];exact λq=>mf h ((AX c e).1 q).sy);have⟨l1,mid,l2,o,k,m,p,n⟩:=uH c (l:=l) (λy f=>hk y (by grind)) hs.2;refine⟨x::l1,mid,l2,by simp_all,?_,m,?_,n⟩
   .unfold iF at k⊢;rw[gq,g,d]
    (simp;omega)
   simp_all
section
open Go.Maps
section
variable {k q:LV} {p:Nat} {ks2 km:List LV} {ps2 pm:aB} {w:aw} {D:DataW Unit}
theorem Ey:Keyed prog 386:=Keyed.of_law (deep_law (m:=2) Te Tj Tj Tj)
theorem JM:prog.keyType 386=true:=Tj
theorem Ez:prog.cellsOf 386=2:=Tj
theorem JN:prog.cellsOf 53=1:=Tj
theorem CP:prog.cellsOf 9=1:=Tj
structure yV (k:LV):Prop where
 lo:0<=k.1
 hi:k.1<2^64
 sz:k.2.size<=maxLen
theorem Pg (h:yV k):∃kl,Go.keyOf prog 386 (kV k)=some kl:=by
 unfold keyOf kV;have d:Nat.ble 1 prog.types.size=true:=Tj;have e:=Nat.le_of_ble_eq_true d;obtain⟨N,c⟩:∃N,prog.types.size+1=N+1+1:=⟨prog.types.size-1,Te⟩;have b:(Lit.int .u64 k.1).wf=true:=(by show(decide (0<=k.1)&&decide (k.1<=18446744073709551615))=true;have:=h.lo;have:=h.hi;simp;omega);have a:=h.sz;rw[JM,c];simp[underlying386,Value.formed,Ez,Program.keyLits,JN,CP,underlying53,underlying9,b,a,Value.cells]
theorem ja {a b:au}(h:a.toList=b.toList):a=b:=by
 rw[ByteArray.toList_eq,ByteArray.toList_eq]at h;cases a;cases b;simp at h;rw[h]
theorem xC:∀{ks:List LV} {ps:aB},(∀x∈ks,¬jZ x q)->jt ks ps q=none
 | [],_,_=>by rw[jt];intros;simp_all
 |_::_,[],_=>by rw[jt];intros;simp_all
 |x::ks,y::ps,h=>by
  rw[jt,dG (λe=>h x Tf ⟨e.1,iu.1 e.2⟩)];exact xC λz a=>h z (by simp[a])
theorem tW (hm:(km= []/\pm= [])\/∃k' p',km= [k']/\pm= [p']/\jZ k k'):∀{ks1:List LV} {ps1:aB},ks1.length=ps1.length->(∀x∈ks1,¬jZ x k)->
  jt (ks1++k::ks2) (ps1++p::ps2) q=if k.1=q.1/\gP k.2 q.2=true then some p else jt (ks1++(km++ks2)) (ps1++(pm++ps2)) q
 | [],[],_,_=>by
  simp only[be];rw[jt];split;.rfl
  .rename_i a;rcases hm with⟨rfl,rfl⟩|⟨k',p',rfl,rfl,b⟩;.rfl
   .simp only[bo,be]
    rw[jt,dG (λe=>a ⟨b.1.J e.1,iu.2 (b.2.J (iu.1 e.2))⟩)]
 | [],_::_,h,_=>by simp at h
 |_::_,[],h,_=>by simp at h
 |x::ks1,y::ps1,h,a=>by
  simp only[bo];rw[jt,jt,tW hm (by simpa using h) (λz c=>a z (by simp[c]))];by_cases hx:x.1=q.1/\gP x.2 q.2=true;.rw[dH hx,dH hx,dG (λe=>a x Tf ⟨hx.1.J e.1.sy,(iu.1 hx.2).J (iu.1 e.2).sy⟩)]
  .rw[dG hx,dG hx]
theorem xD {k:TypeId}{R:Value->Option (DataW Unit×List MemPlace)}{b n:Nat}(h:w.ownsMap prog k R b n D):w.ownsMap prog k R b (Go.Maps.size D) D:=by
 obtain⟨a,clock,c,F,d,rfl⟩:=h;exact⟨a,clock,c,F,by simp[Go.Maps.size,length_sorted],rfl⟩
theorem ju.put {w':aw}{mb n:Nat}{kl:Lit}{ks1:List LV}{ps1:aB}(hm:(km= []/\pm= [])\/∃k' p',km= [k']/\pm= [p']/\jZ k k')(r:ks1.length=ps1.length)(h1:∀x∈ks1,¬jZ x k)(A:∀x∈ks2,¬jZ x k)
  (a:w.ownsMap prog 386 gG mb n D) (f:Go.Maps.size D=(ks1++(km++ks2)).length) (b:∀(k:LV) kl,Go.keyOf prog 386 (kV k)=some kl->∀z,D.atKey kl z=QS (jt (ks1++(km++ks2)) (ps1++(pm++ps2)) k) z)
  (c:Go.keyOf prog 386 (kV k)=some kl) (d:w'.ownsMap prog 386 gG mb (n+1) (D.put kl (oh (some p)))):ju w' mb (ks1++k::ks2) (ps1++p::ps2):=by
 have hlen:Go.Maps.size (D.put kl (oh (some p)))=(ks1++k::ks2).length:=by
  rw[size_put (a.tidy Ey)];rcases hm with⟨rfl,rfl⟩|⟨k',p',rfl,rfl,j⟩
  .have s:jt (ks1++([]++ks2)) (ps1++([]++ps2)) k=none:=xC λx l=>by
    simp only[be,aQ]at l;exact l.elim (h1 x) (A x)
   rw[has_false_of_atKey (λz=>by rw[b k kl c z,s];rfl),f];simp;omega
  .have o:∃m,jt (ks1++([k']++ks2)) (ps1++([p']++ps2)) k=some m:=(by have:=tW (k:=k') (q:=k) (p:=p') (ks2:=ks2) (ps2:=ps2) (km:= []) (pm:= []) (.inl ⟨rfl,rfl⟩) r (λx l q=>h1 x l ⟨q.1.J j.1.sy,q.2.J j.2.sy⟩);exact⟨p',this.J (dH ⟨j.1.sy,iu.2 j.2.sy⟩)⟩);obtain⟨m,t⟩:=o;rw[has_true_of_atKey (y:=oh (some m)) (λz=>by rw[b k kl c z,t];rfl),f];simp
 refine⟨_,by rw[<-hlen];exact xD d,hlen,λq B i z=> ?_⟩;rw[tW hm r h1];by_cases e:k.1=q.1/\gP k.2 q.2=true
 .rw[dH e];have u:k.2=q.2:=ja (iu.1 e.2);have v:kV k=kV q:=by unfold kV;rw[e.1,u]
  rw[<-v,c]at i;cases i;exact atKey_put_same a.isMap (Ey.key c) _ _
 .rw[dG e,atKey_put_other];.exact b q B i z
  .intro h;subst h;have g:=Ey.inj i c;unfold kV at g;simp at g;exact e ⟨g.1.sy,by rw[g.2];exact iu.2 rfl⟩
theorem ju.made (w:aw):ju (w.alloc (.map #[] 0)) w.heap.size [] []:=
 ⟨_,World.ownsMap_made w prog 386 gG,rfl,λ_ _ _ _=>rfl⟩
end
end
end Go.Proofs.YtfebdimolnobaaaGreatDoor
