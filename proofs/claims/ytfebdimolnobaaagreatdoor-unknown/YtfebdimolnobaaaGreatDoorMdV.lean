import Derived.Test.YtfebdimolnobaaaGreatDoorBuH
import Derived.Test.YtfebdimolnobaaaGreatDoorDfF
import Derived.Sort.Walk0
import Derived.DeepKeys4
set_option maxRecDepth 100000
set_option maxHeartbeats 8000000
set_option linter.all false
namespace Go.Proofs.YtfebdimolnobaaaGreatDoor
open Go.RowKit Go.Proofs.Tryz
section
variable {types:aA} {nums:aB} {f:eU} {bs:List d7}
structure Kj (types:aA)(f:eU):Prop where
 key:f.form=4->mU f.key=3
 lo:1<=jc f.num.1
 hi:jc f.num.1<=536870911
 ty:dV f.type.1=1->fi types f.type.1=true
 kg:f.form=4->ig (mU f.key) (jK f.key)=true
theorem sQ {names:aA}{n:aA}{m:aB}(h:nT types names nums f= .ok (n,m)):Kj types f/\Bp nums (jc f.num.1)=false/\m=nums++ [jc f.num.1]/\n=names++ [f.name.1]/\fi names f.name.1=false:=by
 unfold nT vk kH at h;split at h;.grind
 .rename_i hk;split at h;.grind
  .rename_i ht;split at h;.grind
   .rename_i hn;split at h;.grind
    .split at h;.grind
     .rename_i hb;simp at h;unfold pj at hb;unfold pi at ht;unfold iR at hn;simp at hb ht hk hn;refine⟨⟨λh4=> ?_,Vc,Vc,λh1=> ?_,hk⟩,hb.2.2,h.2.sy,h.1.sy,hn.2⟩;.have:=hk h4;unfold ig at this;simp_all
      simp_all
theorem oj:∀(fs:List eU) (names:aA) (nums:aB) (n:aA) (m:aB),gy types names nums fs= .ok (n,m)->nums.Nodup->
  (∀f∈fs,Kj types f)/\m=nums++fs.map (λf=>jc f.num.1)/\m.Nodup
 | [],names,nums,n,m,h,hd=>by
  simp[gy]at h
  simp_all
 |f::fs,names,nums,n,m,h,hd=>by
  unfold gy at h;split at h;.cases h
  .rename_i n1 m1 h1;have g1:=sQ h1;have g2:=xy h1 hd;have g3:=oj fs n1 m1 n m h g2.2.2;grind
theorem sR:∀(ps:List fI) (names:aA) (nums:aB) (n:aA) (m:aB),gQ types names nums ps= .ok (n,m)->nums.Nodup->
  (∀p∈ps,∀f∈p.fields,Kj types f)/\m=nums++ps.flatMap (λp=>p.fields.map (λf=>jc f.num.1))/\m.Nodup
 | [],names,nums,n,m,h,hd=>by
  simp[gQ]at h
  simp_all
 |p::ps,names,nums,n,m,h,hd=>by
  unfold gQ at h;split at h;.cases h
  .rename_i n1 m1 h1
   have g1:(∀f∈p.fields,Kj types f)/\m1=nums++p.fields.map (λf=>jc f.num.1)/\m1.Nodup:=by
    unfold m9 at h1;split at h1
    .split at h1;.cases h1
     .exact oj _ _ _ _ _ h1 hd
    .exact oj _ _ _ _ _ h1 hd
   have g3:=sR ps n1 m1 n m h g1.2.2;grind
structure Oe (types:aA)(b:d7):Prop where
 flds:∀p∈b.parts,∀f∈p.fields,Kj types f
 nums:(b.parts.flatMap (λp=>p.fields.map (λf=>jc f.num.1))).Nodup
theorem lX (l r:aA)(s:au):fi (l++r) s=(fi l s||fi r s):=by simp[fi]
theorem rM:∀(bs:List d7) (names:aA) (m:Nat),fP types names m bs= .ok ()->
  (∀b∈bs,b.enum=false->Oe types b)/\(fJ bs).Pairwise (λx y=>x.toList≠y.toList)/\(∀b∈bs,fi names b.name.1=false)
 | [],names,m,_=>⟨Vd,List.Pairwise.nil,Vd⟩
 |b::bs,names,m,h=>by
  have key:∀m',fP types (names++ [b.name.1]) m' bs= .ok ()->iR names b.name.1=false->(b.enum=false->Oe types b)->
    (∀x∈b::bs,x.enum=false->Oe types x)/\(fJ (b::bs)).Pairwise (λx y=>x.toList≠y.toList)/\(∀x∈b::bs,fi names x.name.1=false):=by
   intro m' h2 h3 h4;have g:=rM bs _ m' h2;refine⟨?_,?_,?_⟩;.simp_all
   .refine List.Pairwise.cons ?_ g.2.1;intro y hy;obtain⟨c,hc,rfl⟩:=aR.1 hy;have:=g.2.2 c hc;rw[lX]at this;simp[fi]at this;simp_all
   .intro x hx;rcases aS.1 hx with rfl|hx;.unfold iR at h3;simp_all
    .have:=g.2.2 x hx;rw[lX]at this;simp_all
  unfold fP at h;split at h;.cases h
  .rename_i h3;simp only[Bool.not_eq_true]at h3;split at h;.grind
   .split at h;.cases h
    .split at h;.cases h
     .rename_i n1 h5;obtain⟨a,c⟩:=n1;have g:=sR b.parts [] [] a c h5 List.nodup_nil;exact key (m+1) h h3 (λ_=>⟨g.1,by grind⟩)
structure DD (bs:List d7):Prop where
 ok:∀b∈bs,po b
 few:bs.length<=2001
 shape:∀b∈bs,Bv b
 chk:∀b∈bs,b.enum=false->Oe (fJ bs) b
 names:(fJ bs).Pairwise (λx y=>x.toList≠y.toList)
theorem rY {t:au}(h:iS t= .ok bs):DD bs:=by
 unfold iS at h;split at h;.cases h
 .split at h;.cases h
  .rename_i h3;split at h;.cases h
   .rename_i h4;cases h;have hw:=p8 t Vc;have g:=rM _ _ _ h4;exact⟨(xz hw h3).1,(xz hw h3).2,Dr hw h3,g.1,g.2.1⟩
theorem DD.field (h:DD bs){b:d7}(hb:b∈bs)(he:b.enum=false){p:fI}(hp:p∈b.parts)(hf:f∈p.fields):PT f:=by
 have c:=(h.chk b hb he).flds p hp f hf;have s:=(h.shape b hb p hp).1 f hf;refine⟨⟨(h.ok b hb).fnum p hp f hf,c.hi⟩,⟨λh4=> ?_,s.size⟩⟩;have k3:=c.key h4;have⟨x,hx⟩:=cn.1 (s.key.1 h4);rw[hx]at k3⊢;have hk:dV x.1=3:=k3;refine⟨rfl,?_⟩;show x.1.size<=2000;have hm:x.1.toList∈mZ:=by have:=nh hk;simpa [jI]using this
 have hl:∀l∈mZ,l.length<=2000:=Vf;have:=hl _ hm;rw[ByteArray.toList_eq]at this;simp_all
end
section
open Go.Maps Go.ChangeMaps Go.WideMaps Go.WideElems
open Vo
def Tryz.info105:(prog.info? 105).map (λi=>(i.zero,i.size,i.bytes))=some (some (.pointer none),1,8):=Vh
def mO (z:List (au×Nat)):an:=z.foldl (λmp x=>jD mp x.1 x.2) (λ_=>none)
def Kk (z:List (au×Nat))(s:au)(b:Nat):mO (z++ [(s,b)])=jD (mO z) s b:=by simp[mO]
structure IU (w0 wr:aw)(kb:Nat)(v:Value)(z:List (au×Nat)):Prop where
 row:wr.ownsRow w0.heap.size 105 1 v z.length (fx (z.map (·.2)))
 map:gq wr kb z.length (mO z)
 msg:∀x∈z,dX wr x.2 #[ag x.1,ai] 108/\w0.heap.size<=x.2/\v.ownBlock≠some x.2
 nd:(z.map (·.2)).Nodup
 kept:ec [kb] w0 wr
def gq.put {w w':aw}{kb n:Nat}{mp:an}{s:au}{b:Nat}{D:DataW Unit}(h1:w.ownsMap prog 9 gL kb n D)(h2:∀s:au,D.atKey (rF s) (oH none)=oH (mp s))
  (h:w'.ownsMap prog 9 gL kb (n+1) (D.put (rF s) (oH (some b)))):gq w' kb (n+1) (jD mp s b):=⟨_,h,Oa (World.ownsMap.isMap h1) h2 s b⟩
def IU.snoc {w0 wr w2 w5:aw}{kb:Nat}{v v':Value}{z:List (au×Nat)}{s:au}(h:IU w0 wr kb v z)(hkb:kb<w0.heap.size)
  (hg2:(wr.alloc (.cells #[ag s,ai] 108)).grownBy w2 (some kb)) (hm:gq w2 kb (z.length+1) (jD (mO z) s wr.heap.size)) {o:Obj}
  (hg5:(w2.alloc o).grownBy w5 v.ownBlock) (hown:w5.ownsRow w0.heap.size 105 1 v' (z.length+1) (fx (z.map (·.2))++ [gZ (some wr.heap.size)])) (hloc:v'.ownBlock=v.ownBlock\/v'.ownBlock=some (w2.alloc o).heap.size):
  IU w0 w5 kb v' (z++ [(s,wr.heap.size)]):=by
 have Vr:=h.row.lt;have hsz:=h.kept.size;have hs2:wr.heap.size+1<=w2.heap.size:=by have:=hg2.size;simpa using this
 have Vs:some kb≠v.ownBlock:=λe=>by have:=(Vr _ e.sy).1;omega
 have Vq:∀{b:Nat} {cs:aq} {T:TypeId},dX (wr.alloc (.cells #[ag s,ai] 108)) b cs T->b≠kb->v.ownBlock≠some b->dX w5 b cs T:=λhb h1 h2=>
  ((hb.grown hg2 (λe=>h1 (Option.some.inj e))).alloc o).grown hg5 (λe=>h2 e.sy)
 have Vp:∀x,x<w2.heap.size+1->v.ownBlock≠some x->v'.ownBlock≠some x:=λx hx h1 e=>by
  rcases hloc with h2|h2;.exact h1 (h2▸e)
  .rw[h2]at e;have:=Option.some.inj e;simp at this;omega
 refine⟨?_,?_,?_,?_,?_⟩;.rw[bS,aN];simp only[bK,dm,bw,df,rL];exact hown
 .rw[Kk,aN];exact hm.O ((hg5.block kb (by have:=hm.lt;simp;omega) Vs).J (Below.l _ _ _ hm.lt))
 .intro x hx;rcases aW.1 hx with hx|hx;.have⟨m1,m2,m3⟩:=h.msg x hx;have:=m1.lt;exact⟨Vq (m1.alloc _) Vc m3,m2,Vp _ Vc m3⟩
  .simp at hx;subst hx;have m3:v.ownBlock≠some wr.heap.size:=λe=>by have:=(Vr _ e).2;omega
   exact⟨Vq (dX.new _ _ _) (by show wr.heap.size≠kb;omega) m3,hsz,Vp _ (by show wr.heap.size<w2.heap.size+1;omega) m3⟩
 .rw[bS,dK];refine⟨h.nd,Vd,?_⟩;intro a ha c hc;obtain⟨x,hx,rfl⟩:=aR.1 ha;simp at hc;have:=(h.msg x hx).1.lt;omega
 .refine⟨?_,?_,?_,?_,?_⟩;.rw[hg5.os];exact hg2.os.J h.kept.os
  .rw[hg5.tape];exact hg2.tape.J h.kept.tape
  .rw[hg5.output];exact hg2.output.J h.kept.output
  .have:=hg5.size;simp at this;omega
  .intro k hk hn;have h1:(w2.alloc o).heap[k]?=w2.heap[k]?:=Below.l _ _ _ Vc;have h2:(wr.alloc (.cells #[ag s,ai] 108)).heap[k]?=wr.heap[k]?:=Below.l _ _ _ Vc;rw[hg5.block k Ve (λe=>by have:=(Vr _ e.sy).1;omega),h1,hg2.block k Ve (λe=>hn (by simp at e;simp[e])),h2];exact h.kept.block k hk hn
end
section
open Vo
def eI (mp:an)(g:GF):Nat:=if g.form=4 then 16 else jB mp g.f.ty
def BL:∀(l:List (ap)) (s:ap) (k n:Nat),Df l s k=some n->n<k+l.length
 | [],s,k,n,h=>by simp[Df]at h
 |x::l,s,k,n,h=>by
  unfold Df at h;split at h;.simp at h;subst h;simp
  .have:=BL l s (k+1) n h;simp;omega
def uo (mp:an)(t:au):jB mp t<=16:=by
 unfold jB oh;split
 .cases h:Df mZ t.toList 0 with
  |none=>simp
  |some n=>
   have:=BL mZ t.toList 0 n h;have e:mZ.length=15:=rfl;simp;omega
 .split<;>omega
def me (mp:an)(g:GF):eI mp g<=16:=by
 unfold eI;split;.omega
 .exact uo mp _
def eZ.blk {w:aw}{P:ax}{mp:an}{g:GF}{fb:Nat}(h:eZ w P mp g fb):
  ∃pv rv,dX w fb #[aa g.f.num,aa g.form,aa (eI mp g),pv,rv] 220/\P fb/\eO w P 3 1 rv g.riv.length (gB g.riv)/\
   (if g.form=4 then∃eb,pv=gZ (some eb)/\mJ w P mp g.f.key g.f.ty eb else pv=gZ (zH mp g.f.ty)):=by
 unfold eZ at h;unfold eI;split at h;.rename_i h0;obtain⟨rv,eb,h1,h2,h3,h4⟩:=h;rw[dP h0];refine⟨gZ (some eb),rv,by rw[h0];exact h1,h2,h3,?_⟩;rw[dP h0];exact⟨eb,rfl,h4⟩
 .rename_i h0;obtain⟨rv,h1,h2,h3⟩:=h;rw[dO h0];exact⟨_,rv,h1,h2,h3,by rw[dO h0]⟩
def mJ.msg {w:aw}{P:ax}{mp:an}{k v:au}{eb:Nat}(h:mJ w P mp k v eb):jh w P mp eb eS [lL oe k 1,lL p9 v 2]:=by
 obtain⟨fv,b1,b2,h1,h2,h3,h4,h5⟩:=h;refine⟨fv,[b1,b2],h1,h2,h3,b1,[b2],rfl,?_,b2,[],rfl,?_,rfl⟩;.unfold eZ;rw[dO (by simp[lL])];exact h4
 .unfold eZ;rw[dO (by simp[lL])];exact h5
def io (mp:an)(g:GF):Bool:=(g.form==2)&&fj (eI mp g)
def mQ (w:aw)(P:ax)(mp:an)(g:GF)(fb:Nat)(h:eZ w P mp g fb):
  Calls prog 209 #[ah fb] w λe w'=>e= .returned (.bool (io mp g))/\ak w w':=by
 have⟨pv,rv,h1,_,_,_⟩:=h.blk;have hk:=Fq;have Vr:=me mp g;unfold io;have⟨k1,k2⟩:=h1.I;cases hf:(g.form==2)
 .go_in
  go_wp2;go_ret;exact⟨rfl,Below.refl _ _⟩
 .go_in
  go_wp2_with fail;refine(hk w (eI mp g) pv Vr).V ?_;rintro e w2 ⟨rfl,b2⟩;go_wp2;go_ret;exact⟨rfl,b2⟩
def mf (mp:an)(g:GF)(kind:Int):Bool:=(kind==(eJ (eI mp g):Int))||((kind==2)&&io mp g)
def QC (w:aw)(P:ax)(mp:an)(g:GF)(fb:Nat)(kind:Int)(h:eZ w P mp g fb):
  Calls prog 183 #[ah fb,aa kind] w λe w'=>e= .returned (.bool (mf mp g kind))/\ak w w':=by
 have⟨pv,rv,h1,_,_,_⟩:=h.blk;have Vr:=me mp g;have HW:=qi w (eI mp g) pv Vr;have HP:Hid (∀w2:aw,ak w w2->U8 209 #[ah fb] w2 λe w'=>e= .returned (.bool (io mp g))/\ak w2 w'):=λw2 b2=>mQ w2 P mp g fb (h.O (λb _ hl=>b2.block b hl))
 unfold mf;have⟨k1,k2⟩:=h1.I;generalize eI mp g=gb at*;generalize(eJ gb:Int)=wb at*;generalize io mp g=pg at*;cases hf:(kind==wb)
 .cases Vs:(kind==2)
  .go_in
   go_wp2_with fail;refine HW.V ?_;rintro e w2 ⟨rfl,b2⟩;go_wp2;go_ret;exact⟨rfl,b2⟩
  .go_in
   go_wp2_with fail;refine HW.V ?_;rintro e w2 ⟨rfl,b2⟩;go_wp2_with fail;refine(HP.o w2 b2).V ?_;rintro e w3 ⟨rfl,b3⟩;go_wp2;go_ret;exact⟨rfl,eQ b2 b3⟩
 .go_in
  go_wp2_with fail;refine HW.V ?_;rintro e w2 ⟨rfl,b2⟩;go_wp2;go_ret;exact⟨rfl,b2⟩
def lw (mp:an)(g:GF):Int:=if g.form=4/\jB mp g.f.ty=16 then 2 else if eI mp g=16 then 1 else 0
def uq (k v:au): [lL oe k 1,lL p9 v 2].Pairwise (λx y=>x.f.num<=y.f.num):=by simp[lL]
def DI (k v:au):iI [lL oe k 1,lL p9 v 2] 1=some (lL oe k 1):=by simp[iI,lL]
def DJ (k v:au):iI [lL oe k 1,lL p9 v 2] 2=some (lL p9 v 2):=by simp[iI,lL]
def sX (w:aw)(P:ax)(mp:an)(g:GF)(fb:Nat)(h:eZ w P mp g fb):
  Calls prog 186 #[ah fb] w λe w'=>e= .returned (aa (lw mp g))/\w'=w:=by
 have⟨pv,rv,h1,_,_,h4⟩:=h.blk;have⟨k1,k2⟩:=h1.I;unfold lw;by_cases hf:g.form=4
 .rw[dP hf]at h4;obtain⟨eb,rfl,hE⟩:=h4;have HF:=qV w P mp eb eS _ 2 hE.msg (uq _ _) Vd;rw[DJ]at HF;have Vs:(g.form==4)=true:=by simp[hf]
  unfold gZ at k1;have Vp:eI mp g=16:=by unfold eI;rw[dP hf]
  rw[Vp]at k1;by_cases ht:jB mp g.f.ty=16
  .rw[dP ⟨hf,ht⟩];clear hf h h1;go_in
   go_wp2_with fail;refine HF.V ?_;rintro e w2 ⟨⟨vb,rfl,hV⟩,rfl⟩;have⟨Vt,Vu,h5,_,_,_⟩:=hV.blk;have Vq:eI mp (lL p9 g.f.ty 2)=16:=by unfold eI;rw[dO (by simp[lL])];exact ht
   rw[Vq]at h5;have⟨k3,k4⟩:=h5.I;go_wp2;go_ret;exact⟨rfl,rfl⟩
  .rw[dO (λq=>ht q.2),dP Vp];clear hf h h1;go_in
   go_wp2_with fail;refine HF.V ?_;rintro e w2 ⟨⟨vb,rfl,hV⟩,rfl⟩;have⟨Vt,Vu,h5,_,_,_⟩:=hV.blk;have Vq:eI mp (lL p9 g.f.ty 2)=jB mp g.f.ty:=by unfold eI;rw[dO (by simp[lL])];rfl
   rw[Vq]at h5;have⟨k3,k4⟩:=h5.I;have ht2:((jB mp g.f.ty:Int)==16)=false:=Ve;go_wp2;go_ret;exact⟨rfl,rfl⟩
 .have Vs:(g.form==4)=false:=by simp[hf]
  rw[dO (λq=>hf q.1)];clear h4;by_cases Vp:eI mp g=16
  .rw[dP Vp];rw[Vp]at k1;clear hf;go_in
   go_wp2;go_ret;exact⟨rfl,rfl⟩
  .rw[dO Vp];have hg2:((eI mp g:Int)==16)=false:=Ve;clear hf Vp;go_in
   go_wp2;go_ret;exact⟨rfl,rfl⟩
def jE (s:au)(a k:Nat):Fx (Int×Nat):=
 match(if eJ k=0 then iT s a s.size else if eJ k=5 then jt s a 4 else jt s a 8)with
 | .error x=> .error x
 | .ok x=> .ok (lC k x.1,x.2)
def Ug (k:Nat):Fx (Int×Nat)->Fx (Int×Nat)
 | .error x=> .error x
 | .ok x=> .ok (lC k x.1,x.2)
def Fs {w:aw}{rb k:Nat}{s:au}{deep:Int}{X r:Fx (Int×Nat)}{Q:Ending->aw->Prop}(hX:Ug k X=r)(h1:∀x w2,ec [rb] w w2->r= .error x->Q (dY x.1 x.2) w2)(h2:∀n z w2,X= .ok (n,z)->r= .ok (lC k n,z)->ec [rb] w w2->ee w2 rb s z deep->Q (.returned (.int .u64 n)) w2):
  ∀e w2,pS w rb s deep X (Value.int .u64) e w2->Q e w2:=by
 intro e w2 ⟨hk,h⟩
 cases X with
 |error x=>obtain rfl:e=dY x.1 x.2:=h;exact h1 x w2 hk hX.sy
 |ok x=>obtain⟨h,hr⟩:=h;obtain rfl:e=_:=h;exact h2 x.1 x.2 w2 rfl hX.sy hk hr
def BM (w:aw)(rb:Nat)(s:au)(a:Nat)(deep:Int)(k:Nat)(h:ee w rb s a deep)(ha:a<=s.size)(hs:s.size<=140737488355328)(hn:fj k=true):
  Calls prog 271 #[aa k,ah rb] w (pS w rb s deep (jE s a k) (Value.int .u64)):=by
 have hk:k=0\/k=1\/k=2\/k=3\/k=4\/k=5\/k=6\/k=7\/k=8\/k=9\/k=10\/k=11\/k=12\/k=15:=(by unfold fj at hn;simp at hn;omega);have HV:=nr w rb s a deep h hs;have H4:=BH w rb s a deep h ha hs;have H8:=wC w rb s a deep h ha hs;obtain⟨r,HR⟩:∃r,Hid (Ug k (if eJ k=0 then iT s a s.size else if eJ k=5 then jt s a 4 else jt s a 8)=r):=⟨_,rfl⟩;rw[show jE s a k=r from HR.o];clear h;rcases hk with rfl|rfl|rfl|rfl|rfl|rfl|rfl|rfl|rfl|rfl|rfl|rfl|rfl|rfl
 all_goals
  go_in
  go_wp2_with fail
  first
  |(go_at_call 182;refine HV.V (Fs HR.o ?_ ?_))
  |(go_at_call 352;refine H4.V (Fs HR.o ?_ ?_))
  |refine H8.V (Fs HR.o ?_ ?_)
  .rintro x w2 hk rfl;unfold dY;go_wp2;exact⟨rfl,hk,rfl⟩
  .rintro n z w2 hv rfl hk hr;go_wp2_with fail
   first
   |(go_ret;exact⟨hk,rfl,hr⟩)
   |(
     first |(go_at_call 347;refine(pp _ n).V ?_) |(go_at_call 348;refine(sV _ n).V ?_) |(go_at_call 349;refine(Ks _ n).V ?_) |(go_at_call 350;refine(Fp _ n (jj hv).1 (jj hv).2.1).V ?_) |(have HT:U8 351 #[.int .u64 n] w2 λe w'=>e= .returned (.int .u64 (lC 6 n))/\w'=w2:=wD w2 n (jj hv).1;generalize lC 6 n=b at*;refine HT.V ?_)
     rintro e w3 ⟨rfl,rfl⟩;go_wp2;go_ret
     exact⟨hk,rfl,hr⟩)
def sY (mp:an)(gs:List GF)(num kind:Int):Option GF:=
 match iI gs num with
 |none=>none
 |some g=>if mf mp g kind then some g else none
def At (w:aw)(P:ax)(mp:an)(mb:Nat)(name:au)(gs:List GF)(num kind:Int)(h:jh w P mp mb name gs)(hs:gs.Pairwise (λx y=>x.f.num<=y.f.num))(hl:gs.length<=2001):
  Calls prog 132 #[ah mb,.agg #[aa num,aa kind]] w λe w'=>Kx w' P mp (sY mp gs num kind) e/\ak w w':=by
 have⟨B0,K0⟩:=d8 w #[aa num,aa kind] 237;have h0:=h.O (w':=w.alloc (am #[aa num,aa kind] 237)) (λb _ hl=>Below.l _ _ _ hl);obtain⟨r,HR⟩:∃r,Hid (sY mp gs num kind=r):=⟨_,rfl⟩;rw[HR.o];go_in
 go_wp2_with fail;generalize w.alloc (am #[aa num,aa kind] 237)=w1 at*;refine(qV w1 P mp mb name gs num h0 hs hl).V ?_
 cases hf:iI gs num with
 |none=>
  rintro e w2 ⟨he,rfl⟩;obtain rfl:e= .returned (.pointer none):=he;obtain rfl:r=none:=by rw[<-HR.o,sY,hf]
  go_wp2;go_ret
  exact⟨rfl,B0⟩
 |some g=>
  rintro e w2 ⟨⟨fb,rfl,hF⟩,rfl⟩;have⟨k1,k2⟩:=K0.I;have HT:Hid (U8 183 #[ah fb,aa kind] w2 λe w'=>e= .returned (.bool (mf mp g kind))/\ak w2 w'):=QC w2 P mp g fb kind hF;have HF:Hid (∀w3:aw,ak w2 w3->eZ w3 P mp g fb):=λw3 b3=>hF.O (λb _ hl=>b3.block b hl)
  go_wp2_with fail;refine HT.o.V ?_;cases hq:mf mp g kind
  .obtain rfl:r=none:=by rw[<-HR.o,sY,hf];simp[hq]
   rintro e w3 ⟨rfl,b3⟩;go_wp2;go_ret;exact⟨rfl,eQ B0 b3⟩
  .obtain rfl:r=some g:=by rw[<-HR.o,sY,hf];simp[hq]
   rintro e w3 ⟨rfl,b3⟩;go_wp2;go_ret;exact⟨⟨fb,rfl,HF.o w3 b3⟩,eQ B0 b3⟩
def gE (s:au)(a k:Nat):Fx (LV×Nat):=
 if k=13 then(match rP s a with| .error x=> .error x| .ok x=> .ok ((0,x.1),x.2))
 else if k=14 then(match om s a with| .error x=> .error x| .ok x=> .ok ((0,x.1),x.2))
 else(match jE s a k with| .error x=> .error x| .ok x=> .ok ((x.1,⟨#[]⟩),x.2))
def qm (w:aw)(rb:Nat)(s:au)(a:Nat)(deep:Int)(k:Nat)(pv:Value)(h:ee w rb s a deep)(ha:a<=s.size)(hs:s.size<=2^47)(hk:k<=15)(hu:UOK w)(hu1:rb≠2)(hu2:rb≠3):
  Calls prog 194 #[.agg #[aa k,pv],ah rb] w (pS w rb s deep (gE s a k) vP):=by
 have K1:ec [rb] w ((w.alloc (am #[aa k,pv] 216)).alloc (am #[.int .u64 0,U7,ai,U7] 55)):=((ec.refl _ _).alloc _).alloc _;have h1:ee ((w.alloc (am #[aa k,pv] 216)).alloc (am #[.int .u64 0,U7,ai,U7] 55)) rb s a deep:=(dX.alloc h _).alloc _;have T1:=(dX.new w #[aa k,pv] 216).alloc (am #[.int .u64 0,U7,ai,U7] 55);have V1:dX ((w.alloc (am #[aa k,pv] 216)).alloc (am #[.int .u64 0,U7,ai,U7] 55)) (w.heap.size+1) #[.int .u64 0,U7,ai,U7] 55:=dX.newAt Vd _ _;have Vs:UOK ((w.alloc (am #[aa k,pv] 216)).alloc (am #[.int .u64 0,U7,ai,U7] 55)):=hu.O (K1.block _ hu.lt1 (by simp;exact λe=>hu1 e.sy)) (K1.block _ hu.lt2 (by simp;exact λe=>hu2 e.sy));have hlt:rb<w.heap.size:=dX.lt h
 have Vq:Hid (∀(w1 w2:aw) (x:LV) (z:Nat),ec [rb] w w1->dX w1 (w.heap.size+1) #[.int .u64 0,U7,ai,U7] 55->ec [rb] w1 w2->ee w2 rb s z deep->
   dX (((((w2.setCell (aj (w.heap.size+1) 0) (.int .u64 x.1)).setCell (aj (w.heap.size+1) 1) (ag x.2)).setCell (aj (w.heap.size+1) 2) (ai)).setCell (aj (w.heap.size+1) 3) (U7))) (w.heap.size+1) #[.int .u64 x.1,ag x.2,ai,U7] 55/\
   ec [rb] w (((((w2.setCell (aj (w.heap.size+1) 0) (.int .u64 x.1)).setCell (aj (w.heap.size+1) 1) (ag x.2)).setCell (aj (w.heap.size+1) 2) (ai)).setCell (aj (w.heap.size+1) 3) (U7)))/\
   ee (((((w2.setCell (aj (w.heap.size+1) 0) (.int .u64 x.1)).setCell (aj (w.heap.size+1) 1) (ag x.2)).setCell (aj (w.heap.size+1) 2) (ai)).setCell (aj (w.heap.size+1) 3) (U7))) rb s z deep):=λw1 w2 x z k1 v1 k2 r2=>by
  have v2:dX w2 (w.heap.size+1) #[.int .u64 0,U7,ai,U7] 55:=(k2.block _ v1.lt Ve).J v1;refine⟨(((v2.set 0 _).set 1 _).set 2 _).set 3 _,?_,(((dX.other r2 0 _ Vc).other 1 _ Vc).other 2 _ Vc).other 3 _ Vc⟩;have k3:=k1.J k2
  exact⟨k3.os,k3.tape,k3.output,by simpa using k3.size,λi hi hn=>by
   rw[dW,dO Vc,dW,dO Vc,dW,dO Vc,dW,dO Vc]
   exact k3.block i hi hn⟩
 obtain⟨r,HR⟩:∃r,Hid (gE s a k=r):=⟨_,rfl⟩;rw[HR.o];by_cases h13:k=13
 .subst h13;have HV:Hid (gE s a 13=(match rP s a with| .error x=> .error x| .ok x=> .ok ((0,x.1),x.2))):=rfl;go_in
  go_wp2_with fail;generalize((w.alloc (am #[aa ((13:Nat):Int),pv] 216)).alloc (am #[.int .u64 0,U7,ai,U7] 55))=w1 at*;refine(Kt w1 rb s a deep h1 hs Vs hu1 hu2).V ?_
  cases hv:rP s a with
  |error x=>
   rintro e w2 ⟨Vp,he⟩;obtain rfl:e=dY x.1 x.2:=he;obtain rfl:r= .error x:=by rw[<-HR.o,HV.o,hv]
   unfold dY;go_wp2
   exact⟨rfl,K1.J Vp,rfl⟩
  |ok x=>
   rintro e w2 ⟨Vp,rfl,hr⟩;obtain rfl:r= .ok (((0,x.1):LV),x.2):=by rw[<-HR.o,HV.o,hv]
   have⟨q1,q2,q3⟩:=Vq.o w1 w2 ((0,x.1):LV) x.2 K1 V1 Vp hr;have V2:dX w2 (w.heap.size+1) #[.int .u64 0,U7,ai,U7] 55:=(Vp.block _ V1.lt Ve).J V1;have⟨y7,y8⟩:=V2.I;clear Vq;go_wp2;exact dR (el results194 _ _ rfl q1 underlying55 Vh) rfl ⟨q2,rfl,q3⟩
 .by_cases h14:k=14
  .subst h14;have HV:Hid (gE s a 14=(match om s a with| .error x=> .error x| .ok x=> .ok ((0,x.1),x.2))):=rfl;go_in
   go_wp2_with fail;generalize((w.alloc (am #[aa ((14:Nat):Int),pv] 216)).alloc (am #[.int .u64 0,U7,ai,U7] 55))=w1 at*;refine(GZ w1 rb s a deep h1 hs).V ?_
   cases hv:om s a with
   |error x=>
    rintro e w2 ⟨Vp,he⟩;obtain rfl:e=dY x.1 x.2:=he;obtain rfl:r= .error x:=by rw[<-HR.o,HV.o,hv]
    unfold dY;go_wp2
    exact⟨rfl,K1.J Vp,rfl⟩
   |ok x=>
    rintro e w2 ⟨Vp,rfl,hr⟩;obtain rfl:r= .ok (((0,x.1):LV),x.2):=by rw[<-HR.o,HV.o,hv]
    have⟨q1,q2,q3⟩:=Vq.o w1 w2 ((0,x.1):LV) x.2 K1 V1 Vp hr;have V2:dX w2 (w.heap.size+1) #[.int .u64 0,U7,ai,U7] 55:=(Vp.block _ V1.lt Ve).J V1;have⟨y7,y8⟩:=V2.I;clear Vq;go_wp2;exact dR (el results194 _ _ rfl q1 underlying55 Vh) rfl ⟨q2,rfl,q3⟩
  .have HV:Hid (gE s a k=(match jE s a k with| .error x=> .error x| .ok x=> .ok ((x.1,⟨#[]⟩),x.2))):=(by show gE s a k=_;unfold gE;rw[dO h13,dO h14]);have b13:((k:Int)==13)=false:=Ve;have b14:((k:Int)==14)=false:=Ve;have Vr:fj k=true:=by unfold fj;simp;omega
   have⟨t1,t2⟩:=T1.I;go_in
   go_wp2_with fail;generalize((w.alloc (am #[aa k,pv] 216)).alloc (am #[.int .u64 0,U7,ai,U7] 55))=w1 at*;refine(BM w1 rb s a deep k h1 ha hs Vr).V ?_
   cases hv:jE s a k with
   |error x=>
    rintro e w2 ⟨Vp,he⟩;obtain rfl:e=dY x.1 x.2:=he;obtain rfl:r= .error x:=by rw[<-HR.o,HV.o,hv]
    unfold dY;go_wp2
    exact⟨rfl,K1.J Vp,rfl⟩
   |ok x=>
    rintro e w2 ⟨Vp,rfl,hr⟩;obtain rfl:r= .ok (((x.1,⟨#[]⟩):LV),x.2):=by rw[<-HR.o,HV.o,hv]
    have⟨q1,q2,q3⟩:=Vq.o w1 w2 ((x.1,⟨#[]⟩):LV) x.2 K1 V1 Vp hr;have V2:dX w2 (w.heap.size+1) #[.int .u64 0,U7,ai,U7] 55:=(Vp.block _ V1.lt Ve).J V1;have⟨y7,y8⟩:=V2.I;clear Vq;go_wp2;exact dR (el results194 _ _ rfl q1 underlying55 Vh) rfl ⟨q2,rfl,q3⟩
end
def jF (a b:LV):Prop:=a.1=b.1/\a.2.toList=b.2.toList
def FF (x y:ap):Op.bytesLess x y=true<->x<y:=by rw[bytesLess_eq];simp
def pw (a:LV):¬lG a a:=by
 rintro(h|⟨_,h⟩);.omega
 .rw[FF]at h;grind
def kc {a b c:LV}(h:lG a b)(k:lG b c):lG a c:=by
 unfold lG at*;simp only[FF]at*;grind
def tq (a b:LV):lG a b\/jF a b\/lG b a:=by
 unfold lG jF;simp only[FF];grind
def tr {a b c:LV}(k:jF a b)(h:lG b c):lG a c:=by
 obtain⟨k1,k2⟩:=k;unfold lG at*;simp_all
def jF.sy {a b:LV}(h:jF a b):jF b a:=⟨h.1.sy,h.2.sy⟩
def lN {a b:LV}(h:lG a b):¬jF a b:=λk=>pw b (tr k.sy h)
def gO {a b:au}:gN a b=true<->a.toList=b.toList:=by unfold gN;simp
def Lg {t:au}{x y:PV}(hx:Ff t x)(hy:Ff t y):kN t x y=true<->lG (ko t x) (ko t y):=by
 obtain⟨a1,a2,_,a4,a5⟩:=hx;obtain⟨b1,b2,_,b4,b5⟩:=hy;unfold kN lG ko
 cases hs:gN t lD with
 |true=>
  simp_all
 |false=>
  rw[a5 hs,b5 hs];have e:¬Op.bytesLess eS.toList eS.toList=true:=Vg;simp only[e,and_false,or_false,aU,if_false]
  cases fi jm t with
  |true=>
   simp only[if_true,dQ];unfold Du
   split<;>split<;>omega
  |false=>simp
def BY {t:au}{x y:PV}(hx:Ff t x)(hy:Ff t y):iC x y=true<->jF (ko t x) (ko t y):=by
 unfold iC jF ko;have:=hx.lo;have:=hx.hi;have:=hy.lo;have:=hy.hi;simp only[aQ,dQ,gO];grind
def vx {t:au}{v:PV}:∀{l:List PV},(∀x∈l,iC (fQ v) (fQ x)=false)->gz t v true l=l
 | [],_=>rfl
 |x::l,h=>by
  rw[gz];simp only[dA,cT,aU,if_false,aX,h x Vd,dl];rw[vx λy hy=>h y (by grind)];rfl
def vy {t:au}{v:PV}(hv:Ff t (fQ v)):∀{l:List PV},(∀x∈l,Ff t (fQ x))->l.Pairwise (λa b=>lG (ko t (fQ a)) (ko t (fQ b)))->
  ∃l1 mid l2,l=l1++(mid++l2)/\jV t l v=l1++v::l2/\(mid= []\/∃x,mid= [x]/\jF (ko t (fQ v)) (ko t (fQ x)))/\(∀x∈l1,lG (ko t (fQ x)) (ko t (fQ v)))/\∀x∈l2,lG (ko t (fQ v)) (ko t (fQ x))
 | [],_,_=>⟨[],[],[],rfl,rfl,.inl rfl,Vd,Vd⟩
 |x::l,hk,hs=>by
  have hx:=hk x Vd;rw[bu]at hs;have Vp:lG (ko t (fQ v)) (ko t (fQ x))\/jF (ko t (fQ v)) (ko t (fQ x))->∀y∈l,lG (ko t (fQ v)) (ko t (fQ y)):=λh y hy=>h.elim (λq=>kc q (hs.1 y hy)) (λq=>tr q (hs.1 y hy))
  have hdone:lG (ko t (fQ v)) (ko t (fQ x))\/jF (ko t (fQ v)) (ko t (fQ x))->gz t v true l=l:=λh=>vx λy hy=>by
   rw[cm];intro q;exact lN (Vp h y hy) ((BY hv (hk y (by grind))).1 q)
  rcases tq (ko t (fQ v)) (ko t (fQ x))with h|h|h
  .have e1:=(Lg hv hx).2 h;have e2:iC (fQ v) (fQ x)=false:=(by rw[cm];exact λq=>lN h ((BY hv hx).1 q));refine⟨[],[],x::l,rfl,?_,.inl rfl,Vd,?_⟩;.unfold jV;rw[gz,e1,e2];simp_all
   simp_all
  .have e2:=(BY hv hx).2 h;refine⟨[],[x],l,rfl,?_,.inr ⟨x,rfl,h⟩,Vd,Vp (.inr h)⟩;unfold jV;rw[gz,e2];simp_all
  .have e1:kN t (fQ v) (fQ x)=false:=(by rw[cm];exact λq=>pw _ (kc ((Lg hv hx).1 q) h));have e2:iC (fQ v) (fQ x)=false:=(by rw[cm];exact λq=>lN h ((BY hv hx).1 q).sy);have⟨l1,mid,l2,q1,q2,q3,q4,q5⟩:=vy hv (l:=l) (λy hy=>hk y (by grind)) hs.2;refine⟨x::l1,mid,l2,by simp_all,?_,q3,?_,q5⟩
   .unfold jV at q2⊢;rw[gz,e1,e2]
    (simp;omega)
   simp_all
section
open Go.Maps
section
variable {k q:LV} {p:Nat} {ks2 km:List LV} {ps2 pm:aB} {w:aw} {D:DataW Unit}
theorem FH:Keyed prog 386:=Keyed.of_law (deep_law (m:=2) Vc Vh Vh Vh)
theorem Lh:prog.keyType 386=true:=Vh
theorem FJ:prog.cellsOf 386=2:=Vh
theorem Li:prog.cellsOf 53=1:=Vh
theorem DO:prog.cellsOf 9=1:=Vh
structure zU (k:LV):Prop where
 lo:0<=k.1
 hi:k.1<2^64
 sz:k.2.size<=maxLen
theorem QI (h:zU k):∃kl,Go.keyOf prog 386 (kV k)=some kl:=by
 unfold keyOf kV;have hb:Nat.ble 1 prog.types.size=true:=Vh;have hb2:=Nat.le_of_ble_eq_true hb;obtain⟨N,hN⟩:∃N,prog.types.size+1=N+1+1:=⟨prog.types.size-1,Vc⟩;have Vq:(Lit.int .u64 k.1).wf=true:=(by show(decide (0<=k.1)&&decide (k.1<=18446744073709551615))=true;have:=h.lo;have:=h.hi;simp;omega);have hsz:=h.sz;rw[Lh,hN];simp[underlying386,Value.formed,FJ,Program.keyLits,Li,DO,underlying53,underlying9,Vq,hsz,Value.cells]
theorem jH {a b:au}(h:a.toList=b.toList):a=b:=by
 rw[ByteArray.toList_eq,ByteArray.toList_eq]at h;cases a;cases b;simp at h;rw[h]
theorem ye:∀{ks:List LV} {ps:aB},(∀x∈ks,¬jF x q)->jZ ks ps q=none
 | [],_,_=>by rw[jZ];intros;simp_all
 |_::_,[],_=>by rw[jZ];intros;simp_all
 |x::ks,y::ps,h=>by
  rw[jZ,dO (λe=>h x Vd ⟨e.1,gO.1 e.2⟩)];exact ye λz hz=>h z (by simp[hz])
theorem uA (hm:(km= []/\pm= [])\/∃k' p',km= [k']/\pm= [p']/\jF k k'):∀{ks1:List LV} {ps1:aB},ks1.length=ps1.length->(∀x∈ks1,¬jF x k)->
  jZ (ks1++k::ks2) (ps1++p::ps2) q=if k.1=q.1/\gN k.2 q.2=true then some p else jZ (ks1++(km++ks2)) (ps1++(pm++ps2)) q
 | [],[],_,_=>by
  simp only[aX];rw[jZ];split;.rfl
  .rename_i hn;rcases hm with⟨rfl,rfl⟩|⟨k',p',rfl,rfl,hs⟩;.rfl
   .simp only[bo,aX]
    rw[jZ,dO (λe=>hn ⟨hs.1.J e.1,gO.2 (hs.2.J (gO.1 e.2))⟩)]
 | [],_::_,h,_=>by simp at h
 |_::_,[],h,_=>by simp at h
 |x::ks1,y::ps1,h,hn=>by
  simp only[bo];rw[jZ,jZ,uA hm (by simpa using h) (λz hz=>hn z (by simp[hz]))];by_cases hx:x.1=q.1/\gN x.2 q.2=true;.rw[dP hx,dP hx,dO (λe=>hn x Vd ⟨hx.1.J e.1.sy,(gO.1 hx.2).J (gO.1 e.2).sy⟩)]
  .rw[dO hx,dO hx]
theorem yf {k:TypeId}{R:Value->Option (DataW Unit×List MemPlace)}{b n:Nat}(h:w.ownsMap prog k R b n D):w.ownsMap prog k R b (Go.Maps.size D) D:=by
 obtain⟨es,clock,hb,F,hs,rfl⟩:=h;exact⟨es,clock,hb,F,by simp[Go.Maps.size,length_sorted],rfl⟩
theorem j0.put {w':aw}{mb n:Nat}{kl:Lit}{ks1:List LV}{ps1:aB}(hm:(km= []/\pm= [])\/∃k' p',km= [k']/\pm= [p']/\jF k k')(hl:ks1.length=ps1.length)(h1:∀x∈ks1,¬jF x k)(h2:∀x∈ks2,¬jF x k)
  (hown:w.ownsMap prog 386 gL mb n D) (hsz:Go.Maps.size D=(ks1++(km++ks2)).length) (hat:∀(k:LV) kl,Go.keyOf prog 386 (kV k)=some kl->∀z,D.atKey kl z=St (jZ (ks1++(km++ks2)) (ps1++(pm++ps2)) k) z)
  (hk:Go.keyOf prog 386 (kV k)=some kl) (hput:w'.ownsMap prog 386 gL mb (n+1) (D.put kl (oH (some p)))):j0 w' mb (ks1++k::ks2) (ps1++p::ps2):=by
 have hlen:Go.Maps.size (D.put kl (oH (some p)))=(ks1++k::ks2).length:=by
  rw[size_put (hown.tidy FH)];rcases hm with⟨rfl,rfl⟩|⟨k',p',rfl,rfl,hs⟩
  .have Vr:jZ (ks1++([]++ks2)) (ps1++([]++ps2)) k=none:=ye λx hx=>by
    simp only[aX,aW]at hx;exact hx.elim (h1 x) (h2 x)
   rw[has_false_of_atKey (λz=>by rw[hat k kl hk z,Vr];rfl),hsz];simp;omega
  .have Vp:∃p0,jZ (ks1++([k']++ks2)) (ps1++([p']++ps2)) k=some p0:=(by have:=uA (k:=k') (q:=k) (p:=p') (ks2:=ks2) (ps2:=ps2) (km:= []) (pm:= []) (.inl ⟨rfl,rfl⟩) hl (λx hx q=>h1 x hx ⟨q.1.J hs.1.sy,q.2.J hs.2.sy⟩);exact⟨p',this.J (dP ⟨hs.1.sy,gO.2 hs.2.sy⟩)⟩);obtain⟨p0,Vs⟩:=Vp;rw[has_true_of_atKey (y:=oH (some p0)) (λz=>by rw[hat k kl hk z,Vs];rfl),hsz];simp
 refine⟨_,by rw[<-hlen];exact yf hput,hlen,λq ql hq z=> ?_⟩;rw[uA hm hl h1];by_cases e:k.1=q.1/\gN k.2 q.2=true
 .rw[dP e];have e2:k.2=q.2:=jH (gO.1 e.2);have e3:kV k=kV q:=by unfold kV;rw[e.1,e2]
  rw[<-e3,hk]at hq;cases hq;exact atKey_put_same hown.isMap (FH.key hk) _ _
 .rw[dO e,atKey_put_other];.exact hat q ql hq z
  .intro h;subst h;have h3:=FH.inj hq hk;unfold kV at h3;simp at h3;exact e ⟨h3.1.sy,by rw[h3.2];exact gO.2 rfl⟩
theorem j0.made (w:aw):j0 (w.alloc (.map #[] 0)) w.heap.size [] []:=
 ⟨_,World.ownsMap_made w prog 386 gL,rfl,λ_ _ _ _=>rfl⟩
end
end
section
open Vo
def yk (S:eD)(k:Nat)(T:Option MT)(w:aw)(Z:ax)(db:Nat)(m:PM)(n:Int)(v:LV)(h:eM S (k+1) T w Z db m)(hok:oJ S T n .vals)(hkd:(∀kd,oJ S T n kd->kd= .vals)\/∀f∈m.fs,f.1≠n)(hl:m.fs.length<1073741824)(hvl:(m.get n).length<1073741824):
  Calls prog 268 #[ah db,aa n,vP v] w (kr S k T w Z db (m.put n (m.get n++ [qq v]))):=by
 have⟨i0,VB,VC,VD,VE⟩:=info_parts Tryz.infoV;obtain⟨sv,uv,l,Y,hy,hs⟩:=h;have⟨B0,KB⟩:=d8 w #[.int .u64 v.1,ag v.2,ai,U7] 55;have hdl:=hy.c.blk.lt;have VH:=hy.c.row.lt;have Vu:=hy.O (λb _ hb=>B0.block b hb);have Vy:=nx hs (λb _ hb=>B0.block b hb);have hS:=uz _ db sv uv l n Vu.c (by rw[hs.len];exact hl);have hAl:∀b,Y b->b<w.heap.size:=hy.yl;clear hs hy;unfold vP;go_in
 go_wp2_with fail;generalize w.alloc (am #[.int .u64 v.1,ag v.2,ai,U7] 55)=w0 at*;refine hS.V ?_;rintro e w1 hR;obtain⟨g,c,pre,x,post,A,B,fp,fq,rfl,O,st,hAY,K⟩:=qr Vu Vy hR;clear hR Vu Vy hS
 have Vz:=KB.kept K (by
  simp only[aS,dj,not_or]
  exact⟨Vc,λe=>by have:=(VH _ e).2;omega⟩)
 have⟨k1,k2⟩:=Vz.I;have⟨⟨x2,x3⟩,hx⟩:=O.ofVals hkd;have⟨c0,c1,c2,c3,cf⟩:=O.cells rfl;have VA:=(O.y.c.row.lt g rfl).2;have hgn:w.heap.size<w1.heap.size:=Vz.lt
 have Vq:∀(w' w9:aw) (src:Option Nat),ak w1 w'->w'.grownBy w9 src->(∀b,src=some b->A b)->w9.heap[g]?=w1.heap[g]?:=λw' w9 src hB hg hs=>
  (hg.block g (aI VA hB.size) (λe=>O.y.ys g rfl (.inl (hs g e.sy)))).J (hB.block g VA)
 have HC:Hid (∀(w' w9:aw) (src:Option Nat),ak w1 w'->w'.grownBy w9 src->(∀b,src=some b->A b)->w9.heap[g]?=w1.heap[g]?):=Vq;clear Vq
 have HF:Hid (∀(w' w9:aw) (src:Option Nat) (gg cap N:Nat) (cs:ay) (lv:List LV),ak w1 w'->w'.grownBy w9 src->(∀b,src=some b->A b)->w9.ownsRow 0 55 4 (U9 gg N cap) N cs->N=lv.length+1->cs=lv.flatMap mR++mR v->m.get n=lv.map qq->(src=some gg\/gg=w1.heap.size+1)->
   kr S k T w Z db (m.put n (m.get n++ [qq v])) (.returned (.tuple #[])) (w9.setCell (aj g (pre.length*4+1)) (U9 gg N cap))):=by
  intro w' w9 src gg cap N cs lv hB hg hs Vv hN VK VL VM;have⟨Z',h1,h2⟩:=O.vals (lv:=lv++ [v]) hs Vd hB hg Vv (by rw[hN];simp) (by rw[VK];simp) (VM.imp id (λe=>Vc)) hok x2 x3;rw[VL];refine⟨rfl,Z',?_,by simpa using h2⟩;have s0:fK w Z w0 Z:=(fK.refl w Z).G B0;exact(s0.J st).J h1
 rcases hx with⟨x1,VF⟩|⟨gv,cc,lv,hne,x1,VG,Vw,Vt⟩
 .rw[x1]at c1;have BB:ak w1 (w1.drew.alloc (am #[.int .u64 v.1,ag v.2,ai,U7] 55)):=((Below.refl _ _).drew).alloc (aE _) _;have VI:Hid (m.get n= []):=VF;clear c0 c2 c3 x1 VF;go_upto_region 2 with fail
  go_region_law (first|(refine step_append_lies _ Vi _ _ _ Vi 0 55 i0 _ 4 64 underlying56 VB VC VD VE rfl Vc (ai) 0 [] Vi (br _ _ _ _) (aj w1.heap.size 0) 1 1 [_,_,_,_] Vi Vi (bz (t:=55) (fr:=(0,0)) (heap_alloc_new w1.drew _)) Vk Vc Vj Vc Vc (w1.heap.size+1) Vd ?_;intro gg cap w9 Vr Vp Vs Vx;have⟨z0,z1,z2,z3,zf⟩:=O.cells (HC.o _ w9 _ BB Vp (λb e=>by cases e))))
  all_goals
   go_end0;exact HF.o _ w9 _ gg cap _ _ [] BB Vp (λb e=>by cases e) Vr rfl rfl VI.o Vs
 .rw[x1]at c1;have BB:ak w1 (w1.drew.alloc (am #[.int .u64 v.1,ag v.2,ai,U7] 55)):=((Below.refl _ _).drew).alloc (aE _) _;have hgvl:=(Vt.lt gv rfl).2;have hll:lv.length<1073741824:=by rw[Vw]at hvl;simpa using hvl
  have VJ:Hid (m.get n=lv.map qq):=Vw;clear c0 c2 c3 x1 Vw hvl;go_upto_region 2 with fail
  go_region_law (first|(refine step_append_lies _ Vi _ _ _ Vi 0 55 i0 _ 4 64 underlying56 VB VC VD VE rfl Vc (U9 gv lv.length cc) lv.length (lv.flatMap mR) Vi (Vt.drew.alloc _) (aj w1.heap.size 0) 1 1 [_,_,_,_] Vi Vi (bz (t:=55) (fr:=(0,0)) (heap_alloc_new w1.drew _)) Vk Vc Vj Vc Vc (w1.heap.size+1) Vd ?_;intro gg cap w9 Vr Vp Vs Vx;have⟨z0,z1,z2,z3,zf⟩:=O.cells (HC.o _ w9 _ BB Vp (λb e=>by cases e;exact VG))))
  all_goals
   go_end0;exact HF.o _ w9 _ gg cap _ _ lv BB Vp (λb e=>by cases e;exact VG) Vr rfl rfl VJ.o Vs
end
end Go.Proofs.YtfebdimolnobaaaGreatDoor
