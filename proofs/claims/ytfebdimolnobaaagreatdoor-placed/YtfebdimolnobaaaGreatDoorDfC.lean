import Derived.Test.YtfebdimolnobaaaGreatDoorPtA
import Derived.Lib.AppendStr
set_option maxRecDepth 100000
set_option maxHeartbeats 8000000
set_option linter.all false
namespace Go.Proofs.YtfebdimolnobaaaGreatDoor
open Go.RowKit
section
attribute [local go_sem↓] Go.wp_at_zero Go.wp_at_succ
theorem jC {w:an}{T:TypeId}{k n c g o:Nat}{xs:aq}(h:w.ownsRow 0 T k (.slice (some (ai g 0)) n c) n xs)(v:Value)(_ho:o<n*k):
  (w.setCell (ai g o) v).ownsRow 0 T k (.slice (some (ai g 0)) n c) n (xs.set o v):=by
 rcases h.2 with⟨h1,_⟩|⟨g',cap,Of,h1,h2,h3,h4,h5,h6,h7⟩
 ·cases h1
 ·cases h1
  have hb:de w g Of T:=h3;refine⟨by simpa using h.1,.inr ⟨g,c,Of.setIfInBounds o v,rfl,h2,hb.set o v,h4,h5,by simpa using h6,?_⟩⟩;rw[<-h7,Array.toList_setIfInBounds,List.take_set]
def nw (x:eP):Prop:=(∃a n c,x.2.1= .slice a n c)/\(∃a n c,x.2.2.1= .slice a n c)/\∃o,x.2.2.2= .map o
theorem nw.one {x:eP}(h:nw x):x.2.1.oneCell'=true/\x.2.2.1.oneCell'=true/\x.2.2.2.oneCell'=true:=by
 obtain⟨⟨a,n,c,h1⟩,⟨a',n',c',h2⟩,o,h3⟩:=h;rw[h1,h2,h3];exact⟨rfl,rfl,rfl⟩
theorem nw.new (n:Int):nw (n,ah,ah,.map none):=⟨⟨_,_,_,rfl⟩,⟨_,_,_,rfl⟩,_,rfl⟩
structure yW (w:an)(db:Nat)(sv uv:Value)(l:List eP):Prop where
 blk:de w db #[sv,uv] 183
 row:w.ownsRow 0 249 4 sv l.length (l.flatMap du)
 form:∀x∈l,nw x
 srt:l.Pairwise (fun a b=>a.1<b.1)
 ne:sv.ownBlock≠some db
 len:l.length<=4194304
theorem yW.keep {w w':an}{db:Nat}{sv uv:Value}{l:List eP}(h:yW w db sv uv l)(h1:w'.heap[db]?=w.heap[db]?)(h2:∀b,sv.ownBlock=some b->w'.heap[b]?=w.heap[b]?):yW w' db sv uv l:=
 ⟨h1.trans h.blk,dz h.row h2,h.form,h.srt,h.ne,h.len⟩
theorem yW.below {w w':an}{db:Nat}{sv uv:Value}{l:List eP}(h:yW w db sv uv l)(hb:aj w w'):yW w' db sv uv l:=
 h.keep (hb.block _ h.blk.lt) (fun b e=>hb.block b (h.row.lt b e).2)
theorem Cf (w:an)(db:Nat)(sv uv:Value)(l:List eP)(n:Int)(h:yW w db sv uv l):
  Calls Tryz.prog 345 #[ag db,aa n] w fun e w'=>sq (l.map (·.1)) n e/\aj w w':=by
 have hS:=EW w sv l n 0 h.row (fun x hx=>(h.form x hx).one) (h.srt.imp (fun h=>Int.le_of_lt h)) h.len;obtain⟨k1,k2⟩:=h.blk.rules;obtain⟨a,m,c,rfl⟩:=df h.row;go_enter Tryz.func345,Tryz.ntmps345
 go_wp2_with fail
 refine hS.mono ?_;rintro e w' ⟨⟨i,rfl,h1,h2,h3⟩,hb⟩;go_wp2;go_ret2;exact⟨⟨i,rfl,h1,h2,h3⟩,hb⟩
def sx (w:an)(db:Nat)(sv uv:Value)(l:List eP)(n:Int)(e:Ending)(w':an):Prop:=
 ∃g c pre x post,e= .returned (.pointer (some (ai g (pre.length*4))))/\yW w' db (.slice (some (ai g 0)) (pre++x::post).length c) uv (pre++x::post)/\x.1=n/\
  ((l=pre++x::post/\sv= .slice (some (ai g 0)) (pre++x::post).length c)\/(l=pre++post/\x=(n,ah,ah,.map none)))/\dl (db::sv.ownBlock.toList) w w'/\(sv.ownBlock=some g\/w.heap.size<=g)
theorem rl {x:eP}(h:x.2.1.oneCell'=true/\x.2.2.1.oneCell'=true/\x.2.2.2.oneCell'=true):∀u∈du x,u.oneCell'=true:=by
 intro u hu;simp[du]at hu
 rcases hu with rfl|rfl|rfl|rfl
 ·rfl
 ·exact h.1
 ·exact h.2.1
 ·exact h.2.2
theorem AL {l:List eP}{i:Nat}{n:Int}{x:eP}(hx:x.1=n)(hs:l.Pairwise (fun a b=>a.1<b.1))(h1:∀k y,(l.map (·.1))[k]?=some y->k<i->y<n)(h2:∀k y,(l.map (·.1))[k]?=some y->i<=k->n<=y)(h3:(l.map (·.1))[i]?≠some n):
  (l.take i++x::l.drop i).Pairwise (fun a b=>a.1<b.1):=by
 have hd:∀y∈l.drop i,n<y.1:=by
  intro y hy;obtain⟨j,hj⟩:=List.mem_iff_getElem?.1 hy;rw[List.getElem?_drop]at hj;have q:=h2 (i+j) y.1 (by rw[aO,hj];rfl) (by omega)
  by_cases e:y.1=n
  ·exfalso;apply h3
   cases j with
   |zero=>rw[aO,show i=i+0 by omega,hj];simp[e]
   |succ j=>
    have Oc:i+(j+1)<l.length:=by
     by_cases q:i+(j+1)<l.length
     ·exact q
     ·rw[aQ (by omega)]at hj;cases hj
    have q2:=h2 i (l[i]'(by omega)).1 (by rw[aO,aJ (by omega)];rfl) (ay _);rw[bC]at hs;have q3:=hs i (i+(j+1)) (by omega) Oc (by omega);rw[aJ Oc]at hj;rw[Option.some.inj hj]at q3;omega
  ·omega
 have ht:∀y∈l.take i,y.1<n:=by
  intro y hy;obtain⟨j,hj⟩:=List.mem_iff_getElem?.1 hy
  have Od:j<i:=by
   by_cases q:j<i
   ·exact q
   ·rw[aQ (by rw[be];omega)]at hj;cases hj
  rw[bO Od]at hj;exact h1 j y.1 (by rw[aO,hj];rfl) Od
 rw[bW];refine⟨hs.sublist (List.take_sublist _ _),bB.2 ⟨fun y hy=>by rw[hx];exact hd y hy,hs.sublist (List.drop_sublist _ _)⟩,?_⟩;intro a ha b hb
 rcases aL.1 hb with rfl|hb
 ·rw[hx];exact ht a ha
 ·have:=ht a ha;have:=hd b hb;omega
theorem qH (w:an)(db:Nat)(sv uv:Value)(l:List eP)(n:Int)(h:yW w db sv uv l)(hl:l.length<4194304):
  Calls Tryz.prog 266 #[ag db,aa n] w (sx w db sv uv l n):=by
 have hF:=Cf w db sv uv l n h;obtain⟨a,c,rfl⟩:=gS h.row;go_enter Tryz.func266,Tryz.ntmps266
 go_wp2_with fail
 refine hF.mono ?_;rintro e w1 ⟨⟨i,rfl,h1,h2,h3⟩,hb⟩;rw[aV]at h1;have D1:=h.below hb
 by_cases hin:(l.map (·.1))[i]?=some n
 ·have hd:decide ((l.map (·.1))[i]?=some n)=true:=decide_eq_true hin;rw[hd];rw[aO]at hin;obtain⟨x,hx,Om⟩:=Option.map_eq_some_iff.1 hin;have Oh:=gl hx;obtain⟨g,rfl,_,N7,_⟩:=dE h.row (by omega);obtain⟨k1,k2⟩:=D1.blk.rules;have Oi:i<=l.length:=by omega
  have HL:Hid (l=l.take i++x::l.drop (i+1)):=by
   show l=_;have:=List.getElem?_eq_some_iff.1 hx;obtain⟨hh,rfl⟩:=this;simp
  have HT:Hid ((l.take i).length=i):=by show(l.take i).length=i;rw[be];omega
  have Oj:decide ((i:Int)<(l.length:Int))=true:=by simpa using Oh
  clear hx hin hd;go_wp2;go_ret;refine⟨g,c,l.take i,x,l.drop (i+1),by rw[HT.out];rfl,?_,Om,.inl ⟨HL.out,by rw[<-HL.out]⟩,dl.of_below hb,.inl rfl⟩;rw[<-HL.out];exact D1
 ·have hd:decide ((l.map (·.1))[i]?=some n)=false:=decide_eq_false hin;rw[hd];obtain⟨k1,k2⟩:=D1.blk.rules;have hwl:w.heap.size<=w1.heap.size:=hb.size;have HB:de (w1.alloc (ak #[aa n,ah,ah,.map none] 249)) w1.heap.size (du (n,ah,ah,.map none)).toArray 249:=de.new w1 _ _;have D2:=D1.below ((Below.refl w1.heap.size w1).alloc (ay _) (ak #[aa n,ah,ah,.map none] 249));have Ok:(Value.slice a l.length c).ownBlock≠some w1.heap.size:=fun e=>by have:=(D1.row.lt _ e).2;omega
  have hI:=E7 _ (.slice a l.length c) l i (n,ah,ah,.map none) w1.heap.size D2.row (fun u hu=>by
   obtain⟨x,hx,hu⟩:=List.mem_flatMap.1 hu
   exact rl (h.form x hx).one u hu) h1 (by omega) HB (rl ⟨rfl,rfl,rfl⟩) Ok
  have Ol:Hid (((l.map (·.1))[i]?=some n)->False):=hin;clear hin hd;go_wp2_with fail
  refine hI.mono ?_;rintro e w2 ⟨g,cap,rfl,Ob,N2,Og⟩
  have K2:dl (db::(Value.slice a l.length c).ownBlock.toList) w w2:=by
   have e1:dl (db::(Value.slice a l.length c).ownBlock.toList) w (w1.alloc (ak #[aa n,ah,ah,.map none] 249)):=(dl.of_below hb).alloc _;refine e1.trans ⟨N2.os,N2.tape,N2.output,N2.size,fun k hk N8=>N2.block k hk (fun e=>N8 ?_)⟩;rw[<-e];simp
  have hdl:db<w1.heap.size:=D1.blk.lt;have B2:de w2 db #[.slice a l.length c,uv] 183:=(N2.block db (by simp;omega) (fun e=>h.ne e.symm)).trans D2.blk
  have Oe:db≠g:=by
   rcases Og with q|q
   ·exact fun e=>h.ne (by rw[e];exact q)
   ·simp at q;omega
  have N7:(Value.slice a l.length c).ownBlock=some g\/w.heap.size<=g:=Og.imp id (fun q=>by simp at q;omega);obtain⟨y1,y2⟩:=B2.rules;obtain⟨z1,z2⟩:=(B2.set 0 (.slice (some (ai g 0)) (l.length+1) cap)).rules;have HT:Hid ((l.take i).length=i):=by show(l.take i).length=i;rw[be];omega
  have Oa:Hid ((l.take i++(n,Value.slice none 0 0,Value.slice none 0 0,Value.map none)::l.drop i).length=l.length+1):=by show List.length _=_;simp;omega
  have Oj:decide ((i:Int)<(l.length:Int)+1)=true:=by simp;omega
  have Oi:i<=l.length:=h1;go_wp2;go_ret;refine⟨g,cap,l.take i,(n,ah,ah,.map none),l.drop i,by rw[HT.out];rfl,?_,rfl,.inr ⟨(bS i l).symm,rfl⟩,?_,N7⟩
  ·rw[Oa.out];refine⟨B2.set 0 _,?_,?_,AL rfl h.srt h2 h3 Ol.out,fun e=>Oe (by simpa [Value.ownBlock]using e.symm),by rw[Oa.out];omega⟩
   ·rw[Oa.out];refine dz Ob fun b hb=> ?_
    obtain rfl:g=b:=by simpa [Value.ownBlock]using hb
    rw[dd,if_neg (fun e=>Oe e)]
   ·intro x hx;simp only[ba,aL]at hx
    rcases hx with hx|rfl|hx
    ·exact h.form x (List.mem_of_mem_take hx)
    ·exact nw.new n
    ·exact h.form x (List.mem_of_mem_drop hx)
  ·exact⟨K2.os,K2.tape,K2.output,by simpa using K2.size,fun k hk N8=>by
    rw[dd,if_neg (fun e=>N8 (by simp[e]))]
    exact K2.block k hk N8⟩
theorem pp {w:an}{a:aw}{c:Nat}{l:List eP}(hrow:w.ownsRow 0 249 4 (.slice a l.length c) l.length (l.flatMap du)){i:Nat}{x:eP}(hx:l[i]?=some x):
  ∃g,a=some (ai g 0)/\g<w.heap.size/\∀w':an,w'.heap[g]?=w.heap[g]?->w'.cell? (ai g (i*4))=some (aa x.1)/\w'.cell? (ai g (i*4+1))=some x.2.1/\w'.cell? (ai g (i*4+2))=some x.2.2.1/\w'.cell? (ai g (i*4+3))=some x.2.2.2:=by
 have hi:=gl hx;obtain⟨g,rfl,_,N7,N3⟩:=dE hrow (by omega);have hf:=fun j hj=>eE du 4 eJ l i x hx j hj
 refine⟨g,rfl,N7,fun w' hw=>⟨?_,?_,?_,?_⟩⟩
 ·exact N3 w' hw _ _ ((hf 0 (by omega)).trans rfl)
 ·exact N3 w' hw _ _ ((hf 1 (by omega)).trans rfl)
 ·exact N3 w' hw _ _ ((hf 2 (by omega)).trans rfl)
 ·exact N3 w' hw _ _ ((hf 3 (by omega)).trans rfl)
end
theorem de.new1 (w:an)(o:Obj)(cs:Array Value)(T:TypeId):de ((w.alloc o).alloc (.cells cs T)) (w.heap.size+1) cs T:=by
 have h:=de.new (w.alloc o) cs T;have e:(w.alloc o).heap.size=w.heap.size+1:=by simp
 rw[e]at h;exact h
theorem dJ.nil (w:an)(Z:ap)(T:TypeId)(k:Nat):dJ w Z T k (ah) 0 []:=⟨aX _ _ _ _,fun b hb=>by cases hb⟩
theorem cY {a b c:an}(h:Below a.heap.size a b)(k:Below b.heap.size b c):Below a.heap.size a c:=
 h.trans ⟨k.os,k.tape,k.output,k.size,fun i hi=>k.block i (aC hi h.size)⟩
def xp (v:PV)(mv:Value):aq:= [.int .u64 v.1,ae v.2.1,mv,ae v.2.2.unk]
def lu (P:Value->PM->Prop):aq->List PV->Prop
 |cs,[]=>cs= []
 |cs,v::vs=>∃mv rest,cs= .int .u64 v.1::ae v.2.1::mv::ae v.2.2.unk::rest/\P mv v.2.2/\lu P rest vs
def gO (P:Value->PM->Prop)(w:an)(Z:ap)(vv:Value)(l:List PV):Prop:=
 ∃N2,dJ w Z 55 4 vv l.length N2/\lu P N2 l
def jK (P:Value->PM->Prop)(w:an)(Z:ap):aq->List PF->Prop
 |cs,[]=>cs= []
 |cs,f::fs=>∃vv rest,cs=aa f.1::vv::rest/\gO P w Z vv f.2/\jK P w Z rest fs
def oe:Nat->an->(ap)->Value->PM->Prop
 |0,_,_,_,_=>False
 |k+1,w,Z,v,m=>∃cs,dJ w Z 58 2 v m.fs.length cs/\jK (oe k w Z) w Z cs m.fs
theorem lu.imp {P Q:Value->PM->Prop}(h:∀v m,P v m->Q v m):∀{l:List PV} {cs:aq},lu P cs l->lu Q cs l
 | [],_,h1=>h1
 |_::_,_,⟨mv,rest,h1,h2,h3⟩=>⟨mv,rest,h1,h _ _ h2,lu.imp h h3⟩
theorem gO.mono {P Q:Value->PM->Prop}{w:an}{Z Y:ap}(hP:∀v m,P v m->Q v m)(hz:∀b,Z b->b<w.heap.size->Y b){vv:Value}{l:List PV}(h:gO P w Z vv l):gO Q w Y vv l:=by
 obtain⟨N2,h1,h2⟩:=h;exact⟨N2,h1.mono hz,h2.imp hP⟩
theorem jK.mono {P Q:Value->PM->Prop}{w:an}{Z Y:ap}(hP:∀v m,P v m->Q v m)(hz:∀b,Z b->b<w.heap.size->Y b):∀{fs:List PF} {cs:aq},jK P w Z cs fs->jK Q w Y cs fs
 | [],_,h1=>h1
 |_::_,_,⟨vv,rest,h1,h2,h3⟩=>⟨vv,rest,h1,h2.mono hP hz,jK.mono hP hz h3⟩
theorem oe.mono {w:an}{Z Y:ap}(hz:∀b,Z b->b<w.heap.size->Y b):∀{k:Nat} {v:Value} {m:PM},oe k w Z v m->oe k w Y v m
 |0,_,_,h=>h
 |_+1,_,_,⟨cs,h1,h2⟩=>⟨cs,h1.mono hz,h2.mono (fun _ _ h=>oe.mono hz h) hz⟩
theorem lu.get {P:Value->PM->Prop}:∀{l:List PV} {cs:aq},lu P cs l->∀{i:Nat} {v:PV},l[i]?=some v->
  ∃mv,P mv v.2.2/\cs[i*4]?=some (.int .u64 v.1)/\cs[i*4+1]?=some (ae v.2.1)/\cs[i*4+2]?=some mv/\cs[i*4+3]?=some (ae v.2.2.unk)
 | [],_,_,i,v,h=>by simp at h
 |x::l,_,⟨mv,rest,h1,h2,h3⟩,0,v,h=>by
  simp at h;subst h;subst h1;exact⟨mv,h2,rfl,rfl,rfl,rfl⟩
 |x::l,_,⟨mv,rest,h1,h2,h3⟩,i+1,v,h=>by
  obtain⟨N3,q1,q2,q3,q4,q5⟩:=h3.get (i:=i) (v:=v) (by simpa using h);subst h1;have e:∀j,(i+1)*4+j=(i*4+j)+4:=fun j=>by omega
  refine⟨N3,q1,?_,?_,?_,?_⟩
  ·rw[show(i+1)*4=i*4+4 from by omega];exact q2
  ·rw[e];exact q3
  ·rw[e];exact q4
  ·rw[e];exact q5

structure d9 (w:an)(S:ap)(w':an)(S':ap):Prop where
 os:w'.os=w.os
 tape:w'.tape=w.tape
 output:w'.output=w.output
 size:w.heap.size<=w'.heap.size
 block:∀b,b<w.heap.size->¬S b->w'.heap[b]?=w.heap[b]?
 grow:∀b,S' b->S b\/w.heap.size<=b
theorem d9.refl (w:an)(S:ap):d9 w S w S:=⟨rfl,rfl,rfl,ay _,fun _ _ _=>rfl,fun _ h=> .inl h⟩
theorem d9.trans {a b c:an}{S T U:ap}(h:d9 a S b T)(k:d9 b T c U):d9 a S c U:=
 ⟨k.os.trans h.os,k.tape.trans h.tape,k.output.trans h.output,aG h.size k.size,
  fun i hi hs=>(k.block i (aC hi h.size) (fun ht=>(h.grow i ht).elim hs (fun x=>by omega))).trans (h.block i hi hs),
  fun i hi=>(k.grow i hi).elim (fun x=>h.grow i x) (fun x=> .inr (aG h.size x))⟩
theorem d9.below {a b c:an}{S T:ap}(h:d9 a S b T)(k:Below b.heap.size b c):d9 a S c T:=
 h.trans ⟨k.os,k.tape,k.output,k.size,fun i hi _=>k.block i hi,fun _ x=> .inl x⟩
theorem d9.alloc {a b:an}{S T:ap}(h:d9 a S b T)(o:Obj):d9 a S (b.alloc o) T:=h.below ((Below.refl _ _).alloc (ay _) o)
theorem d9.drew {a b:an}{S T:ap}(h:d9 a S b T):d9 a S b.drew T:=h.below (Below.refl _ _).drew
theorem de.step {w w1:an}{S T:ap}{b:Nat}{cs:Array Value}{ty:TypeId}(h:de w b cs ty)(hk:d9 w S w1 T)(hn:¬S b):de w1 b cs ty:=(hk.block b h.lt hn).trans h
theorem d9.not {w w1:an}{S T:ap}{b:Nat}(hk:d9 w S w1 T)(hb:b<w.heap.size)(hn:¬S b):¬T b:=fun x=>(hk.grow b x).elim hn (fun y=>by omega)
theorem iN {w:an}{lo:Nat}{T:TypeId}{k n:Nat}{v:Value}{xs:aq}(h:w.ownsRow lo T k v n xs){b:Nat}(hb:v.ownBlock=some b):∃cs,de w b cs T:=by
 rcases h.2 with⟨rfl,_⟩|⟨g,cap,N2,rfl,_,h4,_⟩
 ·cases hb
 ·simp[Value.ownBlock]at hb;subst hb;exact⟨N2,h4⟩
def ij {α β:Type}(P:α->β->(ap)->Prop):(ap)->List α->List β->Prop
 |_,[],[]=>True
 |Y,x::l,y::r=>∃A B:ap,P x y A/\ij P B l r/\(∀b,A b->Y b)/\(∀b,B b->Y b)/\∀b,A b->¬B b
 |_,[],_::_=>False
 |_,_::_,[]=>False
theorem ij.mono {α β:Type}{P:α->β->(ap)->Prop}{Y Z:ap}(hY:∀b,Y b->Z b):∀{l:List α} {r:List β},ij P Y l r->ij P Z l r
 | [],[],_=>trivial
 |_::_,_::_,⟨A,B,h1,h2,h3,h4,h5⟩=>⟨A,B,h1,h2,fun b h=>hY b (h3 b h),fun b h=>hY b (h4 b h),h5⟩
 | [],_::_,h=>h.elim
 |_::_,[],h=>h.elim
theorem ij.imp {α β:Type}{P Q:α->β->(ap)->Prop}:∀{l:List α} {r:List β} {Y:ap},ij P Y l r->(∀x y A,x∈l->y∈r->(∀b,A b->Y b)->P x y A->Q x y A)->ij Q Y l r
 | [],[],_,_,_=>trivial
 |_::_,_::_,_,⟨A,B,h1,h2,h3,h4,h5⟩,h=>⟨A,B,h _ _ A (by simp) (by simp) h3 h1,h2.imp (fun x y C hx hy hC=>h x y C (by simp[hx]) (by simp[hy]) (fun b hb=>h4 b (hC b hb))),h3,h4,h5⟩
 | [],_::_,_,h,_=>h.elim
 |_::_,[],_,h,_=>h.elim
theorem ij.len {α β:Type}{P:α->β->(ap)->Prop}:∀{l:List α} {r:List β} {Y:ap},ij P Y l r->l.length=r.length
 | [],[],_,_=>rfl
 |_::_,_::_,_,⟨_,_,_,h2,_⟩=>by simp[h2.len]
 | [],_::_,_,h=>h.elim
 |_::_,[],_,h=>h.elim
theorem ij.split {α β:Type}{P:α->β->(ap)->Prop}:∀{pre:List α} {x:α} {post:List α} {r:List β} {Y:ap},ij P Y (pre++x::post) r->
  ∃rp y rq,r=rp++y::rq/\rp.length=pre.length/\∃A B:ap,P x y A/\ij P B (pre++post) (rp++rq)/\(∀b,A b->Y b)/\(∀b,B b->Y b)/\∀b,A b->¬B b
 | [],_,_,[],_,h=>h.elim
 | [],_,_,y::rq,_,⟨A,B,h1,h2,h3,h4,h5⟩=>⟨[],y,rq,rfl,rfl,A,B,h1,h2,h3,h4,h5⟩
 |_::_,_,_,[],_,h=>h.elim
 |_::_,_,_,q::_,_,⟨A,B,h1,h2,h3,h4,h5⟩=>by
  obtain⟨rp,y,rq,rfl,hl,A1,B1,q1,q2,q3,q4,q5⟩:=h2.split;refine⟨q::rp,y,rq,rfl,by simp[hl],A1,fun b=>A b\/B1 b,q1,⟨A,B1,h1,q2,fun b h=> .inl h,fun b h=> .inr h,fun b ha hb=>h5 b ha (q4 b hb)⟩,fun b h=>h4 b (q3 b h),?_,?_⟩
  ·rintro b (h|h)
   ·exact h3 b h
   ·exact h4 b (q4 b h)
  ·rintro b ha (h|h)
   ·exact h5 b h (q3 b ha)
   ·exact q5 b ha h
theorem ij.join {α β:Type}{P:α->β->(ap)->Prop}:∀{pre:List α} {x:α} {post:List α} {rp:List β} {y:β} {rq:List β} {A B Y:ap},rp.length=pre.length->P x y A->ij P B (pre++post) (rp++rq)->
  (∀b,A b->Y b)->(∀b,B b->Y b)->(∀b,A b->¬B b)->ij P Y (pre++x::post) (rp++y::rq)
 | [],_,_,[],_,_,A,B,_,_,h1,h2,h3,h4,h5=>⟨A,B,h1,h2,h3,h4,h5⟩
 | [],_,_,_::_,_,_,_,_,_,hl,_,_,_,_,_=>by simp at hl
 |_::_,_,_,[],_,_,_,_,_,hl,_,_,_,_,_=>by simp at hl
 |_::_,_,_,_::_,_,_,A,_,_,hl,h1,⟨C,D,q1,q2,q3,q4,q5⟩,h3,h4,h5=>by
  refine⟨C,fun b=>A b\/D b,q1,ij.join (by simpa using hl) h1 q2 (fun b h=> .inl h) (fun b h=> .inr h) (fun b h hd=>h5 b h (q4 b hd)),fun b h=>h4 b (q3 b h),?_,?_⟩
  ·rintro b (h|h)
   ·exact h3 b h
   ·exact h4 b (q4 b h)
  ·rintro b hc (h|h)
   ·exact h5 b h (q3 b hc)
   ·exact q5 b hc h
theorem ij.filter {α β:Type}{P:α->β->(ap)->Prop}{p:α->Bool}{q:β->Bool}(hpq:∀x y A,P x y A->p x=q y):∀{l:List α} {r:List β} {Y:ap},ij P Y l r->ij P Y (l.filter p) (r.filter q)
 | [],[],_,_=>trivial
 |x::_,y::_,_,⟨A,B,h1,h2,h3,h4,h5⟩=>by
  rw[bM,bM,hpq x y A h1]
  cases q y with
  |true=>exact⟨A,B,h1,h2.filter hpq,h3,h4,h5⟩
  |false=>exact(h2.filter hpq).mono h4
 | [],_::_,_,h=>h.elim
 |_::_,[],_,h=>h.elim
theorem ij.append {α β:Type}{P:α->β->(ap)->Prop}:∀{l:List α} {r:List β} {l':List α} {r':List β} {A B Y:ap},ij P A l r->ij P B l' r'->(∀b,A b->Y b)->(∀b,B b->Y b)->(∀b,A b->¬B b)->ij P Y (l++l') (r++r')
 | [],[],_,_,_,_,_,_,h2,_,h4,_=>h2.mono h4
 |_::_,_::_,_,_,A,B,_,⟨C,D,q1,q2,q3,q4,q5⟩,h2,h3,h4,h5=>by
  refine⟨C,fun b=>D b\/B b,q1,q2.append h2 (fun b h=> .inl h) (fun b h=> .inr h) (fun b h=>h5 b (q4 b h)),fun b h=>h3 b (q3 b h),?_,?_⟩
  ·rintro b (h|h)
   ·exact h3 b (q4 b h)
   ·exact h4 b h
  ·rintro b hc (h|h)
   ·exact q5 b hc h
   ·exact h5 b (q3 b hc) h
 | [],_::_,_,_,_,_,_,h,_,_,_,_=>h.elim
 |_::_,[],_,_,_,_,_,h,_,_,_,_=>h.elim
inductive Kd where
 |vals
 |msgs
 |ents (t:am)
def mJ (S:dG)(f:ek):Kd:=if f.isMap then .ents f.key else if(ed S f).isSome then .msgs else .vals
def lM (S:dG)(T:Option MT)(n:Int)(kd:Kd):Prop:=∀d f,T=some d->dv d.fs n=some f->kd=mJ S f
def lw (S:dG)(T:Option MT)(n:Int):Option MT:=T.bind fun d=>(dv d.fs n).bind (ed S)
def rm (T:Option MT)(n:Int):Prop:=∃d f,T=some d/\dv d.fs n=some f/\f.isRep=false
def jX (v:LV):aq:= [.int .u64 v.1,ae v.2,ah,ae ⟨#[]⟩]
def nx (v:LV):PV:=(v.1,v.2,PM.none)
def oC (p:Nat):Value:=ag p
def jH (t:am)(v:PV):LV:=(if dX kY t then(v.1+9223372036854775808)%18446744073709551616 else v.1,v.2.1)
def mh (a b:LV):Prop:=a.1<b.1\/(a.1=b.1/\Op.bytesLess a.2.toList b.2.toList=true)
def ik:List LV->au->LV->Option Nat
 |k::l,p::r,q=>if k.1=q.1/\gy k.2 q.2=true then some p else ik l r q
 |_,_,_=>none
def LG:Option Nat->DataW Unit->DataW Unit
 |some p,_=>lI (some p)
 |none,z=>z
def kV (k:LV):Value:= .agg #[.int .u64 k.1,ae k.2]
def il (w:an)(mb:Nat)(ks:List LV)(ps:au):Prop:=
 ∃D,w.ownsMap Tryz.prog 386 eU mb ks.length D/\Go.Maps.size D=ks.length/\(∀(k:LV) kl,Go.keyOf Tryz.prog 386 (kV k)=some kl->∀z,D.atKey kl z=LG (ik ks ps k) z)
abbrev I3:=Option MT->an->(ap)->Nat->PM->Prop
structure Nu (w:an)(x:eP)(f:PF)(A:ap)(lv:List LV):Prop where
 ne:lv≠ []
 pm:f.2=lv.map nx
 row:dJ w A 55 4 x.2.1 lv.length (lv.flatMap jX)
 c2:x.2.2.1=ah
 c3:x.2.2.2= .map none
def mV (m:PM):PV:=(0,eS,m)
structure Nv (R:I3)(w:an)(T:Option MT)(L:Prop)(x:eP)(f:PF)(A:ap)(ps:au)(B:ap):Prop where
 ne:ps≠ []
 lone:L->ps.length=1
 c1:x.2.1=ah
 c3:x.2.2.2= .map none
 row:dJ w A 180 1 x.2.2.1 ps.length (ps.map oC)
 inA:∀b,B b->A b
 own:∀b,x.2.2.1.ownBlock=some b->¬B b
 sub:ij (fun p v C=>v=mV v.2.2/\R T w C p v.2.2) B ps f.2
 len:ps.length<=4194304
structure Nw (R:I3)(w:an)(x:eP)(f:PF)(A:ap)(t:am)(mb:Nat)(ps:au)(B:ap):Prop where
 ne:ps≠ []
 c1:x.2.1=ah
 c2:x.2.2.1=ah
 c3:x.2.2.2= .map (some mb)
 map:il w mb (f.2.map fun v=>jH t (gr v)) ps
 inA:∀b,B b->A b
 inM:A mb
 own:¬B mb
 key:∀v∈f.2,Av t (gr v)
 srt:f.2.Pairwise (fun a b=>mh (jH t (gr a)) (jH t (gr b)))
 sub:ij (fun p v C=>v=mV v.2.2/\R none w C p v.2.2) B ps f.2
 len:ps.length<=4194304
def fi (S:dG)(R:I3)(w:an)(T:Option MT)(x:eP)(f:PF)(A:ap):Prop:=
 x.1=f.1/\((lM S T x.1 .vals/\∃lv,Nu w x f A lv)\/(lM S T x.1 .msgs/\∃ps B,Nv R w (lw S T x.1) (rm T x.1) x f A ps B)\/∃t,lM S T x.1 (.ents t)/\∃mb ps B,Nw R w x f A t mb ps B)
structure DrB (w:an)(Z:ap)(db:Nat)(sv uv:Value)(u:am)(l:List eP):Prop where
 c:yW w db sv uv l
 un:w.ownsRow 0 5 1 uv u.size (Lib.strCells u)
 zd:Z db
 zs:∀b,sv.ownBlock=some b->Z b
 zu:∀b,uv.ownBlock=some b->Z b
 su:∀b,sv.ownBlock=some b->uv.ownBlock≠some b
 ud:uv.ownBlock≠some db
structure Hy (w:an)(Z:ap)(db:Nat)(sv uv:Value)(u:am)(l:List eP)(Y:ap):Prop extends DrB w Z db sv uv u l where
 yz:∀b,Y b->Z b
 yl:∀b,Y b->b<w.heap.size
 yd:¬Y db
 ys:∀b,sv.ownBlock=some b->¬Y b
 yu:∀b,uv.ownBlock=some b->¬Y b
def dB (S:dG):Nat->I3
 |0,_,_,_,_,_=>False
 |k+1,T,w,Z,db,m=>∃sv uv l Y,Hy w Z db sv uv m.unk l Y/\ij (fi S (dB S k) w T) Y l m.fs
theorem j8 (n:Int)(vs:List PV):∀l:List PF,iG n vs true l=l.filter (fun x=>decide (x.1≠n))
 | []=>rfl
 |x::l=>by
  rw[iG,bM];simp only[cr,cl,aK,if_false,aP,cp];rw[j8 n vs l]
  by_cases h:x.1=n<;>simp[h]
theorem j9 (n:Int):∀l:List PF,(∀x∈l,x.1≠n)->l.filter (fun x=>decide (x.1≠n))=l:=fun l h=>List.filter_eq_self.2 (fun x hx=>by simp[h x hx])
theorem pZ (n:Int)(vs:List PV)(fq:List PF)(hq:∀x∈fq,n<x.1):∀fp:List PF,(∀x∈fp,x.1<n)->iG n vs false (fp++fq)=fp++(n,vs)::fq
 | [],_=>by
  cases fq with
  |nil=>rfl
  |cons y r=>
   have hy:=hq y (by simp);simp only[aP];have h1:decide (n<=y.1)=true:=by simp;omega
   have h2:¬y.1=n:=by omega
   rw[iG,h1,cj,j8,j9 n r (fun x hx=>by have:=hq x (by simp[hx]);omega)];simp[h2]
 |x::fp,hp=>by
  have hx:=hp x (by simp);rw[bj,iG];have h1:decide (n<=x.1)=false:=by simp;omega
  have h2:¬x.1=n:=by omega
  rw[h1];simp only[cm,cg,aK,if_false,aP,h2,cE];rw[pZ n vs fq hq fp (fun y hy=>hp y (by simp[hy]))];rfl
theorem sy (n:Int)(vs old:List PV)(fq:List PF)(hq:∀x∈fq,n<x.1):∀fp:List PF,(∀x∈fp,x.1<n)->iG n vs false (fp++(n,old)::fq)=fp++(n,vs)::fq
 | [],_=>by
  simp only[aP];rw[iG];simp only[cH,decide_true,cm,cD,if_true,aP,cj];rw[j8,j9 n fq (fun x hx=>by have:=hq x hx;omega)];rfl
 |x::fp,hp=>by
  have hx:=hp x (by simp);rw[bj,iG];have h1:decide (n<=x.1)=false:=by simp;omega
  have h2:¬x.1=n:=by omega
  rw[h1];simp only[cm,cg,aK,if_false,aP,h2,cE];rw[sy n vs old fq hq fp (fun y hy=>hp y (by simp[hy]))];rfl
theorem og (n:Int)(old:List PV)(fq:List PF):∀fp:List PF,(∀x∈fp,x.1<n)->fU (fp++(n,old)::fq) n=old
 | [],_=>by simp[fU]
 |x::fp,hp=>by
  have hx:=hp x (by simp);have h2:¬x.1=n:=by omega
  simp only[bj,fU,h2,if_false];exact og n old fq fp (fun y hy=>hp y (by simp[hy]))
theorem lc (n:Int):∀l:List PF,(∀x∈l,x.1≠n)->fU l n= []
 | [],_=>rfl
 |x::l,h=>by
  simp only[fU,h x (by simp),if_false];exact lc n l (fun y hy=>h y (by simp[hy]))
theorem il.keep {w w':an}{mb:Nat}{ks:List LV}{ps:au}(h:il w mb ks ps)(hb:w'.heap[mb]?=w.heap[mb]?):il w' mb ks ps:=by
 obtain⟨D,h1,h2,h3⟩:=h;exact⟨D,iQ h1 hb,h2,h3⟩
theorem il.lt {w:an}{mb:Nat}{ks:List LV}{ps:au}(h:il w mb ks ps):mb<w.heap.size:=by
 obtain⟨D,h1,_⟩:=h;exact h1.lt
theorem p6 {w w':an}{b:Nat}(hl:b<w.heap.size)(h:w'.heap[b]?=w.heap[b]?):b<w'.heap.size:=by
 by_cases q:b<w'.heap.size
 ·exact q
 ·rw[bX (by omega),bo hl]at h;cases h
theorem fi.keep {S:dG}{R:I3}{w w':an}{T:Option MT}{x:eP}{f:PF}{A:ap}(hR:∀T C p m,(∀b,C b->A b)->R T w C p m->R T w' C p m)
  (hk:∀b,A b->b<w.heap.size->w'.heap[b]?=w.heap[b]?) (h:fi S R w T x f A):fi S R w' T x f A:=by
 obtain⟨h1,h2⟩:=h;refine⟨h1,?_⟩
 rcases h2 with⟨q,lv,h⟩|⟨q,ps,B,h⟩|⟨t,q,mb,ps,B,h⟩
 ·exact .inl ⟨q,lv,{h with row:=h.row.keep hk}⟩
 ·exact .inr (.inl ⟨q,ps,B,{h with row:=h.row.keep hk,sub:=h.sub.imp fun p v C _ _ hC hp=>⟨hp.1,hR _ _ _ _ (fun b hb=>h.inA b (hC b hb)) hp.2⟩}⟩)
 ·exact .inr (.inr ⟨t,q,mb,ps,B,{h with map:=h.map.keep (hk mb h.inM h.map.lt),sub:=h.sub.imp fun p v C _ _ hC hp=>⟨hp.1,hR _ _ _ _ (fun b hb=>h.inA b (hC b hb)) hp.2⟩}⟩)
theorem DrB.keep {w w':an}{Z:ap}{db:Nat}{sv uv:Value}{u:am}{l:List eP}(h:DrB w Z db sv uv u l)(hk:∀b,Z b->b<w.heap.size->w'.heap[b]?=w.heap[b]?):DrB w' Z db sv uv u l:=
 {h with
  c:=h.c.keep (hk db h.zd h.c.blk.lt) (fun b hb=>hk b (h.zs b hb) (h.c.row.lt b hb).2)
  un:=dz h.un fun b hb=>hk b (h.zu b hb) (h.un.lt b hb).2}
theorem dB.keep {S:dG}:∀{k:Nat} {T:Option MT} {w w':an} {Z:ap} {db:Nat} {m:PM},dB S k T w Z db m->(∀b,Z b->b<w.heap.size->w'.heap[b]?=w.heap[b]?)->dB S k T w' Z db m
 |0,_,_,_,_,_,_,h,_=>h
 |_+1,_,_,_,_,_,_,⟨sv,uv,l,Y,hy,hs⟩,hk=>
  ⟨sv,uv,l,Y,{hy with toDrB:=hy.toDrB.keep hk,yl:=fun b hb=>p6 (hy.yl b hb) (hk b (hy.yz b hb) (hy.yl b hb))},hs.imp fun _ _ _ _ _ hA h=>
   h.keep (fun _ _ _ _ hC hr=>dB.keep hr fun b hb hl=>hk b (hy.yz b (hA b (hC b hb))) hl) (fun b hb hl=>hk b (hy.yz b (hA b hb)) hl)⟩
theorem dB.mono {S:dG}{k:Nat}{T:Option MT}{w:an}{Z Z':ap}{db:Nat}{m:PM}(h:dB S k T w Z db m)(hz:∀b,Z b->Z' b):dB S k T w Z' db m:=by
 cases k with
 |zero=>exact h
 |succ k=>
  obtain⟨sv,uv,l,Y,hy,hs⟩:=h;exact⟨sv,uv,l,Y,{hy with zd:=hz _ hy.zd,zs:=fun b hb=>hz b (hy.zs b hb),zu:=fun b hb=>hz b (hy.zu b hb),yz:=fun b hb=>hz b (hy.yz b hb)},hs⟩
theorem dB.lt {S:dG}{k:Nat}{T:Option MT}{w:an}{Z:ap}{db:Nat}{m:PM}(h:dB S k T w Z db m):db<w.heap.size/\Z db:=by
 cases k with
 |zero=>exact h.elim
 |succ k=>
  obtain⟨sv,uv,l,Y,hy,hs⟩:=h;exact⟨hy.c.blk.lt,hy.zd⟩
theorem ij.nums {S:dG}{R:I3}{w:an}{T:Option MT}:∀{l:List eP} {fs:List PF} {Y:ap},ij (fi S R w T) Y l fs->fs.map (·.1)=l.map (·.1)
 | [],[],_,_=>rfl
 |_::_,_::_,_,⟨_,_,h1,h2,_⟩=>by simp[h2.nums,h1.1]
 | [],_::_,_,h=>h.elim
 |_::_,[],_,h=>h.elim
structure sA (S:dG)(k:Nat)(T:Option MT)(w1:an)(Z1:ap)(db:Nat)(m:PM)(n:Int)(g:Nat)(pre:List eP)(x:eP)(post:List eP)(sv uv:Value)(A B:ap)(fp fq:List PF):Prop where
 own:sv.ownBlock=some g
 y:Hy w1 Z1 db sv uv m.unk (pre++x::post) (fun b=>A b\/B b)
 len:fp.length=pre.length
 sep:ij (fi S (dB S k) w1 T) B (pre++post) (fp++fq)
 dis:∀b,A b->¬B b
 xn:x.1=n
 lo:∀f∈fp,f.1<n
 hi:∀f∈fq,n<f.1
 was:(∃old,m.fs=fp++(n,old)::fq/\fi S (dB S k) w1 T x (n,old) A)\/(m.fs=fp++fq/\x=(n,ah,ah,.map none)/\∀b,¬A b)
theorem sA.put {S:dG}{k:Nat}{T:Option MT}{w1:an}{Z1:ap}{db:Nat}{m:PM}{n:Int}{g:Nat}{pre:List eP}{x:eP}{post:List eP}{sv uv:Value}{A B:ap}{fp fq:List PF}
  (h:sA S k T w1 Z1 db m n g pre x post sv uv A B fp fq) {vs:List PV} (hv:vs≠ []):m.put n vs= .mk (fp++(n,vs)::fq) m.unk:=by
 have he:vs.isEmpty=false:=by cases vs with
  |nil=>exact absurd rfl hv
  |cons _ _=>rfl
 unfold PM.put;rw[he]
 rcases h.was with⟨old,e,_⟩|⟨e,_⟩
 ·rw[e,sy n vs old fq h.hi fp h.lo]
 ·rw[e,pZ n vs fq h.hi fp h.lo]
theorem sA.close {S:dG}{k:Nat}{T:Option MT}{w1:an}{Z1:ap}{db:Nat}{m:PM}{n:Int}{g:Nat}{pre:List eP}{x:eP}{post:List eP}{sv uv:Value}{A B:ap}{fp fq:List PF}
  (h:sA S k T w1 Z1 db m n g pre x post sv uv A B fp fq) {w2:an} {x':eP} {vs:List PV} {A':ap} (hc:yW w2 db sv uv (pre++x'::post)) (hx:fi S (dB S k) w2 T x' (n,vs) A') (hv:vs≠ [])
  (hA:∀b,A' b->Z1 b->b<w1.heap.size->A b) (hAl:∀b,A' b->b<w2.heap.size) (hk:∀b,Z1 b->b<w1.heap.size->b≠g->¬A b->w2.heap[b]?=w1.heap[b]?):dB S (k+1) T w2 (fun b=>Z1 b\/A' b) db (m.put n vs):=by
 rw[h.put hv];have hB:∀b,B b->w2.heap[b]?=w1.heap[b]?:=fun b hb=>hk b (h.y.yz b (.inr hb)) (h.y.yl b (.inr hb)) (fun e=>h.y.ys g h.own (.inr (e▸hb))) (fun ha=>h.dis b ha hb)
 have N2:=h.y.c.blk.lt;refine⟨sv,uv,pre++x'::post,fun b=>A' b\/B b,⟨⟨hc,?_,.inl h.y.zd,fun b hb=> .inl (h.y.zs b hb),fun b hb=> .inl (h.y.zu b hb),h.y.su,h.y.ud⟩,?_,?_,?_,?_,?_⟩,?_⟩
 ·exact dz h.y.un fun b hb=>hk b (h.y.zu b hb) (h.y.un.lt b hb).2 (fun e=>h.y.su g h.own (e▸hb)) (fun ha=>h.y.yu b hb (.inl ha))
 ·rintro b (hb|hb)
  ·exact .inr hb
  ·exact .inl (h.y.yz b (.inr hb))
 ·rintro b (hb|hb)
  ·exact hAl b hb
  ·exact p6 (h.y.yl b (.inr hb)) (hB b hb)
 ·rintro(hb|hb)
  ·exact h.y.yd (.inl (hA db hb h.y.zd N2))
  ·exact h.y.yd (.inr hb)
 ·rintro b hs (hb|hb)
  ·exact h.y.ys b hs (.inl (hA b hb (h.y.zs b hs) (h.y.c.row.lt b hs).2))
  ·exact h.y.ys b hs (.inr hb)
 ·rintro b hs (hb|hb)
  ·exact h.y.yu b hs (.inl (hA b hb (h.y.zu b hs) (h.y.un.lt b hs).2))
  ·exact h.y.yu b hs (.inr hb)
 ·refine ij.join (A:=A') (B:=B) h.len hx ?_ (fun b hb=> .inl hb) (fun b hb=> .inr hb) (fun b ha hb=>h.dis b (hA b ha (h.y.yz b (.inr hb)) (h.y.yl b (.inr hb))) hb);exact h.sep.imp fun y f C _ _ hC hs=>hs.keep (fun _ _ _ _ hD hr=>hr.keep fun b hb _=>hB b (hC b (hD b hb))) (fun b hb _=>hB b (hC b hb))
end Go.Proofs.YtfebdimolnobaaaGreatDoor
