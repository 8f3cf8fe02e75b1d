import Derived.Test.YtfebdimolnobaaaGreatDoorDfO
import Derived.Sort.Walk0
import Derived.DeepKeys4
set_option maxRecDepth 100000
set_option maxHeartbeats 8000000
set_option linter.all false
namespace Go.Proofs.YtfebdimolnobaaaGreatDoor
open Go.RowKit
section
attribute [local go_sem↓] Go.wp_at_zero Go.wp_at_succ
theorem JD:(Tryz.prog.info? 5).map (fun i=>(i.zero,i.size,i.bytes))=some (some (.int .u8 0),1,1):=by kernel_rfl
theorem rR (w:an)(ty:TypeId)(v:Value)(n:Nat)(xs:aq)(N3:w.ownsRow 0 5 1 v n xs)(s:am)(hb:n+s.size<=140737488355328):
  ∃v' w',(Builtin.append_ #[140,9] ty #[v,ae s]).run Tryz.prog w= .ok v' w'/\w'.ownsRow 0 5 1 v' (n+s.size) (xs++Lib.strCells s)/\w.grownBy w' v.ownBlock/\∀b,v'.ownBlock=some b->v.ownBlock=some b\/w.heap.size<=b:=by
 obtain⟨i0,Oc,Oa,Od,Oh⟩:=info_parts JD;have hu:Tryz.prog.underlying 140=some (.slice 5):=Tryz.underlying140;have Ob:Tryz.prog.underlying 9=some .string:=Tryz.underlying9;have Oj:n+s.size<=maxLen:=by unfold maxLen;omega
 rcases N3.2 with⟨rfl,rfl⟩|⟨g,cap,Ot,rfl,q1,q2,q3,q4,q5,q6⟩
 ·obtain⟨v',w',h1,h2,h3,_⟩:=Lib.run_append_own_string (P:=Tryz.prog) w w.heap.size 140 9 ty 5 i0 hu Ob Oc Oa Od Oh (ah) 0 xs (by have:=N3.1;exact⟨this,.inl ⟨rfl,rfl⟩⟩) s Oj hb (ay _);exact⟨v',w',h1,mq h2 (aM _),h3,fun b hb=> .inr (h2.lt b hb).1⟩
 ·obtain⟨v',w',h1,h2,h3,_⟩:=Lib.run_append_own_string (P:=Tryz.prog) w 0 140 9 ty 5 i0 hu Ob Oc Oa Od Oh _ n xs N3 s Oj hb (aM _);refine⟨v',w',h1,h2,h3,fun b Ol=> ?_⟩
  by_cases hr:n+s.size<=cap
  ·have:=Lib.run_append_room_string (P:=Tryz.prog) w 140 9 ty 5 i0 hu Ob Oc Od g n cap Ot q2 s hr (by omega);rw[this]at h1
   cases h1
   exact .inl Ol
  ·have hlen:xs.length=n*i0.size:=by rw[Od];exact N3.1
   have:=Lib.run_append_grow_string (P:=Tryz.prog) w 140 9 ty 5 i0 _ hu Ob Oc Oa (ai g 0) n cap xs hlen (fun j u hj=>(dE N3 (by
    by_cases q:0<n
    ·exact q
    ·have h0:xs.length=0:=by rw[hlen];simp[show n=0 by omega]
     rw[bt h0]at hj;simp at hj)).elim fun g' Ou=>by
     obtain⟨e1,_,_,hc⟩:=Ou
     cases e1
     rw[Addr.add_lit];simpa using hc w rfl j u hj) s (by omega) (by omega) (by rw[Oh];exact growslice_fits (by omega) (by omega))
   rw[this]at h1
   cases h1
   exact .inr (by cases Ol;exact ay _)
theorem xr (S:dG)(k:Nat)(T:Option MT)(w:an)(Z:ap)(db:Nat)(m:PM)(s:am)(h:dB S (k+1) T w Z db m)(hl:m.unk.size+s.size<=140737488355328):
  Calls Tryz.prog 135 #[ag db,ae s] w (ir S k T w Z db (m.keep s)):=by
 obtain⟨sv,uv,l,Y,hy,hs⟩:=h;obtain⟨ua,un,uc,rfl⟩:=df hy.un;obtain⟨v',w1,Oi,N3,N2,Oe⟩:=rR w 140 _ _ _ hy.un s hl;obtain⟨va,vn,vc,rfl⟩:=df N3;obtain⟨k1,k2⟩:=hy.c.blk.rules;have Of:w1.heap[db]?=w.heap[db]?:=N2.block db hy.c.blk.lt (fun e=>hy.ud e.symm);have N8:de w1 db #[sv,.slice ua un uc] 183:=Of.trans hy.c.blk;obtain⟨j1,j2⟩:=N8.rules
 have HF:Hid (ir S k T w Z db (m.keep s) (.returned (.tuple #[])) (w1.setCell (ai db 1) (.slice va vn vc))):=by
  have hdl:=hy.c.blk.lt
  have N7:∀b,b<w.heap.size->b≠db->(Value.slice ua un uc).ownBlock≠some b->(w1.setCell (ai db 1) (.slice va vn vc)).heap[b]?=w.heap[b]?:=fun b hb h1 h2=>by
   rw[dd,if_neg (fun e=>h1 e.symm)];exact N2.block b hb (fun e=>h2 e.symm)
  have Ok:(Value.slice va vn vc).ownBlock≠some db:=fun e=>(Oe db e).elim hy.ud (fun q=>by omega)
  have Om:∀b,(Value.slice va vn vc).ownBlock=some b->¬Y b:=fun b e q=>(Oe b e).elim (fun e=>hy.yu b e q) (fun e=>by have:=hy.yl b q;omega)
  have Oo:∀b,sv.ownBlock=some b->(Value.slice va vn vc).ownBlock≠some b:=fun b e q=>(Oe b q).elim (hy.su b e) (fun q=>by have:=(hy.c.row.lt b e).2;omega)
  have hsz:w.heap.size<=(w1.setCell (ai db 1) (.slice va vn vc)).heap.size:=by simpa using N2.size
  refine⟨rfl,fun b=>Z b\/(Value.slice va vn vc).ownBlock=some b,⟨N2.os,N2.tape,N2.output,hsz,fun b hb hz=>N7 b hb (fun e=>hz (e▸hy.zd)) (fun e=>hz (hy.zu b e)),fun b hb=>hb.elim .inl (fun e=>(Oe b e).imp (hy.zu b) id)⟩,?_⟩;refine⟨sv,.slice va vn vc,l,Y,⟨⟨⟨N8.set 1 _,?_,hy.c.form,hy.c.srt,hy.c.ne,hy.c.len⟩,?_,.inl hy.zd,fun b e=> .inl (hy.zs b e),fun b e=> .inr e,Oo,Ok⟩,fun b q=> .inl (hy.yz b q),fun b q=>aC (hy.yl b q) hsz,hy.yd,hy.ys,Om⟩,?_⟩
  ·exact dz hy.c.row fun b e=>N7 b (hy.c.row.lt b e).2 (fun q=>hy.c.ne (q▸e)) (hy.su b e)
  ·have e1:(m.keep s).unk=m.unk++s:=rfl
   have e2:Lib.strCells (m.unk++s)=Lib.strCells m.unk++Lib.strCells s:=by
    unfold Lib.strCells;rw[ByteArray.data_append,Array.toList_append,bH]
   rw[e1,ByteArray.size_append,e2];exact dz N3 fun b e=>by rw[dd,if_neg (fun q:db=b=>Ok (by rw[q];exact e))]
  ·exact kA hs fun b q hl=>N7 b hl (fun e=>hy.yd (e▸q)) (fun e=>hy.yu b e q)
 clear hy hs;go_enter Tryz.func135,Tryz.ntmps135
 go_wp2_with (at_builtin;refine Lib.wpList_append_run _ rfl _ _ _ _ rfl _ _ rfl rfl _ _ Oi ?_)
 go_end0;exact HF.out
theorem Cg (S:dG)(k:Nat)(T:Option MT)(w:an)(Z:ap)(db:Nat)(m:PM)(n:Int)(v:LV)(h:dB S (k+1) T w Z db m)(hok:lM S T n .vals)(hkd:(∀kd,lM S T n kd->kd= .vals)\/∀f∈m.fs,f.1≠n)(hl:m.fs.length<4194304)(hZ:∀b,Z b->b<w.heap.size):
  Calls Tryz.prog 193 #[ag db,aa n,rN v] w (ir S k T w Z db (if v.1=0/\gy v.2 eS=true then m.put n []else m.put n [nx v])):=by
 obtain⟨B0,KB⟩:=di w #[.int .u64 v.1,ae v.2,ah,ae ⟨#[]⟩] 55;obtain⟨k1,k2⟩:=KB.rules;have h0:=h.keep (fun b _ hb=>B0.block b hb);have hC:=tj S k T _ Z db m n v h0 hok hkd hl;have HS:∀{m':PM} {e:Ending} {w':an},ir S k T (w.alloc (ak #[.int .u64 v.1,ae v.2,ah,ae ⟨#[]⟩] 55)) Z db m' e w'->ir S k T w Z db m' e w':=fun⟨q1,Z',q2,q3⟩=>⟨q1,Z',((d9.refl w Z).below B0).trans q2,q3⟩
 have KN:de _ (w.heap.size+1) _ _:=de.new1 w (ak #[.int .u64 v.1,ae v.2,ah,ae ⟨#[]⟩] 55) #[aa n] 3
 have hD:=mA S k T ((w.alloc (ak #[.int .u64 v.1,ae v.2,ah,ae ⟨#[]⟩] 55)).alloc (ak #[aa n] 3)) Z db m (.slice (some (ai (w.heap.size+1) 0)) 1 1) [n] (h0.keep (fun b _ hb=>Below.heap_alloc _ _ b hb)) ⟨rfl,.inr ⟨w.heap.size+1,1,#[aa n],rfl,aM _,KN,by simp,by simp[maxLen],rfl,rfl⟩⟩ (by simp) (fun b hb hz=>by
  have:w.heap.size+1=b:=by simpa [Value.ownBlock]using hb
  have:=hZ b hz
  omega)
 rw[ro]at hD;have Og:∀{m':PM} {e:Ending} {w':an},ir S k T ((w.alloc (ak #[.int .u64 v.1,ae v.2,ah,ae ⟨#[]⟩] 55)).alloc (ak #[aa n] 3)) Z db m' e w'->ir S k T w Z db m' e w':=fun⟨q1,Z',q2,q3⟩=>⟨q1,Z',(((d9.refl w Z).below B0).alloc _).trans q2,q3⟩
 by_cases hz:v.1=0
 ·have Oa:(v.1==0)=true:=by simp[hz]
  by_cases hs:gy v.2 eS=true
  ·have Oq:(v.2.toList== [])=true:=by rw[<-show eS.toList= []from by decide+kernel];exact hs
   rw[if_pos ⟨hz,hs⟩];clear hz hs hC HS;unfold rN;go_enter Tryz.func193,Tryz.ntmps193
   go_wp2_with fail
   refine hD.mono ?_;rintro e w1 hq;obtain rfl:=hq.1;go_wp2;go_end0;exact Og hq
  ·have Oq:(v.2.toList== [])=false:=by rw[<-show eS.toList= []from by decide+kernel];exact bN.2 hs
   rw[if_neg (fun q=>hs q.2)];clear hz hs hD Og;unfold rN at hC⊢;go_enter Tryz.func193,Tryz.ntmps193
   go_wp2_with fail
   refine hC.mono ?_;rintro e w1 hq;obtain rfl:=hq.1;go_wp2;go_end0;exact HS hq
 ·have Oa:(v.1==0)=false:=by simp[hz]
  rw[if_neg (fun q=>hz q.1)];clear hz hD Og;unfold rN at hC⊢;go_enter Tryz.func193,Tryz.ntmps193
  go_wp2_with fail
  refine hC.mono ?_;rintro e w1 hq;obtain rfl:=hq.1;go_wp2;go_end0;exact HS hq
theorem dB.forget {S:dG}:∀{k:Nat} {T:Option MT} {w:an} {Z:ap} {db:Nat} {m:PM},dB S k T w Z db m->dB S k none w Z db m
 |0,_,_,_,_,_,h=>h
 |k+1,T,w,_,_,_,⟨sv,uv,l,Y,hy,hs⟩=>⟨sv,uv,l,Y,hy,hs.imp fun x f A _ _ _ h=>by
   obtain⟨h1,h2⟩:=h;refine⟨h1,?_⟩;have hk:∀n kd,lM S none n kd:=fun _ _ _ _ e=>by cases e
   rcases h2 with⟨_,lv,h⟩|⟨_,ps,B,h⟩|⟨t,_,mb,ps,B,h⟩
   ·exact .inl ⟨hk _ _,lv,h⟩
   ·exact .inr (.inl ⟨hk _ _,ps,B,{h with lone:=(fun⟨_,_,e,_⟩=>by cases e),sub:=h.sub.imp fun p v C _ _ _ q=>⟨q.1,dB.forget q.2⟩}⟩)
   ·exact .inr (.inr ⟨t,hk _ _,mb,ps,B,h⟩)⟩
end
def iO (a b:LV):Prop:=a.1=b.1/\a.2.toList=b.2.toList
theorem AN (x y:List UInt8):Op.bytesLess x y=true<->x<y:=by rw[bytesLess_eq];simp
theorem oh (a:LV):¬mh a a:=by
 rintro(h|⟨_,h⟩)
 ·omega
 ·rw[AN]at h;exact List.lt_irrefl _ h
theorem lP {a b c:LV}(h:mh a b)(k:mh b c):mh a c:=by
 unfold mh at*;simp only[AN]at*
 rcases h with h|⟨h1,h2⟩
 ·rcases k with k|⟨k1,k2⟩
  ·exact .inl (by omega)
  ·exact .inl (by omega)
 ·rcases k with k|⟨k1,k2⟩
  ·exact .inl (by omega)
  ·exact .inr ⟨by omega,List.lt_trans h2 k2⟩
theorem xt (a b:LV):mh a b\/iO a b\/mh b a:=by
 unfold mh iO;simp only[AN]
 by_cases h1:a.1<b.1
 ·exact .inl (.inl h1)
 ·by_cases h2:b.1<a.1
  ·exact .inr (.inr (.inl h2))
  ·have e:a.1=b.1:=by omega
   by_cases h3:a.2.toList<b.2.toList
   ·exact .inl (.inr ⟨e,h3⟩)
   ·by_cases h4:b.2.toList<a.2.toList
    ·exact .inr (.inr (.inr ⟨e.symm,h4⟩))
    ·exact .inr (.inl ⟨e,List.le_antisymm (List.not_lt.1 h4) (List.not_lt.1 h3)⟩)
theorem tw {a b c:LV}(k:iO a b)(h:mh b c):mh a c:=by
 obtain⟨k1,k2⟩:=k;unfold mh at*;rw[k1,k2];exact h
theorem iO.symm {a b:LV}(h:iO a b):iO b a:=⟨h.1.symm,h.2.symm⟩
theorem ka {a b:LV}(h:mh a b):¬iO a b:=fun k=>oh b (tw k.symm h)
theorem fX {a b:am}:gy a b=true<->a.toList=b.toList:=by unfold gy;simp
theorem xu {t:am}(h:gy t oA=true):dX kY t=false:=by
 have e:=fX.1 h;unfold dX;rw[e];decide+kernel
theorem Fd {t:am}{x y:PV}(hx:Av t x)(hy:Av t y):sN t x y=true<->mh (jH t x) (jH t y):=by
 obtain⟨a1,a2,_,a4,a5⟩:=hx;obtain⟨b1,b2,_,b4,b5⟩:=hy;unfold sN mh jH
 cases hs:gy t oA with
 |true=>
  simp only[xu hs,aK,if_false,if_true];rw[a4 hs,b4 hs];simp
 |false=>
  rw[a5 hs,b5 hs];have e:¬Op.bytesLess eS.toList eS.toList=true:=by decide+kernel
  simp only[e,and_false,or_false,aK,if_false]
  cases dX kY t with
  |true=>
   simp only[if_true,decide_eq_true_eq];unfold Js
   split<;>split<;>omega
  |false=>simp
theorem xw {t:am}{x y:PV}(hx:Av t x)(hy:Av t y):mG x y=true<->iO (jH t x) (jH t y):=by
 unfold mG iO jH;have:=hx.lo;have:=hx.hi;have:=hy.lo;have:=hy.hi;simp only[aT,decide_eq_true_eq,fX]
 constructor
 ·rintro⟨h1,h2⟩;exact⟨by rw[h1],h2⟩
 ·rintro⟨h1,h2⟩;refine⟨?_,h2⟩
  split at h1<;>omega
theorem rt {t:am}{v:PV}:∀{l:List PV},(∀x∈l,mG (gr v) (gr x)=false)->gM t v true l=l
 | [],_=>rfl
 |x::l,h=>by
  rw[gM];simp only[cr,cl,aK,if_false,aP,h x (by simp),cp];rw[rt fun y hy=>h y (by simp[hy])];rfl
theorem ru {t:am}{v:PV}(hv:Av t (gr v)):∀{l:List PV},(∀x∈l,Av t (gr x))->l.Pairwise (fun a b=>mh (jH t (gr a)) (jH t (gr b)))->
  ∃l1 mid l2,l=l1++(mid++l2)/\kj t l v=l1++v::l2/\(mid= []\/∃x,mid= [x]/\iO (jH t (gr v)) (jH t (gr x)))/\(∀x∈l1,mh (jH t (gr x)) (jH t (gr v)))/\∀x∈l2,mh (jH t (gr v)) (jH t (gr x))
 | [],_,_=>⟨[],[],[],rfl,rfl,.inl rfl,by simp,by simp⟩
 |x::l,hk,hs=>by
  have hx:=hk x (by simp);rw[bB]at hs;have N3:mh (jH t (gr v)) (jH t (gr x))\/iO (jH t (gr v)) (jH t (gr x))->∀y∈l,mh (jH t (gr v)) (jH t (gr y)):=fun h y hy=>h.elim (fun q=>lP q (hs.1 y hy)) (fun q=>tw q (hs.1 y hy))
  have N2:mh (jH t (gr v)) (jH t (gr x))\/iO (jH t (gr v)) (jH t (gr x))->gM t v true l=l:=fun h=>rt fun y hy=>by
   rw[bN];intro q;exact ka (N3 h y hy) ((xw hv (hk y (by simp[hy]))).1 q)
  rcases xt (jH t (gr v)) (jH t (gr x))with h|h|h
  ·have e1:=(Fd hv hx).2 h
   have e2:mG (gr v) (gr x)=false:=by
    rw[bN];exact fun q=>ka h ((xw hv hx).1 q)
   refine⟨[],[],x::l,rfl,?_,.inl rfl,by simp,?_⟩
   ·unfold kj;rw[gM,e1,e2];simp only[cm,cp,cD,cz,if_true,aK,if_false];rw[N2 (.inl h)];rfl
   ·intro y hy
    rcases aL.1 hy with rfl|hy
    ·exact h
    ·exact N3 (.inl h) y hy
  ·have e2:=(xw hv hx).2 h;refine⟨[],[x],l,rfl,?_,.inr ⟨x,rfl,h⟩,by simp,N3 (.inr h)⟩;unfold kj;rw[gM,e2];simp only[cm,cj,cD,if_true];rw[N2 (.inr h)];rfl
  ·have e1:sN t (gr v) (gr x)=false:=by
    rw[bN];exact fun q=>oh _ (lP ((Fd hv hx).1 q) h)
   have e2:mG (gr v) (gr x)=false:=by
    rw[bN];exact fun q=>ka h ((xw hv hx).1 q).symm
   obtain⟨l1,mid,l2,q1,q2,q3,q4,q5⟩:=ru hv (l:=l) (fun y hy=>hk y (by simp[hy])) hs.2;refine⟨x::l1,mid,l2,by rw[q1];rfl,?_,q3,?_,q5⟩
   ·unfold kj at q2⊢;rw[gM,e1,e2];simp only[cE,cg,aK,if_false,aP];rw[q2];rfl
   ·intro y hy
    rcases aL.1 hy with rfl|hy
    ·exact h
    ·exact q4 y hy
section
open Go.Maps
theorem AO:Keyed Tryz.prog 386:=Keyed.of_law (deep_law (m:=2) (by omega) (by kernel_rfl) (by kernel_rfl) (by kernel_rfl))
theorem Fe:Tryz.prog.keyType 386=true:=by kernel_rfl
theorem AP:Tryz.prog.cellsOf 386=2:=by kernel_rfl
theorem AQ:Tryz.prog.cellsOf 53=1:=by kernel_rfl
theorem yX:Tryz.prog.cellsOf 9=1:=by kernel_rfl
structure uV (k:LV):Prop where
 lo:0<=k.1
 hi:k.1<18446744073709551616
 sz:k.2.size<=maxLen
theorem JE {k:LV}(h:uV k):∃kl,Go.keyOf Tryz.prog 386 (kV k)=some kl:=by
 unfold keyOf kV;have hb:Nat.ble 1 Tryz.prog.types.size=true:=by kernel_rfl
 have hb2:=Nat.le_of_ble_eq_true hb;obtain⟨N,hN⟩:∃N,Tryz.prog.types.size+1=N+1+1:=⟨Tryz.prog.types.size-1,by omega⟩
 have N3:(Lit.int .u64 k.1).wf=true:=by
  show(decide (0<=k.1)&&decide (k.1<=18446744073709551615))=true;have:=h.lo;have:=h.hi;simp;omega
 have hsz:=h.sz;rw[Fe,hN];simp[Tryz.underlying386,Value.formed,AP,Program.keyLits,AQ,yX,Tryz.underlying53,Tryz.underlying9,N3,hsz,Value.cells]
theorem gX {a b:am}(h:a.toList=b.toList):a=b:=by
 rw[ByteArray.toList_eq,ByteArray.toList_eq]at h
 cases a
 cases b
 simp at h;rw[h]
theorem tx {q:LV}:∀{ks:List LV} {ps:au},(∀x∈ks,¬iO x q)->ik ks ps q=none
 | [],_,_=>by rw[ik];intros;simp_all
 |_::_,[],_=>by rw[ik];intros;simp_all
 |x::ks,y::ps,h=>by
  rw[ik,if_neg (fun e=>h x (by simp) ⟨e.1,fX.1 e.2⟩)];exact tx fun z hz=>h z (by simp[hz])
theorem qI {k q:LV}{p:Nat}{ks2:List LV}{ps2:au}{km:List LV}{pm:au}(hm:(km= []/\pm= [])\/∃k' p',km= [k']/\pm= [p']/\iO k k'):∀{ks1:List LV} {ps1:au},ks1.length=ps1.length->(∀x∈ks1,¬iO x k)->
  ik (ks1++k::ks2) (ps1++p::ps2) q=if k.1=q.1/\gy k.2 q.2=true then some p else ik (ks1++(km++ks2)) (ps1++(pm++ps2)) q
 | [],[],_,_=>by
  simp only[aP];rw[ik]
  split
  ·rfl
  ·rename_i hn
   rcases hm with⟨rfl,rfl⟩|⟨k',p',rfl,rfl,hs⟩
   ·rfl
   ·simp only[bj,aP];rw[ik,if_neg (fun e=>hn ⟨hs.1.trans e.1,fX.2 (hs.2.trans (fX.1 e.2))⟩)]
 | [],_::_,h,_=>by simp at h
 |_::_,[],h,_=>by simp at h
 |x::ks1,y::ps1,h,hn=>by
  simp only[bj];rw[ik,ik,qI hm (by simpa using h) (fun z hz=>hn z (by simp[hz]))]
  by_cases hx:x.1=q.1/\gy x.2 q.2=true
  ·rw[if_pos hx,if_pos hx,if_neg (fun e=>hn x (by simp) ⟨hx.1.trans e.1.symm,(fX.1 hx.2).trans (fX.1 e.2).symm⟩)]
  ·rw[if_neg hx,if_neg hx]
theorem tz {w:an}{k:TypeId}{R:Value->Option (DataW Unit×List MemPlace)}{b n:Nat}{D:DataW Unit}(h:w.ownsMap Tryz.prog k R b n D):w.ownsMap Tryz.prog k R b (Go.Maps.size D) D:=by
 obtain⟨es,clock,hb,F,hs,rfl⟩:=h;exact⟨es,clock,hb,F,by simp[Go.Maps.size,length_sorted],rfl⟩
theorem il.put {w w':an}{mb p n:Nat}{k:LV}{kl:Lit}{D:DataW Unit}{ks1 km ks2:List LV}{ps1 pm ps2:au}(hm:(km= []/\pm= [])\/∃k' p',km= [k']/\pm= [p']/\iO k k')(hl:ks1.length=ps1.length)(h1:∀x∈ks1,¬iO x k)(h2:∀x∈ks2,¬iO x k)
  (hown:w.ownsMap Tryz.prog 386 eU mb n D) (hsz:Go.Maps.size D=(ks1++(km++ks2)).length) (hat:∀(k:LV) kl,Go.keyOf Tryz.prog 386 (kV k)=some kl->∀z,D.atKey kl z=LG (ik (ks1++(km++ks2)) (ps1++(pm++ps2)) k) z)
  (hk:Go.keyOf Tryz.prog 386 (kV k)=some kl) (hput:w'.ownsMap Tryz.prog 386 eU mb (n+1) (D.put kl (lI (some p)))):il w' mb (ks1++k::ks2) (ps1++p::ps2):=by
 have hlen:Go.Maps.size (D.put kl (lI (some p)))=(ks1++k::ks2).length:=by
  rw[size_put (hown.tidy AO)]
  rcases hm with⟨rfl,rfl⟩|⟨k',p',rfl,rfl,hs⟩
  ·have N7:ik (ks1++([]++ks2)) (ps1++([]++ps2)) k=none:=tx fun x hx=>by
    simp only[aP,ba]at hx;exact hx.elim (h1 x) (h2 x)
   rw[has_false_of_atKey (fun z=>by rw[hat k kl hk z,N7];rfl),hsz];simp;omega
  ·have N2:∃p0,ik (ks1++([k']++ks2)) (ps1++([p']++ps2)) k=some p0:=by
    have:=qI (k:=k') (q:=k) (p:=p') (ks2:=ks2) (ps2:=ps2) (km:= []) (pm:= []) (.inl ⟨rfl,rfl⟩) hl (fun x hx q=>h1 x hx ⟨q.1.trans hs.1.symm,q.2.trans hs.2.symm⟩);exact⟨p',this.trans (if_pos ⟨hs.1.symm,fX.2 hs.2.symm⟩)⟩
   obtain⟨p0,N8⟩:=N2;rw[has_true_of_atKey (y:=lI (some p0)) (fun z=>by rw[hat k kl hk z,N8];rfl),hsz];simp
 refine⟨_,by rw[<-hlen];exact tz hput,hlen,fun q ql hq z=> ?_⟩;rw[qI hm hl h1]
 by_cases e:k.1=q.1/\gy k.2 q.2=true
 ·rw[if_pos e];have e2:k.2=q.2:=gX (fX.1 e.2);have e3:kV k=kV q:=by unfold kV;rw[e.1,e2]
  rw[<-e3,hk]at hq
  cases hq
  exact atKey_put_same hown.isMap (AO.key hk) _ _
 ·rw[if_neg e,atKey_put_other]
  ·exact hat q ql hq z
  ·intro h;subst h;have h3:=AO.inj hq hk;unfold kV at h3;simp at h3;exact e ⟨h3.1.symm,by rw[h3.2];exact fX.2 rfl⟩
theorem il.made (w:an):il (w.alloc (.map #[] 0)) w.heap.size [] []:=
 ⟨_,World.ownsMap_made w Tryz.prog 386 eU,rfl,fun _ _ _ _=>rfl⟩
end
section
attribute [local go_sem↓] Go.wp_at_zero Go.wp_at_succ
theorem H7 (n:Nat)(h:n<18446744073709551616):n^^^9223372036854775808=(n+9223372036854775808)%18446744073709551616:=by
 have e:(9223372036854775808:Nat)=2^63:=by decide
 have key:∀r,r<2^63->r^^^2^63=2^63+r:=fun r hr=>by
  apply Nat.eq_of_testBit_eq;intro i;rw[Nat.testBit_xor,Nat.testBit_two_pow]
  by_cases h1:i<63
  ·rw[Nat.testBit_two_pow_add_gt h1];have:decide (63=i)=false:=by simp;omega
   simp[this]
  ·by_cases h2:i=63
   ·subst h2;rw[Nat.testBit_two_pow_add_eq];simp
   ·have h3:2^64<=2^i:=cJ (by omega) (by omega);have h4:r.testBit i=false:=Nat.testBit_lt_two_pow (by omega);have h5:(2^63+r).testBit i=false:=Nat.testBit_lt_two_pow (by omega);rw[h4,h5];simp;omega
 rw[e]
 by_cases hn:n<2^63
 ·rw[key n hn,Nat.mod_eq_of_lt (by omega)];omega
 ·obtain⟨r,rfl⟩:∃r,n=2^63+r:=⟨n-2^63,by omega⟩;have hr:r<2^63:=by omega
  rw[<-key r hr,Nat.xor_assoc,Nat.xor_self,Nat.xor_zero,key r hr];omega
theorem p7 {n:Int}(h0:0<=n)(h1:n<18446744073709551616):bits .xor .u64 n 9223372036854775808=(n+9223372036854775808)%18446744073709551616:=by
 obtain⟨a,rfl⟩:=bf h0
 have hx:(BitVec.ofInt 64 (a:Int)).toNat=a:=by
  rw[BitVec.ofInt_natCast,BitVec.toNat_ofNat];exact Nat.mod_eq_of_lt (by omega)
 show IntKind.u64.wrap (((BitVec.ofInt 64 (a:Int))^^^(BitVec.ofInt 64 9223372036854775808)).toNat:Int)=_;rw[BitVec.toNat_xor,hx,show(BitVec.ofInt 64 9223372036854775808).toNat=9223372036854775808 from by decide,H7 a (by omega)];rw[eR (by omega) (by omega)];omega
def GV (sg:Bool)(v:LV):LV:=(if sg then(v.1+9223372036854775808)%18446744073709551616 else v.1,v.2)
theorem H8 (w:an)(v:LV)(sg:Bool)(h0:0<=v.1)(h1:v.1<18446744073709551616):
  Calls Tryz.prog 267 #[rN v,.bool sg] w fun e w'=>e= .returned (kV (GV sg v))/\aj w w':=by
 have hx:=p7 h0 h1;have K0:=de.new w #[.int .u64 v.1,ae v.2,ah,ae ⟨#[]⟩] 55;have K1:=K0.alloc (ak #[.int .u64 0,ae ⟨#[]⟩] 386);obtain⟨k1,k2⟩:=K1.rules;unfold rN kV GV
 cases sg with
 |true=>
  rw[if_pos rfl];go_enter Tryz.func267,Tryz.ntmps267
  go_wp2;refine bodyPost_ret (dw Tryz.results267 _ _ rfl (de.new1 w _ _ _) Tryz.underlying386 (by kernel_rfl)) rfl ?_;exact⟨rfl,((Below.refl _ _).alloc (ay _) _).alloc (by simp) _⟩
 |false=>
  rw[if_neg (by simp)];go_enter Tryz.func267,Tryz.ntmps267
  go_wp2;refine bodyPost_ret (dw Tryz.results267 _ _ rfl (de.new1 w _ _ _) Tryz.underlying386 (by kernel_rfl)) rfl ?_;exact⟨rfl,((Below.refl _ _).alloc (ay _) _).alloc (by simp) _⟩
theorem ij.filled {S:dG}{R:I3}{w:an}{T:Option MT}:∀{l:List eP} {fs:List PF} {Y:ap},ij (fi S R w T) Y l fs->∀f∈fs,f.2≠ []
 | [],[],_,_=>by simp
 |_::_,g::_,_,⟨_,_,h1,h2,_⟩=>fun f hf=>by
  rcases aL.1 hf with rfl|hf
  ·rcases h1.2 with⟨_,lv,h⟩|⟨_,ps,B,h⟩|⟨t,_,mb,ps,B,h⟩
   ·rw[h.pm];simpa using h.ne
   ·intro e;have:=h.sub.len;rw[e]at this;exact h.ne (bt this)
   ·intro e;have:=h.sub.len;rw[e]at this;exact h.ne (bt this)
  ·exact h2.filled f hf
 | [],_::_,_,h=>h.elim
 |_::_,[],_,h=>h.elim
theorem yY {n:Int}:∀{fs:List PF},(∀f∈fs,f.2≠ [])->(∃f∈fs,f.1=n)->fU fs n≠ []
 | [],_,⟨_,h,_⟩=>by simp at h
 |x::l,h,⟨f,hf,e⟩=>by
  rw[fU]
  split
  ·exact h x (by simp)
  ·rename_i q
   rcases aL.1 hf with rfl|hf
   ·exact absurd e q
   ·exact yY (fun y hy=>h y (by simp[hy])) ⟨f,hf,e⟩
theorem Ff {S:dG}{k:Nat}{T:Option MT}{w:an}{Z Y:ap}{db:Nat}{m:PM}{sv uv:Value}{l:List eP}(hy:Hy w Z db sv uv m.unk l Y)(hs:ij (fi S (dB S k) w T) Y l m.fs){n:Int}{i:Nat}(h1:∀k x,(l.map (·.1))[k]?=some x->k<i->x<n)(h2:∀k x,(l.map (·.1))[k]?=some x->i<=k->n<=x):
  ((l.map (·.1))[i]?=some n->(m.get n).isEmpty=false)/\((l.map (·.1))[i]?≠some n->(m.get n).isEmpty=true/\∀f∈m.fs,f.1≠n):=by
 have hn:=hs.nums
 constructor
 ·intro h;have hm:n∈m.fs.map (·.1):=by rw[hn];exact aI h
  obtain⟨f,hf,e⟩:=List.mem_map.1 hm;have:=yY hs.filled ⟨f,hf,e⟩;unfold PM.get
  cases hg:fU m.fs n with
  |nil=>exact absurd hg this
  |cons _ _=>rfl
 ·intro h
  have Oe:∀f∈m.fs,f.1≠n:=fun f hf e=>by
   have hm:n∈l.map (·.1):=by rw[<-hn];exact List.mem_map.2 ⟨f,hf,e⟩
   obtain⟨j,hj⟩:=List.mem_iff_getElem?.1 hm
   have Oo:i<j:=by
    by_cases q:j<i
    ·have:=h1 j n hj q;omega
    ·by_cases q2:j=i
     ·exact absurd (q2▸hj) h
     ·omega
   have Oq:(l.map (·.1)).Pairwise (·< ·):=bJ.2 hy.c.srt;obtain⟨Ox,ej⟩:=List.getElem?_eq_some_iff.1 hj;have N3:=bC.1 Oq i j (by omega) Ox Oo;have:=h2 i _ (aJ (by omega)) (ay _);omega
  exact⟨by unfold PM.get;rw[lc n m.fs Oe];rfl,Oe⟩
def kD (m:PM):Nat->PM
 |0=> .mk m.fs eS
 |1=>et (.mk m.fs eS) 1
 |_=>et (et (.mk m.fs eS) 1) 2
theorem Dk (m:PM):kD m 2=gH m:=by
 have hu:∀(fs:List PF) (u u':am) (n:Int),(et (.mk fs u) n).fs=(et (.mk fs u') n).fs/\(et (.mk fs u) n).unk=u:=fun fs u u' n=>by
  unfold et PM.get PM.put
  cases h:(fU fs n).isEmpty<;>simp[PM.fs,PM.unk,h]
 have hm:∀m:PM,m= .mk m.fs m.unk:=fun m=>by cases m;rfl
 unfold gH;show et (et (.mk m.fs eS) 1) 2=_;rw[hm (et (et (.mk m.fs eS) 1) 2)];have e1:=hu m.fs eS m.unk 1;rw[<-hm m]at e1;rw[hm (et (.mk m.fs eS) 1),e1.2,e1.1];rw[(hu (et m 1).fs eS (et m 1).unk 2).1,<-hm (et m 1),(hu (et m 1).fs eS eS 2).2]
theorem yZ (S:dG)(k:Nat)(T:Option MT)(w:an)(Z:ap)(db:Nat)(m:PM)(h:dB S (k+1) T w Z db m)(hok1:lM S T 1 .vals)(hok2:lM S T 2 .vals)(hl:m.fs.length<4194302)(hZ:∀b,Z b->b<w.heap.size):
  Calls Tryz.prog 265 #[ag db] w (ir S k T w Z db (gH m)):=by
 obtain⟨sv,uv,l,Y,hy,hs⟩:=h;obtain⟨k1,k2⟩:=hy.c.blk.rules;have hdl:=hy.c.blk.lt
 have h0:dB S (k+1) T (w.setCell (ai db 1) (ah)) Z db (kD m 0):=by
  have N2:∀b,b≠db->(w.setCell (ai db 1) (ah)).heap[b]?=w.heap[b]?:=fun b q=>by rw[dd,if_neg (fun e=>q e.symm)]
  refine⟨sv,ah,l,Y,⟨⟨⟨hy.c.blk.set 1 _,dz hy.c.row (fun b e=>N2 b (fun q=>hy.c.ne (q▸e))),hy.c.form,hy.c.srt,hy.c.ne,hy.c.len⟩,aX _ _ _ _,hy.zd,hy.zs,(fun b e=>by cases e),(fun b _ e=>by cases e),(fun e=>by cases e)⟩,hy.yz,fun b q=>by simpa using hy.yl b q,hy.yd,hy.ys,(fun b e=>by cases e)⟩,?_⟩;exact kA hs fun b q _=>N2 b (fun e=>hy.yd (e▸q))
 have Ot:d9 w Z (w.setCell (ai db 1) (ah)) Z:=⟨rfl,rfl,rfl,by simp,fun b _ q=>by rw[dd,if_neg (fun e:db=b=>q (by rw[<-e];exact hy.zd))],fun b q=> .inl q⟩;have KR:=de.new (w.setCell (ai db 1) (ah)) #[aa 1,aa 2] 3;have BR:Below _ (w.setCell (ai db 1) (ah)) ((w.setCell (ai db 1) (ah)).alloc (ak #[aa 1,aa 2] 3)):=(Below.refl _ _).alloc (ay _) _;have hsz:(w.setCell (ai db 1) (ah)).heap.size=w.heap.size:=by simp
 have Ou:(kD m 0).fs.length<4194302:=hl;clear hy hs
 have N7:∀(m:PM) (n:Int),(et m n).fs.length<=m.fs.length+1:=fun m n=>by
  unfold et
  split
  ·exact PM.put_len m n _
  ·omega
 have hlen:∀j,(kD m j).fs.length<4194304:=fun j=>by
  match j with
  |0=>have:=Ou;omega
  |1=>have:=N7 (kD m 0) 1;show(et (kD m 0) 1).fs.length<_;omega
  |_+2=>
   have h1:=N7 (kD m 0) 1;have h2:=N7 (et (kD m 0) 1) 2;show(et (et (kD m 0) 1) 2).fs.length<_;omega
 have Of:∀j,j<2->kD m (j+1)=et (kD m j) ((j:Int)+1):=fun j hj=>by
  match j with
  |0=>rfl
  |1=>rfl
 have Og:Hid (∀j,j<2->kD m (j+1)=et (kD m j) ((j:Int)+1)):=Of;clear Of
 have N8:∀j:Nat,j<2->lM S T ((j:Int)+1) .vals:=fun j hj=>by
  match j with
  |0=>exact hok1
  |1=>exact hok2
 go_enter Tryz.func265,Tryz.ntmps265
 rw[hsz]at KR;clear hsz;go_wp2;go_loopw [11] (fun iv wr=>∃j:Nat,j<=2/\iv=aa j/\∃Z',d9 w Z wr Z'/\dB S (k+1) T wr Z' db (kD m j)/\de wr w.heap.size #[aa 1,aa 2] 3/\¬Z' w.heap.size) (fun iv _=>(2-intOf iv).toNat)
 case atStart=>exact⟨0,by omega,rfl,Z,Ot.below BR,h0.keep (fun b _ q=>BR.block b q),KR,fun q=>by have:=hZ _ q;omega⟩
 case round=>
  obtain⟨j,hj,rfl,Z',st,hD,Ob,Oc⟩:=hrel
  by_cases N3:j<2
  ·have hc:wr.cell? (ai w.heap.size j)=some (aa ((j:Int)+1)):=by
    rw[Ob.cell]
    match j,N3 with
    |0,_=>rfl
    |1,_=>rfl
   have hli:(j:Int)<2:=by omega
   obtain⟨Oj,Ok,l',Y',Od,Ol⟩:=hD;have hD:dB S (k+1) T wr Z' db (kD m j):=⟨Oj,Ok,l',Y',Od,Ol⟩;have hF:=Cf wr db Oj Ok l' ((j:Int)+1) Od.c;go_wp2_with fail
   refine hF.mono ?_;rintro e w1 ⟨⟨i,rfl,hi,Oy,Oz⟩,B1⟩;have hH:=Ff Od Ol Oy Oz;have Oh:=hD.keep (fun b _ q=>B1.block b q);have Oa:=Ob.below B1 Ob.lt
   by_cases hfd:(l'.map (·.1))[i]?=some ((j:Int)+1)
   ·have hd:decide ((l'.map (·.1))[i]?=some ((j:Int)+1))=true:=decide_eq_true hfd
    have HE:Hid (kD m (j+1)=kD m j):=by
     show kD m (j+1)=kD m j;rw[Og.out j N3,et,hH.1 hfd];rfl
    clear hfd hH hc;go_wp2;go_roundw
    case rel=>exact⟨j+1,by omega,by go_num,Z',st.below B1,by rw[HE.out];exact Oh,Oa,Oc⟩
    case measure=>simp[intOf];omega
   ·have hd:decide ((l'.map (·.1))[i]?=some ((j:Int)+1))=false:=decide_eq_false hfd;obtain⟨Om,OA⟩:=hH.2 hfd
    have HE:Hid (kD m (j+1)=(kD m j).put ((j:Int)+1) [nx (0,⟨#[]⟩)]):=by
     show kD m (j+1)=_;rw[Og.out j N3,et,Om];rfl
    have Oi:=tj S k T w1 Z' db (kD m j) ((j:Int)+1) (0,⟨#[]⟩) Oh (N8 j N3) (.inr OA) (hlen j);unfold rN at Oi;clear hfd hH hc Om;go_wp2_with fail
    refine Oi.mono ?_;rintro e w2 ⟨rfl,Z2,st2,OB⟩;have Ov:=Oa.step st2 Oc;have Ow:¬Z2 w.heap.size:=st2.not Oa.lt Oc;go_wp2;go_roundw
    case rel=>exact⟨j+1,by omega,by go_num,Z2,(st.below B1).trans st2,by rw[HE.out];exact OB,Ov,Ow⟩
    case measure=>simp[intOf];omega
  ·obtain rfl:j=2:=by omega
   go_wp2;go_end0;rw[<-Dk];exact⟨rfl,Z',st,hD⟩
def nA (t:am):MT:=⟨eS,[⟨lH,t,eS,lp,1⟩]⟩
theorem sA.shut {S:dG}{k:Nat}{T:Option MT}{w1:an}{Z1:ap}{db:Nat}{m:PM}{n:Int}{g:Nat}{pre:List eP}{x:eP}{post:List eP}{sv uv:Value}{A B:ap}{fp fq:List PF}
  (h:sA S k T w1 Z1 db m n g pre x post sv uv A B fp fq) (hn:m.get n≠ []):dB S (k+1) T w1 Z1 db m:=by
 rcases h.was with⟨old,e,hs⟩|⟨e,_⟩
 ·obtain⟨fs,u⟩:=m;simp only[PM.fs]at e;subst e;exact⟨sv,uv,pre++x::post,fun b=>A b\/B b,h.y,ij.join h.len hs h.sep (fun b q=> .inl q) (fun b q=> .inr q) h.dis⟩
 ·refine absurd ?_ hn;unfold PM.get;rw[e];refine lc n _ fun f hf=> ?_
  rcases ba.1 hf with hf|hf
  ·have:=h.lo f hf;omega
  ·have:=h.hi f hf;omega
theorem sA.ofEnts {S:dG}{k:Nat}{T:Option MT}{w1:an}{Z1:ap}{db:Nat}{m:PM}{n:Int}{g:Nat}{pre:List eP}{x:eP}{post:List eP}{sv uv:Value}{A B:ap}{fp fq:List PF}{t:am}
  (h:sA S k T w1 Z1 db m n g pre x post sv uv A B fp fq) (hkd:∀kd,lM S T n kd->kd= .ents t):
  (x.2.1=ah/\x.2.2.1=ah)/\((x.2.2.2= .map none/\m.get n= []/\∀b,¬A b)\/∃mb ps D,x.2.2.2= .map (some mb)/\il w1 mb ((m.get n).map fun v=>jH t (gr v)) ps/\(∀b,D b->A b)/\A mb/\¬D mb/\(∀v∈m.get n,Av t (gr v))/\
   (m.get n).Pairwise (fun a b=>mh (jH t (gr a)) (jH t (gr b)))/\ij (fun p v C=>v=mV v.2.2/\dB S k none w1 C p v.2.2) D ps (m.get n)):=by
 rcases h.was with⟨old,e,hs⟩|⟨e,rfl,hA⟩
 ·obtain⟨h1,h2⟩:=hs
  have Ok:m.get n=old:=by
   unfold PM.get;rw[e];exact og n old fq fp h.lo
  rw[h.xn]at h2
  rcases h2 with⟨q,_⟩|⟨q,_⟩|⟨t',q,mb,ps,B,hv⟩
  ·exact absurd (hkd _ q) (by simp)
  ·exact absurd (hkd _ q) (by simp)
  ·have:=hkd _ q;simp only[Kd.ents.injEq]at this;subst this;rw[Ok];exact⟨⟨hv.c1,hv.c2⟩,.inr ⟨mb,ps,B,hv.c3,hv.map,hv.inA,hv.inM,hv.own,hv.key,hv.srt,hv.sub⟩⟩
 ·refine⟨⟨rfl,rfl⟩,.inl ⟨rfl,?_,hA⟩⟩;unfold PM.get;rw[e];refine lc n _ fun f hf=> ?_
  rcases ba.1 hf with hf|hf
  ·have:=h.lo f hf;omega
  ·have:=h.hi f hf;omega
theorem ij.splitR {α β:Type}{P:α->β->(ap)->Prop}{l:List α}{rp:List β}{y:β}{rq:List β}{Y:ap}(h:ij P Y l (rp++y::rq)):
  ∃pre x post,l=pre++x::post/\pre.length=rp.length/\∃A B:ap,P x y A/\ij P B (pre++post) (rp++rq)/\(∀b,A b->Y b)/\(∀b,B b->Y b)/\∀b,A b->¬B b:=by
 have hl:=h.len;simp only[aH,bn]at hl;have Ol:rp.length<l.length:=by omega
 obtain⟨pre,x,post,rfl,hp⟩:∃pre x post,l=pre++x::post/\pre.length=rp.length:=
  ⟨l.take rp.length,l[rp.length],l.drop (rp.length+1),by rw[<-aU Ol,bS],by rw[be];omega⟩
 obtain⟨rp',y',rq',e,hl',A,B,q⟩:=h.split;obtain⟨e1,e2⟩:=List.append_inj e (by omega);simp only[List.cons.injEq]at e2;obtain⟨rfl,rfl⟩:=e2;subst e1;exact⟨pre,x,post,rfl,hp,A,B,q⟩
theorem ij.part {β:Type}{P:Nat->β->(ap)->Prop}{ps:au}{l1 mid l2:List β}{C:ap}(h:ij P C ps (l1++(mid++l2)))(hm:mid= []\/∃x,mid= [x]):
  ∃ps1 pm ps2,∃C0:ap,ps=ps1++(pm++ps2)/\ps1.length=l1.length/\((mid= []/\pm= [])\/∃x p,mid= [x]/\pm= [p])/\ij P C0 (ps1++ps2) (l1++l2)/\∀b,C0 b->C b:=by
 rcases hm with rfl|⟨x,rfl⟩
 ·have hl:=h.len;simp only[aP,aH]at hl h;exact⟨ps.take l1.length,[],ps.drop l1.length,C,by rw[aP,bS],by rw[be];omega,.inl ⟨rfl,rfl⟩,by rw[bS];exact h,fun _ q=>q⟩
 ·obtain⟨pre,p,post,rfl,hp,A,B,_,h2,_,h4,_⟩:=ij.splitR (y:=x) (rq:=l2) h;exact⟨pre,[p],post,B,rfl,hp,.inr ⟨x,p,rfl,rfl⟩,h2,h4⟩
theorem sA.ents {S:dG}{k:Nat}{T:Option MT}{w2:an}{Z1:ap}{db:Nat}{m:PM}{n:Int}{g c:Nat}{pre:List eP}{x:eP}{post:List eP}{uv:Value}{A B:ap}{fp fq:List PF}{t:am}
  (h:sA S k T w2 Z1 db m n g pre x post (.slice (some (ai g 0)) (pre++x::post).length c) uv A B fp fq) {w3 w6:an} {mb eb N:Nat} {ps:au} {C E:ap} {em:PM} {D:DataW Unit} {kl:Lit}
  (hc3:yW w3 db (.slice (some (ai g 0)) (pre++x::post).length c) uv (pre++(n,ah,ah,.map (some mb))::post)) (h3:∀b,b<w2.heap.size->b≠g->w3.heap[b]?=w2.heap[b]?) (hs3:w2.heap.size<=w3.heap.size)
  (hkept:∀b,b<w3.heap.size->¬E b->b≠mb->w6.heap[b]?=w3.heap[b]?) (hs6:w3.heap.size<=w6.heap.size) (hos:w6.os=w2.os/\w6.tape=w2.tape/\w6.output=w2.output)
  (N8:∃w5:an,w5.ownsMap Tryz.prog 386 eU mb N D) (hsz:Go.Maps.size D=((m.get n).map fun v=>jH t (gr v)).length) (hat:∀(k:LV) kl,Go.keyOf Tryz.prog 386 (kV k)=some kl->∀z,D.atKey kl z=LG (ik ((m.get n).map fun v=>jH t (gr v)) ps k) z)
  (hput:w6.ownsMap Tryz.prog 386 eU mb (N+1) (D.put kl (lI (some eb)))) (hkl:Go.keyOf Tryz.prog 386 (kV (jH t (gr (mV em))))=some kl)
  (hmb:A mb\/w2.heap.size<=mb) (hmC:¬C mb) (hCA:∀b,C b->A b) (hEZ:∀b,E b->¬Z1 b) (hEm:¬E mb) (hEl:∀b,E b->b<w6.heap.size) (hml:mb<w6.heap.size) (hkey:∀v∈m.get n,Av t (gr v)) (hkv:Av t (gr (mV em)))
  (hsrt:(m.get n).Pairwise (fun a b=>mh (jH t (gr a)) (jH t (gr b)))) (hsub:ij (fun p v C=>v=mV v.2.2/\dB S k none w2 C p v.2.2) C ps (m.get n)) (he:dB S k none w6 E eb em) (hok:lM S T n (.ents t)) (Od:(m.get n).length<4194304):
  d9 w2 (fun b=>Z1 b\/E b) w6 (fun b=>Z1 b\/(A b\/b=mb\/E b))/\dB S (k+1) T w6 (fun b=>Z1 b\/(A b\/b=mb\/E b)) db (m.put n (kj t (m.get n) (mV em))):=by
 obtain⟨l1,mid,l2,e1,e2,Oc,Oh,Oi⟩:=ru hkv hkey hsrt;rw[e2];rw[e1]at hkey hsrt hsub;obtain⟨ps1,pm,ps2,C0,rfl,Oj,Ov,N2,N7⟩:=hsub.part (Oc.imp id fun⟨x,q,_⟩=>⟨x,q⟩);have Od:=(h.y.c.row.lt g h.own).2;have Of:=h.y.c.blk.lt;have Oa:mb<w2.heap.size->A mb:=fun q=>hmb.resolve_right (by omega)
 have Om:mb≠g:=fun e=>h.y.ys g h.own (.inl (e▸Oa (e▸Od)))
 have Oo:mb≠db:=fun e=>h.y.yd (.inl (e▸Oa (e▸Of)))
 have Og:=h.y.zs g h.own;have N3:∀b,b<w2.heap.size->b≠g->¬E b->b≠mb->w6.heap[b]?=w2.heap[b]?:=fun b hb q1 q2 q3=>(hkept b (aC hb hs3) q2 q3).trans (h3 b hb q1)
 have Oq:∀b,C0 b->w6.heap[b]?=w2.heap[b]?:=fun b hb=>by
  have hA:=hCA b (N7 b hb);exact N3 b (h.y.yl b (.inl hA)) (fun e=>h.y.ys g h.own (.inl (e▸hA))) (fun q=>hEZ b q (h.y.yz b (.inl hA))) (fun e=>hmC (e▸N7 b hb))
 have Ot:=hc3.keep (w':=w6) (hkept db (aC Of hs3) (fun q=>hEZ db q h.y.zd) (fun e=>Oo e.symm)) (fun b hb=>by
  obtain rfl:g=b:=by simpa [Value.ownBlock]using hb
  exact hkept g (aC Od hs3) (fun q=>hEZ g q Og) (fun e=>Om e.symm))
 have Ob:∀v∈l1++mV em::l2,Av t (gr v):=fun v hv=>by
  simp only[ba,aL]at hv
  rcases hv with hv|rfl|hv
  ·exact hkey v (by simp[hv])
  ·exact hkv
  ·exact hkey v (by simp[hv])
 have Ou:(l1++mV em::l2).Pairwise (fun a b=>mh (jH t (gr a)) (jH t (gr b))):=by
  rw[bW]at hsrt;have h2:=(bW.1 hsrt.2.1).2.1;rw[bW,bB];refine⟨hsrt.1,⟨Oi,h2⟩,fun a ha b hb=> ?_⟩
  rcases aL.1 hb with rfl|hb
  ·exact Oh a ha
  ·exact hsrt.2.2 a ha b (by simp[hb])
 obtain⟨w5,N8⟩:=N8;rw[e1,bH,bH]at hsz hat
 have Oe:il w6 mb ((l1++mV em::l2).map fun v=>jH t (gr v)) (ps1++eb::ps2):=by
  rw[bH,br];refine il.put (km:=mid.map fun v=>jH t (gr v)) (pm:=pm) ?_ (by rw[aV];exact Oj.symm) ?_ ?_ N8 hsz hat hkl hput
  ·rcases Ov with⟨rfl,rfl⟩|⟨x,p,rfl,rfl⟩
   ·exact .inl ⟨rfl,rfl⟩
   ·obtain⟨x',q1,q2⟩:=Oc.resolve_left (by simp)
    cases q1
    exact .inr ⟨_,p,rfl,rfl,q2⟩
  ·intro q hq;obtain⟨v,hv,rfl⟩:=List.mem_map.1 hq;exact ka (Oh v hv)
  ·intro q hq;obtain⟨v,hv,rfl⟩:=List.mem_map.1 hq;exact fun e=>ka (Oi v hv) e.symm
 refine⟨⟨hos.1,hos.2.1,hos.2.2,aG hs3 hs6,fun b hb q=>N3 b hb (fun e=>q (.inl (e▸Og))) (fun e=>q (.inr e)) (fun e=>q (.inl (e▸h.y.yz mb (.inl (Oa (e▸hb)))))),?_⟩,?_⟩
 ·rintro b (q|q|rfl|q)
  ·exact .inl (.inl q)
  ·exact .inl (.inl (h.y.yz b (.inl q)))
  ·exact hmb.imp (fun q=> .inl (h.y.yz _ (.inl q))) id
  ·exact .inl (.inr q)
 ·refine dB.mono (Z:=fun b=>Z1 b\/(b=mb\/C0 b\/E b)) (h.close (w2:=w6) (x':=(n,ah,ah,.map (some mb))) (vs:=l1++mV em::l2) (A':=fun b=>b=mb\/C0 b\/E b) ?_ ⟨rfl,.inr (.inr ⟨t,hok,mb,ps1++eb::ps2,fun b=>C0 b\/E b,?_⟩)⟩ (by simp) ?_ ?_ ?_) ?_
  ·exact Ot
  ·refine⟨by simp,rfl,rfl,rfl,Oe,fun b q=> .inr q,.inl rfl,fun q=>q.elim (fun q=>hmC (N7 mb q)) hEm,Ob,Ou,?_,?_⟩
   ·exact ij.join (A:=E) (B:=C0) Oj.symm ⟨rfl,he⟩ (N2.imp fun p v F _ _ hF hp=>⟨hp.1,hp.2.keep fun b hb _=>Oq b (hF b hb)⟩) (fun b q=> .inr q) (fun b q=> .inl q) (fun b q1 q2=>hEZ b q1 (h.y.yz b (.inl (hCA b (N7 b q2)))))
   ·have q1:=congrArg List.length e1;have q2:=N2.len;simp only[aH,bn]at q1 q2⊢;omega
  ·rintro b (rfl|q|q) hz hl
   ·exact Oa hl
   ·exact hCA b (N7 b q)
   ·exact absurd hz (hEZ b q)
  ·rintro b (rfl|q|q)
   ·exact hml
   ·exact aC (h.y.yl b (.inl (hCA b (N7 b q)))) (aG hs3 hs6)
   ·exact hEl b q
  ·exact fun b hz hb q1 q2=>N3 b hb q1 (fun q=>hEZ b q hz) (fun e=>q2 (e▸Oa (e▸hb)))
  ·rintro b (q|rfl|q|q)
   ·exact .inl q
   ·exact .inr (.inr (.inl rfl))
   ·exact .inr (.inl (hCA b (N7 b q)))
   ·exact .inr (.inr (.inr q))
end
end Go.Proofs.YtfebdimolnobaaaGreatDoor
