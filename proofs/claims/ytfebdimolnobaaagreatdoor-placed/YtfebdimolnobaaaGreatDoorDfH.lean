import Derived.Test.YtfebdimolnobaaaGreatDoorDfC
import Derived.Laws.AppendOwnNone
set_option maxRecDepth 100000
set_option maxHeartbeats 8000000
set_option linter.all false
namespace Go.Proofs.YtfebdimolnobaaaGreatDoor
open Go.RowKit
section
attribute [local go_sem↓] Go.wp_at_zero Go.wp_at_succ
theorem ny {S:dG}{k:Nat}{T:Option MT}{w:an}{Z:ap}{db:Nat}{m:PM}{sv uv:Value}{l:List eP}{Y:ap}{n:Int}(hy:Hy w Z db sv uv m.unk l Y)(hs:ij (fi S (dB S k) w T) Y l m.fs)
  {e:Ending} {w1:an} (h:sx w db sv uv l n e w1):
  ∃g c pre x post A B fp fq,e= .returned (.pointer (some (ai g (pre.length*4))))/\sA S k T w1 (fun b=>Z b\/b=g) db m n g pre x post (.slice (some (ai g 0)) (pre++x::post).length c) uv A B fp fq/\d9 w Z w1 (fun b=>Z b\/b=g)/\(∀b,A b->Y b)/\dl (db::sv.ownBlock.toList) w w1:=by
 obtain⟨g,c,pre,x,post,rfl,hc,hx,hw,hk,hg⟩:=h
 have hY:∀b,Y b->w1.heap[b]?=w.heap[b]?:=fun b hb=>hk.block b (hy.yl b hb) (fun hm=>by
  simp only[aL,cB]at hm
  rcases hm with rfl|hm
  ·exact hy.yd hb
  ·exact hy.ys b hm hb)
 have hU:∀b,uv.ownBlock=some b->w1.heap[b]?=w.heap[b]?:=fun b hb=>hk.block b (hy.un.lt b hb).2 (fun hm=>by
  simp only[aL,cB]at hm
  rcases hm with rfl|hm
  ·exact hy.ud hb
  ·exact hy.su b hm hb)
 have Ou:¬Y g:=fun hb=>by
  rcases hg with hg|hg
  ·exact hy.ys g hg hb
  ·have:=hy.yl g hb;omega
 have Ov:uv.ownBlock≠some g:=fun hb=>by
  rcases hg with hg|hg
  ·exact hy.su g hg hb
  ·have:=(hy.un.lt g hb).2;omega
 have N3:∀b,(Value.slice (some (ai g 0)) (pre++x::post).length c).ownBlock=some b->b=g:=fun b hb=>by simpa [Value.ownBlock]using hb.symm
 have Ok:d9 w Z w1 (fun b=>Z b\/b=g):=⟨hk.os,hk.tape,hk.output,hk.size,fun b hb hz=>hk.block b hb (fun hm=>by
   simp only[aL,cB]at hm
   rcases hm with rfl|hm
   ·exact hz hy.zd
   ·exact hz (hy.zs b hm)),fun b hb=>by
   rcases hb with hb|rfl
   ·exact .inl hb
   ·rcases hg with hg|hg
    ·exact .inl (hy.zs _ hg)
    ·exact .inr hg⟩
 have Oc:∀{y:eP} {f:PF} {C:ap},(∀b,C b->Y b)->fi S (dB S k) w T y f C->fi S (dB S k) w1 T y f C:=fun hC hh=>hh.keep (fun _ _ _ _ hD hr=>hr.keep fun b hb _=>hY b (hC b (hD b hb))) (fun b hb _=>hY b (hC b hb))
 have srt:=hc.srt;rw[bW,bB]at srt
 have Ol:∀{fp:List PF},fp.map (·.1)=pre.map (·.1)->∀f∈fp,f.1<n:=fun{fp} e f hf=>by
  have:f.1∈pre.map (·.1):=e▸List.mem_map.2 ⟨f,hf,rfl⟩;obtain⟨y,hy,Oh⟩:=List.mem_map.1 this;rw[<-Oh,<-hx];exact srt.2.2 y hy x (by simp)
 have Om:∀{fq:List PF},fq.map (·.1)=post.map (·.1)->∀f∈fq,n<f.1:=fun{fq} e f hf=>by
  have:f.1∈post.map (·.1):=e▸List.mem_map.2 ⟨f,hf,rfl⟩;obtain⟨y,hy,Oh⟩:=List.mem_map.1 this;rw[<-Oh,<-hx];exact srt.2.1.1 y hy
 have Oo:∀(A B:ap),(∀b,A b->Y b)->(∀b,B b->Y b)->Hy w1 (fun b=>Z b\/b=g) db (.slice (some (ai g 0)) (pre++x::post).length c) uv m.unk (pre++x::post) (fun b=>A b\/B b):=fun A B hA hB=>by
  have N8:∀b,A b\/B b->Y b:=fun b hb=>hb.elim (hA b) (hB b)
  exact⟨⟨hc,dz hy.un hU,.inl hy.zd,fun b hb=> .inr (N3 b hb),fun b hb=> .inl (hy.zu b hb),fun b hb=>by rw[N3 b hb];exact Ov,hy.ud⟩,
   fun b hb=> .inl (hy.yz b (N8 b hb)),fun b hb=>p6 (hy.yl b (N8 b hb)) (hY b (N8 b hb)),fun hb=>hy.yd (N8 db hb),fun b hb hq=>by rw[N3 b hb]at hq;exact Ou (N8 g hq),fun b hb hq=>hy.yu b hb (N8 b hq)⟩
 rcases hw with⟨rfl,hsv⟩|⟨rfl,OB⟩
 ·obtain⟨fp,f,fq,OC,hlen,A,B,p1,p2,p3,p4,p5⟩:=hs.split;have hf:f=(n,f.2):=by rw[<-hx,p1.1]
  have Oa:=p2.nums;rw[bH,bH]at Oa;obtain⟨Oi,Oj⟩:=List.append_inj Oa (by simpa using hlen);refine⟨g,c,pre,x,post,A,B,fp,fq,rfl,⟨rfl,Oo A B p3 p4,hlen,p2.imp fun y q C _ _ hC hh=>Oc (fun b hb=>p4 b (hC b hb)) hh,p5,hx,Ol Oi,Om Oj,.inl ⟨f.2,by rw[OC];rw[<-hf],by rw[<-hf];exact Oc p3 p1⟩⟩,Ok,p3,hk⟩
 ·have Oa:=hs.nums;have Ow:=hs.len;have Od:m.fs=m.fs.take pre.length++m.fs.drop pre.length:=(bS _ _).symm;rw[Od,bH,bH]at Oa;have Oq:(m.fs.take pre.length).length=pre.length:=by rw[be,<-Ow,aH];omega
  obtain⟨Oi,Oj⟩:=List.append_inj Oa (by simpa using Oq);rw[Od]at hs;refine⟨g,c,pre,x,post,fun _=>False,Y,m.fs.take pre.length,m.fs.drop pre.length,rfl,⟨rfl,Oo _ Y (fun _ h=>h.elim) (fun _ h=>h),Oq,hs.imp fun y q C _ _ hC hh=>Oc hC hh,fun _ h=>h.elim,hx,Ol Oi,Om Oj,.inr ⟨Od,OB,fun _ h=>h⟩⟩,Ok,fun _ h=>h.elim,hk⟩
theorem E8 (pre post:List eP)(x x':eP)(j:Nat)(hj:j<4)(v:Value)(h:(du x).set j v=du x'):((pre++x::post).flatMap du).set (pre.length*4+j) v=(pre++x'::post).flatMap du:=by
 have hl:(pre.flatMap du).length=pre.length*4:=by
  clear h
  induction pre with
  |nil=>rfl
  |cons y l ih=>rw[bm,aH,ih,eJ,bn];omega
 rw[bZ,bZ,List.set_append_right _ _ (by omega),hl,Nat.add_sub_cancel_left,bm,bm,<-h,List.set_append_left _ _ (by rw[eJ];exact hj)]
theorem yW.put {w:an}{db g c:Nat}{uv:Value}{pre post:List eP}{x x':eP}(h:yW w db (.slice (some (ai g 0)) (pre++x::post).length c) uv (pre++x::post)){j:Nat}(hj:j<4){v:Value}(hx:x'.1=x.1)(hf:nw x')(hs:(du x).set j v=du x'):
  yW (w.setCell (ai g (pre.length*4+j)) v) db (.slice (some (ai g 0)) (pre++x::post).length c) uv (pre++x'::post):=by
 have Ob:g≠db:=fun e=>h.ne (by rw[e];rfl)
 have hlen:(pre++x'::post).length=(pre++x::post).length:=by simp
 refine⟨h.blk.other _ _ Ob,?_,?_,?_,h.ne,by rw[hlen];exact h.len⟩
 ·have:=jC h.row (o:=pre.length*4+j) v (by simp;omega);rw[E8 pre post x x' j hj v hs]at this;rw[hlen];exact this
 ·intro y hy;simp only[ba,aL]at hy
  rcases hy with hy|rfl|hy
  ·exact h.form y (by simp[hy])
  ·exact hf
  ·exact h.form y (by simp[hy])
 ·have:=h.srt;rw[bW,bB]at this⊢;refine⟨this.1,⟨fun y hy=>by rw[hx];exact this.2.1.1 y hy,this.2.1.2⟩,fun a ha b hb=> ?_⟩
  rcases aL.1 hb with rfl|hb
  ·rw[hx];exact this.2.2 a ha x (by simp)
  ·exact this.2.2 a ha b (by simp[hb])
theorem sA.cells {S:dG}{k:Nat}{T:Option MT}{w1:an}{Z1:ap}{db:Nat}{m:PM}{n:Int}{g c:Nat}{pre:List eP}{x:eP}{post:List eP}{uv:Value}{A B:ap}{fp fq:List PF}
  (h:sA S k T w1 Z1 db m n g pre x post (.slice (some (ai g 0)) (pre++x::post).length c) uv A B fp fq) {w':an} (hw:w'.heap[g]?=w1.heap[g]?):
  w'.cell? (ai g (pre.length*4))=some (aa n)/\w'.cell? (ai g (pre.length*4+1))=some x.2.1/\w'.cell? (ai g (pre.length*4+2))=some x.2.2.1/\w'.cell? (ai g (pre.length*4+3))=some x.2.2.2/\∀o,w'.frozen? (ai g o)=false:=by
 have hx:(pre++x::post)[pre.length]?=some x:=by simp
 obtain⟨g',e,_,hc⟩:=pp h.y.c.row hx
 cases e
 obtain⟨c0,c1,c2,c3⟩:=hc w' hw;rw[h.xn]at c0;refine⟨c0,c1,c2,c3,?_⟩;obtain⟨cs,hb⟩:=iN h.y.c.row h.own;exact(de.rules (hw.trans hb)).2
theorem sA.vals {S:dG}{k:Nat}{T:Option MT}{w1:an}{Z1:ap}{db:Nat}{m:PM}{n:Int}{g c:Nat}{pre:List eP}{x:eP}{post:List eP}{uv:Value}{A B:ap}{fp fq:List PF}
  (h:sA S k T w1 Z1 db m n g pre x post (.slice (some (ai g 0)) (pre++x::post).length c) uv A B fp fq) {w' w9:an} {gg cap N:Nat} {lv:List LV} {src:Option Nat} {cs:aq} (hsrc:∀b,src=some b->A b) (Ob:lv≠ []) (hB:aj w1 w') (hgrow:w'.grownBy w9 src)
  (N3:w9.ownsRow 0 55 4 (.slice (some (ai gg 0)) N cap) N cs) (hN:N=lv.length) (hcs:cs=lv.flatMap jX) (N7:src=some gg\/w1.heap.size<=gg) (hok:lM S T n .vals) (hx2:x.2.2.1=ah) (hx3:x.2.2.2= .map none):
  ∃Z',d9 w1 Z1 (w9.setCell (ai g (pre.length*4+1)) (.slice (some (ai gg 0)) N cap)) Z'/\dB S (k+1) T (w9.setCell (ai g (pre.length*4+1)) (.slice (some (ai gg 0)) N cap)) Z' db (m.put n (lv.map nx)):=by
 subst hN hcs;have Ox:=(h.y.c.row.lt g h.own).2;have Oy:=h.y.c.blk.lt;have N2:∀b,b<w1.heap.size->¬A b->w9.heap[b]?=w1.heap[b]?:=fun b hb ha=>(hgrow.block b (aC hb hB.size) (fun e=>ha (hsrc b e.symm))).trans (hB.block b hb)
 have Ot:¬A g:=fun ha=>h.y.ys g h.own (.inl ha)
 have Oz:¬A db:=fun ha=>h.y.yd (.inl ha)
 have Oe:gg<w9.heap.size:=(N3.lt gg rfl).2
 have Of:gg≠g:=fun e=>by
  rcases N7 with N7|N7
  ·exact Ot (hsrc g (e▸N7))
  ·omega
 have OA:=h.y.c.keep (w':=w9) (N2 db Oy Oz) (fun b hb=>by
  have:g=b:=by simpa [Value.ownBlock]using hb
  subst this
  exact N2 _ Ox Ot)
 have Og:=OA.put (j:=1) (by omega) (v:= .slice (some (ai gg 0)) lv.length cap) (x':=(x.1,.slice (some (ai gg 0)) lv.length cap,ah,.map none)) rfl ⟨⟨_,_,_,rfl⟩,⟨_,_,_,rfl⟩,_,rfl⟩ (by simp[du,hx2,hx3]);refine⟨fun b=>Z1 b\/b=gg,⟨?_,?_,?_,?_,?_,?_⟩,h.close Og (A':=fun b=>b=gg) ⟨h.xn,.inl ⟨by rw[h.xn];exact hok,lv,Ob,rfl,⟨?_,?_⟩,rfl,rfl⟩⟩ (by simpa using Ob) ?_ ?_ ?_⟩
 ·exact hgrow.os.trans hB.os
 ·exact hgrow.tape.trans hB.tape
 ·exact hgrow.output.trans hB.output
 ·simpa using aG hB.size hgrow.size
 ·intro b hb hz;rw[dd,if_neg (fun e=>hz (by rw[<-e];exact h.y.zs g h.own))];exact N2 b hb (fun ha=>hz (h.y.yz b (.inl ha)))
 ·rintro b (hb|rfl)
  ·exact .inl hb
  ·rcases N7 with N7|N7
   ·exact .inl (h.y.yz _ (.inl (hsrc _ N7)))
   ·exact .inr N7
 ·refine dz N3 fun b hb=> ?_
  obtain rfl:gg=b:=by simpa [Value.ownBlock]using hb
  rw[dd,if_neg (fun e=>Of e.symm)]
 ·intro b hb;simpa [Value.ownBlock]using hb.symm
 ·rintro b rfl _ hl
  rcases N7 with N7|N7
  ·exact hsrc _ N7
  ·omega
 ·rintro b rfl;simpa using Oe
 ·intro b _ hb OD ha;rw[dd,if_neg (fun e=>OD e.symm)];exact N2 b hb ha
end
theorem Tryz.infoV:(Tryz.prog.info? 55).map (fun i=>(i.zero,i.size,i.bytes))=some (some (.agg #[.int .u64 0,ae ⟨#[]⟩,ah,ae ⟨#[]⟩]),4,64):=by kernel_rfl
theorem Tryz.infoF:(Tryz.prog.info? 58).map (fun i=>(i.zero,i.size,i.bytes))=some (some (.agg #[aa 0,ah]),2,32):=by kernel_rfl
section
attribute [local go_sem↓] Go.wp_at_zero Go.wp_at_succ
theorem Hy.keep {w w':an}{Z:ap}{db:Nat}{sv uv:Value}{u:am}{l:List eP}{Y:ap}(hy:Hy w Z db sv uv u l Y)(hk:∀b,Z b->b<w.heap.size->w'.heap[b]?=w.heap[b]?):Hy w' Z db sv uv u l Y:=
 {hy with toDrB:=hy.toDrB.keep hk,yl:=fun b hb=>p6 (hy.yl b hb) (hk b (hy.yz b hb) (hy.yl b hb))}
theorem kA {S:dG}{k:Nat}{T:Option MT}{w w':an}{Y:ap}{l:List eP}{fs:List PF}(hs:ij (fi S (dB S k) w T) Y l fs)(hk:∀b,Y b->b<w.heap.size->w'.heap[b]?=w.heap[b]?):ij (fi S (dB S k) w' T) Y l fs:=
 hs.imp fun _ _ _ _ _ hA h=>h.keep (fun _ _ _ _ hC hr=>hr.keep fun b hb hl=>hk b (hA b (hC b hb)) hl) (fun b hb hl=>hk b (hA b hb) hl)
theorem sA.ofVals {S:dG}{k:Nat}{T:Option MT}{w1:an}{Z1:ap}{db:Nat}{m:PM}{n:Int}{g:Nat}{pre:List eP}{x:eP}{post:List eP}{sv uv:Value}{A B:ap}{fp fq:List PF}
  (h:sA S k T w1 Z1 db m n g pre x post sv uv A B fp fq) (hkd:(∀kd,lM S T n kd->kd= .vals)\/∀f∈m.fs,f.1≠n):
  (x.2.2.1=ah/\x.2.2.2= .map none)/\((x.2.1=ah/\m.get n= [])\/∃gv cc lv,lv≠ []/\x.2.1= .slice (some (ai gv 0)) lv.length cc/\A gv/\m.get n=lv.map nx/\w1.ownsRow 0 55 4 (.slice (some (ai gv 0)) lv.length cc) lv.length (lv.flatMap jX)):=by
 rcases h.was with⟨old,e,hs⟩|⟨e,rfl,_⟩
 ·obtain⟨h1,h2⟩:=hs;have Oo:(n,old)∈m.fs:=by rw[e];simp
  have Oq:m.get n=old:=by
   unfold PM.get;rw[e];exact og n old fq fp h.lo
  rw[h.xn]at h2;have Ob:=hkd.resolve_right (fun q=>q _ Oo rfl)
  rcases h2 with⟨_,lv,hv⟩|⟨q,_⟩|⟨t,q,_⟩
  ·refine⟨⟨hv.c2,hv.c3⟩,.inr ?_⟩;have N3:=hv.row
   rcases N3.1.2 with⟨_,hz⟩|⟨gv,cc,Oh,e2,_⟩
   ·exact absurd (bt hz) hv.ne
   ·rw[e2]at N3;exact⟨gv,cc,lv,hv.ne,e2,N3.2 gv rfl,Oq.trans hv.pm,N3.1⟩
  ·exact absurd (Ob _ q) (by simp)
  ·exact absurd (Ob _ q) (by simp)
 ·refine⟨⟨rfl,rfl⟩,.inl ⟨rfl,?_⟩⟩;unfold PM.get;rw[e];refine lc n _ fun f hf=> ?_
  rcases ba.1 hf with hf|hf
  ·have:=h.lo f hf;omega
  ·have:=h.hi f hf;omega
def ir (S:dG)(k:Nat)(T:Option MT)(w:an)(Z:ap)(db:Nat)(m:PM)(e:Ending)(w':an):Prop:=e= .returned (.tuple #[])/\∃Z',d9 w Z w' Z'/\dB S (k+1) T w' Z' db m
theorem tj (S:dG)(k:Nat)(T:Option MT)(w:an)(Z:ap)(db:Nat)(m:PM)(n:Int)(v:LV)(h:dB S (k+1) T w Z db m)(hok:lM S T n .vals)(hkd:(∀kd,lM S T n kd->kd= .vals)\/∀f∈m.fs,f.1≠n)(hl:m.fs.length<4194304):
  Calls Tryz.prog 195 #[ag db,aa n,rN v] w (ir S k T w Z db (m.put n [nx v])):=by
 obtain⟨i0,Oi,Oj,Ok,Ol⟩:=info_parts Tryz.infoV;obtain⟨sv,uv,l,Y,hy,hs⟩:=h;obtain⟨B0,KB⟩:=di w #[.int .u64 v.1,ae v.2,ah,ae ⟨#[]⟩] 55;have hdl:=hy.c.blk.lt;have Ot:=hy.c.row.lt;have Oe:=hy.keep (fun b _ hb=>B0.block b hb);have Ou:=kA hs (fun b _ hb=>B0.block b hb);have hS:=qH _ db sv uv l n Oe.c (by rw[hs.len];exact hl);have hAl:∀b,Y b->b<w.heap.size:=hy.yl;unfold rN;go_enter Tryz.func195,Tryz.ntmps195
 go_wp2_with fail
 generalize w.alloc (ak #[.int .u64 v.1,ae v.2,ah,ae ⟨#[]⟩] 55)=w0 at*;refine hS.mono ?_;rintro e w1 hR;obtain⟨g,c,pre,x,post,A,B,fp,fq,rfl,O,st,hAY,K⟩:=ny Oe Ou hR
 have Of:=KB.kept K (by
  simp only[aL,cB,not_or]
  exact⟨by omega,fun e=>by have:=(Ot _ e).2;omega⟩)
 obtain⟨k1,k2⟩:=Of.rules;obtain⟨⟨x2,x3⟩,hx⟩:=O.ofVals hkd;obtain⟨c0,c1,c2,c3,cf⟩:=O.cells rfl;have Og:=(O.y.c.row.lt g rfl).2;have hgn:w.heap.size<w1.heap.size:=Of.lt
 have N8:∀(w' w9:an) (src:Option Nat),aj w1 w'->w'.grownBy w9 src->(∀b,src=some b->A b)->w9.heap[g]?=w1.heap[g]?:=fun w' w9 src hB hg hs=>
  (hg.block g (aC Og hB.size) (fun e=>O.y.ys g rfl (.inl (hs g e.symm)))).trans (hB.block g Og)
 have HC:Hid (∀(w' w9:an) (src:Option Nat),aj w1 w'->w'.grownBy w9 src->(∀b,src=some b->A b)->w9.heap[g]?=w1.heap[g]?):=N8
 have HF:Hid (∀(w' w9:an) (src:Option Nat) (gg cap:Nat) (cs:aq),aj w1 w'->w'.grownBy w9 src->(∀b,src=some b->A b)->w9.ownsRow 0 55 4 (.slice (some (ai gg 0)) 1 cap) 1 cs->cs=jX v->(src=some gg\/gg=w1.heap.size+1)->
   ir S k T w Z db (m.put n [nx v]) (.returned (.tuple #[])) (w9.setCell (ai g (pre.length*4+1)) (.slice (some (ai gg 0)) 1 cap))):=by
  intro w' w9 src gg cap cs hB hg hs Oc Ov Ow;obtain⟨Z',h1,h2⟩:=O.vals (lv:= [v]) hs (by simp) hB hg Oc rfl (by simp[Ov]) (Ow.imp id (fun e=>by omega)) hok x2 x3;refine⟨rfl,Z',?_,h2⟩;have s0:d9 w Z w0 Z:=(d9.refl w Z).below B0;exact(s0.trans st).trans h1
 rcases hx with⟨x1,hg0⟩|⟨gv,cc,lv,hne,x1,Om,hg1,N3⟩
 ·rw[x1]at c1;have BB:aj w1 (w1.drew.alloc (ak #[.int .u64 v.1,ae v.2,ah,ae ⟨#[]⟩] 55)):=((Below.refl _ _).drew).alloc (ay _) _;go_upto_region 2 with fail
  go_region_law (first|(refine step_append_lies _ (by rfl) _ _ _ (by rfl) 0 55 i0 _ 4 64 Tryz.underlying56 Oi Oj Ok Ol rfl (by omega) (ah) 0 [] (by rfl) (aX _ _ _ _) (ai w1.heap.size 0) 1 1 [_,_,_,_] (by rfl) (by rfl) (bl (t:=55) (fr:=(0,0)) (heap_alloc_new w1.drew _)) (by simp[Value.oneCell']) (by omega) (by unfold maxLen;omega) (by omega) (by omega) (w1.heap.size+1) (by simp) ?_;intro gg cap w9 N7 N2 Oa Od;obtain⟨z0,z1,z2,z3,zf⟩:=O.cells (HC.out _ w9 _ BB N2 (fun b e=>by cases e))))
  all_goals
   go_end0;exact HF.out _ w9 _ gg cap _ BB N2 (fun b e=>by cases e) N7 rfl Oa
 ·rw[x1]at c1;have BB:aj w1 (w1.drew.alloc (ak #[.int .u64 v.1,ae v.2,ah,ae ⟨#[]⟩] 55)):=((Below.refl _ _).drew).alloc (ay _) _
  have hr0:w1.ownsRow 0 55 4 (.slice (some (ai gv 0)) 0 cc) 0 []:=by
   refine⟨rfl,.inr ?_⟩
   rcases N3.2 with⟨q,_⟩|⟨g',cap,Oh,q,q1,q2,q3,q4,q5,q6⟩
   ·cases q
   ·cases q
    exact⟨gv,cc,Oh,rfl,aM _,q2,aM _,q4,q5,by simp⟩
  have hgvl:=(N3.lt gv rfl).2;go_upto_region 2 with fail
  go_region_law (first|(refine step_append_lies _ (by rfl) _ _ _ (by rfl) 0 55 i0 _ 4 64 Tryz.underlying56 Oi Oj Ok Ol rfl (by omega) (.slice (some (ai gv 0)) 0 cc) 0 [] (by rfl) (hr0.drew.alloc _) (ai w1.heap.size 0) 1 1 [_,_,_,_] (by rfl) (by rfl) (bl (t:=55) (fr:=(0,0)) (heap_alloc_new w1.drew _)) (by simp[Value.oneCell']) (by omega) (by unfold maxLen;omega) (by omega) (by omega) (w1.heap.size+1) (by simp) ?_;intro gg cap w9 N7 N2 Oa Od;obtain⟨z0,z1,z2,z3,zf⟩:=O.cells (HC.out _ w9 _ BB N2 (fun b e=>by cases e;exact Om))))
  all_goals
   go_end0;exact HF.out _ w9 _ gg cap _ BB N2 (fun b e=>by cases e;exact Om) N7 rfl Oa
end
theorem dB.clip {S:dG}{k:Nat}{T:Option MT}{w:an}{Z:ap}{db:Nat}{m:PM}(h:dB S k T w Z db m):dB S k T w (fun b=>Z b/\b<w.heap.size) db m:=by
 cases k with
 |zero=>exact h
 |succ k=>
  obtain⟨sv,uv,l,Y,hy,hs⟩:=h;exact⟨sv,uv,l,Y,{hy with zd:=⟨hy.zd,hy.c.blk.lt⟩,zs:=fun b hb=>⟨hy.zs b hb,(hy.c.row.lt b hb).2⟩,zu:=fun b hb=>⟨hy.zu b hb,(hy.un.lt b hb).2⟩,yz:=fun b hb=>⟨hy.yz b hb,hy.yl b hb⟩},hs⟩
def Hz (S:dG)(k:Nat)(T:Option MT)(w:an)(Z:ap)(db p:Nat)(C:ap)(T':Option MT)(M:PM->PM):Prop:=
 (∀b,C b->Z b)/\∀(w':an) (C':ap) (m':PM),(∀b,Z b->¬C b->b<w.heap.size->w'.heap[b]?=w.heap[b]?)->w.heap.size<=w'.heap.size->(∀b,C' b->C b\/w.heap.size<=b)->dB S k T' w' C' p m'->dB S (k+1) T w' (fun b=>Z b\/C' b) db (M m')
structure xq (S:dG)(k:Nat)(T:Option MT)(w:an)(Z:ap)(db:Nat)(u:am)(n:Int)(pre:List eP)(x:eP)(post:List eP)(sv uv:Value)(A B:ap)(fp fq:List PF)(ps1:au)(p:Nat)(ps2:au)(vs1 vs2:List PV)(C D:ap):Prop where
 y:Hy w Z db sv uv u (pre++x::post) (fun b=>A b\/B b)
 len:fp.length=pre.length
 sep:ij (fi S (dB S k) w T) B (pre++post) (fp++fq)
 dis:∀b,A b->¬B b
 xn:x.1=n
 c1:x.2.1=ah
 c3:x.2.2.2= .map none
 row:dJ w A 180 1 x.2.2.1 (ps1++p::ps2).length ((ps1++p::ps2).map oC)
 inC:∀b,C b->A b
 inD:∀b,D b->A b
 own:∀b,x.2.2.1.ownBlock=some b->¬C b/\¬D b
 cd:∀b,C b->¬D b
 vl:vs1.length=ps1.length
 sub:ij (fun p v C=>v=mV v.2.2/\dB S k (lw S T n) w C p v.2.2) D (ps1++ps2) (vs1++vs2)
 ok:lM S T n .msgs
 lone:rm T n->(ps1++p::ps2).length=1
 pl:(ps1++p::ps2).length<=4194304
theorem xq.hole {S:dG}{k:Nat}{T:Option MT}{w:an}{Z:ap}{db:Nat}{u:am}{n:Int}{pre:List eP}{x:eP}{post:List eP}{sv uv:Value}{A B:ap}{fp fq:List PF}{ps1:au}{p:Nat}{ps2:au}{vs1 vs2:List PV}{C D:ap}
  (h:xq S k T w Z db u n pre x post sv uv A B fp fq ps1 p ps2 vs1 vs2 C D):Hz S k T w Z db p C (lw S T n) (fun m'=> .mk (fp++(n,vs1++mV m'::vs2)::fq) u):=by
 refine⟨fun b hb=>h.y.yz b (.inl (h.inC b hb)),fun w' Oc m' hk hsz N8 N2=> ?_⟩;obtain⟨C',Oa,N7,Od,Oe⟩:∃C':ap,dB S k (lw S T n) w' C' p m'/\(∀b,C' b->C b\/w.heap.size<=b)/\(∀b,C' b->b<w'.heap.size)/\∀b,C' b->Oc b:=⟨_,N2.clip,fun b hb=>N8 b hb.1,fun b hb=>hb.2,fun b hb=>hb.1⟩;refine dB.mono (Z:=fun b=>Z b\/C' b) ?_ (fun b hb=>hb.imp id (Oe b));have hA:∀b,b<w.heap.size->C' b->A b:=fun b hb hc=>(N7 b hc).elim (h.inC b) (fun q=>by omega)
 have hY:∀b,b<w.heap.size->((A b/\¬C b)\/C' b)\/B b->A b\/B b:=fun b hb q=>q.imp (fun q=>q.elim (fun q=>q.1) (hA b hb)) id
 have N3:∀b,Z b->b<w.heap.size->¬A b->w'.heap[b]?=w.heap[b]?:=fun b hz hb ha=>hk b hz (fun q=>ha (h.inC b q)) hb
 have hB:∀b,B b->w'.heap[b]?=w.heap[b]?:=fun b hb=>N3 b (h.y.yz b (.inr hb)) (h.y.yl b (.inr hb)) (fun q=>h.dis b q hb)
 have hD:∀b,D b->w'.heap[b]?=w.heap[b]?:=fun b hb=>hk b (h.y.yz b (.inl (h.inD b hb))) (fun q=>h.cd b q hb) (h.y.yl b (.inl (h.inD b hb)))
 have Ob:=h.y.c.blk.lt
 refine⟨sv,uv,pre++x::post,fun b=>((A b/\¬C b)\/C' b)\/B b,⟨⟨h.y.c.keep (N3 db h.y.zd Ob fun q=>h.y.yd (.inl q)) (fun b hb=>N3 b (h.y.zs b hb) (h.y.c.row.lt b hb).2 fun q=>h.y.ys b hb (.inl q)),dz h.y.un (fun b hb=>N3 b (h.y.zu b hb) (h.y.un.lt b hb).2 fun q=>h.y.yu b hb (.inl q)),
  .inl h.y.zd,fun b hb=> .inl (h.y.zs b hb),fun b hb=> .inl (h.y.zu b hb),h.y.su,h.y.ud⟩,?_,?_,fun q=>h.y.yd (hY db Ob q),fun b hb q=>h.y.ys b hb (hY b (h.y.c.row.lt b hb).2 q),fun b hb q=>h.y.yu b hb (hY b (h.y.un.lt b hb).2 q)⟩,?_⟩
 ·rintro b ((q|q)|q)
  ·exact .inl (h.y.yz b (.inl q.1))
  ·exact .inr q
  ·exact .inl (h.y.yz b (.inr q))
 ·rintro b ((q|q)|q)
  ·exact aC (h.y.yl b (.inl q.1)) hsz
  ·exact Od b q
  ·exact aC (h.y.yl b (.inr q)) hsz
 ·refine ij.join (A:=fun b=>(A b/\¬C b)\/C' b) (B:=B) h.len ?_ ?_ (fun b q=> .inl q) (fun b q=> .inr q) ?_
  ·refine⟨h.xn,?_⟩;rw[h.xn];refine .inr (.inl ⟨h.ok,ps1++p::ps2,fun b=>D b\/C' b,⟨by simp,h.lone,h.c1,h.c3,⟨dz h.row.1 fun b hb=>hk b (h.y.yz b (.inl (h.row.2 b hb))) (h.own b hb).1 (h.row.1.lt b hb).2,fun b hb=> .inl ⟨h.row.2 b hb,(h.own b hb).1⟩⟩,?_,?_,?_,h.pl⟩⟩)
   ·rintro b (q|q)
    ·exact .inl ⟨h.inD b q,fun c=>h.cd b c q⟩
    ·exact .inr q
   ·rintro b hb (q|q)
    ·exact(h.own b hb).2 q
    ·exact(N7 b q).elim (h.own b hb).1 (fun e=>by have:=(h.row.1.lt b hb).2;omega)
   ·refine ij.join (A:=C') (B:=D) h.vl ⟨rfl,Oa⟩ (h.sub.imp fun q v E _ _ hE hq=>⟨hq.1,hq.2.keep fun b hb _=>hD b (hE b hb)⟩) (fun b q=> .inr q) (fun b q=> .inl q) ?_;intro b hc hd;exact(N7 b hc).elim (fun c=>h.cd b c hd) (fun e=>by have:=h.y.yl b (.inl (h.inD b hd));omega)
  ·exact h.sep.imp fun y f E _ _ hE hs=>hs.keep (fun _ _ _ _ hF hr=>hr.keep fun b hb _=>hB b (hE b (hF b hb))) (fun b hb _=>hB b (hE b hb))
  ·rintro b (q|q) hb
   ·exact h.dis b q.1 hb
   ·exact(N7 b q).elim (fun c=>h.dis b (h.inC b c) hb) (fun e=>by have:=h.y.yl b (.inr hb);omega)
section
attribute [local go_sem↓] Go.wp_at_zero Go.wp_at_succ
theorem dB.fresh {S:dG}{k:Nat}{T:Option MT}{w:an}{b:Nat}(h:de w b #[ah,ah] 183):dB S (k+1) T w (fun x=>x=b) b PM.none:=
 ⟨ah,ah,[],fun _=>False,⟨⟨⟨h,aX _ _ _ _,by simp,List.Pairwise.nil,by simp[Value.ownBlock],by simp⟩,aX _ _ _ _,rfl,by simp[Value.ownBlock],by simp[Value.ownBlock],by simp[Value.ownBlock],by simp[Value.ownBlock]⟩,fun _ q=>q.elim,fun _ q=>q.elim,fun q=>q,fun _ _ q=>q,fun _ _ q=>q⟩,trivial⟩
def AM (S:dG)(k:Nat)(T:Option MT)(w:an)(Z:ap)(db:Nat)(m:PM)(n:Int):Prop:=
 ∃sv uv l,yW w db sv uv l/\l.length<4194304/\∀w0 e w1,aj w w0->sx w0 db sv uv l n e w1->
  ∃g c pre x post A B fp fq,e= .returned (.pointer (some (ai g (pre.length*4))))/\sA S k T w1 (fun b=>Z b\/b=g) db m n g pre x post (.slice (some (ai g 0)) (pre++x::post).length c) uv A B fp fq/\d9 w0 Z w1 (fun b=>Z b\/b=g)/\(∀b,A b->b<w.heap.size)/\dl (db::sv.ownBlock.toList) w0 w1/\(sv.ownBlock=some g\/w0.heap.size<=g)
theorem dB.slot {S:dG}{k:Nat}{T:Option MT}{w:an}{Z:ap}{db:Nat}{m:PM}{n:Int}(h:dB S (k+1) T w Z db m)(hl:m.fs.length<4194304):AM S k T w Z db m n:=by
 obtain⟨sv,uv,l,Y,hy,hs⟩:=h;refine⟨sv,uv,l,hy.c,by rw[hs.len];exact hl,fun w0 e w1 hb hR=> ?_⟩;obtain⟨g,c,pre,x,post,A,B,fp,fq,h1,O,st,OW,K⟩:=ny (hy.keep fun b _ q=>hb.block b q) (kA hs fun b _ q=>hb.block b q) hR
 have hg:sv.ownBlock=some g\/w0.heap.size<=g:=by
  obtain⟨g',_,pre',_,_,rfl,_,_,_,_,hg⟩:=hR;simp only[Ending.returned.injEq,Value.pointer.injEq,Option.some.injEq,Addr.mk.injEq]at h1;rw[<-h1.1];exact hg
 exact⟨g,c,pre,x,post,A,B,fp,fq,h1,O,st,fun b q=>hy.yl b (OW b q),K,hg⟩
theorem sA.ofMsgs {S:dG}{k:Nat}{T:Option MT}{w1:an}{Z1:ap}{db:Nat}{m:PM}{n:Int}{g:Nat}{pre:List eP}{x:eP}{post:List eP}{sv uv:Value}{A B:ap}{fp fq:List PF}
  (h:sA S k T w1 Z1 db m n g pre x post sv uv A B fp fq) (hkd:∀kd,lM S T n kd->kd= .msgs):
  (x.2.1=ah/\x.2.2.2= .map none)/\∃ps D,dJ w1 A 180 1 x.2.2.1 ps.length (ps.map oC)/\(∀b,D b->A b)/\(∀b,x.2.2.1.ownBlock=some b->¬D b)/\ij (fun p v C=>v=mV v.2.2/\dB S k (lw S T n) w1 C p v.2.2) D ps (m.get n)/\(rm T n->ps.length<=1)/\(ps= []->x=(n,ah,ah,.map none)):=by
 rcases h.was with⟨old,e,hs⟩|⟨e,rfl,hA⟩
 ·obtain⟨h1,h2⟩:=hs
  have ON:m.get n=old:=by
   unfold PM.get;rw[e];exact og n old fq fp h.lo
  rw[h.xn]at h2
  rcases h2 with⟨q,_⟩|⟨_,ps,B,hv⟩|⟨t,q,_⟩
  ·exact absurd (hkd _ q) (by simp)
  ·exact⟨⟨hv.c1,hv.c3⟩,ps,B,hv.row,hv.inA,hv.own,by rw[ON];exact hv.sub,fun q=>by rw[hv.lone q];exact ay _,fun q=>absurd q hv.ne⟩
  ·exact absurd (hkd _ q) (by simp)
 ·refine⟨⟨rfl,rfl⟩,[],fun _=>False,dJ.nil _ _ _ _,fun _ q=>q.elim,fun _ _ q=>q,?_,fun _=>by simp,fun _=>rfl⟩
  have:m.get n= []:=by
   unfold PM.get;rw[e];refine lc n _ fun f hf=> ?_
   rcases ba.1 hf with hf|hf
   ·have:=h.lo f hf;omega
   ·have:=h.hi f hf;omega
  rw[this];trivial
def oT (S:dG)(k:Nat)(T:Option MT)(w:an)(Z:ap)(db:Nat)(T':Option MT)(m0:PM)(M:PM->PM)(e:Ending)(w':an):Prop:=
 ∃p Z' C,e= .returned (ag p)/\d9 w Z w' Z'/\dB S k T' w' C p m0/\Hz S k T w' Z' db p C T' M/\∀b,C b->b<w'.heap.size
theorem sA.addMsg {S:dG}{k:Nat}{T:Option MT}{w1:an}{Z1:ap}{db:Nat}{m:PM}{n:Int}{g c:Nat}{pre:List eP}{x:eP}{post:List eP}{uv:Value}{A B:ap}{fp fq:List PF}
  (h:sA S (k+1) T w1 Z1 db m n g pre x post (.slice (some (ai g 0)) (pre++x::post).length c) uv A B fp fq) {w' w9:an} {gg cap N wb:Nat} {ps:au} {D:ap} {cs:aq}
  (x1:x.2.1=ah) (x3:x.2.2.2= .map none) (N2:dJ w1 A 180 1 x.2.2.1 ps.length (ps.map oC)) (Oh:∀b,D b->A b) (Ot:∀b,x.2.2.1.ownBlock=some b->¬D b) (N3:ij (fun p v C=>v=mV v.2.2/\dB S (k+1) (lw S T n) w1 C p v.2.2) D ps (m.get n))
  (hB:aj w1 w') (hgrow:w'.grownBy w9 x.2.2.1.ownBlock) (N7:w9.ownsRow 0 180 1 (.slice (some (ai gg 0)) N cap) N cs) (hN:N=ps.length+1) (OF:cs=ps.map oC++ [oC wb]) (Oe:x.2.2.1.ownBlock=some gg\/w1.heap.size<=gg)
  (Kb:de w1 wb #[ah,ah] 183) (hwZ:¬Z1 wb) (hok:lM S T n .msgs) (hln:rm T n->ps.length=0) (OL:ps.length<4194304):
  d9 w1 Z1 (w9.setCell (ai g (pre.length*4+2)) (.slice (some (ai gg 0)) N cap)) (fun b=>Z1 b\/b=gg)/\dB S (k+1) (lw S T n) (w9.setCell (ai g (pre.length*4+2)) (.slice (some (ai gg 0)) N cap)) (fun b=>b=wb) wb PM.none/\
   Hz S (k+1) T (w9.setCell (ai g (pre.length*4+2)) (.slice (some (ai gg 0)) N cap)) (fun b=>(Z1 b\/b=gg)\/b=wb) db wb (fun b=>b=wb) (lw S T n) (fun m'=>m.put n (m.get n++ [mV m'])):=by
 subst hN OF;have Oi:=(h.y.c.row.lt g h.own).2;have Ow:=h.y.c.blk.lt;have Oc:∀b,b<w1.heap.size->x.2.2.1.ownBlock≠some b->w9.heap[b]?=w1.heap[b]?:=fun b hb ha=>(hgrow.block b (aC hb hB.size) (fun e=>ha e.symm)).trans (hB.block b hb)
 have Ox:∀b,b<w1.heap.size->¬A b->w9.heap[b]?=w1.heap[b]?:=fun b hb ha=>Oc b hb (fun e=>ha (N2.2 b e))
 have Oy:¬A g:=fun ha=>h.y.ys g h.own (.inl ha)
 have OH:¬A db:=fun ha=>h.y.yd (.inl ha)
 have Oj:gg<w9.heap.size:=(N7.lt gg rfl).2;have Oa:gg<w1.heap.size->A gg:=fun q=>Oe.elim (N2.2 gg) (fun e=>by omega)
 have Oz:gg≠g:=fun e=>Oy (e▸Oa (e▸Oi))
 have OO:=Kb.lt;have OP:wb≠g:=fun e=>hwZ (by rw[e];exact h.y.zs g h.own)
 have OA:¬A wb:=fun q=>hwZ (h.y.yz wb (.inl q))
 have Of:∀b,b≠g->(w9.setCell (ai g (pre.length*4+2)) (.slice (some (ai gg 0)) (ps.length+1) cap)).heap[b]?=w9.heap[b]?:=fun b q=>by rw[dd,if_neg (fun e=>q e.symm)]
 have OQ:=h.y.c.keep (w':=w9) (Ox db Ow OH) (fun b hb=>by
  have:g=b:=by simpa [Value.ownBlock]using hb
  subst this
  exact Ox _ Oi Oy)
 have OB:=OQ.put (j:=2) (by omega) (v:= .slice (some (ai gg 0)) (ps.length+1) cap) (x':=(x.1,ah,.slice (some (ai gg 0)) (ps.length+1) cap,.map none)) rfl ⟨⟨_,_,_,rfl⟩,⟨_,_,_,rfl⟩,_,rfl⟩ (by simp[du,x1,x3]);have hsz:w1.heap.size<=(w9.setCell (ai g (pre.length*4+2)) (.slice (some (ai gg 0)) (ps.length+1) cap)).heap.size:=by simpa using aG hB.size hgrow.size
 have OC:(w9.setCell (ai g (pre.length*4+2)) (.slice (some (ai gg 0)) (ps.length+1) cap)).heap.size=w9.heap.size:=by simp
 have Og:(w9.setCell (ai g (pre.length*4+2)) (.slice (some (ai gg 0)) (ps.length+1) cap)).ownsRow 0 180 1 (.slice (some (ai gg 0)) (ps.length+1) cap) (ps.length+1) (ps.map oC++ [oC wb]):=dz N7 fun b hb=>Of b (fun e=>Oz ((show gg=b by simpa [Value.ownBlock]using hb).trans e))
 have Ob:∀b,b<w1.heap.size->b≠g->¬A b->(w9.setCell (ai g (pre.length*4+2)) (.slice (some (ai gg 0)) (ps.length+1) cap)).heap[b]?=w1.heap[b]?:=fun b hb q ha=>(Of b q).trans (Ox b hb ha)
 have OR:∀b,D b->(w9.setCell (ai g (pre.length*4+2)) (.slice (some (ai gg 0)) (ps.length+1) cap)).heap[b]?=w1.heap[b]?:=fun b hb=>by
  have hA:=Oh b hb;have hl:=h.y.yl b (.inl hA);exact(Of b (fun e=>Oy (e▸hA))).trans (Oc b hl (fun e=>Ot b e hb))
 have OD:=(Ob wb OO OP OA).trans Kb;have OS:=hgrow.os.trans hB.os;have OT:=hgrow.tape.trans hB.tape;have OU:=hgrow.output.trans hB.output;clear N7 hgrow hB;have Ok:(w9.setCell (ai g (pre.length*4+2)) (.slice (some (ai gg 0)) (ps.length+1) cap)).os=w1.os:=OS;have Ol:(w9.setCell (ai g (pre.length*4+2)) (.slice (some (ai gg 0)) (ps.length+1) cap)).tape=w1.tape:=OT;have Om:(w9.setCell (ai g (pre.length*4+2)) (.slice (some (ai gg 0)) (ps.length+1) cap)).output=w1.output:=OU;rw[<-OC]at Oj;generalize w9.setCell (ai g (pre.length*4+2)) (.slice (some (ai gg 0)) (ps.length+1) cap)=w10 at*;refine⟨⟨Ok,Ol,Om,hsz,fun b hb hz=>Ob b hb (fun e=>hz (e▸h.y.zs g h.own)) (fun ha=>hz (h.y.yz b (.inl ha))),?_⟩,dB.fresh OD,?_⟩
 ·rintro b (hb|rfl)
  ·exact .inl hb
  ·by_cases q:b<w1.heap.size
   ·exact .inl (h.y.yz b (.inl (Oa q)))
   ·exact .inr (by omega)
 ·have hM:(fun m'=>m.put n (m.get n++ [mV m']))=fun m'=>PM.mk (fp++(n,m.get n++mV m':: [])::fq) m.unk:=funext fun m'=>h.put (by simp)
  rw[hM];have Oq:∀b,(A b\/b=gg)\/b=wb->b<w1.heap.size->A b\/b=wb:=fun b q hb=>q.imp (fun q=>q.elim id (fun e=>e▸Oa (e▸hb))) id
  refine xq.hole (pre:=pre) (x:=(x.1,ah,.slice (some (ai gg 0)) (ps.length+1) cap,.map none)) (post:=post) (sv:= .slice (some (ai g 0)) (pre++x::post).length c) (uv:=uv) (A:=fun b=>(A b\/b=gg)\/b=wb) (B:=B) (ps1:=ps) (ps2:= []) (D:=D)
   ⟨⟨⟨OB,?_,.inl (.inl h.y.zd),fun b hb=> .inl (.inl (h.y.zs b hb)),fun b hb=> .inl (.inl (h.y.zu b hb)),h.y.su,h.y.ud⟩,?_,?_,?_,?_,?_⟩,h.len,?_,?_,h.xn,rfl,rfl,⟨?_,?_⟩,fun b q=> .inr q,fun b q=> .inl (.inl (Oh b q)),?_,?_,N3.len.symm,?_,hok,?_,by simp;omega⟩
  ·exact dz h.y.un fun b hb=>Ob b (h.y.un.lt b hb).2 (fun e=>h.y.su g h.own (e▸hb)) (fun ha=>h.y.yu b hb (.inl ha))
  ·rintro b (((hb|hb)|hb)|hb)
   ·exact .inl (.inl (h.y.yz b (.inl hb)))
   ·exact .inl (.inr hb)
   ·exact .inr hb
   ·exact .inl (.inl (h.y.yz b (.inr hb)))
  ·rintro b (((hb|rfl)|rfl)|hb)
   ·exact aC (h.y.yl b (.inl hb)) hsz
   ·exact Oj
   ·omega
   ·exact aC (h.y.yl b (.inr hb)) hsz
  ·rintro(hb|hb)
   ·rcases Oq db hb Ow with q|q
    ·exact OH q
    ·exact hwZ (q▸h.y.zd)
   ·exact h.y.yd (.inr hb)
  ·rintro b hs (hb|hb)
   ·rcases Oq b hb (h.y.c.row.lt b hs).2 with q|q
    ·exact h.y.ys b hs (.inl q)
    ·exact hwZ (q▸h.y.zs b hs)
   ·exact h.y.ys b hs (.inr hb)
  ·rintro b hs (hb|hb)
   ·rcases Oq b hb (h.y.un.lt b hs).2 with q|q
    ·exact h.y.yu b hs (.inl q)
    ·exact hwZ (q▸h.y.zu b hs)
   ·exact h.y.yu b hs (.inr hb)
  ·have OI:∀b,B b->w10.heap[b]?=w1.heap[b]?:=fun b hb=>Ob b (h.y.yl b (.inr hb)) (fun e=>h.y.ys g h.own (.inr (e▸hb))) (fun ha=>h.dis b ha hb)
   exact h.sep.imp fun y f C _ _ hC hs=>hs.keep (fun _ _ _ _ hD hr=>hr.keep fun b hb _=>OI b (hC b (hD b hb))) (fun b hb _=>OI b (hC b hb))
  ·intro b q hb
   rcases Oq b q (h.y.yl b (.inr hb))with q|q
   ·exact h.dis b q hb
   ·exact hwZ (q▸h.y.yz b (.inr hb))
  ·simpa using Og
  ·intro b hb;have:gg=b:=by simpa [Value.ownBlock]using hb
   exact .inl (.inr this.symm)
  ·intro b hb;have e:gg=b:=by simpa [Value.ownBlock]using hb
   subst e;refine⟨fun q=>OA (q▸Oa (by omega)),fun q=> ?_⟩
   rcases Oe with Oe|Oe
   ·exact Ot gg Oe q
   ·have:=h.y.yl gg (.inl (Oh gg q));omega
  ·rintro b rfl q;exact OA (Oh b q)
  ·rw[bT,bT];exact N3.imp fun p v C _ _ hC hp=>⟨hp.1,hp.2.keep fun b hb _=>OR b (hC b hb)⟩
  ·intro q;have:=hln q;simp[this]
theorem JB:(Tryz.prog.info? 180).map (fun i=>(i.zero,i.size,i.bytes))=some (some (.pointer none),1,8):=by kernel_rfl
theorem lx (S:dG)(k:Nat)(T:Option MT)(w:an)(Z:ap)(db:Nat)(m:PM)(n:Int)(h:AM S (k+1) T w Z db m n)(hok:lM S T n .msgs)(hkd:∀kd,lM S T n kd->kd= .msgs)(hln:rm T n->m.get n= [])(hvl:(m.get n).length<4194304)(hZ:¬Z w.heap.size):
  Calls Tryz.prog 190 #[ag db,aa n] w (oT S (k+1) T w Z db (lw S T n) PM.none (fun m'=>m.put n (m.get n++ [mV m']))):=by
 obtain⟨i0,OX,OY,OZ,O1⟩:=info_parts JB;obtain⟨sv,uv,l,hc,hl,hR⟩:=h;obtain⟨B0,KB⟩:=di w #[ah,ah] 183;have hS:=qH _ db sv uv l n (hc.below B0) hl;have Ow:=hc.blk.lt;have OJ:=hc.row.lt;go_enter Tryz.func190,Tryz.ntmps190
 go_wp2_with fail
 generalize w.alloc (ak #[ah,ah] 183)=w0 at*;refine hS.mono ?_;rintro e w1 OM;obtain⟨g,c,pre,x,post,A,B,fp,fq,rfl,O,st,hAl,K,hg⟩:=hR w0 _ w1 B0 OM;clear OM hR hS;have hw0:=KB.lt
 have OV:=KB.kept K (by
  simp only[aL,cB,not_or]
  exact⟨by omega,fun e=>by have:=(OJ _ e).2;omega⟩)
 obtain⟨⟨x1,x3⟩,ps,D,N2,Oh,Ot,N3,hlo,_⟩:=O.ofMsgs hkd;obtain⟨c0,c1,c2,c3,cf⟩:=O.cells rfl;obtain⟨xa,xn,xc,Ou⟩:=df N2.1;have OL:ps.length<4194304:=by have:=N3.len;omega
 have Od:=N2.1;rw[Ou]at c2 Od;have OE:rm T n->ps.length=0:=fun q=>by rw[N3.len,hln q];rfl
 have HF:Hid (∀(w' w9:an) (gg cap N:Nat) (cs:aq),aj w1 w'->w'.grownBy w9 (Value.slice xa xn xc).ownBlock->w9.ownsRow 0 180 1 (.slice (some (ai gg 0)) N cap) N cs->N=ps.length+1->cs=ps.map oC++ [oC w.heap.size]->((Value.slice xa xn xc).ownBlock=some gg\/w1.heap.size<=gg)->
   oT S (k+1) T w Z db (lw S T n) PM.none (fun m'=>m.put n (m.get n++ [mV m'])) (.returned (ag w.heap.size)) (w9.setCell (ai g (pre.length*4+2)) (.slice (some (ai gg 0)) N cap))):=by
  intro w' w9 gg cap N cs hB Ov N7 hN OF Oe;rw[<-Ou]at Ov Oe
  obtain⟨h1,h2,h3⟩:=O.addMsg x1 x3 N2 Oh Ot N3 hB Ov N7 hN OF Oe OV (by
   rintro(q|q)
   ·exact hZ q
   ·rcases hg with hg|hg
    ·have:=(OJ _ hg).2;omega
    ·omega) hok OE OL
  refine⟨_,_,_,rfl,?_,h2,h3,fun b q=>by rw[q];exact h2.lt.1⟩;have s0:d9 w Z w0 Z:=(d9.refl w Z).below B0;have s1:=(s0.trans st).trans h1;exact⟨s1.os,s1.tape,s1.output,s1.size,s1.block,fun b hb=>hb.elim (s1.grow b) (fun e=> .inr (by omega))⟩
 have HC:Hid (∀(w' w9:an),aj w1 w'->w'.grownBy w9 (Value.slice xa xn xc).ownBlock->w9.heap[g]?=w1.heap[g]?):=fun w' w9 hB Ov=>by
  have Oi:=(O.y.c.row.lt g rfl).2;exact(Ov.block g (aC Oi hB.size) (fun e=>O.y.ys g rfl (.inl (N2.2 g (by rw[Ou];exact e.symm))))).trans (hB.block g Oi)
 have BB:aj w1 (w1.alloc (ak #[ag w.heap.size] 180)):=(Below.refl _ _).alloc (ay _) _;clear c0 c1 c3 x1 x3 Ou N2 hkd;go_wp2_with (at_builtin;refine wpList_append_lies _ rfl _ _ 245 rfl 0 180 i0 _ 1 8 Tryz.underlying245 OX OY OZ O1 rfl (by omega) (.slice xa xn xc) ps.length (ps.map oC) rfl (Od.alloc _) (ai w1.heap.size 0) 1 1 [_] rfl rfl (bl (t:=180) (fr:=(0,0)) (heap_alloc_new w1 _)) (by simp[Value.oneCell']) (by omega) (by unfold maxLen;omega) (by omega) (by omega) _ rfl ?_;intro gg cap w9 Oo N8 OG hlt9;obtain⟨z0,z1,z2,z3,zf⟩:=O.cells (HC.out _ w9 BB N8))
 go_ret;exact HF.out _ w9 gg cap _ _ BB N8 Oo rfl rfl (OG.imp id (fun e=>by rw[e];exact BB.size))
end
end Go.Proofs.YtfebdimolnobaaaGreatDoor
