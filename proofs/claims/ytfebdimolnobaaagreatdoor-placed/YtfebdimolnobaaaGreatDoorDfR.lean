import Derived.Test.YtfebdimolnobaaaGreatDoorDfL
set_option maxRecDepth 100000
set_option maxHeartbeats 8000000
set_option linter.all false
namespace Go.Proofs.YtfebdimolnobaaaGreatDoor
open Go.RowKit
section
attribute [local go_sem↓] Go.wp_at_zero Go.wp_at_succ
theorem d9.clip {w w':an}{Z Z':ap}(h:d9 w Z w' Z'):d9 w Z w' (fun b=>Z' b/\b<w'.heap.size):=⟨h.os,h.tape,h.output,h.size,h.block,fun b q=>h.grow b q.1⟩
theorem d9.less {a b:an}{S S' T:ap}(h:d9 a S b T)(hs:∀x,S x->S' x\/a.heap.size<=x):d9 a S' b T:=
 ⟨h.os,h.tape,h.output,h.size,fun i hi q=>h.block i hi (fun e=>(hs i e).elim q (fun e=>by omega)),fun i q=>(h.grow i q).elim (hs i) .inr⟩
theorem pr {t:am}{n:Int}{f:ek}(h:dv (nA t).fs n=some f):n=1/\f=⟨lH,t,eS,lp,1⟩:=by
 unfold nA at h;simp only[dv]at h
 split at h
 ·rename_i e
  cases h
  exact⟨e.symm,rfl⟩
 ·cases h
theorem dB.toKey {S:dG}{f:ek}{k:Nat}{w:an}{Z:ap}{db:Nat}{m:PM}(h:dB S k (some (dW f)) w Z db m):dB S k (some (nA f.key)) w Z db m:=by
 cases k with
 |zero=>exact h
 |succ k=>
  obtain⟨sv,uv,l,Y,hy,hs⟩:=h;refine⟨sv,uv,l,Y,hy,hs.imp fun x g A _ _ _ h=>⟨h.1,?_⟩⟩
  have hf:∀n f',dv (nA f.key).fs n=some f'->dv (dW f).fs n=some f':=fun n f' q=>by
   obtain⟨rfl,rfl⟩:=pr q;rfl
  have hk:∀n kd,lM S (some (dW f)) n kd->lM S (some (nA f.key)) n kd:=fun n kd q d f' e1 e2=>by
   cases e1
   exact q (dW f) f' rfl (hf n f' e2)
  rcases h.2 with⟨q,lv,h⟩|⟨q,ps,B,h⟩|⟨t,q,mb,ps,B,h⟩
  ·exact .inl ⟨hk _ _ q,lv,h⟩
  ·refine .inr (.inl ⟨hk _ _ q,ps,B,{h with lone:=(fun⟨d,f',e1,e2,e3⟩=>by cases e1;exact h.lone ⟨_,f',rfl,hf _ _ e2,e3⟩),sub:=h.sub.imp fun p v C _ _ _ q=>⟨q.1,?_⟩}⟩)
   cases hff:dv (nA f.key).fs x.1 with
   |none=>
    have:lw S (some (nA f.key)) x.1=none:=by unfold lw;simp[hff]
    rw[this];exact q.2.forget
   |some f'=>
    have:lw S (some (nA f.key)) x.1=lw S (some (dW f)) x.1:=by unfold lw;simp[hff,hf _ _ hff]
    rw[this];exact q.2
  ·exact .inr (.inr ⟨t,hk _ _ q,mb,ps,B,h⟩)
structure Fg (S:dG)(k:Nat)(t:am)(m:PM)(n:Int)(w2 w3:an)(db g c N:Nat)(uv:Value)(pre post:List eP)(A:ap)(mb:Nat)(ps:au)(C:ap):Prop where
 dc:yW w3 db (.slice (some (ai g 0)) N c) uv (pre++(n,ah,ah,.map (some mb))::post)
 k3:∀b,b<w2.heap.size->b≠g->w3.heap[b]?=w2.heap[b]?
 s3:w2.heap.size<=w3.heap.size
 os:w3.os=w2.os/\w3.tape=w2.tape/\w3.output=w2.output
 map:il w3 mb ((m.get n).map fun v=>jH t (gr v)) ps
 hm:A mb\/w2.heap.size<=mb
 mC:¬C mb
 CA:∀b,C b->A b
 key:∀v∈m.get n,Av t (gr v)
 srt:(m.get n).Pairwise (fun a b=>mh (jH t (gr a)) (jH t (gr b)))
 sub:ij (fun p v C=>v=mV v.2.2/\dB S k none w2 C p v.2.2) C ps (m.get n)
 c3:w3.cell? (ai g (pre.length*4+3))=some (.map (some mb))
theorem rx (S:dG)(k:Nat)(T:Option MT)(w:an)(Z E:ap)(db eb:Nat)(m em:PM)(n:Int)(t:am)(sg:Bool)(h:dB S (k+1+1) T w Z db m)(he:dB S (k+1) (some (nA t)) w E eb em)(hno:S.msg t=none)(hd:∀b,E b->¬Z b)(hZ:∀b,Z b->b<w.heap.size)(hE:∀b,E b->b<w.heap.size)
  (hok:lM S T n (.ents t)) (hkd:∀kd,lM S T n kd->kd= .ents t) (hsg:sg=dX kY t) (hkv:Av t (gr (mV (gH em)))) (hky:(gH em).get 1≠ []) (hl:m.fs.length<4194304) (hgl:(m.get n).length<4194304) (hel:em.fs.length<4194302):
  Calls Tryz.prog 187 #[ag db,aa n,.bool sg,ag eb] w fun e w'=>e= .returned (.tuple #[])/\∃Z',d9 w (fun b=>Z b\/E b) w' Z'/\dB S (k+1+1) T w' Z' db (m.put n (kj t (m.get n) (mV (gH em)))):=by
 have OI:mJ S ⟨lH,t,eS,lp,1⟩= .vals:=by
  unfold mJ ek.isMap ed;have e1:gy lp C9=false:=xi;simp[e1,ek.isMap,hno]
 have ok1:lM S (some (nA t)) 1 .vals:=fun d f e1 e2=>by
  cases e1
  obtain⟨_,rfl⟩:=pr e2;exact OI.symm
 have ok2:lM S (some (nA t)) 2 .vals:=fun d f e1 e2=>by
  cases e1
  have:=(pr e2).1;omega
 have O8:∀kd,lM S (some (nA t)) 1 kd->kd= .vals:=fun kd q=>by rw[q (nA t) ⟨lH,t,eS,lp,1⟩ rfl rfl,OI]
 subst hsg;have hC:=yZ S k (some (nA t)) w E eb em he ok1 ok2 hel hE
 have OJ:(gH em).fs.length<4194304:=by
  have e:(gH em).fs=(et (et em 1) 2).fs:=rfl
  have h1:∀(m:PM) (n:Int),(et m n).fs.length<=m.fs.length+1:=fun m n=>by
   unfold et
   split
   ·exact PM.put_len m n _
   ·omega
  have:=h1 em 1;have:=h1 (et em 1) 2;rw[e];omega
 obtain⟨fe,OW⟩:∃fe,gH em=fe:=⟨_,rfl⟩;rw[OW]at hC hkv hky OJ⊢;clear OW;go_enter Tryz.func187,Tryz.ntmps187
 go_wp2_with fail
 refine hC.mono ?_;rintro e w1 ⟨rfl,E1',Ok,Ol⟩;obtain⟨E1,st1,OX,OY⟩:∃E1,d9 w E w1 E1/\dB S (k+1) (some (nA t)) w1 E1 eb fe/\∀b,E1 b->b<w1.heap.size:=⟨_,Ok.clip,Ol.clip,fun b q=>q.2⟩;clear Ok Ol hC;have Ow:∀b,E1 b->¬Z b:=fun b q1 q2=>(st1.grow b q1).elim (fun q=>hd b q q2) (fun q=>by have:=hZ b q2;omega)
 have h1:dB S (k+1+1) T w1 Z db m:=h.keep fun b q hl=>st1.block b hl (fun e=>hd b e q)
 obtain⟨sv,uv,l,hc,Pn,hR⟩:=h1.slot (n:=n) hl;have hS:=qH w1 db sv uv l n hc Pn;go_wp2_with fail
 refine hS.mono ?_;rintro e w2 OZ;obtain⟨g,c,pre,x,post,A,B,fp,fq,rfl,O,st2,hAl,K,hg⟩:=hR w1 _ w2 (Below.refl _ _) OZ;clear OZ hR hS h h1;have OL:=st2.grow g (.inr rfl)
 have N8:∀b,E1 b->¬(Z b\/b=g):=fun b q=>by
  rintro(e|rfl)
  ·exact Ow b q e
  ·exact OL.elim (Ow b q) (fun e=>by have:=OY b q;omega)
 have OM:dB S (k+1) (some (nA t)) w2 E1 eb fe:=OX.keep fun b q hl=>st2.block b hl (Ow b q)
 have ON:∀b,E1 b->b<w2.heap.size:=fun b q=>aC (OY b q) st2.size
 obtain⟨c0,c1,c2,c3,cf⟩:=O.cells rfl;have Od:=(O.y.c.row.lt g rfl).2
 have OO:d9 w (fun b=>Z b\/E b) w2 (fun b=>(Z b\/b=g)\/E1 b):=
  ⟨st2.os.trans st1.os,st2.tape.trans st1.tape,st2.output.trans st1.output,aG st1.size st2.size,fun b hb q=>(st2.block b (aC hb st1.size) (fun e=>q (.inl e))).trans (st1.block b hb (fun e=>q (.inr e))),fun b q=>by
   rcases q with(q|rfl)|q
   ·exact .inl (.inl q)
   ·exact OL.imp .inl (fun e=>aG st1.size e)
   ·exact(st1.grow b q).imp .inr id⟩
 clear he OX st1 st2 hE K;obtain⟨⟨x1,x2⟩,hx⟩:=O.ofEnts hkd;have hpl:((pre++x::post).flatMap du).length=(pre++x::post).length*4:=lO _
 rcases hx with⟨x3,Om,Po⟩|⟨mb,ps,C,x3,O1,O2,O3,O4,Oo,Oq,Ot⟩
 focus
  rw[x3]at c3
  have PK:∃mb ps C,Fg S (k+1) t m n w2 ((w2.setCell (ai g (pre.length*4+3)) (.map (some w2.heap.size))).alloc (.map #[] 0)) db g c (pre++x::post).length uv pre post A mb ps C/\mb=w2.heap.size:=by
   have OP:=O.y.c.put (j:=3) (by omega) (v:= .map (some w2.heap.size)) (x':=(x.1,ah,ah,.map (some w2.heap.size))) rfl ⟨⟨_,_,_,rfl⟩,⟨_,_,_,rfl⟩,_,rfl⟩ (by simp[du,x1,x2]);rw[O.xn]at OP;have hsz:(w2.setCell (ai g (pre.length*4+3)) (.map (some w2.heap.size))).heap.size=w2.heap.size:=by simp
   have OQ:=OP.below ((Below.refl _ _).alloc (ay _) (.map #[] 0));have OR:=il.made (w2.setCell (ai g (pre.length*4+3)) (.map (some w2.heap.size)));rw[hsz]at OR;refine⟨_,[],fun _=>False,⟨OQ,fun b hb q=>(Below.heap_alloc _ _ b (by rw[hsz];exact hb)).trans (by rw[dd,if_neg (fun e=>q e.symm)]),by simp,⟨rfl,rfl,rfl⟩,by rw[Om];exact OR,.inr (ay _),fun q=>q,fun _ q=>q.elim,by rw[Om];simp,by rw[Om];exact List.Pairwise.nil,by rw[Om];trivial,?_⟩,rfl⟩;have Ox:(pre++(n,Value.slice none 0 0,Value.slice none 0 0,Value.map (some w2.heap.size))::post)[pre.length]?=some (n,ah,ah,.map (some w2.heap.size)):=by simp
   obtain⟨g',e,_,Pp⟩:=pp (c:=c) (by have:=OQ.row;simpa using this) Ox
   cases e
   exact(Pp _ rfl).2.2.2
  have Pa:=run_eql_map_nil (P:=Tryz.prog) w2 247 386 180 none Tryz.underlying247;have Pb:= @run_makeMap Tryz.prog;have Pc:∀o,(w2.alloc (.map #[] 0)).frozen? (ai g o)=false:=fun o=>by rw[World.frozen?_of_block (Below.heap_alloc _ _ g Od)];exact cf o
  have Pd:(w2.alloc (.map #[] 0)).cell? (ai g (pre.length*4+3))=some (.map none):=by rw[aZ (Below.heap_alloc _ _ g Od)];exact c3
  clear x3 Om Po;go_upto_region 4 with fail
  generalize(w2.setCell (ai g (pre.length*4+3)) (.map (some w2.heap.size))).alloc (.map #[] 0)=w3 at*;obtain⟨mb,ps,C,PK,OD⟩:=PK;clear OD c0 c1 c2 c3 cf Pb Pc Pd
 rotate_left
 focus
  rw[x3]at c3
  have PK:Fg S (k+1) t m n w2 w2 db g c (pre++x::post).length uv pre post A mb ps C:=by
   have Pe:x=(n,ah,ah,.map (some mb)):=by
    obtain⟨a1,a2,a3,a4⟩:=x;have:=O.xn;simp only at this x1 x2 x3;rw[this,x1,x2,x3]
   refine⟨?_,fun _ _ _=>rfl,ay _,⟨rfl,rfl,rfl⟩,O1,.inl O3,O4,O2,Oo,Oq,Ot,c3⟩;rw[<-Pe];exact O.y.c
  have Pa:=run_eql_map_nil (P:=Tryz.prog) w2 247 386 180 (some mb) Tryz.underlying247;clear O1 O2 O3 O4 Oo Oq Ot x3;go_upto_region 4 with fail
  obtain⟨w3,OE⟩:∃w3,w3=w2:=⟨_,rfl⟩;rw[<-OE];have OS:Fg S (k+1) t m n w2 w3 db g c (pre++x::post).length uv pre post A mb ps C:=by rw[OE];exact PK
  clear PK;have PK:=OS;clear OS c0 c1 c2 c3 cf OE
 all_goals
  have OT:dB S (k+1) (some (nA t)) w3.drew E1 eb fe:=OM.keep (fun b q hl=>PK.k3 b hl (fun e=>N8 b q (.inr e)));obtain⟨O5,O6,le,Pq,OF,O7⟩:=OT.slot (n:=1) OJ;have Pf:=qH w3.drew eb O5 O6 le 1 Pq OF;obtain⟨D,Of,hsz,Pr⟩:=PK.map;have Oh:=Of.lt;have Ov:¬E1 mb:=fun q=>PK.hm.elim (fun a=>N8 mb q (O.y.yz mb (.inl a))) (fun a=>by have:=ON mb q;omega)
  have Pg:¬E1 g:=fun q=>N8 g q (.inr rfl)
  have Oi:=aC Od PK.s3;have hE3:∀b,E1 b->b<w3.heap.size:=fun b q=>aC (ON b q) PK.s3
  have Ph:w3.drew.cell? (ai g (pre.length*4+3))=some (.map (some mb)):=PK.c3
  have Pi:Hid (∀(w0:an) (e:Ending) (w1:an),Below w3.drew.heap.size w3.drew w0->sx w0 eb O5 O6 le 1 e w1->∃ge Oa v0 gv lv cc,e= .returned (.pointer (some (ai ge (Oa.length*4))))/\w1.cell? (ai ge ((Oa:List eP).length*4+1))=some (.slice (some (ai gv 0)) (lv+1) cc)/\w1.cell? (ai gv 0)=some (.int .u64 v0.1)/\w1.cell? (ai gv 1)=some (ae v0.2)/\w1.cell? (ai gv 2)=some (ah)/\w1.cell? (ai gv 3)=some (ae ⟨#[]⟩)/\
    gr (mV fe)=nx v0/\dB S (k+1) none w1 (fun b=>E1 b\/b=ge) eb fe/\d9 w0 E1 w1 (fun b=>E1 b\/b=ge)):=by
   intro w0 e w4 hb hq;obtain⟨ge,ce,Oa,x',post',A',B',fp',fq',rfl,O',N2,hAl',K4,OU⟩:=O7 w0 e w4 hb hq;obtain⟨⟨y2,y3⟩,Ox⟩:=O'.ofVals (.inl O8);obtain⟨gv,cc,lv,Ps,y1,hAg,Pt,Ou⟩:=Ox.resolve_left (fun q=>hky q.2);obtain⟨z0,z1,z2,z3,zf⟩:=O'.cells rfl;rw[y1]at z1
   cases lv with
   |nil=>exact absurd rfl Ps
   |cons v0 lv=>
    obtain⟨gv',e,_,_,N3⟩:=dE Ou (by simp)
    cases e
    refine⟨ge,Oa,v0,gv,lv.length,cc,rfl,z1,N3 w4 rfl 0 _ rfl,N3 w4 rfl 1 _ rfl,N3 w4 rfl 2 _ rfl,N3 w4 rfl 3 _ rfl,?_,(O'.shut hky).forget,N2⟩;show((fe.get 1).headD PV.none)=nx v0;rw[Pt];rfl
  clear O7 OT OM
  have Oy:uV (jH t (gr (mV fe))):=⟨by
   unfold jH;have:=hkv.lo;simp only
   split<;>omega,by
   unfold jH;have:=hkv.hi;have:=hkv.lo;simp only
   split<;>omega,by have:=hkv.sz;unfold maxLen;show(gr (mV fe)).2.1.size<=_;omega⟩
  obtain⟨kl,OG⟩:=JE Oy;have Pj:((m.get n).map fun v=>jH t (gr v)).length<maxLen:=by rw[aV];unfold maxLen;omega
  have Oz:Hid (∀(w4 w5 w6:an) (ge:Nat),dB S (k+1) none w4 (fun b=>E1 b\/b=ge) eb fe->d9 w3.drew E1 w4 (fun b=>E1 b\/b=ge)->aj w4 w5->w6.ownsMap Tryz.prog 386 eU mb (((m.get n).map fun v=>jH t (gr v)).length+1) (D.put kl (lI (some eb)))->w5.grownBy w6 (some mb)->
    ∃Z',d9 w (fun b=>Z b\/E b) w6 Z'/\dB S (k+1+1) T w6 Z' db (m.put n (kj t (m.get n) (mV fe)))):=by
   intro w4 w5 w6 ge OH N2 b5 N7 Oc;have OU:=N2.grow ge (.inr rfl);have Ob:w3.heap.size<=w4.heap.size:=N2.size;have Oe:∀b,b=ge->E1 b\/w3.heap.size<=b:=fun b e=>by rw[e];exact OU
   have OV:mb≠ge:=fun e=>(Oe mb e).elim Ov (fun q=>by omega)
   have OA:=OH.clip
   have Oj:∀b,b<w3.heap.size->¬(E1 b\/b=ge)->b≠mb->w6.heap[b]?=w3.heap[b]?:=fun b hb q1 q2=>
    ((Oc.block b (aC (aC hb Ob) b5.size) (fun e=>q2 (by simpa using e))).trans (b5.block b (aC hb Ob))).trans (N2.block b hb (fun q=>q1 (.inl q)))
   have Pk:dB S (k+1) none w6 (fun b=>(E1 b\/b=ge)/\b<w4.heap.size) eb fe:=OA.keep fun b q hl=>(Oc.block b (aC hl b5.size) (fun e=>by
    have e2:b=mb:=by simpa using e
    subst e2
    exact q.1.elim Ov OV)).trans (b5.block b hl)
   have OB:∀b,((E1 b\/b=ge)/\b<w4.heap.size)->¬(Z b\/b=g):=by
    rintro b ⟨q,_⟩ hz
    rcases q with q|q
    ·exact N8 b q hz
    ·rcases Oe b q with q|q
     ·exact N8 b q hz
     ·have:=OO.size;have:=PK.s3
      rcases hz with hz|rfl
      ·have:=hZ b hz;omega
      ·omega
   have OC:¬((E1 mb\/mb=ge)/\mb<w4.heap.size):=fun q=>q.1.elim Ov OV
   obtain⟨f1,f2⟩:=O.ents (E:=fun b=>(E1 b\/b=ge)/\b<w4.heap.size) (w3:=w3) (w6:=w6) PK.dc PK.k3 PK.s3 (fun b hb q1 q2=>Oj b hb (fun q=>q1 ⟨q,aC hb Ob⟩) q2) (aG Ob (aG b5.size Oc.size)) ⟨Oc.os.trans (b5.os.trans (N2.os.trans PK.os.1)),Oc.tape.trans (b5.tape.trans (N2.tape.trans PK.os.2.1)),Oc.output.trans (b5.output.trans (N2.output.trans PK.os.2.2))⟩
    ⟨w3,Of⟩ hsz Pr N7 OG PK.hm PK.mC PK.CA OB OC (fun b q=>aC q.2 (aG b5.size Oc.size)) N7.lt PK.key hkv PK.srt PK.sub Pk hok hgl
   refine⟨_,OO.trans (f1.less ?_),f2⟩;rintro b (q|⟨q|q,_⟩)
   ·exact .inl (.inl q)
   ·exact .inl (.inr q)
   ·exact(Oe b q).imp .inr (fun q=>aG PK.s3 q)
  have Pm:=fun v0:LV=>H8 (v:=v0) (sg:=dX kY t)
  go_region_with
   (first
    |(go_at_call 266;refine Pf.mono ?_;rintro e w4 Pv;obtain⟨ge,Oa,v0,gv,lv,cc,rfl,z1,d0,d1,d2,d3,Og,OH,N2⟩:=Pi.out w3.drew e w4 (Below.refl _ _) Pv;have c34:w4.cell? (ai g (pre.length*4+3))=some (.map (some mb)):=(aZ (N2.block g Oi Pg)).trans Ph)
    |(go_at_call 267;refine(Pm v0 w4 (by have:=hkv.lo;rw[Og]at this;exact this) (by have:=hkv.hi;rw[Og]at this;exact this)).mono ?_;rintro e w5 ⟨rfl,b5⟩;obtain⟨w6,hrun6,N7,Oc⟩:=((iQ Of ((b5.block mb (aC Oh N2.size)).trans (N2.block mb Oh Ov))):w5.ownsMap Tryz.prog 386 eU mb _ D).update AO Tryz.underlying247 Pj (key:=kV (GV (dX kY t) v0)) (val:=ag eb) (by rw[Og]at OG;exact OG) (jk (some eb));have c35:w5.cell? (ai g (pre.length*4+3))=some (.map (some mb)):=(aZ (b5.block g (aC Oi N2.size))).trans c34))
  all_goals
   go_end0;exact⟨rfl,Oz.out w4 w5 w6 ge OH N2 b5 N7 Oc⟩
end
structure dF (w:an)(Z:ap)(rb:Nat)(w':an)(Z':ap):Prop where
 os:w'.os=w.os
 tape:w'.tape=w.tape
 output:w'.output=w.output
 size:w.heap.size<=w'.heap.size
 block:∀b,b<w.heap.size->¬Z b->b≠rb->w'.heap[b]?=w.heap[b]?
 grow:∀b,Z' b->Z b\/w.heap.size<=b
section
variable {a b c:an} {Z Y X:ap} {rb n:Nat}
theorem dF.trans (h:dF a Z rb b Y)(k:dF b Y rb c X):dF a Z rb c X:=
 ⟨k.os.trans h.os,k.tape.trans h.tape,k.output.trans h.output,aG h.size k.size,fun i hi q1 q2=>(k.block i (aC hi h.size) (fun e=>(h.grow i e).elim q1 (fun e=>by omega)) q2).trans (h.block i hi q1 q2),
  fun i q=>(k.grow i q).elim (h.grow i) (fun e=> .inr (aG h.size e))⟩
theorem dF.of_step (h:d9 a Z b Y):dF a Z rb b Y:=⟨h.os,h.tape,h.output,h.size,fun i hi q _=>h.block i hi q,h.grow⟩
theorem dF.of_kept (h:dl [rb] a b):dF a Z rb b Z:=⟨h.os,h.tape,h.output,h.size,fun i hi _ q=>h.block i hi (by simpa using q),fun _ q=> .inl q⟩
theorem dF.of_below (h:Below a.heap.size a b):dF a Z rb b Z:= .of_kept (.of_below h)
theorem dF.refl (a:an)(Z:ap)(rb:Nat):dF a Z rb a Z:= .of_below (Below.refl _ _)
theorem dF.not (h:dF a Z rb b Y)(hb:n<a.heap.size)(hn:¬Z n):¬Y n:=fun q=>(h.grow n q).elim hn (fun e=>by omega)
theorem dF.below {B:Nat}(h:dF a Z rb b Y)(hB:B<=a.heap.size)(hZ:∀x,Z x->B<=x)(hr:B<=rb):Below B a b:=
 ⟨h.os,h.tape,h.output,h.size,fun i hi=>h.block i (by omega) (fun q=>by have:=hZ i q;omega) (by omega)⟩
theorem dF.clip (h:dF a Z rb b Y):dF a Z rb b (fun x=>Y x/\x<b.heap.size):=⟨h.os,h.tape,h.output,h.size,h.block,fun x q=>h.grow x q.1⟩
end
structure FG (S:dG)(mp:am->Option Nat)(d:MT)(f:ek)(g:GF):Prop where
 eq:g.f=f
 form:g.form=0\/g.form=1\/g.form=2\/g.form=3\/g.form=4
 map:f.isMap=decide (g.form=4)
 rep:f.isRep=decide (g.form=2)
 sin:gy f.how eS=decide (g.form=0)
 riv:g.riv=uM d f
 lone:g.form≠3->g.riv= []
 rlen:g.riv.length<=4194304
 base:gQ mp f.ty=S.base f.ty
 nest:S.base f.ty=16<->(S.msg f.ty).isSome=true
 key:g.form=4->gQ mp f.key=S.base f.key/\S.base f.key<=14/\S.msg f.key=none/\iT (S.base f.key)=dX kY f.key
structure ja (S:dG)(mp:am->Option Nat)(d:MT)(gs:List GF):Prop where
 srt:gs.Pairwise (fun x y=>x.f.num<=y.f.num)
 len:gs.length<=2001
 no:∀n,dv d.fs n=none->fV gs n=none
 yes:∀n f,dv d.fs n=some f->∃g,fV gs n=some g/\FG S mp d f g
structure p8 (w:an)(B:Nat)(S:dG)(mp:am->Option Nat):Prop where
 u:UOK w
 u1:2<B
 u2:3<B
 le:B<=w.heap.size
 md:∀t d,S.msg t=some d->∃mb gs,uK mp t=some mb/\gD w (fun b=>b<B) mp mb d.name gs/\ja S mp d gs
theorem p8.on {w w':an}{B:Nat}{S:dG}{mp:am->Option Nat}(h:p8 w B S mp)(hb:Below B w w'):p8 w' B S mp:=
 ⟨h.u.keep (hb.block _ h.u1) (hb.block _ h.u2),h.u1,h.u2,aG h.le hb.size,fun t d q=>by
  obtain⟨mb,gs,h1,h2,h3⟩:=h.md t d q
  exact⟨mb,gs,h1,h2.keep (fun b q _=>hb.block b q),h3⟩⟩
structure za (S:dG):Prop where
 good:vD S
 name:∀d∈S.ms,gy d.name eS=false
def fK (S:dG)(k:Nat)(d:MT)(w:an)(Z:ap)(rb db:Nat)(s:am)(deep:Nat)(R:Fx (PM×Nat))(en:Ending)(w':an):Prop:=
 match R with
 | .error x=>en=da x.1 x.2/\∃Z',dF w Z rb w' Z'
 | .ok x=>en= .returned (.tuple #[])/\∃Z',dF w Z rb w' Z'/\dB S (k+1) (some d) w' Z' db x.1/\dn w' rb s x.2 deep
theorem fK.pre {S:dG}{k:Nat}{d:MT}{w w1:an}{Z Z1:ap}{rb db:Nat}{s:am}{deep:Nat}{R:Fx (PM×Nat)}{en:Ending}{w':an}(h:dF w Z rb w1 Z1)(k1:fK S k d w1 Z1 rb db s deep R en w'):fK S k d w Z rb db s deep R en w':=by
 unfold fK at*
 split at k1
 ·exact⟨k1.1,k1.2.imp fun _ q=>h.trans q⟩
 ·obtain⟨q1,Z',q2,q3⟩:=k1;exact⟨q1,Z',h.trans q2,q3⟩
def lQ (e:Nat):Fx PM->Fx (PM×Nat)
 | .error x=> .error x
 | .ok m=> .ok (m,e)
def ip (S:dG)(b:am)(F:Nat)(d:MT)(f:ek)(m:PM)(deep:Nat):Fx rK->Fx (PM×Nat)
 | .error x=> .error x
 | .ok r=>lQ r.e (uS S b F d f m r deep)
theorem oV (f:ek):∀(l:List ek) (m:PM),jx f l m=m.without ((l.filter fun o=>gy o.how f.how&&jw o.how&&decide (o.num≠f.num)).map (·.num))
 | [],m=>by
  cases m
  simp only[jx,PM.without,PM.fs,PM.unk,List.filter_nil,cT]
  congr 1;exact(List.filter_eq_self.2 (by simp)).symm
 |o::l,m=>by
  rw[jx,oV f l];rw[bM]
  split
  ·rw[br,<-ro];unfold PM.without;simp only[PM.fs,PM.unk,List.filter_filter]
   congr 1;refine List.filter_congr fun x _=> ?_
   rw[<-Bool.decide_and]
   congr 1;simp[aL,not_or,and_comm]
  ·rfl
theorem tA (d:MT)(f:ek)(m:PM):jx f d.fs m=m.without (uM d f):=oV f d.fs m
theorem gJ (m:PM):m.without []=m:=by
 cases m
 simp only[PM.without,PM.fs,PM.unk]
 congr 1;exact List.filter_eq_self.2 (by simp)
theorem nB (n:Int)(ns:List Int)(h:n∉ns):∀l:List PF,fU (l.filter fun f=>decide (f.1∉ns)) n=fU l n
 | []=>rfl
 |x::l=>by
  rw[bM,fU]
  by_cases q:x.1∈ns
  ·have:decide (x.1∉ns)=false:=by simp[q]
   rw[this,if_neg (by simp),if_neg (fun e:x.1=n=>h (by rw[<-e];exact q)),nB n ns h l]
  ·have:decide (x.1∉ns)=true:=by simp[q]
   rw[this,if_pos rfl,fU,nB n ns h l]
theorem ry {m:PM}{n:Int}{ns:List Int}(h:n∉ns):(m.without ns).get n=m.get n:=nB n ns h m.fs
theorem Ch (d:MT)(f:ek):f.num∉uM d f:=fun h=>by
 unfold uM at h;obtain⟨o,ho,e⟩:=List.mem_map.1 h;have:=(List.mem_filter.1 ho).2;simp only[aT,decide_eq_true_eq]at this;exact this.2 e
theorem WM.without {S:dG}{a:Nat}{d:MT}{m:PM}(h:WM S a d m)(f:ek):WM S a d (m.without (uM d f)):=by
 rw[<-tA];exact h.dropF f d.fs
theorem AR {ws:List W}{bs:List dh}{j:Nat}(h:oH ws= .ok (bs,j)):∀b∈bs,cZ b.name.1=1:=by
 refine lG (Q:=fun b=>cZ b.name.1=1) (fun i b j hb=> ?_) _ _ _ _ h;unfold jg at hb
 split at hb
 ·unfold jP at hb;obtain⟨_,i1,_,hb⟩:=dg hb;obtain⟨n,i2,hn,hb⟩:=dg hb;obtain⟨_,i3,_,hb⟩:=dg hb;obtain⟨l,i4,_,hb⟩:=dg hb;obtain⟨_,i5,_,hb⟩:=dg hb;simp at hb;obtain⟨rfl,_⟩:=hb;exact(gd _ _ _ _ _ hn).2.2
 ·unfold fH at hb;obtain⟨_,i1,_,hb⟩:=dg hb;obtain⟨n,i2,hn,hb⟩:=dg hb;obtain⟨_,i3,_,hb⟩:=dg hb;obtain⟨l,i4,_,hb⟩:=dg hb;obtain⟨_,i5,_,hb⟩:=dg hb;simp at hb;obtain⟨rfl,_⟩:=hb;exact(gd _ _ _ _ _ hn).2.2
structure ix (bs:List dh):Prop where
 ok:yI bs
 nm:∀b∈bs,cZ b.name.1=1
 ones:∀b∈bs,b.enum=false->(fJ b.parts).Pairwise (fun x y=>x.toList≠y.toList)
theorem tB {t:am}{bs:List dh}(h:gi t= .ok bs):ix bs:=by
 refine⟨o9 h,?_,fun b hb he=>AD h hb he⟩;unfold gi at h
 split at h
 ·cases h
 ·split at h
  ·cases h
  ·rename_i h3
   split at h
   ·cases h
   ·cases h
    exact AR h3
theorem pt {s t:am}(h:s.toList=t.toList):cZ s=cZ t:=by rw[gX h]
theorem tC {bs:List dh}(h:ix bs){t:am}(h3:cZ t=3):(dt bs).msg t=none:=by
 refine ng fun b hb e=> ?_
 have:=h.nm b (List.mem_filter.1 hb).1;rw[pt e,h3]at this
 cases this
theorem Ci {t:am}(h3:cZ t=3):o8 t<=14:=by
 unfold o8;have hm:t.toList∈kW:=by have:=lJ h3;simpa [g9]using this
 generalize t.toList=l at hm
 revert l;decide+kernel
theorem vK {bs:List dh}(h:ix bs){z:List (am×Nat)}(hz:z.map (·.1)=dq bs){t:am}(ht:cZ t=3\/(cZ t=1/\dX (ez bs) t=true)):(dt bs).base t=16<->((dt bs).msg t).isSome=true:=by
 rw[si h.ok hz ht];unfold gQ
 by_cases h3:cZ t=3
 ·rw[if_pos h3,tC h h3];have:=Ci h3;simp;omega
 ·rw[if_neg h3]
  cases hm:dX (dq bs) t with
  |true=>
   obtain⟨_,_,_,_,h2,_,h4⟩:=nh h.ok hz hm;rw[h2,h4];simp
  |false=>
   obtain⟨h1,h2⟩:=sS hz hm;rw[h1,h2];simp
theorem Fh {t:am}(h3:cZ t=3):iT (o8 t)=dX kY t:=by
 have hm:t.toList∈kW:=by have:=lJ h3;simpa [g9]using this
 have e:dX kY t=dX kY ⟨t.toList.toArray⟩:=by
  unfold dX;rw[ByteArray.toList_eq,ByteArray.toList_eq]
 unfold o8;rw[e];generalize t.toList=l at hm
 revert l;decide+kernel
theorem xy {s t:am}(ht:eB t 0≠46):gy (mX s) t=false:=by
 cases h:gy (mX s) t with
 |false=>rfl
 |true=>
  have h1:=vw s;rw[gX (fX.1 h)]at h1;unfold jw at h1;simp at h1;exact absurd h1 ht
theorem vL {p:er}(hp:qx p){f:dM}(hf:f∈p.fields):
  (f.form=0\/f.form=1\/f.form=2\/f.form=3\/f.form=4)/\(gU p.oneof f).isMap=decide (f.form=4)/\(gU p.oneof f).isRep=decide (f.form=2)/\gy (gU p.oneof f).how eS=decide (f.form=0)/\(f.form≠3->mY p f= []):=by
 rcases hp.2 with⟨o,h1,_,h3⟩|⟨h1,g,h2,h3⟩
 ·have e:=h3 f hf;have hh:(gU p.oneof f).how=mX o.1:=by show uJ p.oneof f.form=_;rw[h1];rfl
  unfold ek.isMap ek.isRep;rw[hh,e,xy (by decide+kernel),xy (by decide+kernel),xy (by decide+kernel)];simp
 ·rw[h2]at hf;obtain rfl:=bU.1 hf;have hh:(gU p.oneof f).how=uJ none f.form:=by show uJ p.oneof f.form=_;rw[h1]
  have hr:mY p f= []:=by unfold mY;rw[h2];simp
  unfold ek.isMap ek.isRep;rw[hh,hr]
  rcases h3 with e|e|e|e<;>rw[e]
  ·exact⟨.inl rfl,by decide+kernel,by decide+kernel,by decide+kernel,fun _=>rfl⟩
  ·exact⟨.inr (.inl rfl),by decide+kernel,by decide+kernel,by decide+kernel,fun _=>rfl⟩
  ·exact⟨.inr (.inr (.inl rfl)),by decide+kernel,by decide+kernel,by decide+kernel,fun _=>rfl⟩
  ·exact⟨.inr (.inr (.inr (.inr rfl))),by decide+kernel,by decide+kernel,by decide+kernel,fun _=>rfl⟩
theorem tD {b:dh}:∀{ps:List er},∀p∈ps,p.fields.length<=ji ps
 | [],p,h=>by cases h
 |q::ps,p,h=>by
  rw[ji]
  rcases aL.1 h with rfl|h
  ·omega
  ·have:=tD (b:=b) p h;omega
theorem zb {bs:List dh}(h:ix bs){b:dh}(hb:b∈bs)(he:b.enum=false){p:er}(hp:p∈b.parts){f:dM}(hf:f∈p.fields)(h4:f.form=4):cZ (iz f.key)=3/\gL 3 (iz f.key)=true:=by
 have c:=(h.ok.chk b hb he).flds p hp f hf;have s:=(h.ok.shape b hb p hp).1 f hf;have k3:=c.key h4;have kg:=c.kg h4;obtain⟨x,hx⟩:=Option.isSome_iff_exists.1 (s.key.1 h4);rw[k3]at kg;rw[hx]at k3 kg⊢;exact⟨k3,kg⟩
theorem LH {bs:List dh}(h:ix bs){b:dh}(hb:b∈bs)(he:b.enum=false){p:er}(hp:p∈b.parts){f:dM}(hf:f∈p.fields):cZ f.type.1=3\/(cZ f.type.1=1/\dX (ez bs) f.type.1=true):=by
 have c:=(h.ok.chk b hb he).flds p hp f hf;have s:=(h.ok.shape b hb p hp).1 f hf;exact s.kind.imp id (fun q=>⟨q,c.ty q⟩)
theorem Fi {bs:List dh}(h:ix bs){z:List (am×Nat)}(hz:z.map (·.1)=dq bs){b:dh}(hb:b∈bs)(he:b.enum=false){p:er}(hp:p∈b.parts){f:dM}(hf:f∈p.fields):
  FG (dt bs) (jc z) (mL b) (gU p.oneof f) (pK p f):=by
 obtain⟨f1,f2,f3,f4,f5⟩:=vL (h.ok.shape b hb p hp) hf;have ht:=LH h hb he hp hf;refine⟨rfl,f1,f2,f3,f4,(Jx (h.ones b hb he) (h.ok.shape b hb) hp hf).symm,f5,?_,(si h.ok hz ht).symm,vK h hz ht,fun h4=> ?_⟩
 ·show(mY p f).length<=_;unfold mY;rw[aV];have h1:=bI (fun o=>decide (gV o≠gV f)) p.fields;have h2:=tD (b:=b) p hp;have h3:=(h.ok.ok b hb).parts;omega
 ·obtain⟨k3,kg⟩:=zb h hb he hp hf h4;have N3:=si h.ok hz (t:=iz f.key) (.inl k3);have hx:gQ (jc z) (iz f.key)=o8 (iz f.key):=by unfold gQ;rw[if_pos k3]
  show gQ (jc z) (iz f.key)=(dt bs).base (iz f.key)/\(dt bs).base (iz f.key)<=14/\(dt bs).msg (iz f.key)=none/\iT ((dt bs).base (iz f.key))=dX kY (iz f.key);rw[N3,hx];exact⟨rfl,Ci k3,tC h k3,Fh k3⟩
theorem Dl {gs:List GF}(hd:(gs.map fun g=>g.f.num).Nodup){g:GF}(hg:g∈gs){n:Int}(hn:g.f.num=n):fV gs n=some g:=by
 induction gs with
 |nil=>cases hg
 |cons x l ih=>
  rw[br,List.nodup_cons]at hd;rw[fV]
  rcases aL.1 hg with rfl|hg
  ·rw[if_pos hn]
  ·have:x.f.num≠n:=fun e=>hd.1 (by rw[e,<-hn];exact List.mem_map.2 ⟨g,hg,rfl⟩)
   rw[if_neg this];exact ih hd.2 hg
theorem Fj {gs:List GF}{n:Int}(h:∀g∈gs,g.f.num≠n):fV gs n=none:=by
 induction gs with
 |nil=>rfl
 |cons x l ih=>
  rw[fV,if_neg (h x bg)];exact ih fun g hg=>h g (bF _ hg)
theorem tE {n:Int}:∀{fs:List ek} {f:ek},dv fs n=some f->f∈fs/\f.num=n
 | [],f,h=>by cases h
 |x::l,f,h=>by
  rw[dv]at h
  split at h
  ·rename_i e;cases h;exact⟨bg,e⟩
  ·obtain⟨h1,h2⟩:=tE h;exact⟨bF _ h1,h2⟩
theorem vM {n:Int}:∀{fs:List ek},dv fs n=none->∀f∈fs,f.num≠n
 | [],_,f,hf=>by cases hf
 |x::l,h,f,hf=>by
  rw[dv]at h
  split at h
  ·cases h
  ·rename_i e
   rcases aL.1 hf with rfl|hf
   ·exact e
   ·exact vM h f hf
theorem Cj {b:dh}{g:GF}:g∈rj b<->∃p∈b.parts,∃f∈p.fields,g=pK p f:=by
 unfold rj;simp only[List.mem_flatMap,List.mem_map];exact⟨fun⟨p,hp,f,hf,e⟩=>⟨p,hp,f,hf,e.symm⟩,fun⟨p,hp,f,hf,e⟩=>⟨p,hp,f,hf,e.symm⟩⟩
theorem AS {b:dh}{f:ek}:f∈(mL b).fs<->∃p∈b.parts,∃g∈p.fields,f=gU p.oneof g:=by
 show f∈(b.parts.flatMap fun p=>p.fields.map (gU p.oneof))<->_;simp only[List.mem_flatMap,List.mem_map];exact⟨fun⟨p,hp,f,hf,e⟩=>⟨p,hp,f,hf,e.symm⟩,fun⟨p,hp,f,hf,e⟩=>⟨p,hp,f,hf,e.symm⟩⟩
theorem Fk (b:dh):(rj b).map (fun g=>g.f.num)=(b.parts.flatMap (fun p=>p.fields.map (fun f=>fy f.num.1))).map (fun n:Nat=>(n:Int)):=by
 unfold rj;rw[List.map_flatMap,List.map_flatMap]
 congr 1
 funext p;rw[bz,bz];rfl
theorem LI {bs:List dh}(h:ix bs){z:List (am×Nat)}(hz:z.map (·.1)=dq bs){b:dh}(hb:b∈bs)(he:b.enum=false){gs:List GF}(hg:Mk b gs):ja (dt bs) (jc z) (mL b) gs:=by
 have N7:(gs.map fun g=>g.f.num).Nodup:=by
  rw[(hg.1.map _).nodup_iff,Fk];exact List.Pairwise.map _ (fun a b N8 e=>N8 (by exact_mod_cast e)) (h.ok.chk b hb he).nums
 refine⟨hg.2,?_,fun n hn=>Fj fun g Oa e=> ?_,fun n f hf=> ?_⟩
 ·rw[hg.1.length_eq];have h1:=pN b.parts;have h2:=(h.ok.ok b hb).parts;have h3:(rj b).length<=ji b.parts:=h1;omega
 ·obtain⟨p,hp,f,hf,rfl⟩:=Cj.1 (hg.1.mem_iff.1 Oa);exact vM hn (gU p.oneof f) (AS.2 ⟨p,hp,f,hf,rfl⟩) e
 ·obtain⟨hm,hn⟩:=tE hf;obtain⟨p,hp,f0,N2,rfl⟩:=AS.1 hm;exact⟨pK p f0,Dl N7 (hg.1.mem_iff.2 (Cj.2 ⟨p,hp,f0,N2,rfl⟩)) hn,Fi h hz hb he hp N2⟩
section
attribute [local go_sem↓] Go.wp_at_zero Go.wp_at_succ
theorem Ck (w:an)(P:ap)(mp:am->Option Nat)(g:GF)(fb:Nat)(h:dP w P mp g fb)(hf:g.form=4):
  Calls Tryz.prog 188 #[ag fb] w fun e w'=>∃pv,e= .returned (.agg #[aa (gQ mp g.f.key),pv])/\aj w w':=by
 obtain⟨pv,rv,h1,_,_,h4⟩:=h.blk;rw[if_pos hf]at h4;obtain⟨eb,rfl,hE⟩:=h4;obtain⟨B0,K0⟩:=di w #[aa 0,.pointer none] 216;have N8:=h1.alloc (ak #[aa 0,.pointer none] 216);obtain⟨k1,k2⟩:=N8.rules;have HF:=od (w.alloc (ak #[aa 0,.pointer none] 216)) P mp eb eS _ 1 (hE.msg.keep (fun b _ hl=>B0.block b hl)) (qD g.f.key g.f.ty) (by simp);rw[yN]at HF;unfold ft at k1;go_enter Tryz.func188,Tryz.ntmps188
 go_wp2_with fail
 refine HF.mono ?_;rintro e w2 ⟨⟨vb,rfl,hV⟩,rfl⟩;obtain⟨Ob,rv2,h5,_,_,h6⟩:=hV.blk;have N7:dC mp (jj lH g.f.key 1)=gQ mp g.f.key:=by unfold dC;rw[if_neg (by simp[jj])];rfl
 rw[N7]at h5;rw[if_neg (by simp[jj])]at h6
 obtain⟨q,hq⟩:∃q,Ob= .pointer q:=by
  subst h6;unfold ft
  split<;>exact⟨_,rfl⟩
 subst hq;obtain⟨k3,k4⟩:=h5.rules;obtain⟨k5,k6⟩:=K0.rules;clear k1 k2 h6;go_wp2;refine bodyPost_ret (dw Tryz.results188 _ _ rfl (de.new w _ _) Tryz.underlying216 (by kernel_rfl)) rfl ?_;exact⟨_,rfl,(Below.refl _ _).alloc (ay _) _⟩
theorem ni.part {α:Type}{w:an}{rb:Nat}{s:am}{deep:Int}{r:Fx (α×Nat)}{V:α->Value}{e:Ending}{w':an}(h:ni w rb s deep r V e w'):
  (∃x,r= .error x/\e=da x.1 x.2/\dl [rb] w w')\/∃x,r= .ok x/\e= .returned (V x.1)/\dl [rb] w w'/\dn w' rb s x.2 deep:=by
 obtain⟨h1,h2⟩:=h
 cases r with
 |error x=>exact .inl ⟨x,rfl,h2,h1⟩
 |ok x=>exact .inr ⟨x,rfl,h2.1,h1,h2.2⟩
theorem nC {s:am}{a z:Nat}{num kind:Int}{r:rK}(h:eh s a num kind z= .ok r):z<r.e/\r.fr<=r.e/\r.e<=s.size/\0<=r.n/\r.n<18446744073709551616/\z<=r.fr:=by
 have N2:∀(k:Nat) (y:Int×Nat),k<=8->1<=k->fh s z k= .ok y->z<y.2/\y.2<=s.size/\0<=y.1/\y.1<18446744073709551616:=fun k y h1 h2 q=>by
  unfold fh at q
  split at q
  ·cases q
   have:=qF (s:=s.extract z (z+k)) (by rw[aR];omega);exact⟨by simp;omega,by simpa,this.1,this.2⟩
  ·cases q
 unfold eh at h
 split at h
 ·cases hv:fA s z s.size with
  |error x=>rw[hv]at h;cases h
  |ok x=>
   rw[hv]at h
   cases h
   obtain⟨v0,v1,v2,v3⟩:=fW (m:=x.1) (z:=x.2) hv;exact⟨v2,by simp;omega,v3,v0,v1,ay _⟩
 ·split at h
  ·cases hv:fh s z 8 with
   |error x=>rw[hv]at h;cases h
   |ok x=>
    rw[hv]at h
    cases h
    obtain⟨v0,v1,v2,v3⟩:=N2 8 x (by omega) (by omega) hv;exact⟨v0,by simp;omega,v1,v2,v3,ay _⟩
  ·split at h
   ·cases hv:fh s z 4 with
    |error x=>rw[hv]at h;cases h
    |ok x=>
     rw[hv]at h
     cases h
     obtain⟨v0,v1,v2,v3⟩:=N2 4 x (by omega) (by omega) hv;exact⟨v0,by simp;omega,v1,v2,v3,ay _⟩
   ·cases hv:dS s z with
    |error x=>rw[hv]at h;cases h
    |ok x=>
     rw[hv]at h
     cases h
     obtain⟨v0,v1,v2⟩:=gq (z:=x.1) (e:=x.2) hv;exact⟨by simp;omega,v1,v2,by simp,by simp,by simp;omega⟩
theorem kE {s:am}{a z k:Nat}{num:Int}{r:rK}(hk:k=0\/k=1\/k=2\/k=5)(h:eh s a num k z= .ok r):r.kind=k:=by
 rcases hk with rfl|rfl|rfl|rfl
 ·rw[ES]at h;cases hv:fA s z s.size<;>rw[hv]at h<;>cases h;rfl
 ·rw[ET]at h;cases hv:fh s z 8<;>rw[hv]at h<;>cases h;rfl
 ·rw[th]at h;cases hv:dS s z<;>rw[hv]at h<;>cases h;rfl
 ·rw[EU]at h;cases hv:fh s z 4<;>rw[hv]at h<;>cases h;rfl
theorem zg (k:Nat):dL k=0\/dL k=1\/dL k=2\/dL k=5:=by
 unfold dL
 split
 ·exact .inl rfl
 ·split
  ·exact .inr (.inl rfl)
  ·split
   ·exact .inr (.inr (.inr rfl))
   ·split
    ·exact .inl rfl
    ·exact .inr (.inr (.inl rfl))
theorem zh {s:am}{z k:Nat}{x:LV×Nat}(hk:k<=15)(h:eO s z k= .ok x):z<x.2/\x.2<=s.size/\0<=x.1.1/\x.1.1<18446744073709551616:=by
 rw[ti s 0 0 z k hk]at h
 cases hr:eh s 0 0 (dL k) z with
 |error y=>rw[hr]at h;cases h
 |ok r=>
  rw[hr]at h;obtain⟨h1,_,h3,h4,h5,_⟩:=nC hr;simp only[yT]at h
  cases hv:uO s k r with
  |error y=>rw[hv]at h;cases h
  |ok v=>
   rw[hv]at h
   cases h
   refine⟨h1,h3,?_⟩;unfold uO at hv
   split at hv
   ·split at hv
    ·cases hv;simp
    ·cases hv
   ·split at hv
    ·cases hv;simp
    ·cases hv;exact iI h4 h5
theorem Cl {S:dG}{mp:am->Option Nat}{b:am}{F deep a z e:Nat}{num:Int}{d:MT}{f:ek}{g:GF}{m:PM}(fg:FG S mp d f g)(hf:g.form=2)(hb:S.base f.ty<=15)(he:e<=b.size):
  ip S b F d f m deep (eh (b.extract 0 e) a num (dL (S.base f.ty)) z)=match eO (b.extract 0 e) z (S.base f.ty)with| .error x=> .error x| .ok x=> .ok (m.put f.num (m.get f.num++ [nx x.1]),x.2):=by
 rw[ti (b.extract 0 e) a num z _ hb]
 cases hr:eh (b.extract 0 e) a num (dL (S.base f.ty)) z with
 |error x=>rfl
 |ok r=>
  have hk:=kE (zg _) hr;obtain⟨_,_,h3,_⟩:=nC hr;rw[eG he]at h3;have hm:f.isMap=false:=by rw[fg.map,hf];rfl
  have Oa:f.isRep=true:=by rw[fg.rep,hf];rfl
  have hs:ed S f=none:=by
   unfold ed;rw[hm]
   cases hq:S.msg f.ty with
   |none=>rfl
   |some x=>have:=fg.nest.2 (by rw[hq];rfl);omega
  simp only[ip,uS,yT];rw[if_pos (by unfold eZ;rw[hm];exact hk)];unfold rP rO;rw[hs];simp only;rw[yV rfl hb hk h3 he]
  cases uO (b.extract 0 e) (S.base f.ty) r with
  |error x=>rfl
  |ok v=>
   simp only[Cd,lQ,iw,hm,Oa,if_true,aK,if_false];rfl
theorem zi {S:dG}{mp:am->Option Nat}{b:am}{F deep a z e:Nat}{num:Int}{d:MT}{f:ek}{g:GF}{m:PM}(fg:FG S mp d f g)(hf:g.form=2)(hw:dL (S.base f.ty)≠2):
  ip S b F d f m deep (eh (b.extract 0 e) a num 2 z)=match dS (b.extract 0 e) z with| .error x=> .error x| .ok y=>(match e7 b (S.base f.ty) y.2 (y.2-y.1) (m.get f.num) y.1 with| .error x=> .error x| .ok l=> .ok (m.put f.num l,y.2)):=by
 have e2:eh (b.extract 0 e) a num 2 z=_:=th (b.extract 0 e) a num z;rw[e2];have hm:f.isMap=false:=by rw[fg.map,hf];rfl
 cases dS (b.extract 0 e) z with
 |error x=>rfl
 |ok y=>
  simp only[ip,uS];rw[if_neg (by unfold eZ;rw[hm];exact fun q=>hw q.symm)];unfold mH
  cases e7 b (S.base f.ty) y.2 (y.2-y.1) (m.get f.num) y.1<;>rfl
def GW (m:PM):Prop:=m.fs.Pairwise (fun a b=>a.1<b.1)
theorem vN {n:Int}:∀{fs:List PF},fs.Pairwise (fun a b=>a.1<b.1)->∃fp fq,(∀x∈fp,x.1<n)/\(∀x∈fq,n<x.1)/\(fs=fp++fq\/∃old,fs=fp++(n,old)::fq)
 | [],_=>⟨[],[],by simp,by simp,.inl rfl⟩
 |x::l,h=>by
  rw[bB]at h
  by_cases h1:x.1<n
  ·obtain⟨fp,fq,q1,q2,q3⟩:=vN (n:=n) h.2;refine⟨x::fp,fq,fun y hy=>(aL.1 hy).elim (fun e=>by rw[e];exact h1) (q1 y),q2,q3.imp (fun e=>by rw[e];rfl) (fun⟨o,e⟩=>⟨o,by rw[e];rfl⟩)⟩
  ·by_cases h2:x.1=n
   ·exact⟨[],l,by simp,fun y hy=>by have:=h.1 y hy;omega,.inr ⟨x.2,by rw[<-h2];rfl⟩⟩
   ·exact⟨[],x::l,by simp,fun y hy=>(aL.1 hy).elim (fun e=>by rw[e];omega) (fun q=>by have:=h.1 y q;omega),.inl rfl⟩
theorem p9 {m:PM}(h:GW m)(n:Int):∃fp fq,(∀x∈fp,x.1<n)/\(∀x∈fq,n<x.1)/\(∀vs,m.put n vs= .mk (fp++((if vs.isEmpty then []else [(n,vs)])++fq)) m.unk)/\(m.fs=fp++fq\/∃old,m.fs=fp++(n,old)::fq):=by
 obtain⟨fp,fq,q1,q2,q3⟩:=vN (n:=n) h
 have N3:∀x∈fp++fq,x.1≠n:=fun x hx=>by
  rcases ba.1 hx with hx|hx
  ·have:=q1 x hx;omega
  ·have:=q2 x hx;omega
 refine⟨fp,fq,q1,q2,fun vs=> ?_,q3⟩;unfold PM.put
 cases hv:vs.isEmpty with
 |true=>
  rw[j8];simp only[if_true,aP]
  rcases q3 with e|⟨old,e⟩
  ·rw[e,j9 n _ N3]
  ·rw[e,cw,bM,if_neg (by simp),<-cw,j9 n _ N3]
 |false=>
  simp only[aK,if_false]
  rcases q3 with e|⟨old,e⟩
  ·rw[e,pZ n vs fq q2 fp q1];rfl
  ·rw[e,sy n vs old fq q2 fp q1];rfl
theorem Cm {m:PM}(h:GW m)(n:Int)(vs us:List PV):(m.put n vs).put n us=m.put n us:=by
 obtain⟨fp,fq,q1,q2,q3,_⟩:=p9 h n;rw[q3 vs,q3 us];unfold PM.put;simp only[PM.fs,PM.unk]
 have N3:∀x∈fp++fq,x.1≠n:=fun x hx=>by
  rcases ba.1 hx with hx|hx
  ·have:=q1 x hx;omega
  ·have:=q2 x hx;omega
 cases us.isEmpty with
 |true=>
  rw[j8]
  cases vs.isEmpty with
  |true=>simp only[if_true,aP];rw[j9 n _ N3]
  |false=>
   simp only[aK,if_false,if_true,aP,bj];rw[cw,bM,if_neg (by simp),<-cw,j9 n _ N3]
 |false=>
  cases vs.isEmpty with
  |true=>simp only[aK,if_false,if_true,aP,bj];rw[pZ n us fq q2 fp q1]
  |false=>simp only[aK,if_false,aP,bj];rw[sy n us vs fq q2 fp q1]
theorem zj {m:PM}(h:GW m)(n:Int)(vs:List PV):(m.put n vs).get n=vs:=by
 obtain⟨fp,fq,q1,q2,q3,_⟩:=p9 h n;rw[q3 vs];unfold PM.get;simp only[PM.fs]
 cases hv:vs.isEmpty with
 |true=>
  simp only[if_true,aP]
  rw[lc n _ fun x hx=>by
   rcases ba.1 hx with hx|hx
   ·have:=q1 x hx;omega
   ·have:=q2 x hx;omega]
  exact(List.isEmpty_iff.1 hv).symm
 |false=>
  simp only[aK,if_false,bj,aP];exact og n vs fq fp q1
theorem Cn {m:PM}(h:GW m)(hf:∀f∈m.fs,f.2≠ [])(n:Int):m.put n (m.get n)=m:=by
 obtain⟨fp,fq,q1,q2,q3,q4⟩:=p9 h n;have hm:m= .mk m.fs m.unk:=by cases m;rfl
 rcases q4 with e|⟨old,e⟩
 ·have hg:m.get n= []:=by
   unfold PM.get;rw[e]
   exact lc n _ fun x hx=>by
    rcases ba.1 hx with hx|hx
    ·have:=q1 x hx;omega
    ·have:=q2 x hx;omega
  rw[hg,q3]
  conv=>rhs;rw[hm,e]
  rfl
 ·have hg:m.get n=old:=by
   unfold PM.get;rw[e];exact og n old fq fp q1
  have:=hf (n,old) (by rw[e];simp);rw[hg,q3]
  conv=>rhs;rw[hm,e]
  cases old with
  |nil=>exact absurd rfl this
  |cons _ _=>rfl
theorem dB.srt {S:dG}{k:Nat}{T:Option MT}{w:an}{Z:ap}{db:Nat}{m:PM}(h:dB S (k+1) T w Z db m):GW m/\∀f∈m.fs,f.2≠ []:=by
 obtain⟨sv,uv,l,Y,hy,hs⟩:=h;refine⟨?_,hs.filled⟩;have h1:=hy.c.srt;have h2:=hs.nums;unfold GW;have h3:(l.map (·.1)).Pairwise (·< ·):=bJ.2 h1;rw[<-h2]at h3;exact bJ.1 h3
end
end Go.Proofs.YtfebdimolnobaaaGreatDoor
