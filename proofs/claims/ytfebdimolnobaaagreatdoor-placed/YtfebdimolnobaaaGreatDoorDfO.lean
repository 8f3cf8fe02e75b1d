import Derived.Test.YtfebdimolnobaaaGreatDoorDfH
set_option maxRecDepth 100000
set_option maxHeartbeats 8000000
set_option linter.all false
namespace Go.Proofs.YtfebdimolnobaaaGreatDoor
open Go.RowKit
section
attribute [local go_sem↓] Go.wp_at_zero Go.wp_at_succ
theorem tm:∀{pre N8 post N2:List eP} {x x':eP},(pre++x::post).Pairwise (fun a b=>a.1<b.1)->pre++x::post=N8++x'::N2->x.1=x'.1->pre=N8/\x=x'/\post=N2
 | [],[],_,_,_,_,_,e,_=>by
  simp only[aP,List.cons.injEq]at e;exact⟨rfl,e⟩
 | [],y::p,_,_,_,x',hs,e,hx=>by
  simp only[aP,bj,List.cons.injEq]at e hs;rw[bB]at hs;have:=hs.1 x' (by rw[e.2];simp);omega
 |y::p,[],_,_,x,_,hs,e,hx=>by
  simp only[aP,bj,List.cons.injEq]at e hs;rw[bB]at hs;have:=hs.1 x (by simp);rw[e.1]at this;omega
 |y::p,z::q,_,_,_,_,hs,e,hx=>by
  simp only[bj,List.cons.injEq]at e hs;rw[bB]at hs;obtain⟨h1,h2,h3⟩:=tm hs.2 e.2 hx;exact⟨by rw[e.1,h1],h2,h3⟩
theorem sA.again {S:dG}{k:Nat}{T:Option MT}{w1:an}{Z1:ap}{db:Nat}{m:PM}{n:Int}{g c:Nat}{pre:List eP}{x:eP}{post:List eP}{uv:Value}{A B:ap}{fp fq:List PF}
  (h:sA S k T w1 Z1 db m n g pre x post (.slice (some (ai g 0)) (pre++x::post).length c) uv A B fp fq) (hl:(pre++x::post).length<4194304):AM S k T w1 Z1 db m n:=by
 refine⟨_,uv,_,h.y.c,hl,fun w0 e w2 hb hR=> ?_⟩;obtain⟨g',c',N8,x',N2,rfl,hc,hx,hw,hk,hg⟩:=hR
 rcases hw with⟨e1,e2⟩|⟨e1,_⟩
 ·obtain⟨rfl,rfl,rfl⟩:=tm h.y.c.srt e1 (h.xn.trans hx.symm);simp only[Value.slice.injEq,Option.some.injEq,Addr.mk.injEq]at e2;obtain⟨⟨rfl,_⟩,_,rfl⟩:=e2;have hK:∀b,b<w1.heap.size->b≠db->b≠g->w2.heap[b]?=w1.heap[b]?:=fun b hl h1 h2=>(hk.block b (aC hl hb.size) (by simp[Value.ownBlock,h1,h2])).trans (hb.block b hl)
  have Oe:∀b,A b\/B b->w2.heap[b]?=w1.heap[b]?:=fun b q=>hK b (h.y.yl b q) (fun e=>h.y.yd (e▸q)) (fun e=>h.y.ys g rfl (e▸q))
  have Of:∀{y:eP} {f:PF} {C:ap},(∀b,C b->A b\/B b)->fi S (dB S k) w1 T y f C->fi S (dB S k) w2 T y f C:=fun hC hh=>hh.keep (fun _ _ _ _ hD hr=>hr.keep fun b q _=>Oe b (hC b (hD b q))) (fun b q _=>Oe b (hC b q))
  refine⟨g,c,pre,x,post,A,B,fp,fq,rfl,⟨rfl,⟨⟨hc,dz h.y.un fun b q=>hK b (h.y.un.lt b q).2 (fun e=>h.y.ud (e▸q)) (fun e=>h.y.su g rfl (e▸q)),.inl h.y.zd,fun b q=> .inl (h.y.zs b q),fun b q=> .inl (h.y.zu b q),h.y.su,h.y.ud⟩,
   fun b q=> .inl (h.y.yz b q),fun b q=>aC (h.y.yl b q) (aG hb.size hk.size),h.y.yd,h.y.ys,h.y.yu⟩,h.len,h.sep.imp fun y f C _ _ hC hs=>Of (fun b q=> .inr (hC b q)) hs,h.dis,h.xn,h.lo,h.hi,?_⟩,?_,fun b q=>h.y.yl b (.inl q),hk,hg⟩
  ·exact h.was.imp (fun⟨old,q1,q2⟩=>⟨old,q1,Of (fun b q=> .inl q) q2⟩) id
  ·refine⟨hk.os,hk.tape,hk.output,hk.size,fun b hl hz=>hk.block b hl ?_,fun b q=> .inl (q.elim id fun e=>e▸h.y.zs g rfl)⟩;simp only[aL,Value.ownBlock,Option.toList_some,bG,or_false,not_or];exact⟨fun e=>hz (e▸h.y.zd),fun e=>hz (e▸h.y.zs g rfl)⟩
 ·have hs:=hc.srt;rw[bW,bB]at hs;have hm:x∈N8++N2:=by rw[<-e1];simp
  have hn:=h.xn
  rcases ba.1 hm with q|q
  ·have:=hs.2.2 x q x' (by simp);omega
  ·have:=hs.2.1.1 x q;omega
theorem tq (S:dG)(k:Nat)(T:Option MT)(w:an)(Z:ap)(db:Nat)(m:PM)(n:Int)(h:dB S (k+1+1) T w Z db m)(hok:lM S T n .msgs)(hkd:∀kd,lM S T n kd->kd= .msgs)(hln:rm T n)(hl:m.fs.length<4194303)(hZ:∀b,Z b->b<w.heap.size):
  Calls Tryz.prog 191 #[ag db,aa n] w (oT S (k+1) T w Z db (lw S T n) ((m.get n).headD PV.none).2.2 (fun m'=>m.put n [mV m'])):=by
 obtain⟨sv,uv,l,hc,Ok,hR⟩:=h.slot (n:=n) (by omega);have hS:=qH w db sv uv l n hc Ok;go_enter Tryz.func191,Tryz.ntmps191
 go_wp2_with fail
 refine hS.mono ?_;rintro e w1 Oh;obtain⟨g,c,pre,x,post,A,B,fp,fq,rfl,O,st,hAl,K,hg⟩:=hR w _ w1 (Below.refl _ _) Oh;clear Oh hR hS;obtain⟨⟨x1,x3⟩,ps,D,N7,Oi,Ol,Oa,Om,Od⟩:=O.ofMsgs hkd;obtain⟨c0,c1,c2,c3,cf⟩:=O.cells rfl;have Og:=Om hln;have hgl:=(O.y.c.row.lt g rfl).2
 rcases ps with _|⟨p,ps⟩
 ·have hx:=Od rfl;have Oc:m.get n= []:=bt Oa.len.symm
  have hlen:(pre++x::post).length<4194304:=by
   have h1:=O.len;have h2:=O.sep.len
   rcases O.was with⟨_,e,_⟩|⟨e,_⟩
   ·have:=congrArg List.length e;simp at this h2⊢;omega
   ·have:=congrArg List.length e;simp at this h2⊢;omega
  have hA:=lx S k T w1 (fun b=>Z b\/b=g) db m n (O.again hlen) hok hkd (fun _=>Oc) (by rw[Oc];simp) (by
   rintro(q|q)
   ·have:=hZ _ q;have:=st.size;omega
   ·omega)
  rw[hx]at c2
  have HM:Hid (∀e w',oT S (k+1) T w1 (fun b=>Z b\/b=g) db (lw S T n) PM.none (fun m'=>m.put n (m.get n++ [mV m'])) e w'->(∃p,e= .returned (ag p)/\oT S (k+1) T w Z db (lw S T n) ((m.get n).headD PV.none).2.2 (fun m'=>m.put n [mV m']) e w')):=by
   rintro e w' ⟨p,Z',C,rfl,q2,q3,q4,q5⟩;rw[Oc]at q4⊢;exact⟨p,rfl,p,Z',C,rfl,st.trans q2,q3,q4,q5⟩
  clear c0 c1 c3 x1 x3 hx N7 hkd Od Oc;go_wp2_with fail
  refine hA.mono ?_;rintro e w2 hq;obtain⟨p,rfl,Oo⟩:=HM.out _ _ hq;clear hq;go_wp2;go_ret;exact Oo
 ·obtain rfl:ps= []:=by simp at Og;exact Og
  obtain⟨v,hv⟩:∃v,m.get n= [v]:=by
   have:=Oa.len
   match hm:m.get n,this with
   | [v],_=>exact⟨v,rfl⟩
  rw[hv]at Oa;obtain⟨C,D',⟨hv1,Oq⟩,_,hC,_,_⟩:=Oa
  have HM:Hid (oT S (k+1) T w Z db (lw S T n) ((m.get n).headD PV.none).2.2 (fun m'=>m.put n [mV m']) (.returned (ag p)) w1):=by
   rw[hv];refine⟨p,_,C,rfl,st,Oq,?_,fun b q=>O.y.yl b (.inl (Oi b (hC b q)))⟩;have hM:(fun m'=>m.put n [mV m'])=fun m'=>PM.mk (fp++(n,[]++mV m':: [])::fq) m.unk:=funext fun m'=>O.put (by simp)
   rw[hM];exact xq.hole (ps1:= []) (ps2:= []) (D:=fun _=>False) ⟨O.y,O.len,O.sep,O.dis,O.xn,x1,x3,N7,fun b q=>Oi b (hC b q),fun _ q=>q.elim,fun b q=>⟨fun q2=>Ol b q (hC b q2),fun q=>q⟩,fun _ _ q=>q,rfl,trivial,hok,fun _=>rfl,by simp⟩
  obtain⟨xa,xn,xc,Oj⟩:=df N7.1;have N3:=N7.1;rw[Oj]at c2 N3;obtain⟨r,rfl,_,hr,Ob⟩:=dE N3 (by simp);have p0:w1.cell? (ai r 0)=some (ag p):=Ob w1 rfl 0 _ rfl
  obtain rfl:xn=1:=by
   rcases N3.2 with⟨q,_⟩|⟨_,_,_,q,_⟩
   ·cases q
   ·injection q
  clear c0 c1 c3 x1 x3 Oj N7 hkd Od Ob;go_wp2;go_ret;exact HM.out
theorem H6 (w:an)(v:Value)(ns:List Int)(t:Int)(hrow:w.ownsRow 0 3 1 v ns.length (eL ns))(hl:ns.length<=4194304):
  Calls Tryz.prog 322 #[v,aa t] w fun e w'=>(∃r:Int,e= .returned (aa r)/\decide (0<=r)=decide (t∈ns))/\w'=w:=by
 obtain⟨a,c,rfl⟩:=gS hrow
 have HG:Hid (∀(i:Nat) (x:Int),ns[i]?=some x->∃g,a=some (ai g 0)/\w.cell? (ai g i)=some (aa x)):=fun i x hx=>by
  have hi:=gl hx;obtain⟨g,rfl,_,hgl,N3⟩:=dE hrow (by omega);exact⟨g,rfl,N3 w rfl i _ (by unfold eL;rw[aO,hx];rfl)⟩
 clear hrow;go_enter Tryz.func322,Tryz.ntmps322
 go_wp2;go_loopw [8] (fun iv wr=>∃(i:Nat),i<=ns.length/\iv=aa i/\Hid (∀(k:Nat) (x:Int),ns[k]?=some x->k<i->x≠t)/\wr=w) (fun iv _=>((ns.length:Int)-(intOf iv)).toNat)
 case atStart=>exact⟨0,aM _,rfl,(fun k x _ h=>by omega),rfl⟩
 case round=>
  obtain⟨i,hil,rfl,H1,rfl⟩:=hrel
  by_cases hlt:i<ns.length
  ·obtain⟨x,hx⟩:=gx hlt;obtain⟨g,rfl,hgc⟩:=HG.out i x hx;have HX:Hid (ns[i]?=some x):=hx;have hw1:IntKind.i64.wrap ((i:Int)+1)=(i:Int)+1:=by rw[IntKind.wrap_i64];omega
   by_cases hxt:t=x
   ·subst hxt;clear hx HG;go_wp2;go_ret;refine⟨⟨i,rfl,?_⟩,rfl⟩;have:t∈ns:=aI HX.out;simp[this]
   ·have hd:(t==x)=false:=by simpa using hxt
    have N7:Hid (t≠x):=hxt;clear hx HG hxt;go_wp2;go_roundw
    case rel=>exact⟨i+1,by omega,rfl,(fun k y hy hk=>by
     by_cases e:k=i
     ·subst e;rw[HX.out]at hy;obtain rfl:=Option.some.inj hy;exact fun e=>N7.out e.symm
     ·exact H1.out k y hy (by omega)),trivial⟩
    case measure=>simp[intOf];omega
  ·obtain rfl:i=ns.length:=by omega
   clear HG;go_wp2;go_ret;refine⟨⟨-1,rfl,?_⟩,rfl⟩
   have:t∉ns:=fun h=>by
    obtain⟨k,hk⟩:=List.mem_iff_getElem?.1 h;have N8:=gl hk;exact H1.out k t hk N8 rfl
   simp[this]
theorem tr (w:an)(v:Value)(ns:List Int)(t:Int)(hrow:w.ownsRow 0 3 1 v ns.length (eL ns))(hl:ns.length<=4194304):
  Calls Tryz.prog 238 #[v,aa t] w fun e w'=>e= .returned (.bool (decide (t∈ns)))/\w'=w:=by
 have hI:=H6 w v ns t hrow hl;generalize decide (t∈ns)=q at hI⊢;go_enter Tryz.func238,Tryz.ntmps238
 go_wp2_with fail
 refine hI.mono ?_;rintro e w' ⟨⟨r,rfl,rfl⟩,rfl⟩;go_wp2;go_ret;exact⟨rfl,rfl⟩
def tt (nb:Nat):Value:= .func (.func 264) #[] #[ag nb]
theorem E9 (w:an)(nb:Nat)(nv:Value)(ns:List Int)(x:eP)(hb:de w nb #[nv] 35)(hrow:w.ownsRow 0 3 1 nv ns.length (eL ns))(hl:ns.length<=4194304):
  Calls Tryz.prog 264 #[.agg #[aa x.1,x.2.1,x.2.2.1,x.2.2.2],ag nb] w fun e w'=>e= .returned (.bool (decide (x.1∈ns)))/\aj w w':=by
 have Oa:=hb.alloc (ak #[aa x.1,x.2.1,x.2.2.1,x.2.2.2] 249);have N2:=hrow.alloc (ak #[aa x.1,x.2.1,x.2.2.1,x.2.2.2] 249);have hC:=tr _ nv ns x.1 N2 hl;obtain⟨k1,k2⟩:=Oa.rules;obtain⟨a,n,c,rfl⟩:=df hrow;have B0:aj w (w.alloc (ak #[aa x.1,x.2.1,x.2.2.1,x.2.2.2] 249)):=(Below.refl w.heap.size w).alloc (ay _) _;generalize decide (x.1∈ns)=q at hC⊢;go_enter Tryz.func264,Tryz.ntmps264
 go_wp2_with fail
 refine hC.mono ?_;rintro e w' ⟨rfl,rfl⟩;go_wp2;go_ret;exact⟨rfl,B0⟩
def Fa (l:List eP)(ns:List Int)(e:Ending):Prop:=
 (e= .returned (.int .i64 (-1))/\∀x∈l,x.1∉ns)\/∃i:Nat,e= .returned (.int .i64 i)/\i<l.length/\(∀k x,l[k]?=some x->k<i->x.1∉ns)/\∀x,l[i]?=some x->x.1∈ns
theorem Fb (w:World)(v:Value)(l:List eP)(nb:Nat)(nv:Value)(ns:List Int)(hrow:w.ownsRow 0 249 4 v l.length (l.flatMap du))(h1:∀x∈l,x.2.1.oneCell'=true/\x.2.2.1.oneCell'=true/\x.2.2.2.oneCell'=true)(hl:l.length<=4194304)
  (hb:de w nb #[nv] 35) (hnr:w.ownsRow 0 3 1 nv ns.length (eL ns)) (hnl:ns.length<=4194304):
  Calls Tryz.prog 344 #[v,tt nb] w fun e w'=>Fa l ns e/\Below w.heap.size w w':=by
 obtain⟨a,c,rfl⟩:=gS hrow;have HG:Hid (∀(i:Nat) (x:eP),l[i]?=some x->∃g,a=some ⟨g,0,none⟩/\g<w.heap.size/\∀w':World,w'.heap[g]?=w.heap[g]?->w'.cell? ⟨g,i*4,none⟩=some (.int .i64 x.1)/\w'.cell? ⟨g,i*4+1,none⟩=some x.2.1/\w'.cell? ⟨g,i*4+2,none⟩=some x.2.2.1/\w'.cell? ⟨g,i*4+3,none⟩=some x.2.2.2):=fun i x hx=>pp hrow hx
 have HN:Hid (∀(wr:World) (x:eP),Below w.heap.size w wr->Calls Tryz.prog 264 #[.agg #[.int .i64 x.1,x.2.1,x.2.2.1,x.2.2.2],.pointer (some ⟨nb,0,none⟩)] wr fun e w'=>e= .returned (.bool (decide (x.1∈ns)))/\Below wr.heap.size wr w'):=fun wr x hB=>E9 wr nb nv ns x ((hB.block nb hb.lt).trans hb) (dz hnr fun b e=>hB.block b (hnr.lt b e).2) hnl
 clear hrow;unfold tt;go_enter Tryz.func344,Tryz.ntmps344
 go_wp2;go_loopw [8] (fun iv wr=>∃(i:Nat),i<=l.length/\iv= .int .i64 i/\Hid (∀(k:Nat) (x:eP),l[k]?=some x->k<i->x.1∉ns)/\Below w.heap.size w wr) (fun iv _=>((l.length:Int)-(intOf iv)).toNat)
 case atStart=>exact⟨0,aM _,rfl,(fun k x _ h=>by omega),Below.refl _ _⟩
 case round=>
  obtain⟨i,Oj,rfl,H1,CW⟩:=hrel
  by_cases hlt:i<l.length
  ·obtain⟨x,hx⟩:=gx hlt;obtain⟨g,rfl,Od,Ok⟩:=HG.out i x hx;obtain⟨c0,c1,c2,c3⟩:=Ok wr (CW.block g Od);obtain⟨o1,o2,o3⟩:=h1 x (aI hx);clear Ok;have HX:Hid (l[i]?=some x):=hx;have hD:=HN.out wr x CW;have Om:IntKind.i64.wrap ((i:Int)+1)=(i:Int)+1:=by rw[IntKind.wrap_i64];omega
   by_cases hxt:x.1∈ns
   ·have hd:decide (x.1∈ns)=true:=decide_eq_true hxt;rw[hd]at hD;have N8:Hid (x.1∈ns):=hxt;clear hx HG hxt hd;go_wp2_with fail
    refine hD.mono ?_;rintro e w2 ⟨rfl,b2⟩;go_wp2;go_ret;exact⟨.inr ⟨i,rfl,hlt,H1.out,fun y hy=>by rw[HX.out]at hy;rw[<-Option.some.inj hy];exact N8.out⟩,dH CW b2⟩
   ·have hd:decide (x.1∈ns)=false:=decide_eq_false hxt;rw[hd]at hD;have N8:Hid (x.1∉ns):=hxt;clear hx HG hxt hd;go_wp2_with fail
    refine hD.mono ?_;rintro e w2 ⟨rfl,b2⟩;go_wp2;go_roundw
    case rel=>exact⟨i+1,by omega,rfl,(fun k y hy hk=>by
     by_cases e:k=i
     ·subst e;rw[HX.out]at hy;rw[<-Option.some.inj hy];exact N8.out
     ·exact H1.out k y hy (by omega)),dH CW b2⟩
    case measure=>simp[intOf];omega
  ·obtain rfl:i=l.length:=by omega
   clear HG HN;go_wp2;go_ret;refine⟨.inl ⟨rfl,fun x hx=> ?_⟩,CW⟩;obtain⟨k,hk⟩:=List.mem_iff_getElem?.1 hx;have Oo:=gl hk;exact H1.out k x hk Oo
theorem MA (A R:List Value)(m0 m1 m2 m3 a b c d:Value)(k:Nat)(hk:A.length=k):((((A++m0::m1::m2::m3::R).set k a).set (k+1) b).set (k+2) c).set (k+3) d=A++a::b::c::d::R:=by
 subst hk;simp
def kB (n:Nat):List Value:=(Builtin.zeroCells #[.int .i64 0,.slice none 0 0,.slice none 0 0,.map none] n).toList
theorem rQ (w:World)(ty:TypeId)(g o n c:Nat)(N2:Array Value)(hn:0<n)(hg:w.heap[g]?=some (.cells N2 249 (0,0)))(hfit:o+n*4<=N2.size):
  (Builtin.clear_ #[181] ty #[.slice (some ⟨g,o,none⟩) n c]).run Tryz.prog w= .ok (.tuple #[]) (w.setRow g (N2.toList.take o++kB n++N2.toList.drop (o+n*4)).toArray):=by
 have Oc:(kB n).length=n*4:=by simp[kB,Builtin.zeroCells]
 have h1:∀v∈kB n,v.oneCell'=true:=by
  intro v hv;simp[kB,Builtin.zeroCells]at hv;obtain⟨i,_,rfl⟩:=hv;have:i%4<4:=Nat.mod_lt _ (by omega);generalize i%4=q at this
  match q,this with
  |0,_=>rfl
  |1,_=>rfl
  |2,_=>rfl
  |3,_=>rfl
 have Of:=run_storeCells_at Tryz.prog g o 249 (kB n) 0 N2 w hg (by rw[Oc];simpa using hfit) h1;rw[Oc]at Of;have hu:Tryz.prog.underlying 181=some (.slice 249):=Tryz.underlying181;obtain⟨m,rfl⟩:∃m,n=m+1:=⟨n-1,by omega⟩;unfold kB at Of;simp[Builtin.clear_,run_underlying hu,Tryz.zeroValue249,Value.cells,Of,kB]
def tu (ns:List Int)(x:eP):Bool:=decide (x.1∉ns)
def it (ns:List Int)(l:List eP):List eP:=l.filter (tu ns)
theorem vI {α:Type}{l:List α}{j:Nat}{x:α}(h:l[j]?=some x):l.take (j+1)=l.take j++ [x]:=by
 rw[bu,h];rfl
theorem sB {α:Type}{l:List α}{j:Nat}{x:α}(h:l[j]?=some x):l.drop j=x::l.drop (j+1):=by
 obtain⟨hh,rfl⟩:=List.getElem?_eq_some_iff.1 h;exact(aU hh)
theorem jL {ns:List Int}{l:List eP}{j:Nat}{x:eP}(h:l[j]?=some x)(hx:x.1∈ns):it ns (l.take (j+1))=it ns (l.take j):=by
 unfold it;rw[vI h,cw];simp[tu,hx]
theorem lN {ns:List Int}{l:List eP}{j:Nat}{x:eP}(h:l[j]?=some x)(hx:x.1∉ns):it ns (l.take (j+1))=it ns (l.take j)++ [x]:=by
 unfold it;rw[vI h,cw];simp[tu,hx]
theorem vJ {ns:List Int}{l:List eP}(h:∀x∈l,x.1∉ns):it ns l=l:=List.filter_eq_self.2 (fun x hx=>by simp[tu,h x hx])
theorem Fc {ns:List Int}{l:List eP}:(it ns l).length<=l.length:=bI _ _
theorem lO (l:List eP):(l.flatMap du).length=l.length*4:=by
 induction l with
 |nil=>rfl
 |cons x l ih=>rw[bm,aH,ih,eJ,bn];omega
def JC (w:World)(v:Value)(l:List eP)(ns:List Int)(e:Ending)(w':World):Prop:=
 ∃v',e= .returned v'/\v'.ownBlock=v.ownBlock/\w'.ownsRow 0 249 4 v' (it ns l).length ((it ns l).flatMap du)/\w.grownBy w' v.ownBlock
def kC (w:World)(g c:Nat)(l:List eP)(ns:List Int)(i j:Nat)(wr:World):Prop:=
 i=(it ns (l.take j)).length/\i<j/\∃M,M.length=(j-i)*4/\wr.ownsRow 0 249 4 (.slice (some ⟨g,0,none⟩) l.length c) l.length ((it ns (l.take j)).flatMap du++M++(l.drop j).flatMap du)/\w.grownBy wr (some g)
theorem kC.cells {w wr:World}{g c i j:Nat}{l:List eP}{ns:List Int}(h:kC w g c l ns i j wr){x:eP}(hx:l[j]?=some x):
  wr.cell? ⟨g,j*4,none⟩=some (.int .i64 x.1)/\wr.cell? ⟨g,j*4+1,none⟩=some x.2.1/\wr.cell? ⟨g,j*4+2,none⟩=some x.2.2.1/\wr.cell? ⟨g,j*4+3,none⟩=some x.2.2.2/\g<wr.heap.size:=by
 obtain⟨h1,h2,M,h3,h4,h5⟩:=h;have Og:=gl hx;obtain⟨g',hg,_,Od,N3⟩:=dE h4 (by omega)
 cases hg
 have hA:((it ns (l.take j)).flatMap du++M).length=j*4:=by rw[aH,lO,<-h1,h3];omega
 rw[sB hx]at N3
 have hf:∀q u,(du x)[q]?=some u->wr.cell? ⟨g,j*4+q,none⟩=some u:=fun q u hq=>by
  refine N3 wr rfl _ u ?_
  have Oq:q<(du x).length:=by
   by_cases t:q<(du x).length
   ·exact t
   ·rw[aQ (by omega)]at hq;cases hq
  rw[ck (by omega),hA,Nat.add_sub_cancel_left,bm,cn Oq];exact hq
 exact⟨hf 0 _ rfl,hf 1 _ rfl,hf 2 _ rfl,hf 3 _ rfl,Od⟩
theorem jt {w w':World}{row:Option Nat}(h:w.grownBy w' row)(o:Obj):w.grownBy (w'.alloc o) row:=
 ⟨h.os,h.tape,h.output,aG h.size (by simp),fun k hk Oa=>(Below.heap_alloc w' o k (aC hk h.size)).trans (h.block k hk Oa)⟩
theorem oU {w w' w2:World}{row:Option Nat}(h:w.grownBy w' row)(hb:Below w'.heap.size w' w2):w.grownBy w2 row:=
 ⟨hb.os.trans h.os,hb.tape.trans h.tape,hb.output.trans h.output,aG h.size hb.size,fun k hk Oa=>(hb.block k (aC hk h.size)).trans (h.block k hk Oa)⟩
theorem iF {w w':World}{g:Nat}(h:w.grownBy w' (some g))(o:Nat)(v:Value):w.grownBy (w'.setCell ⟨g,o,none⟩ v) (some g):=
 ⟨h.os,h.tape,h.output,by simpa using h.size,fun k hk Oa=>by
  rw[dd,if_neg (fun e=>Oa (by rw[e]))]
  exact h.block k hk Oa⟩
theorem kC.room {w wr w2:World}{g c i j:Nat}{l:List eP}{ns:List Int}(h:kC w g c l ns i j wr)(hj:j<=l.length)(hb:Below wr.heap.size wr w2):
  ∃u0 u1 u2 u3,w2.cell? ⟨g,i*4,none⟩=some u0/\w2.cell? ⟨g,i*4+1,none⟩=some u1/\w2.cell? ⟨g,i*4+2,none⟩=some u2/\w2.cell? ⟨g,i*4+3,none⟩=some u3/\∀o,w2.frozen? ⟨g,o,none⟩=false:=by
 obtain⟨h1,h2,M,h3,h4,h5⟩:=h
 rcases h4.2 with⟨q,_⟩|⟨g',cap,N2,q,q1,q2,q3,q4,q5,q6⟩
 ·cases q
 ·cases q
  have Ot:de w2 g N2 249:=(hb.block g (de.lt q2)).trans q2;obtain⟨y1,y2⟩:=Ot.rules;have e:∀o,o<c*4->∃u,w2.cell? ⟨g,o,none⟩=some u:=fun o ho=>⟨N2[o]'(by omega),by rw[y1,bo (by omega)]⟩
  obtain⟨u0,e0⟩:=e (i*4) (by omega);obtain⟨u1,e1⟩:=e (i*4+1) (by omega);obtain⟨u2,e2⟩:=e (i*4+2) (by omega);obtain⟨u3,e3⟩:=e (i*4+3) (by omega);exact⟨u0,u1,u2,u3,e0,e1,e2,e3,y2⟩
theorem kC.gone {w wr w2:World}{g c i j:Nat}{l:List eP}{ns:List Int}(h:kC w g c l ns i j wr){x:eP}(hx:l[j]?=some x)(hn:x.1∈ns)(hb:Below wr.heap.size wr w2):kC w g c l ns i (j+1) w2:=by
 obtain⟨h1,h2,M,h3,h4,h5⟩:=h;refine⟨by rw[jL hx hn];exact h1,by omega,M++du x,by rw[aH,h3,eJ];omega,?_,oU h5 hb⟩;rw[jL hx hn];rw[sB hx,bm]at h4;refine dz ?_ (fun b Oh=>hb.block b (h4.lt b Oh).2);simpa using h4
theorem kC.stays {w wr w2:World}{g c i j:Nat}{l:List eP}{ns:List Int}(h:kC w g c l ns i j wr){x:eP}(hx:l[j]?=some x)(hn:x.1∉ns)(hb:Below wr.heap.size wr w2):
  kC w g c l ns (i+1) (j+1) ((((w2.setCell ⟨g,i*4,none⟩ (.int .i64 x.1)).setCell ⟨g,i*4+1,none⟩ x.2.1).setCell ⟨g,i*4+2,none⟩ x.2.2.1).setCell ⟨g,i*4+3,none⟩ x.2.2.2):=by
 obtain⟨h1,h2,M,h3,h4,h5⟩:=h;have Og:=gl hx;have h6:=dz h4 (fun b Oh=>hb.block b (h4.lt b Oh).2);rw[sB hx,bm]at h6
 obtain⟨m0,m1,m2,m3,R,hR⟩:∃m0 m1 m2 m3 R,M++du x=m0::m1::m2::m3::R:=by
  have:4<=M.length:=by omega
  match M,this with
  |m0::m1::m2::m3::R,_=>exact⟨m0,m1,m2,m3,R++du x,rfl⟩
 have Ou:R.length=(j-i)*4:=by
  have:=congrArg List.length hR;simp[h3,eJ]at this;omega
 rw[show((it ns (l.take j)).flatMap du++M++(du x++(l.drop (j+1)).flatMap du))=(it ns (l.take j)).flatMap du++m0::m1::m2::m3::(R++(l.drop (j+1)).flatMap du)from by
  rw[aW,<-aW M,hR];simp]at h6
 have Ov:((it ns (l.take j)).flatMap du).length=i*4:=by rw[lO,<-h1]
 have h7:=jC (jC (jC (jC h6 (o:=i*4) (.int .i64 x.1) (by omega)) (o:=i*4+1) x.2.1 (by omega)) (o:=i*4+2) x.2.2.1 (by omega)) (o:=i*4+3) x.2.2.2 (by omega);rw[MA _ _ _ _ _ _ _ _ _ _ _ Ov]at h7;refine⟨by rw[lN hx hn,aH];simp[h1],by omega,R,by rw[Ou];omega,?_,iF (iF (iF (iF (oU h5 hb) _ _) _ _) _ _) _ _⟩;rw[lN hx hn,bZ];simpa [du]using h7
theorem kC.stays4 {w wr w2:World}{g c i j:Nat}{l:List eP}{ns:List Int}(h:kC w g c l ns i j wr){n:Int}{v1 v2 v3:Value}(hx:l[j]?=some (n,v1,v2,v3))(hn:n∉ns)(hb:Below wr.heap.size wr w2):
  Hid (kC w g c l ns (i+1) (j+1) ((((w2.setCell ⟨g,i*4,none⟩ (.int .i64 n)).setCell ⟨g,i*4+1,none⟩ v1).setCell ⟨g,i*4+2,none⟩ v2).setCell ⟨g,i*4+3,none⟩ v3)):=
 h.stays (x:=(n,v1,v2,v3)) hx hn hb
theorem Dj (w:World)(v:Value)(l:List eP)(nb:Nat)(nv:Value)(ns:List Int)(hrow:w.ownsRow 0 249 4 v l.length (l.flatMap du))(h1:∀x∈l,nw x)(hl:l.length<=4194304)
  (hb:de w nb #[nv] 35) (hnr:w.ownsRow 0 3 1 nv ns.length (eL ns)) (hnl:ns.length<=4194304) (hne1:v.ownBlock≠some nb) (hne2:∀b,nv.ownBlock=some b->v.ownBlock≠some b):
  Calls Tryz.prog 263 #[v,tt nb] w (JC w v l ns):=by
 have hF:=Fb w v l nb nv ns hrow (fun x hx=>(h1 x hx).one) hl hb hnr hnl;have HN:Hid (∀(wr:World) (x:eP),w.grownBy wr v.ownBlock->Calls Tryz.prog 264 #[.agg #[.int .i64 x.1,x.2.1,x.2.2.1,x.2.2.2],.pointer (some ⟨nb,0,none⟩)] wr fun e w'=>e= .returned (.bool (decide (x.1∈ns)))/\Below wr.heap.size wr w'):=fun wr x hB=>E9 wr nb nv ns x ((hB.block nb hb.lt (fun e=>hne1 e.symm)).trans hb) (dz hnr fun b e=>hB.block b (hnr.lt b e).2 (fun e'=>hne2 b e e'.symm)) hnl
 obtain⟨a,c,rfl⟩:=gS hrow;unfold tt at hF⊢;go_enter Tryz.func263,Tryz.ntmps263
 go_wp2_with fail
 refine hF.mono ?_;rintro e w1 ⟨hR,hB⟩
 rcases hR with⟨rfl,Ob⟩|⟨i0,rfl,Ox,Ol,N7⟩
 ·have HA:Hid (it ns l=l):=vJ Ob;clear Ob HN hF;go_wp2;go_ret;refine⟨_,rfl,rfl,?_,⟨hB.os,hB.tape,hB.output,hB.size,fun k hk _=>hB.block k hk⟩⟩;rw[HA.out];exact dz hrow fun b e=>hB.block b (hrow.lt b e).2
 ·obtain⟨g,rfl,_,Od,_⟩:=dE hrow (by omega);obtain⟨x0,Oe⟩:∃x,l[i0]?=some x:=⟨_,aJ Ox⟩;have hw0:IntKind.i64.wrap ((i0:Int)+1)=(i0:Int)+1:=by rw[IntKind.wrap_i64];omega
  have Oa:((i0:Int)== -1)=false:=by simp
  have hcc:∃N2,w.heap[g]?=some (.cells N2 249 (0,0))/\N2.size=c*4/\l.length<=c/\c<=maxLen:=by
   rcases hrow.2 with⟨q,_⟩|⟨g',cap,N2,q,q1,q2,q3,q4,q5,q6⟩
   ·cases q
   ·cases q
    exact⟨N2,q2,q5,q3,q4⟩
  have D0:kC w g c l ns i0 (i0+1) w1:=by
   have e1:it ns (l.take i0)=l.take i0:=vJ fun x hx=>by
    obtain⟨k,hk⟩:=List.mem_iff_getElem?.1 hx
    have Oi:k<i0:=by
     by_cases q:k<i0
     ·exact q
     ·rw[aQ (by rw[be];omega)]at hk;cases hk
    rw[bO Oi]at hk;exact Ol k x hk Oi
   have e2:=jL Oe (N7 x0 Oe);refine⟨by rw[e2,e1,be];omega,by omega,du x0,by rw[eJ];omega,?_,⟨hB.os,hB.tape,hB.output,hB.size,fun k hk _=>hB.block k hk⟩⟩;rw[e2,e1]
   have e3:(l.take i0).flatMap du++du x0++(l.drop (i0+1)).flatMap du=l.flatMap du:=by
    have:l=l.take i0++x0::l.drop (i0+1):=by rw[<-sB Oe,bS]
    conv=>rhs;rw[this]
    simp
   rw[e3];exact dz hrow fun b e=>hB.block b (hrow.lt b e).2
  have Ow:Hid (∀(wr:World) (x:eP),w.grownBy wr (some g)->Calls Tryz.prog 264 #[.agg #[.int .i64 x.1,x.2.1,x.2.2.1,x.2.2.2],.pointer (some ⟨nb,0,none⟩)] wr fun e w'=>e= .returned (.bool (decide (x.1∈ns)))/\Below wr.heap.size wr w'):=HN.out;clear HN hF Ol N7 Oe hrow hnr hB;go_wp2;go_loopw [5,6] (fun iv jv wr=>∃(i j:Nat),j<=l.length/\iv= .int .i64 i/\jv= .int .i64 j/\kC w g c l ns i j wr) (fun _ jv _=>((l.length:Int)-(intOf jv)).toNat)
  case atStart=>exact⟨i0,i0+1,by omega,rfl,by simp,D0⟩
  case round=>
   obtain⟨i,j,Og,rfl,rfl,DA⟩:=hrel
   by_cases hlt:j<l.length
   ·obtain⟨x,hx⟩:=gx hlt;obtain⟨c0,c1,c2,c3,hgw⟩:=DA.cells hx;obtain⟨⟨a1,n1,k1,o1⟩,⟨a2,n2,k2,o2⟩,a3,o3⟩:=h1 x (aI hx);obtain⟨xn,x1,x2,x3⟩:=x;simp only at o1 o2 o3 c0 c1 c2 c3;subst o1 o2 o3;have HX:Hid (l[j]?=some (xn,.slice a1 n1 k1,.slice a2 n2 k2,.map a3)):=hx;have hij:i<j:=DA.2.1;have Om:IntKind.i64.wrap ((j:Int)+1)=(j:Int)+1:=by rw[IntKind.wrap_i64];omega
    have hw2:IntKind.i64.wrap ((i:Int)+1)=(i:Int)+1:=by rw[IntKind.wrap_i64];omega
    have B1:Below wr.heap.size wr (wr.alloc (Obj.cells #[.int .i64 xn,.slice a1 n1 k1,.slice a2 n2 k2,.map a3] 249)):=(Below.refl _ _).alloc (ay _) _;have hG:w.grownBy wr (some g):=by obtain⟨_,_,_,_,_,q⟩:=DA;exact q
    have hD:=Ow.out (wr.alloc (Obj.cells #[.int .i64 xn,.slice a1 n1 k1,.slice a2 n2 k2,.map a3] 249)) (xn,.slice a1 n1 k1,.slice a2 n2 k2,.map a3) (jt hG _)
    by_cases hxt:xn∈ns
    ·have hd:decide (xn∈ns)=true:=decide_eq_true hxt;simp only[hd]at hD;have N8:Hid (xn∈ns):=hxt;clear hx hxt hd;go_wp2_with fail
     refine hD.mono ?_;rintro e w2 ⟨rfl,b2⟩;go_wp2;go_roundw
     case rel=>exact⟨i,j+1,by omega,rfl,rfl,DA.gone HX.out N8.out (dH B1 (by simpa using b2))⟩
     case measure=>simp[intOf];omega
    ·have hd:decide (xn∈ns)=false:=decide_eq_false hxt;simp only[hd]at hD;have N8:Hid (xn∉ns):=hxt;clear hx hxt hd;go_wp2_with fail
     refine hD.mono ?_;rintro e w2 ⟨rfl,b2⟩;have b3:Below wr.heap.size wr w2:=dH B1 (by simpa using b2);have BV:de w2 wr.heap.size #[.int .i64 xn,.slice a1 n1 k1,.slice a2 n2 k2,.map a3] 249:=(b2.block _ (by simp)).trans (de.new wr _ _);obtain⟨v1,v2⟩:=BV.rules;obtain⟨u0,u1,u2,u3,e0,e1,e2,e3,ef⟩:=DA.room Og b3;have Oj:i<l.length:=by omega
     have hgv:wr.heap.size≠g:=by omega
     have DS:=DA.stays4 HX.out N8.out b3;go_wp2;go_roundw
     case rel=>
      refine⟨i+1,j+1,by omega,rfl,rfl,?_⟩;exact DS.out
     case measure=>simp[intOf];omega
   ·obtain rfl:j=l.length:=by omega
    obtain⟨q1,q2,M,q3,q4,q5⟩:=DA;have HQ:Hid (i=(it ns l).length):=by show i=_;rw[q1,bY (ay _)]
    clear q1;rw[bY (ay _),List.drop_of_length_le (ay _)]at q4
    obtain⟨N2,p1,p2,p3,p4,p5⟩:∃N2,wr.heap[g]?=some (.cells N2 249 (0,0))/\N2.size=c*4/\c<=maxLen/\l.length<=c/\Hid (N2.toList.take (i*4)=(it ns l).flatMap du):=by
     rcases q4.2 with⟨q,_⟩|⟨g',cap,N2,q,r1,r2,r3,r4,r5,r6⟩
     ·cases q
     ·cases q
      refine⟨N2,r2,r5,r4,r3,?_⟩;show _=_;have e1:N2.toList.take (i*4)=(N2.toList.take (l.length*4)).take (i*4):=by rw[List.take_take,Nat.min_eq_left (by omega)]
      have e2:i*4=((it ns l).flatMap du).length:=by rw[lO,<-HQ.out]
      rw[e1,r6,aW,e2,List.take_left]
    have HCl:∀ty dc,(Builtin.clear_ #[181] ty #[.slice (some ⟨g,i*4,none⟩) (l.length-i) dc]).run Tryz.prog wr= .ok (.tuple #[]) (wr.setRow g (N2.toList.take (i*4)++kB (l.length-i)++N2.toList.drop (i*4+(l.length-i)*4)).toArray):=fun ty dc=>rQ wr ty g (i*4) (l.length-i) dc N2 (by omega) p1 (by rw[p2];omega)
    have Oj:i<l.length:=by omega
    clear q4;go_wp2;go_ret;have Oc:(kB (l.length-i)).length=(l.length-i)*4:=by simp[kB,Builtin.zeroCells]
    refine⟨_,rfl,rfl,?_,ii q5 (.inl rfl)⟩;rw[<-HQ.out];refine⟨by rw[lO,<-HQ.out],.inr ⟨g,c,_,rfl,aM _,setRow_heap _ _ _ _ _ _ p1,by omega,p3,?_,?_⟩⟩
    ·simp[Oc,p2];omega
    ·have e1:i*4=(N2.toList.take (i*4)).length:=by rw[be];simp[p2];omega
     have e2:∀A B:List Value,A.length=i*4->(A++B).take (i*4)=A:=fun A B h=>by rw[<-h,List.take_left]
     rw[List.toList_toArray,e2 _ _ e1.symm];exact p5.out
def PM.without (m:PM)(ns:List Int):PM:= .mk (m.fs.filter fun f=>decide (f.1∉ns)) m.unk
theorem ro (m:PM)(n:Int):m.without [n]=m.put n []:=by
 show PM.mk _ _=PM.mk (iG n [] true m.fs) m.unk;rw[j8];simp
theorem mA (S:dG)(k:Nat)(T:Option MT)(w:an)(Z:ap)(db:Nat)(m:PM)(nv:Value)(ns:List Int)(h:dB S (k+1) T w Z db m)(hnr:w.ownsRow 0 3 1 nv ns.length (eL ns))(hnl:ns.length<=4194304)(hnz:∀b,nv.ownBlock=some b->¬Z b):
  Calls Tryz.prog 184 #[ag db,nv] w (ir S k T w Z db (m.without ns)):=by
 obtain⟨na,nn,nc,rfl⟩:=df hnr;obtain⟨sv,uv,l,Y,hy,hs⟩:=h;obtain⟨B0,KB⟩:=di w #[.slice na nn nc] 35;have N3:=hy.keep (fun b _ hb=>B0.block b hb);have Oc:=kA hs (fun b _ hb=>B0.block b hb);have Od:=dz hnr fun b hb=>B0.block b (hnr.lt b hb).2
 have Oe:=hy.c.row.lt;have hdl:=hy.c.blk.lt;have hD:=Dj _ sv l w.heap.size (.slice na nn nc) ns N3.c.row N3.c.form N3.c.len KB Od hnl (fun e=>by have:=(Oe _ e).2;omega) (fun b hb e=>hnz b hb (hy.zs b e));obtain⟨sa,sn,sc,rfl⟩:=df hy.c.row;obtain⟨k1,k2⟩:=N3.c.blk.rules;have Of:=hy.yl;have hsz:w.heap.size<=(w.alloc (ak #[.slice na nn nc] 35)).heap.size:=B0.size;clear hs;unfold tt at hD;go_enter Tryz.func184,Tryz.ntmps184
 go_wp2_with fail
 generalize w.alloc (ak #[.slice na nn nc] 35)=w0 at*;refine hD.mono ?_;rintro e w1 ⟨v',rfl,hv,N8,hg⟩;obtain⟨ra,rn,rc,rfl⟩:=df N8;clear k1 k2;have Oa:w1.heap[db]?=w0.heap[db]?:=hg.block db N3.c.blk.lt (fun e=>hy.c.ne e.symm);have N7:de w1 db #[.slice sa sn sc,uv] 183:=Oa.trans N3.c.blk;obtain⟨k1,k2⟩:=N7.rules;go_wp2;go_end0
 have N2:∀b,b<w0.heap.size->b≠db->(Value.slice sa sn sc).ownBlock≠some b->(w1.setCell (ai db 0) (.slice ra rn rc)).heap[b]?=w0.heap[b]?:=fun b hb Og Oh=>by
  rw[dd,if_neg (fun e=>Og e.symm)];exact hg.block b hb (fun e=>Oh e.symm)
 have Ob:(Value.slice ra rn rc).ownBlock≠some db:=by rw[hv];exact hy.c.ne
 have s0:d9 w Z w0 Z:=(d9.refl w Z).below B0;refine⟨rfl,Z,s0.trans ⟨hg.os,hg.tape,hg.output,by simpa using hg.size,fun b hb hz=>N2 b hb (fun e=>hz (e▸hy.zd)) (fun e=>hz (hy.zs b e)),fun b hb=> .inl hb⟩,?_⟩;refine⟨.slice ra rn rc,uv,it ns l,Y,⟨⟨⟨N7.set 0 _,?_,fun x hx=>hy.c.form x (List.mem_filter.1 hx).1,hy.c.srt.filter _,Ob,aG Fc hy.c.len⟩,?_,hy.zd,fun b hb=>hy.zs b (hv▸hb),hy.zu,fun b hb=>hy.su b (hv▸hb),hy.ud⟩,hy.yz,?_,hy.yd,fun b hb=>hy.ys b (hv▸hb),hy.yu⟩,?_⟩
 ·refine dz N8 fun b hb=> ?_
  rw[dd,if_neg (fun e=>Ob (by rw[hb,e]))]
 ·exact dz N3.un fun b hb=>N2 b (N3.un.lt b hb).2 (fun e=>hy.ud (e▸hb)) (fun e=>hy.su b e hb)
 ·intro b hb;have h1:=Of b hb;have h2:=hg.size;simp;omega
 ·refine kA ?_ (fun b hb hl=>N2 b hl (fun e=>hy.yd (e▸hb)) (fun e=>hy.ys b e hb));exact Oc.filter fun x f A hx=>by rw[tu,hx.1]
end
end Go.Proofs.YtfebdimolnobaaaGreatDoor
