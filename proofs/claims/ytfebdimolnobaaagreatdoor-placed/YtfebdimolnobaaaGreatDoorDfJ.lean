import Derived.Test.YtfebdimolnobaaaGreatDoorDfR
set_option maxRecDepth 100000
set_option maxHeartbeats 8000000
set_option linter.all false
namespace Go.Proofs.YtfebdimolnobaaaGreatDoor
open Go.RowKit
section
attribute [local go_sem↓] Go.wp_at_zero Go.wp_at_succ
theorem tF (S:dG)(k:Nat)(T:Option MT)(w:an)(Z:ap)(db:Nat)(m:PM)(n:Int)(v:LV)(h:dB S (k+1) T w Z db m)(hok:lM S T n .vals)(hkd:(∀kd,lM S T n kd->kd= .vals)\/∀f∈m.fs,f.1≠n)(hl:m.fs.length<4194304)(hvl:(m.get n).length<4194304):
  Calls Tryz.prog 268 #[ag db,aa n,rN v] w (ir S k T w Z db (m.put n (m.get n++ [nx v]))):=by
 obtain⟨i0,Oi,Oj,Ok,Ol⟩:=info_parts Tryz.infoV;obtain⟨sv,uv,l,Y,hy,hs⟩:=h;obtain⟨B0,KB⟩:=di w #[.int .u64 v.1,ae v.2,ah,ae ⟨#[]⟩] 55;have hdl:=hy.c.blk.lt;have Oq:=hy.c.row.lt;have Ob:=hy.keep (fun b _ hb=>B0.block b hb);have Of:=kA hs (fun b _ hb=>B0.block b hb);have hS:=qH _ db sv uv l n Ob.c (by rw[hs.len];exact hl);have hAl:∀b,Y b->b<w.heap.size:=hy.yl;clear hs hy;unfold rN;go_enter Tryz.func268,Tryz.ntmps268
 go_wp2_with fail
 generalize w.alloc (ak #[.int .u64 v.1,ae v.2,ah,ae ⟨#[]⟩] 55)=w0 at*;refine hS.mono ?_;rintro e w1 hR;obtain⟨g,c,pre,x,post,A,B,fp,fq,rfl,O,st,hAY,K⟩:=ny Ob Of hR;clear hR Ob Of hS
 have Og:=KB.kept K (by
  simp only[aL,cB,not_or]
  exact⟨by omega,fun e=>by have:=(Oq _ e).2;omega⟩)
 obtain⟨k1,k2⟩:=Og.rules;obtain⟨⟨x2,x3⟩,hx⟩:=O.ofVals hkd;obtain⟨c0,c1,c2,c3,cf⟩:=O.cells rfl;have Oh:=(O.y.c.row.lt g rfl).2;have hgn:w.heap.size<w1.heap.size:=Og.lt
 have N3:∀(w' w9:an) (src:Option Nat),aj w1 w'->w'.grownBy w9 src->(∀b,src=some b->A b)->w9.heap[g]?=w1.heap[g]?:=fun w' w9 src hB hg hs=>
  (hg.block g (aC Oh hB.size) (fun e=>O.y.ys g rfl (.inl (hs g e.symm)))).trans (hB.block g Oh)
 have HC:Hid (∀(w' w9:an) (src:Option Nat),aj w1 w'->w'.grownBy w9 src->(∀b,src=some b->A b)->w9.heap[g]?=w1.heap[g]?):=N3;clear N3
 have HF:Hid (∀(w' w9:an) (src:Option Nat) (gg cap N:Nat) (cs:aq) (lv:List LV),aj w1 w'->w'.grownBy w9 src->(∀b,src=some b->A b)->w9.ownsRow 0 55 4 (.slice (some (ai gg 0)) N cap) N cs->N=lv.length+1->cs=lv.flatMap jX++jX v->m.get n=lv.map nx->(src=some gg\/gg=w1.heap.size+1)->
   ir S k T w Z db (m.put n (m.get n++ [nx v])) (.returned (.tuple #[])) (w9.setCell (ai g (pre.length*4+1)) (.slice (some (ai gg 0)) N cap))):=by
  intro w' w9 src gg cap N cs lv hB hg hs Oc hN Ov Ow Ox;obtain⟨Z',h1,h2⟩:=O.vals (lv:=lv++ [v]) hs (by simp) hB hg Oc (by rw[hN];simp) (by rw[Ov];simp) (Ox.imp id (fun e=>by omega)) hok x2 x3;rw[Ow];refine⟨rfl,Z',?_,by simpa using h2⟩;have s0:d9 w Z w0 Z:=(d9.refl w Z).below B0;exact(s0.trans st).trans h1
 rcases hx with⟨x1,Om⟩|⟨gv,cc,lv,hne,x1,Oo,Od,Oa⟩
 ·rw[x1]at c1;have BB:aj w1 (w1.drew.alloc (ak #[.int .u64 v.1,ae v.2,ah,ae ⟨#[]⟩] 55)):=((Below.refl _ _).drew).alloc (ay _) _;have Ot:Hid (m.get n= []):=Om;clear c0 c2 c3 x1 Om;go_upto_region 2 with fail
  go_region_law (first|(refine step_append_lies _ (by rfl) _ _ _ (by rfl) 0 55 i0 _ 4 64 Tryz.underlying56 Oi Oj Ok Ol rfl (by omega) (ah) 0 [] (by rfl) (aX _ _ _ _) (ai w1.heap.size 0) 1 1 [_,_,_,_] (by rfl) (by rfl) (bl (t:=55) (fr:=(0,0)) (heap_alloc_new w1.drew _)) (by simp[Value.oneCell']) (by omega) (by unfold maxLen;omega) (by omega) (by omega) (w1.heap.size+1) (by simp) ?_;intro gg cap w9 N7 N2 N8 Oe;obtain⟨z0,z1,z2,z3,zf⟩:=O.cells (HC.out _ w9 _ BB N2 (fun b e=>by cases e))))
  all_goals
   go_end0;exact HF.out _ w9 _ gg cap _ _ [] BB N2 (fun b e=>by cases e) N7 rfl rfl Ot.out N8
 ·rw[x1]at c1;have BB:aj w1 (w1.drew.alloc (ak #[.int .u64 v.1,ae v.2,ah,ae ⟨#[]⟩] 55)):=((Below.refl _ _).drew).alloc (ay _) _;have hgvl:=(Oa.lt gv rfl).2;have hll:lv.length<4194304:=by rw[Od]at hvl;simpa using hvl
  have Ou:Hid (m.get n=lv.map nx):=Od;clear c0 c2 c3 x1 Od hvl;go_upto_region 2 with fail
  go_region_law (first|(refine step_append_lies _ (by rfl) _ _ _ (by rfl) 0 55 i0 _ 4 64 Tryz.underlying56 Oi Oj Ok Ol rfl (by omega) (.slice (some (ai gv 0)) lv.length cc) lv.length (lv.flatMap jX) (by rfl) (Oa.drew.alloc _) (ai w1.heap.size 0) 1 1 [_,_,_,_] (by rfl) (by rfl) (bl (t:=55) (fr:=(0,0)) (heap_alloc_new w1.drew _)) (by simp[Value.oneCell']) (by omega) (by unfold maxLen;omega) (by omega) (by omega) (w1.heap.size+1) (by simp) ?_;intro gg cap w9 N7 N2 N8 Oe;obtain⟨z0,z1,z2,z3,zf⟩:=O.cells (HC.out _ w9 _ BB N2 (fun b e=>by cases e;exact Oo))))
  all_goals
   go_end0;exact HF.out _ w9 _ gg cap _ _ lv BB N2 (fun b e=>by cases e;exact Oo) N7 rfl rfl Ou.out N8
structure lR (w:an)(B:Nat)(S:dG)(mp:am->Option Nat)(k:Nat)(d:MT)(Z:ap)(rb db:Nat)(b:am)(e a z deep:Nat)(m:PM):Prop where
 cx:p8 w B S mp
 hr:dn w rb (b.extract 0 e) z deep
 hd:dB S (k+1) (some d) w Z db m
 hZ:∀x,Z x->B<=x/\x<w.heap.size
 rB:B<=rb
 rZ:¬Z rb
 az:a<z
 ze:z<=e
 eb:e<=b.size
 bs:b.size<=4000000
 wm:WM S a d m
theorem lS {S:dG}{d:MT}{f:ek}(hf:dv d.fs f.num=some f)(hk:mJ S f= .vals):lM S (some d) f.num .vals/\∀kd,lM S (some d) f.num kd->kd= .vals:=
 ⟨fun d' f' e1 e2=>by cases e1;rw[hf]at e2;cases e2;exact hk.symm,fun kd q=>by rw[q d f rfl hf,hk]⟩
theorem jo {S:dG}{mp:am->Option Nat}{d:MT}{f:ek}{g:GF}(fg:FG S mp d f g)(h4:g.form≠4)(hb:S.base f.ty<=15):mJ S f= .vals/\ed S f=none/\f.isMap=false:=by
 have hm:f.isMap=false:=by rw[fg.map];simp[h4]
 have hs:ed S f=none:=by
  unfold ed;rw[hm]
  cases hq:S.msg f.ty with
  |none=>rfl
  |some x=>have:=fg.nest.2 (by rw[hq];rfl);omega
 exact⟨by unfold mJ;rw[hm,hs];rfl,hs,hm⟩
theorem dF.dr {S:dG}{k:Nat}{T:Option MT}{w w':an}{Z:ap}{rb db:Nat}{m:PM}(h:dB S k T w Z db m)(hk:dl [rb] w w')(hr:¬Z rb):dB S k T w' Z db m:=
 h.keep fun b q hl=>hk.block b hl (by simp;exact fun e=>hr (e▸q))
def Fl (m:PM)(n:Int):Fx (LV×Nat)->Fx (PM×Nat)
 | .error x=> .error x
 | .ok x=> .ok (m.put n (m.get n++ [nx x.1]),x.2)
theorem eT {w:an}{P:ap}{mp:am->Option Nat}{g:GF}{pv:Value}(h:if g.form=4 then∃eb,pv=ft (some eb)/\jQ w P mp g.f.key g.f.ty eb else pv=ft (uK mp g.f.ty)):∃q,pv= .pointer q:=by
 split at h
 ·obtain⟨eb,rfl,_⟩:=h;exact⟨_,rfl⟩
 ·subst h;unfold ft
  split<;>exact⟨_,rfl⟩
theorem AT (w:an)(B:Nat)(S:dG)(mp:am->Option Nat)(k:Nat)(d:MT)(f:ek)(g:GF)(fb:Nat)(Z:ap)(rb db:Nat)(b:am)(e a z deep F:Nat)(num:Int)(m:PM)
  (I:lR w B S mp k d Z rb db b e a z deep m) (hfa:dP w (fun b=>b<B) mp g fb) (fg:FG S mp d f g) (hf:g.form=2) (hb:S.base f.ty<=15) (hff:dv d.fs f.num=some f):
  Calls Tryz.prog 192 #[ag fb,aa (dL (S.base f.ty)),ag rb,ag db] w (fK S k d w Z rb db (b.extract 0 e) deep (ip S b F d f m deep (eh (b.extract 0 e) a num (dL (S.base f.ty)) z))):=by
 have N8:ip S b F d f m deep (eh (b.extract 0 e) a num (dL (S.base f.ty)) z)=Fl m f.num (eO (b.extract 0 e) z (S.base f.ty)):=by
  rw[Cl fg hf hb I.eb]
  cases eO (b.extract 0 e) z (S.base f.ty)<;>rfl
 rw[N8];clear N8;obtain⟨pv,rv,h1,hfB,_,Ob⟩:=hfa.blk;have Oc:dC mp g=S.base f.ty:=by unfold dC;rw[if_neg (by omega),fg.eq,fg.base]
 rw[Oc,fg.eq]at h1;obtain⟨Oi,_,_⟩:=jo fg (by omega) hb;obtain⟨ok1,ok2⟩:=lS hff Oi;have hes:(b.extract 0 e).size=e:=eG I.eb;have hl:=I.wm.len;have hab:=I.az;have hze:=I.ze;have heb:=I.eb;have hbs:=I.bs;have Od:rb<w.heap.size:=de.lt I.hr;have hW:=nj w (S.base f.ty) pv (by omega)
 have hV:∀w1,dn w1 rb (b.extract 0 e) z deep->UOK w1->Calls Tryz.prog 194 #[.agg #[aa (S.base f.ty),pv],ag rb] w1 (ni w1 rb (b.extract 0 e) deep (eO (b.extract 0 e) z (S.base f.ty)) rN):=
  fun w1 h1 h2=>nr w1 rb _ z deep _ pv h1 (by omega) (by omega) hb h2 (by have:=I.cx.u1;have:=I.rB;omega) (by have:=I.cx.u2;have:=I.rB;omega)
 obtain⟨R,hR⟩:∃R,eO (b.extract 0 e) z (S.base f.ty)=R:=⟨_,rfl⟩;rw[hR]at hV⊢;have HR:Hid (eO (b.extract 0 e) z (S.base f.ty)=R):=hR;clear hR;obtain⟨k1,k2⟩:=h1.rules;obtain⟨pq,rfl⟩:=eT Ob;clear Ob;go_enter Tryz.func192,Tryz.ntmps192
 go_wp2_with fail
 refine hW.mono ?_;rintro en w2 ⟨rfl,B2⟩;have h2:=h1.below B2 h1.lt;have Oe:dn w2 rb (b.extract 0 e) z deep:=de.below I.hr B2 Od;have Of:UOK w2:=(I.cx.on (B2.mono I.cx.le)).u;have Og:=I.hd.keep (fun x _ q=>B2.block x q);obtain⟨k3,k4⟩:=h2.rules;clear k1 k2 hW;have Oh:de w2.drew fb #[aa f.num,aa g.form,aa (S.base f.ty),.pointer pq,rv] 220:=h2;have hfl:fb<w2.heap.size:=h2.lt;have N3:dB S (k+1) (some d) w2.drew Z db m:=Og.keep (fun _ _ _=>rfl);have hrb:=I.rB;have Oa:=I.rZ
 have hA:∀w3:an,∀v:LV,dB S (k+1) (some d) w3 Z db m->Calls Tryz.prog 268 #[ag db,aa f.num,rN v] w3 (ir S k (some d) w3 Z db (m.put f.num (m.get f.num++ [nx v]))):=
  fun w3 v Oj=>tF S k (some d) w3 Z db m f.num v Oj ok1 (.inl ok2) (by omega) (by have:=hl.2.2 f.num;omega)
 go_upto_region 1 with fail
 go_region_with
  (first
   |(
     go_at_call 194
     refine(hV w2.drew Oe Of).mono ?_;intro en w3 hq
     rcases hq.part with⟨x,rfl,rfl,N2⟩|⟨x,rfl,rfl,N2,Ok⟩
     ·unfold da;go_wp2;exact⟨rfl,rfl,Z,(dF.of_below B2.drew).trans (.of_kept N2)⟩
     have h3:=Oh.kept N2 (by simp;omega)
     obtain⟨k5,k6⟩:=h3.rules)
   |(
     go_at_call 268
     refine(hA w3 x.1 (dF.dr N3 N2 Oa)).mono ?_;rintro en w4 ⟨rfl,Z4,N7,Ol⟩;have h4:=h3.step N7 (fun q=>by have:=(I.hZ fb q).1;omega)
     obtain⟨k7,k8⟩:=h4.rules))
 all_goals
  go_wp2;go_end0;refine⟨rfl,Z4,((dF.of_below B2.drew).trans (.of_kept N2)).trans (.of_step N7),Ol,?_⟩;exact de.step Ok N7 Oa
def Fm (m:PM)(n:Int)(e:Nat):Fx (List PV)->Fx (PM×Nat)
 | .error x=> .error x
 | .ok l=> .ok (m.put n l,e)
def nD (k:Nat)(b:am)(n:Int)(m:PM):Fx (Nat×Nat)->Fx (PM×Nat)
 | .error x=> .error x
 | .ok y=>Fm m n y.2 (e7 b k y.2 (y.2-y.1) (m.get n) y.1)
theorem BT.part {w:an}{rb:Nat}{s:am}{deep:Int}{r:Fx (Nat×Nat)}{e:Ending}{w':an}(h:BT w rb s deep r e w'):
  (∃x,r= .error x/\e=da x.1 x.2/\dl [rb] w w')\/∃x nb,r= .ok x/\e= .returned (ag nb)/\dl [rb] w w'/\w.heap.size<=nb/\nb≠rb/\dn w' nb (s.extract 0 x.2) x.1 deep/\dn w' rb s x.2 deep:=by
 obtain⟨h1,h2⟩:=h
 cases r with
 |error x=>exact .inl ⟨x,rfl,h2,h1⟩
 |ok x=>
  obtain⟨nb,q1,q2,q3,q4,q5⟩:=h2;exact .inr ⟨x,nb,rfl,q1,h1,q2,q3,q4,q5⟩
def jM (w:an)(nb e:Nat):Nat:=
 match w.cell? (ai nb 1)with
 |some (.int _ n)=>((e:Int)-n).toNat
 |_=>0
theorem fO {w:an}{nb a e:Nat}{s:am}{deep:Int}(h:dn w nb s a deep):jM w nb e=e-a:=by
 unfold jM;rw[de.cell h];simp
structure JF (S:dG)(k:Nat)(d:MT)(B:Nat)(w wr:an)(Z Z':ap)(rb nb db fb y1 y2:Nat)(b s:am)(deep:Nat)(fcs:Array Value)(bs:Nat)(m:PM)(n:Int)(a:Nat)(l:List PV)(F:Nat)(P:Fx (List PV)):Prop where
 st:dF w Z rb wr Z'
 rn:dn wr nb (b.extract 0 y2) a deep
 rr:dn wr rb s y2 deep
 dr:dB S (k+1) (some d) wr Z' db (m.put n l)
 fd:de wr fb fcs 220
 lo:y1<=a
 hi:a<=y2
 ll:l.length<=a
 eq:Hid (P=e7 b bs y2 F l a)
 fu:y2-a<=F
 zz:∀x,Z' x->B<=x/\x<wr.heap.size
 zn:¬Z' nb
theorem dF.keptN {a b c:an}{Z Y:ap}{rb nb:Nat}(h:dF a Z rb b Y)(k:dl [nb] b c)(hn:a.heap.size<=nb):dF a Z rb c Y:=
 ⟨k.os.trans h.os,k.tape.trans h.tape,k.output.trans h.output,aG h.size k.size,fun i hi q1 q2=>(k.block i (aC hi h.size) (by simp;omega)).trans (h.block i hi q1 q2),h.grow⟩
theorem AU (w:an)(B:Nat)(S:dG)(mp:am->Option Nat)(k:Nat)(d:MT)(f:ek)(g:GF)(fb:Nat)(Z:ap)(rb db:Nat)(b:am)(e a z deep F:Nat)(num:Int)(m:PM)
  (I:lR w B S mp k d Z rb db b e a z deep m) (hfa:dP w (fun b=>b<B) mp g fb) (fg:FG S mp d f g) (hf:g.form=2) (hb:S.base f.ty<=15) (hw:dL (S.base f.ty)≠2) (hff:dv d.fs f.num=some f):
  Calls Tryz.prog 192 #[ag fb,aa 2,ag rb,ag db] w (fK S k d w Z rb db (b.extract 0 e) deep (ip S b F d f m deep (eh (b.extract 0 e) a num 2 z))):=by
 have Oc:ip S b F d f m deep (eh (b.extract 0 e) a num 2 z)=nD (S.base f.ty) b f.num m (dS (b.extract 0 e) z):=by
  rw[zi fg hf hw]
  cases dS (b.extract 0 e) z with
  |error x=>rfl
  |ok y=>simp only[nD];cases e7 b (S.base f.ty) y.2 (y.2-y.1) (m.get f.num) y.1<;>rfl
 rw[Oc];clear Oc;obtain⟨pv,rv,h1,hfB,_,Oy⟩:=hfa.blk;have OA:dC mp g=S.base f.ty:=by unfold dC;rw[if_neg (by omega),fg.eq,fg.base]
 rw[OA,fg.eq]at h1;obtain⟨OT,_,_⟩:=jo fg (by omega) hb;obtain⟨ok1,ok2⟩:=lS hff OT;have OB:(b.extract 0 e).size=e:=eG I.eb;have hl:=I.wm.len;have hab:=I.az;have hze:=I.ze;have heb:=I.eb;have hbs:=I.bs;have OC:=I.rB;have Oj:=I.rZ;have hu1:=I.cx.u1;have hu2:=I.cx.u2;have Ok:rb<w.heap.size:=de.lt I.hr;have hW:=nj w (S.base f.ty) pv (by omega);have Ol:∀w2,dn w2 rb (b.extract 0 e) z deep->Calls Tryz.prog 197 #[ag rb] w2 (BT w2 rb (b.extract 0 e) deep (dS (b.extract 0 e) z)):=fun w2 h=>lK w2 rb _ z deep h (by omega)
 have N2:=I.hd.srt;obtain⟨R,hR⟩:∃R,dS (b.extract 0 e) z=R:=⟨_,rfl⟩;rw[hR]at Ol⊢;have HR:Hid (dS (b.extract 0 e) z=R):=hR;clear hR;obtain⟨pq,rfl⟩:=eT Oy;clear Oy;obtain⟨k1,k2⟩:=h1.rules;have hne:((2:Int)==(dL (S.base f.ty):Int))=false:=by simp;omega
 go_enter Tryz.func192,Tryz.ntmps192
 go_wp2_with fail
 refine hW.mono ?_;rintro en w2 ⟨rfl,B2⟩;have h2:=h1.below B2 h1.lt;have OD:dn w2 rb (b.extract 0 e) z deep:=de.below I.hr B2 Ok;have OE:=I.hd.keep (fun x _ q=>B2.block x q);clear k1 k2 hW;go_wp2_with fail
 refine(Ol w2 OD).mono ?_;intro en w3 hq
 rcases hq.part with⟨x,rfl,rfl,N7⟩|⟨y,nb,rfl,rfl,N7,OU,OV,Ob,Oh⟩
 ·unfold da;go_wp2;exact⟨rfl,rfl,Z,(dF.of_below B2).trans (.of_kept N7)⟩
 obtain⟨y1,y2⟩:=y;obtain⟨v0,v1,v2⟩:=gq HR.out;rw[OB]at v2;have OF:(b.extract 0 e).extract 0 y2=b.extract 0 y2:=iE I.eb v2;simp only[OF]at Ob;have Om:(b.extract 0 y2).size=y2:=eG (by omega);have h3:=h2.kept N7 (by simp;omega);have OG:=dF.dr OE N7 Oj;have Oo:w.heap.size<=nb:=aG B2.size OU;have OH:=I.cx.le
 have P0:JF S k d B w w3 Z Z rb nb db fb y1 y2 b (b.extract 0 e) deep #[aa f.num,aa g.form,aa (S.base f.ty),.pointer pq,rv] (S.base f.ty) m f.num y1 (m.get f.num) (y2-y1) (e7 b (S.base f.ty) y2 (y2-y1) (m.get f.num) y1):=
  ⟨(dF.of_below B2).trans (.of_kept N7),Ob,Oh,by rw[Cn N2.1 N2.2];exact OG,h3,ay _,v1,by have:=hl.2.2 f.num;omega,rfl,ay _,fun x q=>⟨(I.hZ x q).1,aC (I.hZ x q).2 (aG B2.size N7.size)⟩,fun q=>by have:=(I.hZ nb q).2;omega⟩
 obtain⟨P,hP⟩:∃P,e7 b (S.base f.ty) y2 (y2-y1) (m.get f.num) y1=P:=⟨_,rfl⟩
 have HQ:Hid (nD (S.base f.ty) b f.num m (.ok (y1,y2))=Fm m f.num y2 P):=by
  show Fm m f.num y2 (e7 b (S.base f.ty) y2 (y2-y1) (m.get f.num) y1)=_;rw[hP]
 rw[hP]at P0;clear hP;go_wp2;go_loopw [30] (fun _ wr=>∃Z' a' l F',JF S k d B w wr Z Z' rb nb db fb y1 y2 b (b.extract 0 e) deep #[aa f.num,aa g.form,aa (S.base f.ty),.pointer pq,rv] (S.base f.ty) m f.num a' l F' P) (fun _ wr=>jM wr nb y2)
 case atStart=>exact⟨Z,y1,_,_,P0⟩
 case round=>
  obtain⟨Z',a',l,F',O⟩:=hrel;have hM:=ph wr nb _ a' deep O.rn;rw[Om]at hM;have hlo:=O.lo;have hhi:=O.hi;have hll:=O.ll;go_wp2_with fail
  refine hM.mono ?_;rintro en w4 ⟨rfl,q,rfl⟩
  by_cases hlt:a'<y2
  ·have hd:decide (a'<y2)=true:=decide_eq_true hlt;obtain⟨F2,rfl⟩:∃F2,F'=F2+1:=⟨F'-1,by have:=O.fu;omega⟩;have Oq:Below B w wr:=O.st.below OH (fun x q=>(I.hZ x q).1) OC;have hu:UOK (wr.drewN q).drew:=(I.cx.on Oq).u
   have hV:∀w1,dn w1 nb (b.extract 0 y2) a' deep->UOK w1->Calls Tryz.prog 194 #[.agg #[aa (S.base f.ty),.pointer pq],ag nb] w1 (ni w1 nb (b.extract 0 y2) deep (eO (b.extract 0 y2) a' (S.base f.ty)) rN):=
    fun w1 h1 h2=>nr w1 nb _ a' deep _ _ h1 (by omega) (by omega) hb h2 (by omega) (by omega)
   have OI:S.base f.ty≠13:=fun q=>hw (by rw[q];rfl)
   have OJ:S.base f.ty≠14:=fun q=>hw (by rw[q];rfl)
   have Od:eO (b.extract 0 y2) a' (S.base f.ty)=match eX (b.extract 0 y2) a' (S.base f.ty)with| .error x=> .error x| .ok x=> .ok ((x.1,⟨#[]⟩),x.2):=by
    unfold eO;rw[if_neg OI,if_neg OJ]
    cases eX (b.extract 0 y2) a' (S.base f.ty)<;>rfl
   have Oe:=vH (k:=S.base f.ty) (F:=F2) (l:=l) (show y2<=b.size by omega) hlt
   have Oa:Hid (∀x,eO (b.extract 0 y2) a' (S.base f.ty)= .error x->nD (S.base f.ty) b f.num m (.ok (y1,y2))= .error x):=fun x hx=>by
    rw[HQ.out,O.eq.out,Oe];rw[Od]at hx
    cases hn:eX (b.extract 0 y2) a' (S.base f.ty)with
    |error y=>rw[hn]at hx;cases hx;rfl
    |ok y=>rw[hn]at hx;cases hx
   have Ot:Hid (∀x,eO (b.extract 0 y2) a' (S.base f.ty)= .ok x->P=e7 b (S.base f.ty) y2 F2 (l++ [nx x.1]) x.2):=fun x hx=>by
    rw[O.eq.out,Oe];rw[Od]at hx
    cases hn:eX (b.extract 0 y2) a' (S.base f.ty)with
    |error y=>rw[hn]at hx;cases hx
    |ok y=>rw[hn]at hx;cases hx;rfl
   clear Od Oe;have OL:dB S (k+1) (some d) (wr.drewN q).drew Z' db (m.put f.num l):=O.dr.keep (fun _ _ _=>rfl)
   have hA:∀w5:an,∀v:LV,dB S (k+1) (some d) w5 Z' db (m.put f.num l)->Calls Tryz.prog 268 #[ag db,aa f.num,rN v] w5 (ir S k (some d) w5 Z' db (m.put f.num (l++ [nx v]))):=fun w5 v OW=>by
    have h1:=PM.put_len m f.num l;have h2:=zj N2.1 f.num l;have:=tF S k (some d) w5 Z' db (m.put f.num l) f.num v OW ok1 (.inl ok2) (by omega) (by rw[h2];omega);rw[h2,Cm N2.1]at this;exact this
   obtain⟨Rv,Oi⟩:∃Rv,eO (b.extract 0 y2) a' (S.base f.ty)=Rv:=⟨_,rfl⟩
   have OM:Hid (∀x,Rv= .ok x->a'<x.2/\x.2<=y2):=fun x hx=>by
    have:=zh hb (Oi.trans hx);rw[Om]at this;exact⟨this.1,this.2.1⟩
   rw[Oi]at hV Oa Ot;clear Oi;have Ou:de (wr.drewN q).drew fb #[aa f.num,aa g.form,aa (S.base f.ty),.pointer pq,rv] 220:=O.fd;have hfl:fb<wr.heap.size:=de.lt O.fd;have ON:dn (wr.drewN q).drew nb (b.extract 0 y2) a' deep:=O.rn;have Oc:dn (wr.drewN q).drew rb (b.extract 0 e) y2 deep:=O.rr;have Ov:dF w Z rb (wr.drewN q).drew Z':=O.st.trans (.of_below (gC (Below.refl _ _) q).drew);have Of:=O.zn;have Ow:=O.zz;have OO:¬Z' rb:=O.st.not Ok Oj;obtain⟨k3,k4⟩:=Ou.rules;obtain⟨k9,k10⟩:=de.rules O.fd;have HM:Hid (jM wr nb y2=y2-a'):=fO O.rn;have OP:Hid (y2-a'<=F2+1):=O.fu;clear O hM;go_upto_region 4 with fail
   go_region_with
    (first
     |(
       go_at_call 194
       refine(hV (wr.drewN q).drew ON hu).mono ?_;intro en w5 OX
       rcases OX.part with⟨x,rfl,rfl,N3⟩|⟨x,rfl,rfl,N3,Oz⟩
       ·unfold da;go_wp2;rw[Oa.out x rfl];exact⟨rfl,rfl,Z',Ov.keptN N3 Oo⟩
       have h5:=Ou.kept N3 (by simp;omega)
       obtain⟨k5,k6⟩:=h5.rules)
     |(
       go_at_call 268
       refine(hA w5 x.1 (dF.dr OL N3 Of)).mono ?_;rintro en w6 ⟨rfl,Z6,N8,OY⟩;have h6:=h5.step N8 (fun q=>by have:=(Ow fb q).1;omega)
       obtain⟨k7,k8⟩:=h6.rules))
   all_goals
    have OQ:=OM.out x rfl;have Ox:dn w6 nb (b.extract 0 y2) x.2 deep:=de.step Oz N8 Of;have OR:=(Ov.keptN N3 Oo).trans (.of_step N8);have OS:dn w6 rb (b.extract 0 e) y2 deep:=de.step (de.kept Oc N3 (by simp;exact fun e=>OV e.symm)) N8 OO;have Og:nb<w5.heap.size:=de.lt Oz
    have PN:JF S k d B w w6 Z (fun i=>Z6 i/\i<w6.heap.size) rb nb db fb y1 y2 b (b.extract 0 e) deep #[aa f.num,aa g.form,aa (S.base f.ty),.pointer pq,rv] (S.base f.ty) m f.num x.2 (l++ [nx x.1]) F2 P:=
     ⟨OR.clip,Ox,OS,OY.clip,h6,by omega,OQ.2,by simp;omega,Ot.out x rfl,by have:=OP.out;omega,fun i q=>⟨(N8.grow i q.1).elim (fun e=>(Ow i e).1) (fun e=>by have h8:wr.heap.size<=w5.heap.size:=N3.size;have:=Oq.size;omega),q.2⟩,fun q=>N8.not Og Of q.1⟩
    go_wp2;go_roundw
    case rel=>exact⟨_,_,_,_,PN⟩
    case measure=>rw[HM.out,fO Ox];omega
  ·have hd:decide (a'<y2)=false:=decide_eq_false hlt
   have HE:Hid (nD (S.base f.ty) b f.num m (.ok (y1,y2))= .ok (m.put f.num l,y2)):=by
    show _=_;rw[HQ.out,O.eq.out]
    have:e7 b (S.base f.ty) y2 F' l a'= .ok l:=by
     cases F' with
     |zero=>rfl
     |succ F'=>rw[e7,if_neg hlt]
    rw[this];rfl
   go_wp2;go_end0;rw[HE.out];exact⟨rfl,Z',O.st.trans (.of_below (gC (Below.refl _ _) q)),O.dr.keep (fun _ _ _=>rfl),O.rr⟩
end
def Fo (S:dG)(mp:am->Option Nat)(B:Nat)(b:am)(F:Nat):Prop:=
 ∀(w:an) (Z:ap) (sub:MT) (m:PM) (a e deep k mb:Nat) (gs:List GF) (nm:am) (rb db:Nat),p8 w B S mp->gD w (fun b=>b<B) mp mb nm gs->ja S mp sub gs->jB S sub->dn w rb (b.extract 0 e) a deep->dB S (k+1) (some sub) w Z db m->
  (∀x,Z x->B<=x/\x<w.heap.size)->B<=rb->¬Z rb->a<=e->e<=b.size->e-a<F->k+deep=8->WM S a sub m->
  Calls Tryz.prog 83 #[ag mb,ag rb,ag db] w (fK S k sub w Z rb db (b.extract 0 e) deep (lQ e (dQ S b F sub m a e deep)))
theorem lR.on {w w1:an}{B:Nat}{S:dG}{mp:am->Option Nat}{k:Nat}{d:MT}{Z Z1:ap}{rb db:Nat}{b:am}{e a z deep:Nat}{m m1:PM}(I:lR w B S mp k d Z rb db b e a z deep m)(st:dF w Z rb w1 Z1)(hd:dB S (k+1) (some d) w1 Z1 db m1)(hr:dn w1 rb (b.extract 0 e) z deep)(hw:WM S a d m1):
  lR w1 B S mp k d (fun i=>Z1 i/\i<w1.heap.size) rb db b e a z deep m1:=
 ⟨I.cx.on (st.below I.cx.le (fun x q=>(I.hZ x q).1) I.rB),hr,hd.clip,fun x q=>⟨(st.grow x q.1).elim (fun q=>(I.hZ x q).1) (fun q=>aG I.cx.le q),q.2⟩,I.rB,fun q=>st.not (de.lt I.hr) I.rZ q.1,I.az,I.ze,I.eb,I.bs,hw⟩
def H9 (sin:Bool)(m:PM)(n:Int):Fx (LV×Nat)->Fx (PM×Nat)
 | .error x=> .error x
 | .ok x=> .ok (if sin=true/\x.1.1=0/\gy x.1.2 eS=true then m.put n []else m.put n [nx x.1],x.2)
theorem Co {S:dG}{mp:am->Option Nat}{b:am}{F deep a z e:Nat}{num:Int}{d:MT}{f:ek}{g:GF}{m:PM}(fg:FG S mp d f g)(h4:g.form≠4)(h2:g.form≠2)(hb:S.base f.ty<=15)(he:e<=b.size):
  ip S b F d f m deep (eh (b.extract 0 e) a num (dL (S.base f.ty)) z)=H9 (decide (g.form=0)) (m.without g.riv) f.num (eO (b.extract 0 e) z (S.base f.ty)):=by
 rw[ti (b.extract 0 e) a num z _ hb]
 cases hr:eh (b.extract 0 e) a num (dL (S.base f.ty)) z with
 |error x=>rfl
 |ok r=>
  have hk:=kE (zg _) hr;obtain⟨_,_,h3,_⟩:=nC hr;rw[eG he]at h3;obtain⟨_,hs,hm⟩:=jo fg h4 hb;have N8:f.isRep=false:=by rw[fg.rep];simp[h2]
  simp only[ip,uS,yT];rw[if_pos (by unfold eZ;rw[hm];exact hk)];unfold rP rO;rw[hs];simp only;rw[yV rfl hb hk h3 he]
  cases uO (b.extract 0 e) (S.base f.ty) r with
  |error x=>rfl
  |ok v=>
   simp only[Cd,lQ,H9];unfold iw;rw[hm,N8,hs,fg.sin,tA,fg.riv];simp only[aK,if_false,Option.isNone_none,cD,aT,decide_eq_true_eq]
   by_cases h0:g.form=0
   ·have Oa:=fg.lone (by omega);rw[<-fg.riv,Oa,gJ];simp only[h0,true_and];rfl
   ·simp only[h0,false_and,if_false];rfl
theorem oj {S:dG}{mp:am->Option Nat}{d:MT}{f:ek}{g:GF}{sub:MT}{deep:Nat}(fg:FG S mp d f g)(hS:za S)(hs:ed S f=some sub)(hd:deep<=8):sO S sub (deep+1)=decide (8<(deep:Int)+iA mp g)/\0<=iA mp g/\iA mp g<=2/\dC mp g=16:=by
 unfold iA
 by_cases h4:g.form=4
 ·have N2:dC mp g=16:=by unfold dC;rw[if_pos h4]
  have hm:f.isMap=true:=by rw[fg.map,h4];rfl
  have Ob:sub=dW f:=by
   unfold ed at hs;rw[if_pos hm]at hs;exact(Option.some.inj hs).symm
  subst Ob
  have N3:sO S (dW f) (deep+1)=if deep+1=8 then(S.msg f.ty).isSome else decide (8<deep+1):=by
   unfold sO dW;have e1:gy eS eS=true:=by unfold gy;simp
   simp only[e1,cr,cz]
   by_cases q:deep+1=8
   ·simp[q]
   ·have q2:(deep+1 !=8)=true:=by simp;omega
    rw[q2,if_pos rfl,if_neg q]
  have N7:gQ mp g.f.ty=S.base f.ty:=by rw[fg.eq,fg.base]
  by_cases hn:S.base f.ty=16
  ·have hl:(if g.form=4/\gQ mp g.f.ty=16 then(2:Int)else if dC mp g=16 then 1 else 0)=2:=if_pos ⟨h4,by rw[N7];exact hn⟩;rw[hl,N3,fg.nest.1 hn];refine⟨?_,by omega,by omega,N2⟩
   split
   ·simp;omega
   ·rw[decide_eq_decide];omega
  ·have Oc:(S.msg f.ty).isSome=false:=by rw[bN];exact fun q=>hn (fg.nest.2 q)
   have hl:(if g.form=4/\gQ mp g.f.ty=16 then(2:Int)else if dC mp g=16 then 1 else 0)=1:=by rw[if_neg (fun q=>hn (by rw[<-N7];exact q.2)),if_pos N2]
   rw[hl,N3,Oc];refine⟨?_,by omega,by omega,N2⟩
   split
   ·simp;omega
   ·rw[decide_eq_decide];omega
 ·have hm:¬f.isMap=true:=by rw[fg.map];simp[h4]
  unfold ed at hs;rw[if_neg hm]at hs;have hb:S.base f.ty=16:=fg.nest.2 (by rw[hs];rfl);have N2:dC mp g=16:=by unfold dC;rw[if_neg h4,fg.eq,fg.base,hb]
  rw[if_neg (fun q=>h4 q.1),if_pos N2];refine⟨?_,by omega,by omega,N2⟩;unfold sO;rw[hS.name sub (jn hs)];simp;omega
def Dm (M:PM->PM)(e:Nat):Fx PM->Fx (PM×Nat)
 | .error x=> .error x
 | .ok sm=> .ok (M sm,e)
def rS (S:dG)(b:am)(F:Nat)(sub:MT)(m0:PM)(deep:Nat)(M:PM->PM):Fx (Nat×Nat)->Fx (PM×Nat)
 | .error x=> .error x
 | .ok y=>Dm M y.2 (dQ S b F sub m0 y.1 y.2 (deep+1))
theorem Cp {S:dG}{mp:am->Option Nat}{b:am}{F deep a z e:Nat}{num:Int}{d:MT}{f:ek}{g:GF}{sub:MT}{m:PM}(fg:FG S mp d f g)(hS:za S)(hs:ed S f=some sub)(hd:deep<=8):
  ip S b F d f m deep (eh (b.extract 0 e) a num 2 z)=rS S b F sub (eA f m).2.2 deep (fun sm=>iw S d f m ((eA f m).1,(eA f m).2.1,sm)) (kx (b.extract 0 e) z deep (iA mp g)):=by
 have e2:eh (b.extract 0 e) a num 2 z=_:=th (b.extract 0 e) a num z;rw[e2];unfold kx
 cases dS (b.extract 0 e) z with
 |error x=>rfl
 |ok y=>
  obtain⟨h1,_,_,h4⟩:=oj fg hS hs hd
  have hw:eZ S f=2:=by
   unfold eZ
   split
   ·rfl
   ·rename_i q
    unfold ed at hs;rw[if_neg q]at hs;have:=fg.nest.2 (by rw[hs];rfl);unfold dG.wire;rw[this];rfl
  simp only[ip,uS];rw[if_pos hw.symm];unfold rP rO AJ;rw[hs];simp only;rw[h1]
  by_cases q:8<(deep:Int)+iA mp g
  ·rw[if_pos q];simp[q,rS,Cd,lQ]
  ·rw[if_neg q];simp only[q,decide_false,aK,if_false,rS]
   cases dQ S b F sub (eA f m).2.2 y.1 y.2 (deep+1)<;>rfl
theorem EG.part {w:an}{rb:Nat}{s:am}{deep:Int}{r:Fx (Nat×Nat)}{e:Ending}{w':an}(h:EG w rb s deep r e w'):
  (∃x,r= .error x/\e=da x.1 x.2/\dl [rb] w w')\/∃x nb,r= .ok x/\e= .returned (ag nb)/\dl [rb] w w'/\w.heap.size<=nb/\nb≠rb/\dn w' nb (s.extract 0 x.2) x.1 (deep+1)/\dn w' rb s x.2 deep:=by
 obtain⟨h1,h2⟩:=h
 cases r with
 |error x=>exact .inl ⟨x,rfl,h2,h1⟩
 |ok x=>
  obtain⟨nb,q1,q2,q3,q4,q5⟩:=h2;exact .inr ⟨x,nb,rfl,q1,h1,q2,q3,q4,q5⟩
theorem qb {s:am}{z:Nat}{deep lv:Int}{y:Nat×Nat}(h:kx s z deep lv= .ok y):dS s z= .ok y/\deep+lv<=8:=by
 unfold kx at h
 cases hw:dS s z with
 |error x=>rw[hw]at h;cases h
 |ok x=>
  rw[hw]at h;simp only at h
  split at h
  ·cases h
  ·cases h
   exact⟨rfl,by omega⟩
section
attribute [local go_sem↓] Go.wp_at_zero Go.wp_at_succ
theorem Fp (w:an)(B:Nat)(S:dG)(mp:am->Option Nat)(k:Nat)(d:MT)(f:ek)(g:GF)(fb:Nat)(Z:ap)(rb db:Nat)(b:am)(e a z deep F:Nat)(num kind:Int)(m:PM)
  (I:lR w B S mp k d Z rb db b e a z deep m) (hfa:dP w (fun b=>b<B) mp g fb) (fg:FG S mp d f g) (hf:g.form=2) (hb:S.base f.ty<=15) (hff:dv d.fs f.num=some f) (hk:kind=dL (S.base f.ty)\/(kind=2/\dL (S.base f.ty)≠2)):
  Calls Tryz.prog 133 #[ag fb,aa kind,ag rb,ag db] w (fK S k d w Z rb db (b.extract 0 e) deep (ip S b F d f m deep (eh (b.extract 0 e) a num kind z))):=by
 obtain⟨pv,rv,h1,OG,N7,Oo⟩:=hfa.blk;have Ox:dC mp g=S.base f.ty:=by unfold dC;rw[if_neg (by omega),fg.eq,fg.base]
 have Oy:=fg.lone (by omega);rw[Oy]at N7;have hD:=mA S k (some d) w Z db m rv [] I.hd N7.1 (by simp) (fun x hx q=>by have:=N7.2 x hx;have:=(I.hZ x q).1;omega);rw[gJ]at hD
 have HR:∀w1 Z1,d9 w Z w1 Z1->dB S (k+1) (some d) w1 Z1 db m->Calls Tryz.prog 192 #[ag fb,aa kind,ag rb,ag db] w1 (fK S k d w Z rb db (b.extract 0 e) deep (ip S b F d f m deep (eh (b.extract 0 e) a num kind z))):=fun w1 Z1 st Od=>by
  have Ov:dF w Z rb w1 Z1:= .of_step st;have OF:=Ov.below I.cx.le (fun x q=>(I.hZ x q).1) I.rB;have I1:=I.on Ov Od (de.step I.hr st I.rZ) I.wm;have Oi:=hfa.keep (w':=w1) (fun x q _=>OF.block x q)
  rcases hk with rfl|⟨rfl,hw⟩
  ·exact(AT w1 B S mp k d f g fb _ rb db b e a z deep F num m I1 Oi fg hf hb hff).mono fun _ _ q=>q.pre Ov.clip
  ·exact(AU w1 B S mp k d f g fb _ rb db b e a z deep F num m I1 Oi fg hf hb hw hff).mono fun _ _ q=>q.pre Ov.clip
 rw[Ox,fg.eq,hf]at h1;obtain⟨R,hR⟩:∃R,ip S b F d f m deep (eh (b.extract 0 e) a num kind z)=R:=⟨_,rfl⟩;rw[hR]at HR⊢;clear hR;obtain⟨pq,rfl⟩:=eT Oo;obtain⟨ra,rn,rc,rfl⟩:=df N7.1;obtain⟨k1,k2⟩:=h1.rules;have Oz:((S.base f.ty:Int)==16)=false:=by simp;omega
 have Ow:=h1.lt;clear Oo hk;go_enter Tryz.func133,Tryz.ntmps133
 go_wp2_with fail
 refine hD.mono ?_;rintro en w1 ⟨rfl,Z1,st1,Od⟩;have h2:=h1.step st1 (fun q=>by have:=(I.hZ fb q).1;omega);clear k1 k2 hD;obtain⟨k1,k2⟩:=h2.rules;go_wp2_with fail
 refine(HR w1 Z1 st1 Od).mono ?_;intro en w2 hq
 cases R with
 |error x=>
  obtain⟨rfl,hq⟩:=hq;unfold da;go_wp2;exact⟨rfl,rfl,hq⟩
 |ok x=>
  obtain⟨rfl,hq⟩:=hq;go_wp2;go_end0;exact⟨rfl,hq⟩
theorem Fq (w:an)(B:Nat)(S:dG)(mp:am->Option Nat)(k:Nat)(d:MT)(f:ek)(g:GF)(fb:Nat)(Z:ap)(rb db:Nat)(b:am)(e a z deep F:Nat)(num:Int)(m:PM)
  (I:lR w B S mp k d Z rb db b e a z deep m) (hfa:dP w (fun b=>b<B) mp g fb) (fg:FG S mp d f g) (h4:g.form≠4) (h2:g.form≠2) (hb:S.base f.ty<=15) (hff:dv d.fs f.num=some f):
  Calls Tryz.prog 133 #[ag fb,aa (dL (S.base f.ty)),ag rb,ag db] w (fK S k d w Z rb db (b.extract 0 e) deep (ip S b F d f m deep (eh (b.extract 0 e) a num (dL (S.base f.ty)) z))):=by
 rw[Co fg h4 h2 hb I.eb];obtain⟨pv,rv,h1,OG,N7,Oo⟩:=hfa.blk;have Ox:dC mp g=S.base f.ty:=by unfold dC;rw[if_neg h4,fg.eq,fg.base]
 rw[Ox,fg.eq]at h1;have hD:=mA S k (some d) w Z db m rv g.riv I.hd N7.1 fg.rlen (fun x hx q=>by have:=N7.2 x hx;have:=(I.hZ x q).1;omega);obtain⟨OH,_,_⟩:=jo fg h4 hb;obtain⟨ok1,ok2⟩:=lS hff OH;have hes:(b.extract 0 e).size=e:=eG I.eb
 have hl:(m.without g.riv).fs.length<=a:=by
  have:=I.wm.len.1;exact aG (bI _ _) this
 have hab:=I.az;have hze:=I.ze;have heb:=I.eb;have hbs:=I.bs;have hrb:=I.rB;have Oh:=I.rZ;have OA:=I.hZ;have hBw:=I.cx.le;have OB:rb<w.heap.size:=de.lt I.hr
 have hV:∀w1,dn w1 rb (b.extract 0 e) z deep->UOK w1->Calls Tryz.prog 194 #[.agg #[aa (S.base f.ty),pv],ag rb] w1 (ni w1 rb (b.extract 0 e) deep (eO (b.extract 0 e) z (S.base f.ty)) rN):=
  fun w1 h1 h2=>nr w1 rb _ z deep _ pv h1 (by omega) (by omega) hb h2 (by have:=I.cx.u1;have:=I.rB;omega) (by have:=I.cx.u2;have:=I.rB;omega)
 obtain⟨R,hR⟩:∃R,eO (b.extract 0 e) z (S.base f.ty)=R:=⟨_,rfl⟩;rw[hR]at hV⊢;clear hR;obtain⟨m1,OD⟩:∃m1,m.without g.riv=m1:=⟨_,rfl⟩;rw[OD]at hD hl⊢;clear OD;have hu:∀w1 Z1,d9 w Z w1 Z1->UOK w1:=fun w1 Z1 st=>(I.cx.on ((dF.of_step (rb:=rb) st).below I.cx.le (fun x q=>(I.hZ x q).1) I.rB)).u
 obtain⟨pq,rfl⟩:=eT Oo;obtain⟨ra,rn,rc,rfl⟩:=df N7.1;have Oz:((S.base f.ty:Int)==16)=false:=by simp;omega
 have hr0:=I.hr;clear Oo;have Oj:=fg.form;have Ow:=h1.lt
 rcases Oj with hf|hf|hf|hf|hf
 ·rw[hf]at h1⊢
  have HA:Hid (∀(w3:an) (Z1:ap) (v:LV),dB S (k+1) (some d) w3 Z1 db m1->(∀x,Z1 x->x<w3.heap.size)->Calls Tryz.prog 193 #[ag db,aa f.num,rN v] w3 (ir S k (some d) w3 Z1 db (if v.1=0/\gy v.2 eS=true then m1.put f.num []else m1.put f.num [nx v]))):=
   fun w3 Z1 v Oq OI=>Cg S k (some d) w3 Z1 db m1 f.num v Oq ok1 (.inl ok2) (by omega) OI
  obtain⟨k1,k2⟩:=h1.rules;go_enter Tryz.func133,Tryz.ntmps133
  go_wp2_with fail
  refine hD.mono ?_;rintro en w1 ⟨rfl,OE,N8,Oa⟩;obtain⟨Z1,st1,Od,OC⟩:∃Z1,d9 w Z w1 Z1/\dB S (k+1) (some d) w1.drew Z1 db m1/\∀x,Z1 x->x<w1.heap.size:=⟨_,N8.clip,Oa.clip.keep (fun _ _ _=>rfl),fun x q=>q.2⟩;clear N8 Oa;have Oe:¬Z fb:=fun q=>by have:=(OA fb q).1;omega
  have Of:=h1.step st1 Oe;have Og:de w1.drew fb #[aa f.num,aa 0,aa (S.base f.ty),.pointer pq,.slice ra rn rc] 220:=Of;have Ok:dn w1.drew rb (b.extract 0 e) z deep:=de.step hr0 st1.drew Oh;have N3:¬Z1 rb:=st1.not OB Oh;have Ob:¬Z1 fb:=st1.not Ow Oe;have Ol:UOK w1.drew:=hu w1 Z1 st1;clear k1 k2 hD;obtain⟨k1,k2⟩:=Of.rules;obtain⟨k3,k4⟩:=Og.rules;go_upto_region 13 with fail
  go_region_with
   (first
    |(
      go_at_call 194
      refine(hV w1.drew Ok Ol).mono ?_;intro en w3 hq
      rcases hq.part with⟨x,rfl,rfl,N2⟩|⟨x,rfl,rfl,N2,Ot⟩
      ·unfold da;go_wp2;exact⟨rfl,rfl,Z1,(dF.of_step st1.drew).trans (.of_kept N2)⟩
      have h3:=Og.kept N2 (by simp;omega)
      obtain⟨k5,k6⟩:=h3.rules)
    |(
      go_at_call 193
      refine(HA.out w3 Z1 x.1 (dF.dr Od N2 N3) (fun i q=>aC (OC i q) N2.size)).mono ?_;rintro en w4 ⟨rfl,Z4,Oc,Ou⟩;have Om:=h3.step Oc Ob
      obtain⟨k7,k8⟩:=Om.rules))
  all_goals
   go_wp2;go_end0;refine⟨rfl,Z4,((dF.of_step st1.drew).trans (.of_kept N2)).trans (.of_step Oc),?_,de.step Ot Oc N3⟩;simp only[decide_true,true_and];exact Ou
 ·rw[hf]at h1⊢
  have HA:Hid (∀(w3:an) (Z1:ap) (v:LV),dB S (k+1) (some d) w3 Z1 db m1->Calls Tryz.prog 195 #[ag db,aa f.num,rN v] w3 (ir S k (some d) w3 Z1 db (m1.put f.num [nx v]))):=
   fun w3 Z1 v Oq=>tj S k (some d) w3 Z1 db m1 f.num v Oq ok1 (.inl ok2) (by omega)
  obtain⟨k1,k2⟩:=h1.rules;go_enter Tryz.func133,Tryz.ntmps133
  go_wp2_with fail
  refine hD.mono ?_;rintro en w1 ⟨rfl,OE,N8,Oa⟩;obtain⟨Z1,st1,Od,OC⟩:∃Z1,d9 w Z w1 Z1/\dB S (k+1) (some d) w1.drew Z1 db m1/\∀x,Z1 x->x<w1.heap.size:=⟨_,N8.clip,Oa.clip.keep (fun _ _ _=>rfl),fun x q=>q.2⟩;clear N8 Oa;have Oe:¬Z fb:=fun q=>by have:=(OA fb q).1;omega
  have Of:=h1.step st1 Oe;have Og:de w1.drew fb #[aa f.num,aa 1,aa (S.base f.ty),.pointer pq,.slice ra rn rc] 220:=Of;have Ok:dn w1.drew rb (b.extract 0 e) z deep:=de.step hr0 st1.drew Oh;have N3:¬Z1 rb:=st1.not OB Oh;have Ob:¬Z1 fb:=st1.not Ow Oe;have Ol:UOK w1.drew:=hu w1 Z1 st1;clear k1 k2 hD;obtain⟨k1,k2⟩:=Of.rules;obtain⟨k3,k4⟩:=Og.rules;go_upto_region 1 with fail
  go_region_with
   (first
    |(
      go_at_call 194
      refine(hV w1.drew Ok Ol).mono ?_;intro en w3 hq
      rcases hq.part with⟨x,rfl,rfl,N2⟩|⟨x,rfl,rfl,N2,Ot⟩
      ·unfold da;go_wp2;exact⟨rfl,rfl,Z1,(dF.of_step st1.drew).trans (.of_kept N2)⟩
      have h3:=Og.kept N2 (by simp;omega)
      obtain⟨k5,k6⟩:=h3.rules)
    |(
      go_at_call 195
      refine(HA.out w3 Z1 x.1 (dF.dr Od N2 N3)).mono ?_;rintro en w4 ⟨rfl,Z4,Oc,Ou⟩;have Om:=h3.step Oc Ob
      obtain⟨k7,k8⟩:=Om.rules))
  all_goals
   go_wp2;go_end0;refine⟨rfl,Z4,((dF.of_step st1.drew).trans (.of_kept N2)).trans (.of_step Oc),?_,de.step Ot Oc N3⟩;exact Ou
 ·exact absurd hf h2
 ·rw[hf]at h1⊢
  have HA:Hid (∀(w3:an) (Z1:ap) (v:LV),dB S (k+1) (some d) w3 Z1 db m1->Calls Tryz.prog 195 #[ag db,aa f.num,rN v] w3 (ir S k (some d) w3 Z1 db (m1.put f.num [nx v]))):=
   fun w3 Z1 v Oq=>tj S k (some d) w3 Z1 db m1 f.num v Oq ok1 (.inl ok2) (by omega)
  obtain⟨k1,k2⟩:=h1.rules;go_enter Tryz.func133,Tryz.ntmps133
  go_wp2_with fail
  refine hD.mono ?_;rintro en w1 ⟨rfl,OE,N8,Oa⟩;obtain⟨Z1,st1,Od,OC⟩:∃Z1,d9 w Z w1 Z1/\dB S (k+1) (some d) w1.drew Z1 db m1/\∀x,Z1 x->x<w1.heap.size:=⟨_,N8.clip,Oa.clip.keep (fun _ _ _=>rfl),fun x q=>q.2⟩;clear N8 Oa;have Oe:¬Z fb:=fun q=>by have:=(OA fb q).1;omega
  have Of:=h1.step st1 Oe;have Og:de w1.drew fb #[aa f.num,aa 3,aa (S.base f.ty),.pointer pq,.slice ra rn rc] 220:=Of;have Ok:dn w1.drew rb (b.extract 0 e) z deep:=de.step hr0 st1.drew Oh;have N3:¬Z1 rb:=st1.not OB Oh;have Ob:¬Z1 fb:=st1.not Ow Oe;have Ol:UOK w1.drew:=hu w1 Z1 st1;clear k1 k2 hD;obtain⟨k1,k2⟩:=Of.rules;obtain⟨k3,k4⟩:=Og.rules;go_upto_region 1 with fail
  go_region_with
   (first
    |(
      go_at_call 194
      refine(hV w1.drew Ok Ol).mono ?_;intro en w3 hq
      rcases hq.part with⟨x,rfl,rfl,N2⟩|⟨x,rfl,rfl,N2,Ot⟩
      ·unfold da;go_wp2;exact⟨rfl,rfl,Z1,(dF.of_step st1.drew).trans (.of_kept N2)⟩
      have h3:=Og.kept N2 (by simp;omega)
      obtain⟨k5,k6⟩:=h3.rules)
    |(
      go_at_call 195
      refine(HA.out w3 Z1 x.1 (dF.dr Od N2 N3)).mono ?_;rintro en w4 ⟨rfl,Z4,Oc,Ou⟩;have Om:=h3.step Oc Ob
      obtain⟨k7,k8⟩:=Om.rules))
  all_goals
   go_wp2;go_end0;refine⟨rfl,Z4,((dF.of_step st1.drew).trans (.of_kept N2)).trans (.of_step Oc),?_,de.step Ot Oc N3⟩;exact Ou
 ·exact absurd hf h4
end
end Go.Proofs.YtfebdimolnobaaaGreatDoor
