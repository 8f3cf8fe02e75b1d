import Derived.Test.YtfebdimolnobaaaGreatDoorRrE
import Derived.Test.YtfebdimolnobaaaGreatDoorMdV
set_option maxRecDepth 100000
set_option maxHeartbeats 8000000
set_option linter.all false
namespace Go.Proofs.YtfebdimolnobaaaGreatDoor
open Go.RowKit Go.Proofs.Tryz
section
open Vo
def jE (s:au)(a k:Nat):Fx (Int×Nat):=
 match(if eJ k=0 then iT s a s.size else if eJ k=5 then jt s a 4 else jt s a 8)with
 | .error x=> .error x
 | .ok x=> .ok (lC k x.1,x.2)
def Ug (k:Nat):Fx (Int×Nat)->Fx (Int×Nat)
 | .error x=> .error x
 | .ok x=> .ok (lC k x.1,x.2)
def Fs {w:aw}{rb k:Nat}{s:au}{deep:Int}{X r:Fx (Int×Nat)}{Q:Ending->aw->Prop}(hX:Ug k X=r)(h1:∀x w2,ec [rb] w w2->r= .error x->Q (dY x.1 x.2) w2)(h2:∀n z w2,X= .ok (n,z)->r= .ok (lC k n,z)->ec [rb] w w2->ee w2 rb s z deep->Q (.returned (.int .u64 n)) w2):
  ∀e w2,pS w rb s deep X (Value.int .u64) e w2->Q e w2:=by
 intro e w2 ⟨hk,h⟩
 cases X with
 |error x=>obtain rfl:e=dY x.1 x.2:=h;exact h1 x w2 hk hX.sy
 |ok x=>obtain⟨h,hr⟩:=h;obtain rfl:e=_:=h;exact h2 x.1 x.2 w2 rfl hX.sy hk hr
def BM (w:aw)(rb:Nat)(s:au)(a:Nat)(deep:Int)(k:Nat)(h:ee w rb s a deep)(ha:a<=s.size)(hs:s.size<=140737488355328)(hn:fj k=true):
  Calls prog 271 #[aa k,ah rb] w (pS w rb s deep (jE s a k) (Value.int .u64)):=by
 have hk:k=0\/k=1\/k=2\/k=3\/k=4\/k=5\/k=6\/k=7\/k=8\/k=9\/k=10\/k=11\/k=12\/k=15:=(by unfold fj at hn;simp at hn;omega);have HV:=nr w rb s a deep h hs;have H4:=BH w rb s a deep h ha hs;have H8:=wC w rb s a deep h ha hs;obtain⟨r,HR⟩:∃r,Hid (Ug k (if eJ k=0 then iT s a s.size else if eJ k=5 then jt s a 4 else jt s a 8)=r):=⟨_,rfl⟩;rw[show jE s a k=r from HR.o];clear h;rcases hk with rfl|rfl|rfl|rfl|rfl|rfl|rfl|rfl|rfl|rfl|rfl|rfl|rfl|rfl
 all_goals
  go_in
  go_wp2_with fail
  first
  |(go_at_call 182;refine HV.V (Fs HR.o ?_ ?_))
  |(go_at_call 352;refine H4.V (Fs HR.o ?_ ?_))
  |refine H8.V (Fs HR.o ?_ ?_)
  .rintro x w2 hk rfl;unfold dY;go_wp2;exact⟨rfl,hk,rfl⟩
  .rintro n z w2 hv rfl hk hr;go_wp2_with fail
   first
   |(go_ret;exact⟨hk,rfl,hr⟩)
   |(
     first |(go_at_call 347;refine(pp _ n).V ?_) |(go_at_call 348;refine(sV _ n).V ?_) |(go_at_call 349;refine(Ks _ n).V ?_) |(go_at_call 350;refine(Fp _ n (jj hv).1 (jj hv).2.1).V ?_) |(have HT:U8 351 #[.int .u64 n] w2 λe w'=>e= .returned (.int .u64 (lC 6 n))/\w'=w2:=wD w2 n (jj hv).1;generalize lC 6 n=b at*;refine HT.V ?_)
     rintro e w3 ⟨rfl,rfl⟩;go_wp2;go_ret
     exact⟨hk,rfl,hr⟩)
def sY (mp:an)(gs:List GF)(num kind:Int):Option GF:=
 match iI gs num with
 |none=>none
 |some g=>if mf mp g kind then some g else none
def At (w:aw)(P:ax)(mp:an)(mb:Nat)(name:au)(gs:List GF)(num kind:Int)(h:jh w P mp mb name gs)(hs:gs.Pairwise (λx y=>x.f.num<=y.f.num))(hl:gs.length<=2001):
  Calls prog 132 #[ah mb,.agg #[aa num,aa kind]] w λe w'=>Kx w' P mp (sY mp gs num kind) e/\ak w w':=by
 have⟨B0,K0⟩:=d8 w #[aa num,aa kind] 237;have h0:=h.O (w':=w.alloc (am #[aa num,aa kind] 237)) (λb _ hl=>Below.l _ _ _ hl);obtain⟨r,HR⟩:∃r,Hid (sY mp gs num kind=r):=⟨_,rfl⟩;rw[HR.o];go_in
 go_wp2_with fail;generalize w.alloc (am #[aa num,aa kind] 237)=w1 at*;refine(qV w1 P mp mb name gs num h0 hs hl).V ?_
 cases hf:iI gs num with
 |none=>
  rintro e w2 ⟨he,rfl⟩;obtain rfl:e= .returned (.pointer none):=he;obtain rfl:r=none:=by rw[<-HR.o,sY,hf]
  go_wp2;go_ret
  exact⟨rfl,B0⟩
 |some g=>
  rintro e w2 ⟨⟨fb,rfl,hF⟩,rfl⟩;have⟨k1,k2⟩:=K0.I;have HT:Hid (U8 183 #[ah fb,aa kind] w2 λe w'=>e= .returned (.bool (mf mp g kind))/\ak w2 w'):=QC w2 P mp g fb kind hF;have HF:Hid (∀w3:aw,ak w2 w3->eZ w3 P mp g fb):=λw3 b3=>hF.O (λb _ hl=>b3.block b hl)
  go_wp2_with fail;refine HT.o.V ?_;cases hq:mf mp g kind
  .obtain rfl:r=none:=by rw[<-HR.o,sY,hf];simp[hq]
   rintro e w3 ⟨rfl,b3⟩;go_wp2;go_ret;exact⟨rfl,eQ B0 b3⟩
  .obtain rfl:r=some g:=by rw[<-HR.o,sY,hf];simp[hq]
   rintro e w3 ⟨rfl,b3⟩;go_wp2;go_ret;exact⟨⟨fb,rfl,HF.o w3 b3⟩,eQ B0 b3⟩
def gE (s:au)(a k:Nat):Fx (LV×Nat):=
 if k=13 then(match rP s a with| .error x=> .error x| .ok x=> .ok ((0,x.1),x.2))
 else if k=14 then(match om s a with| .error x=> .error x| .ok x=> .ok ((0,x.1),x.2))
 else(match jE s a k with| .error x=> .error x| .ok x=> .ok ((x.1,⟨#[]⟩),x.2))
def qm (w:aw)(rb:Nat)(s:au)(a:Nat)(deep:Int)(k:Nat)(pv:Value)(h:ee w rb s a deep)(ha:a<=s.size)(hs:s.size<=2^47)(hk:k<=15)(hu:UOK w)(hu1:rb≠2)(hu2:rb≠3):
  Calls prog 194 #[.agg #[aa k,pv],ah rb] w (pS w rb s deep (gE s a k) vP):=by
 have K1:ec [rb] w ((w.alloc (am #[aa k,pv] 216)).alloc (am #[.int .u64 0,U7,ai,U7] 55)):=((ec.refl _ _).alloc _).alloc _;have h1:ee ((w.alloc (am #[aa k,pv] 216)).alloc (am #[.int .u64 0,U7,ai,U7] 55)) rb s a deep:=(dX.alloc h _).alloc _;have T1:=(dX.new w #[aa k,pv] 216).alloc (am #[.int .u64 0,U7,ai,U7] 55);have V1:dX ((w.alloc (am #[aa k,pv] 216)).alloc (am #[.int .u64 0,U7,ai,U7] 55)) (w.heap.size+1) #[.int .u64 0,U7,ai,U7] 55:=dX.newAt Vd _ _;have Vs:UOK ((w.alloc (am #[aa k,pv] 216)).alloc (am #[.int .u64 0,U7,ai,U7] 55)):=hu.O (K1.block _ hu.lt1 (by simp;exact λe=>hu1 e.sy)) (K1.block _ hu.lt2 (by simp;exact λe=>hu2 e.sy));have hlt:rb<w.heap.size:=dX.lt h
 have Vq:Hid (∀(w1 w2:aw) (x:LV) (z:Nat),ec [rb] w w1->dX w1 (w.heap.size+1) #[.int .u64 0,U7,ai,U7] 55->ec [rb] w1 w2->ee w2 rb s z deep->
   dX (((((w2.setCell (aj (w.heap.size+1) 0) (.int .u64 x.1)).setCell (aj (w.heap.size+1) 1) (ag x.2)).setCell (aj (w.heap.size+1) 2) (ai)).setCell (aj (w.heap.size+1) 3) (U7))) (w.heap.size+1) #[.int .u64 x.1,ag x.2,ai,U7] 55/\
   ec [rb] w (((((w2.setCell (aj (w.heap.size+1) 0) (.int .u64 x.1)).setCell (aj (w.heap.size+1) 1) (ag x.2)).setCell (aj (w.heap.size+1) 2) (ai)).setCell (aj (w.heap.size+1) 3) (U7)))/\
   ee (((((w2.setCell (aj (w.heap.size+1) 0) (.int .u64 x.1)).setCell (aj (w.heap.size+1) 1) (ag x.2)).setCell (aj (w.heap.size+1) 2) (ai)).setCell (aj (w.heap.size+1) 3) (U7))) rb s z deep):=λw1 w2 x z k1 v1 k2 r2=>by
  have v2:dX w2 (w.heap.size+1) #[.int .u64 0,U7,ai,U7] 55:=(k2.block _ v1.lt Ve).J v1;refine⟨(((v2.set 0 _).set 1 _).set 2 _).set 3 _,?_,(((dX.other r2 0 _ Vc).other 1 _ Vc).other 2 _ Vc).other 3 _ Vc⟩;have k3:=k1.J k2
  exact⟨k3.os,k3.tape,k3.output,by simpa using k3.size,λi hi hn=>by
   rw[dW,dO Vc,dW,dO Vc,dW,dO Vc,dW,dO Vc]
   exact k3.block i hi hn⟩
 obtain⟨r,HR⟩:∃r,Hid (gE s a k=r):=⟨_,rfl⟩;rw[HR.o];by_cases h13:k=13
 .subst h13;have HV:Hid (gE s a 13=(match rP s a with| .error x=> .error x| .ok x=> .ok ((0,x.1),x.2))):=rfl;go_in
  go_wp2_with fail;generalize((w.alloc (am #[aa ((13:Nat):Int),pv] 216)).alloc (am #[.int .u64 0,U7,ai,U7] 55))=w1 at*;refine(Kt w1 rb s a deep h1 hs Vs hu1 hu2).V ?_
  cases hv:rP s a with
  |error x=>
   rintro e w2 ⟨Vp,he⟩;obtain rfl:e=dY x.1 x.2:=he;obtain rfl:r= .error x:=by rw[<-HR.o,HV.o,hv]
   unfold dY;go_wp2
   exact⟨rfl,K1.J Vp,rfl⟩
  |ok x=>
   rintro e w2 ⟨Vp,rfl,hr⟩;obtain rfl:r= .ok (((0,x.1):LV),x.2):=by rw[<-HR.o,HV.o,hv]
   have⟨q1,q2,q3⟩:=Vq.o w1 w2 ((0,x.1):LV) x.2 K1 V1 Vp hr;have V2:dX w2 (w.heap.size+1) #[.int .u64 0,U7,ai,U7] 55:=(Vp.block _ V1.lt Ve).J V1;have⟨y7,y8⟩:=V2.I;clear Vq;go_wp2;exact dR (el results194 _ _ rfl q1 underlying55 Vh) rfl ⟨q2,rfl,q3⟩
 .by_cases h14:k=14
  .subst h14;have HV:Hid (gE s a 14=(match om s a with| .error x=> .error x| .ok x=> .ok ((0,x.1),x.2))):=rfl;go_in
   go_wp2_with fail;generalize((w.alloc (am #[aa ((14:Nat):Int),pv] 216)).alloc (am #[.int .u64 0,U7,ai,U7] 55))=w1 at*;refine(GZ w1 rb s a deep h1 hs).V ?_
   cases hv:om s a with
   |error x=>
    rintro e w2 ⟨Vp,he⟩;obtain rfl:e=dY x.1 x.2:=he;obtain rfl:r= .error x:=by rw[<-HR.o,HV.o,hv]
    unfold dY;go_wp2
    exact⟨rfl,K1.J Vp,rfl⟩
   |ok x=>
    rintro e w2 ⟨Vp,rfl,hr⟩;obtain rfl:r= .ok (((0,x.1):LV),x.2):=by rw[<-HR.o,HV.o,hv]
    have⟨q1,q2,q3⟩:=Vq.o w1 w2 ((0,x.1):LV) x.2 K1 V1 Vp hr;have V2:dX w2 (w.heap.size+1) #[.int .u64 0,U7,ai,U7] 55:=(Vp.block _ V1.lt Ve).J V1;have⟨y7,y8⟩:=V2.I;clear Vq;go_wp2;exact dR (el results194 _ _ rfl q1 underlying55 Vh) rfl ⟨q2,rfl,q3⟩
  .have HV:Hid (gE s a k=(match jE s a k with| .error x=> .error x| .ok x=> .ok ((x.1,⟨#[]⟩),x.2))):=(by show gE s a k=_;unfold gE;rw[dO h13,dO h14]);have b13:((k:Int)==13)=false:=Ve;have b14:((k:Int)==14)=false:=Ve;have Vr:fj k=true:=by unfold fj;simp;omega
   have⟨t1,t2⟩:=T1.I;go_in
   go_wp2_with fail;generalize((w.alloc (am #[aa k,pv] 216)).alloc (am #[.int .u64 0,U7,ai,U7] 55))=w1 at*;refine(BM w1 rb s a deep k h1 ha hs Vr).V ?_
   cases hv:jE s a k with
   |error x=>
    rintro e w2 ⟨Vp,he⟩;obtain rfl:e=dY x.1 x.2:=he;obtain rfl:r= .error x:=by rw[<-HR.o,HV.o,hv]
    unfold dY;go_wp2
    exact⟨rfl,K1.J Vp,rfl⟩
   |ok x=>
    rintro e w2 ⟨Vp,rfl,hr⟩;obtain rfl:r= .ok (((x.1,⟨#[]⟩):LV),x.2):=by rw[<-HR.o,HV.o,hv]
    have⟨q1,q2,q3⟩:=Vq.o w1 w2 ((x.1,⟨#[]⟩):LV) x.2 K1 V1 Vp hr;have V2:dX w2 (w.heap.size+1) #[.int .u64 0,U7,ai,U7] 55:=(Vp.block _ V1.lt Ve).J V1;have⟨y7,y8⟩:=V2.I;clear Vq;go_wp2;exact dR (el results194 _ _ rfl q1 underlying55 Vh) rfl ⟨q2,rfl,q3⟩
def yk (S:eD)(k:Nat)(T:Option MT)(w:aw)(Z:ax)(db:Nat)(m:PM)(n:Int)(v:LV)(h:eM S (k+1) T w Z db m)(hok:oJ S T n .vals)(hkd:(∀kd,oJ S T n kd->kd= .vals)\/∀f∈m.fs,f.1≠n)(hl:m.fs.length<1073741824)(hvl:(m.get n).length<1073741824):
  Calls prog 268 #[ah db,aa n,vP v] w (kr S k T w Z db (m.put n (m.get n++ [qq v]))):=by
 have⟨i0,VB,VC,VD,VE⟩:=info_parts Tryz.infoV;obtain⟨sv,uv,l,Y,hy,hs⟩:=h;have⟨B0,KB⟩:=d8 w #[.int .u64 v.1,ag v.2,ai,U7] 55;have hdl:=hy.c.blk.lt;have VH:=hy.c.row.lt;have Vu:=hy.O (λb _ hb=>B0.block b hb);have Vy:=nx hs (λb _ hb=>B0.block b hb);have hS:=uz _ db sv uv l n Vu.c (by rw[hs.len];exact hl);have hAl:∀b,Y b->b<w.heap.size:=hy.yl;clear hs hy;unfold vP;go_in
 go_wp2_with fail;generalize w.alloc (am #[.int .u64 v.1,ag v.2,ai,U7] 55)=w0 at*;refine hS.V ?_;rintro e w1 hR;obtain⟨g,c,pre,x,post,A,B,fp,fq,rfl,O,st,hAY,K⟩:=qr Vu Vy hR;clear hR Vu Vy hS
 have Vz:=KB.kept K (by
  simp only[aS,dj,not_or]
  exact⟨Vc,λe=>by have:=(VH _ e).2;omega⟩)
 have⟨k1,k2⟩:=Vz.I;have⟨⟨x2,x3⟩,hx⟩:=O.ofVals hkd;have⟨c0,c1,c2,c3,cf⟩:=O.cells rfl;have VA:=(O.y.c.row.lt g rfl).2;have hgn:w.heap.size<w1.heap.size:=Vz.lt
 have Vq:∀(w' w9:aw) (src:Option Nat),ak w1 w'->w'.grownBy w9 src->(∀b,src=some b->A b)->w9.heap[g]?=w1.heap[g]?:=λw' w9 src hB hg hs=>
  (hg.block g (aI VA hB.size) (λe=>O.y.ys g rfl (.inl (hs g e.sy)))).J (hB.block g VA)
 have HC:Hid (∀(w' w9:aw) (src:Option Nat),ak w1 w'->w'.grownBy w9 src->(∀b,src=some b->A b)->w9.heap[g]?=w1.heap[g]?):=Vq;clear Vq
 have HF:Hid (∀(w' w9:aw) (src:Option Nat) (gg cap N:Nat) (cs:ay) (lv:List LV),ak w1 w'->w'.grownBy w9 src->(∀b,src=some b->A b)->w9.ownsRow 0 55 4 (U9 gg N cap) N cs->N=lv.length+1->cs=lv.flatMap mR++mR v->m.get n=lv.map qq->(src=some gg\/gg=w1.heap.size+1)->
   kr S k T w Z db (m.put n (m.get n++ [qq v])) (.returned (.tuple #[])) (w9.setCell (aj g (pre.length*4+1)) (U9 gg N cap))):=by
  intro w' w9 src gg cap N cs lv hB hg hs Vv hN VK VL VM;have⟨Z',h1,h2⟩:=O.vals (lv:=lv++ [v]) hs Vd hB hg Vv (by rw[hN];simp) (by rw[VK];simp) (VM.imp id (λe=>Vc)) hok x2 x3;rw[VL];refine⟨rfl,Z',?_,by simpa using h2⟩;have s0:fK w Z w0 Z:=(fK.refl w Z).G B0;exact(s0.J st).J h1
 rcases hx with⟨x1,VF⟩|⟨gv,cc,lv,hne,x1,VG,Vw,Vt⟩
 .rw[x1]at c1;have BB:ak w1 (w1.drew.alloc (am #[.int .u64 v.1,ag v.2,ai,U7] 55)):=((Below.refl _ _).drew).alloc (aE _) _;have VI:Hid (m.get n= []):=VF;clear c0 c2 c3 x1 VF;go_upto_region 2 with fail
  go_region_law (first|(refine step_append_lies _ Vi _ _ _ Vi 0 55 i0 _ 4 64 underlying56 VB VC VD VE rfl Vc (ai) 0 [] Vi (br _ _ _ _) (aj w1.heap.size 0) 1 1 [_,_,_,_] Vi Vi (bz (t:=55) (fr:=(0,0)) (heap_alloc_new w1.drew _)) Vk Vc Vj Vc Vc (w1.heap.size+1) Vd ?_;intro gg cap w9 Vr Vp Vs Vx;have⟨z0,z1,z2,z3,zf⟩:=O.cells (HC.o _ w9 _ BB Vp (λb e=>by cases e))))
  all_goals
   go_end0;exact HF.o _ w9 _ gg cap _ _ [] BB Vp (λb e=>by cases e) Vr rfl rfl VI.o Vs
 .rw[x1]at c1;have BB:ak w1 (w1.drew.alloc (am #[.int .u64 v.1,ag v.2,ai,U7] 55)):=((Below.refl _ _).drew).alloc (aE _) _;have hgvl:=(Vt.lt gv rfl).2;have hll:lv.length<1073741824:=by rw[Vw]at hvl;simpa using hvl
  have VJ:Hid (m.get n=lv.map qq):=Vw;clear c0 c2 c3 x1 Vw hvl;go_upto_region 2 with fail
  go_region_law (first|(refine step_append_lies _ Vi _ _ _ Vi 0 55 i0 _ 4 64 underlying56 VB VC VD VE rfl Vc (U9 gv lv.length cc) lv.length (lv.flatMap mR) Vi (Vt.drew.alloc _) (aj w1.heap.size 0) 1 1 [_,_,_,_] Vi Vi (bz (t:=55) (fr:=(0,0)) (heap_alloc_new w1.drew _)) Vk Vc Vj Vc Vc (w1.heap.size+1) Vd ?_;intro gg cap w9 Vr Vp Vs Vx;have⟨z0,z1,z2,z3,zf⟩:=O.cells (HC.o _ w9 _ BB Vp (λb e=>by cases e;exact VG))))
  all_goals
   go_end0;exact HF.o _ w9 _ gg cap _ _ lv BB Vp (λb e=>by cases e;exact VG) Vr rfl rfl VJ.o Vs
end
end Go.Proofs.YtfebdimolnobaaaGreatDoor
