import Derived.Test.YtfebdimolnobaaaGreatDoorPlA
import Derived.Test.YtfebdimolnobaaaGreatDoorItE
import Derived.Test.YtfebdimolnobaaaGreatDoorEnK
set_option maxRecDepth 100000
set_option maxHeartbeats 8000000
set_option linter.all false
namespace Go.Proofs.YtfebdimolnobaaaGreatDoor
open Go.RowKit Go.Proofs.Tryz
section
open Go.Maps
open Vo
def LH (w:aw)(kp mk n:Nat)(pm:an):Prop:=dX w kp #[.int .i32 0,.int .u32 0,.map (some mk)] 170/\gq w mk n pm
def I7 (w:aw):Calls prog 37 #[] w λe w'=>∃kp mk,e= .returned (ah kp)/\LH w' kp mk 0 (λ_=>none)/\w.heap.size<=kp/\w.heap.size<=mk/\mk≠kp/\ak w w':=by
 have hmm:= @run_makeMap prog;go_in
 go_wp2;go_ret;refine⟨_,_,rfl,⟨dX.newAt Vd _ _,?_⟩,bG _,aE _,Vc,(Vb w _).alloc Vd _⟩;exact(gq.made w).O (Below.l _ _ _ Vd)
end
section
open Vo
def Cj {w w1 w2:aw}{rb vb:Nat}{s:au}{z:Nat}{deep:Int}(x:LV)(k1:ec [rb] w w1)(v1:dX w1 vb #[.int .u64 0,U7,ai,U7] 55)(hv:w.heap.size<=vb)(hr:rb<w.heap.size)(k2:ec [rb] w1 w2)(r2:ee w2 rb s z deep):
  dX (((((w2.setCell (aj vb 0) (.int .u64 x.1)).setCell (aj vb 1) (ag x.2)).setCell (aj vb 2) (ai)).setCell (aj vb 3) (U7))) vb #[.int .u64 x.1,ag x.2,ai,U7] 55/\
  ec [rb] w (((((w2.setCell (aj vb 0) (.int .u64 x.1)).setCell (aj vb 1) (ag x.2)).setCell (aj vb 2) (ai)).setCell (aj vb 3) (U7)))/\
  ee (((((w2.setCell (aj vb 0) (.int .u64 x.1)).setCell (aj vb 1) (ag x.2)).setCell (aj vb 2) (ai)).setCell (aj vb 3) (U7))) rb s z deep:=by
 have v2:dX w2 vb #[.int .u64 0,U7,ai,U7] 55:=(k2.block _ v1.lt Ve).J v1;refine⟨(((v2.set 0 _).set 1 _).set 2 _).set 3 _,?_,(((dX.other r2 0 _ Vc).other 1 _ Vc).other 2 _ Vc).other 3 _ Vc⟩;have k3:=k1.J k2
 exact⟨k3.os,k3.tape,k3.output,by simpa using k3.size,λi hi hn=>by
  rw[dW,dO Vc,dW,dO Vc,dW,dO Vc,dW,dO Vc]
  exact k3.block i hi hn⟩
def LO {w:aw}{Q:ax}{k:Nat}{v:Value}(hv:nE w Q k v)(rb:Nat)(s:au)(a:Nat)(deep:Int)(h:ee w rb s a deep)(ha:a<=s.size)(hs:s.size<=2^47)(hQ:¬Q rb)(hu:UOK w)(hu1:rb≠2)(hu2:rb≠3):
  mE v [ah rb] w (pS w rb s deep (gE s a k) vP):=by
 have K1:ec [rb] w (w.alloc (am #[.int .u64 0,U7,ai,U7] 55)):=(ec.refl _ _).alloc _;have h1:ee (w.alloc (am #[.int .u64 0,U7,ai,U7] 55)) rb s a deep:=dX.alloc h _;have V1:=dX.new w #[.int .u64 0,U7,ai,U7] 55;have Vu:UOK (w.alloc (am #[.int .u64 0,U7,ai,U7] 55)):=hu.O (K1.block _ hu.lt1 (by simp;exact λe=>hu1 e.sy)) (K1.block _ hu.lt2 (by simp;exact λe=>hu2 e.sy));have Vs:rb<w.heap.size:=dX.lt h;obtain⟨r,HR⟩:∃r,Hid (gE s a k=r):=⟨_,rfl⟩;rw[HR.o];rcases hv with⟨rfl,rfl⟩|⟨rfl,rfl⟩|⟨hn,nb,nv,rfl,Vv,qn,Vw⟩
 .refine⟨435,[],rfl,enters_of func435 Vh rfl,?_⟩;have HV:Hid (gE s a 13=(match rP s a with| .error x=> .error x| .ok x=> .ok ((0,x.1),x.2))):=rfl;show U8 435 #[ah rb] w _;go_enter func435,ntmps435;go_wp2_with fail;generalize(w.alloc (am #[.int .u64 0,U7,ai,U7] 55))=w1 at*;refine(Kt w1 rb s a deep h1 hs Vu hu1 hu2).V ?_
  cases hv:rP s a with
  |error x=>
   rintro e w2 ⟨Vp,he⟩;obtain rfl:e=dY x.1 x.2:=he;obtain rfl:r= .error x:=by rw[<-HR.o,HV.o,hv]
   unfold dY;go_wp2
   exact⟨rfl,K1.J Vp,rfl⟩
  |ok x=>
   rintro e w2 ⟨Vp,rfl,hr⟩;obtain rfl:r= .ok (((0,x.1):LV),x.2):=by rw[<-HR.o,HV.o,hv]
   obtain⟨q1,q2,q3⟩:=Cj ((0,x.1):LV) K1 V1 (aE _) Vs Vp hr;obtain⟨y7,y8⟩:=(show dX w2 w.heap.size _ _ from(Vp.block _ V1.lt Ve).J V1).I;go_wp2;exact dR (el results435 _ _ rfl q1 underlying55 Vh) rfl ⟨q2,rfl,q3⟩
 .refine⟨436,[],rfl,enters_of func436 Vh rfl,?_⟩;have HV:Hid (gE s a 14=(match om s a with| .error x=> .error x| .ok x=> .ok ((0,x.1),x.2))):=rfl;show U8 436 #[ah rb] w _;go_enter func436,ntmps436;go_wp2_with fail;generalize(w.alloc (am #[.int .u64 0,U7,ai,U7] 55))=w1 at*;refine(GZ w1 rb s a deep h1 hs).V ?_
  cases hv:om s a with
  |error x=>
   rintro e w2 ⟨Vp,he⟩;obtain rfl:e=dY x.1 x.2:=he;obtain rfl:r= .error x:=by rw[<-HR.o,HV.o,hv]
   unfold dY;go_wp2
   exact⟨rfl,K1.J Vp,rfl⟩
  |ok x=>
   rintro e w2 ⟨Vp,rfl,hr⟩;obtain rfl:r= .ok (((0,x.1):LV),x.2):=by rw[<-HR.o,HV.o,hv]
   obtain⟨q1,q2,q3⟩:=Cj ((0,x.1):LV) K1 V1 (aE _) Vs Vp hr;obtain⟨y7,y8⟩:=(show dX w2 w.heap.size _ _ from(Vp.block _ V1.lt Ve).J V1).I;go_wp2;exact dR (el results436 _ _ rfl q1 underlying55 Vh) rfl ⟨q2,rfl,q3⟩
 .have Vq:k≠13/\k≠14:=by
   constructor;.intro e;rw[e]at hn;exact absurd hn Vf
   .intro e;rw[e]at hn;exact absurd hn Vf
  have HV:Hid (gE s a k=(match jE s a k with| .error x=> .error x| .ok x=> .ok ((x.1,⟨#[]⟩),x.2))):=(by show gE s a k=_;unfold gE;rw[dO Vq.1,dO Vq.2];all_goals (cases jE s a k<;>rfl));refine⟨438,[ah nb],rfl,enters_of func438 Vh rfl,?_⟩;have Vt:nD (w.alloc (am #[.int .u64 0,U7,ai,U7] 55)) Q k nv:=Vw.O λb _ hl=>Below.l _ _ b hl
  obtain⟨f,cap,rfl,eg,Vr⟩:=SA Vt rb s a deep h1 ha hs hQ hn;have n0:=(Vv.alloc (am #[.int .u64 0,U7,ai,U7] 55)).cell 0;simp only[cE,cp]at n0;show U8 438 #[ah rb,ah nb] w _;go_enter func438,ntmps438;go_wp2_with fail;clear n0;generalize(w.alloc (am #[.int .u64 0,U7,ai,U7] 55))=w1 at*;refine Vr.V ?_;clear Vr
  cases hv:jE s a k with
  |error x=>
   rintro e w2 ⟨Vp,he⟩;obtain rfl:e=dY x.1 x.2:=he;obtain rfl:r= .error x:=by rw[<-HR.o,HV.o,hv]
   unfold dY;go_wp2
   exact⟨rfl,K1.J Vp,rfl⟩
  |ok x=>
   rintro e w2 ⟨Vp,rfl,hr⟩;obtain rfl:r= .ok (((x.1,⟨#[]⟩):LV),x.2):=by rw[<-HR.o,HV.o,hv]
   obtain⟨q1,q2,q3⟩:=Cj ((x.1,⟨#[]⟩):LV) K1 V1 (aE _) Vs Vp hr;obtain⟨y7,y8⟩:=(show dX w2 w.heap.size _ _ from(Vp.block _ V1.lt Ve).J V1).I;go_wp2;exact dR (el results438 _ _ rfl q1 underlying55 Vh) rfl ⟨q2,rfl,q3⟩
def kU (ok:Bool)(v:Value)(w:aw)(e:Ending)(w':aw):Prop:=ak w w'/\if ok=true then e= .returned v else∃(x:Nz) (y:Int),e=dY x.1 y
def kU.ok {w w':aw}{v:Value}(b:ak w w'):kU true v w (.returned v) w':=⟨b,rfl⟩
def kU.no {w w':aw}{v:Value}{x y:Int}(b:ak w w')(hx:x≠0:=by first|decide|exact Nz.ne _):kU false v w (dY x y) w':=⟨b,⟨x,hx⟩,_,rfl⟩
def kU.part {ok:Bool}{w:aw}{v:Value}{e:Ending}{w':aw}(h:kU ok v w e w'):(ok=true/\e= .returned v/\ak w w')\/(ok=false/\∃(x:Nz) (y:Int),e=dY x.1 y/\ak w w'):=by
 obtain⟨h1,h2⟩:=h;cases ok;.rw[dO Vd]at h2;obtain⟨x,y,q⟩:=h2;exact .inr ⟨rfl,x,y,q,h1⟩
 .exact .inl ⟨rfl,h2,h1⟩
section
variable {S:eD} {mp:an} {B:Nat}
def yL (hN:Es S)(w:aw)(Z:ax)(v:Value)(m:PM)(d:MT)(mb:Nat)(gs:List GF)(nm:au)(k:Nat)(cx:tu w B S mp)(hm:jh w (λb=>b<B) mp mb nm gs)(hG:lH S mp d gs)(hnd:NG d)(hM:gP k w Z v m)(hO:pP k m)(hl:(eG S 8 d m).length<=2^47):
  Calls prog 58 #[ah mb,.agg #[v,ag m.unk]] w (kU (dZ S 8 d m) (aa (eG S 8 d m).length) w):=by
 obtain⟨a,c,rfl⟩:=hM.form;have⟨B0,K1⟩:=d8 w #[.slice a m.fs.length c,ag m.unk] 49;have HC:=O5 (S:=S) (mp:=mp) (B:=B) 8 _ Z _ m d mb gs nm 1 k (cx.on (ed B0 cx.le)) (hm.O λb _ q=>B0.block b q) hG (hM.G B0 (aE _)) hO rfl
 have HZ:Hid (∀W,ak w W->dZ S 8 d m=true->U8 102 #[ah mb,.agg #[.slice a m.fs.length c,ag m.unk]] W (ij (eG S 8 d m) W)):=λW hW hs=>
  uS hN 8 W Z _ m d mb gs nm k (cx.on (ed hW cx.le)) (hm.O λb _ q=>hW.block b q) hG hnd (hM.G hW (aE _)) hO hs hl
 generalize eG S 8 d m=y at*;generalize dZ S 8 d m=ok at*;have⟨k1,k2⟩:=K1.I;go_in
 go_wp2_with fail;refine HC.V ?_;intro e w2 hr;generalize w.alloc (am #[.slice a m.fs.length c,ag m.unk] 49)=w1 at*;rcases hr.part with⟨rfl,rfl,b2⟩|⟨rfl,y,z,rfl,b2⟩;.have K2:=K1.G b2 K1.lt;clear k1 k2;have⟨k1,k2⟩:=K2.I;have B2:=dU B0 b2;go_wp2_with fail;refine(HZ.o w2 B2 trivial).V ?_;rintro e w3 ⟨rfl,b3⟩;go_wp2;go_ret;exact kU.ok (dU B2 b3)
 .unfold dY;go_wp2;exact⟨rfl,kU.no (dU B0 b2)⟩
def Mj (hN:Es S)(w:aw)(Z:ax)(v:Value)(m:PM)(d:MT)(mb:Nat)(gs:List GF)(nm:au)(k:Nat)(cx:tu w B S mp)(hm:jh w (λb=>b<B) mp mb nm gs)(hG:lH S mp d gs)(hnd:NG d)(hM:gP k w Z v m)(hO:pP k m)(hl:(eG S 8 d m).length<=2^47):
  Calls prog 54 #[ah mb,.agg #[v,ag m.unk]] w (kU (dZ S 8 d m) (ag ⟨(eG S 8 d m).toArray⟩) w):=by
 obtain⟨a,c,rfl⟩:=hM.form;have⟨B0,K1⟩:=d8 w #[.slice a m.fs.length c,ag m.unk] 49;have HC:=yL hN _ Z _ m d mb gs nm k (cx.on (ed B0 cx.le)) (hm.O λb _ q=>B0.block b q) hG hnd (hM.G B0 (aE _)) hO hl;have Vp:=hM.V (Y:=λb=>b<w.heap.size) λ_ _ q=>q
 have HW:Hid (∀W N b,ak w W->w.heap.size<=N->N<=W.heap.size->dZ S 8 d m=true->fH W N b (eE b) []->U8 97 #[ah mb,.agg #[.slice a m.fs.length c,ag m.unk],eE b] W (i9 N b [] (eG S 8 d m) W)):=λW N b hW hN1 Vq hs hw=>
  Jg hN 8 W _ _ m d mb gs nm k N b [] (cx.on (ed hW cx.le)) (hm.O λb _ q=>hW.block b q) hG hnd (Vp.G hW (aE _)) (λi q=>Vc) (by have:=cx.le;omega) Vq hO hs hw (by simpa using hl)
 generalize eG S 8 d m=y at*;generalize dZ S 8 d m=ok at*;have⟨k1,k2⟩:=K1.I;have hs1:w.heap.size+1=(w.alloc (am #[.slice a m.fs.length c,ag m.unk] 49)).heap.size:=Vd;go_in
 go_wp2_with fail;refine HC.V ?_;intro e w2 hr;generalize w.alloc (am #[.slice a m.fs.length c,ag m.unk] 49)=w1 at*;rcases hr.part with⟨rfl,rfl,b2⟩|⟨rfl,y,z,rfl,b2⟩;.have hs2:=b2.size;go_wp2_with fail;refine(vE (B:=w.heap.size+1) y.length hl Vc).V ?_;rintro e w3 ⟨b,rfl,hb,Vr,b3⟩;have K3:dX w3 w.heap.size _ _:=(b3.block _ Vc).J (K1.G b2 K1.lt);have hs3:=b3.size;have B3:ak w w3:=(dU B0 b2).J (ed b3 Vc);clear k1 k2;have⟨k1,k2⟩:=K3.I;go_wp2_with fail;refine(HW.o w3 (w.heap.size+1) b B3 Vc Vc trivial Vr).V ?_;rintro e w4 ⟨rfl,q1,q2⟩;rw[aX]at q1;have hs4:=q2.bel.size;go_wp2_with fail;refine(AM q1 Vc).V ?_;rintro e w5 ⟨rfl,b5⟩;go_wp2;go_ret;exact kU.ok (B3.J (ed (q2.bel.J b5) Vc))
 .unfold dY;go_wp2;exact⟨rfl,kU.no (dU B0 b2)⟩
end
end
section
variable {P:FU} {Q:Value->PM->Prop} {Z:ax}
theorem Ms (hPQ:∀mv m C,(∀b,C b->Z b)->P mv m C->Q mv m):∀{l:List PV} {ms:ay} {Y:ax},(∀b,Y b->Z b)->jY (λmv (v:PV) C=>P mv v.2.2 C) Y ms l->kB Q (sx ms l) l
 | [],[],_,_,_=>rfl
 |v::l,mv::ms,Y,hY,h=>by
  obtain⟨A,B,h1,h2,h3,h4,_⟩:=h;exact⟨mv,sx ms l,rfl,hPQ _ _ A (λb q=>hY b (h3 b q)) h1,Ms hPQ (λb q=>hY b (h4 b q)) h2⟩
theorem Mt {w:aw}(hPQ:∀mv m C,(∀b,C b->Z b)->P mv m C->Q mv m):∀{l:List PF} {ms:ay} {Y:ax},(∀b,Y b->Z b)->jY (λvv (f:PF) A=>kz P w A vv f.2) Y ms l->mz Q w Z (sy ms l) l
 | [],[],_,_,_=>rfl
 |v::l,mv::ms,Y,hY,h=>by
  obtain⟨A,B,⟨ms',Y',q1,q2,q3,q4⟩,h2,h3,h4,_⟩:=h;refine⟨mv,sy ms l,rfl,⟨_,q1.V λb q _=>hY b (h3 b q),Ms hPQ (λb q=>hY b (h3 b (q3 b q))) q4⟩,Mt hPQ (λb q=>hY b (h4 b q)) h2⟩
theorem qw.toIn:∀{k:Nat} {w:aw} {v:Value} {m:PM} {Z:ax},qw k w v m Z->qY k w Z v m
 |0,_,_,_,_,h=>h
 |k+1,w,v,m,Z,h=>by
  obtain⟨vvs,Y,h1,h2,h3,h4⟩:=h;exact⟨_,h1,Mt (P:=qw k w) (λmv m C hC hm=>qY.V (λb q _=>hC b q) (qw.toIn hm)) h3 h4⟩
end


section
variable {S:eD} {R:MT->PM->Bool} {d:MT} (hd:(d.fs.map (·.num)).Nodup) {m:PM} {n:Int} {f:fo} {k:Nat} (hx:gU S R d [] m.fs=true) (hr:pQ (k+1) m) (hf:d9 d.fs n=some f)
include hx hf
end
end Go.Proofs.YtfebdimolnobaaaGreatDoor
