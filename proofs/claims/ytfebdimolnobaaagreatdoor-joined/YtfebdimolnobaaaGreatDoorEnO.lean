import Derived.Test.YtfebdimolnobaaaGreatDoorPlJ
set_option maxRecDepth 100000
set_option maxHeartbeats 8000000
set_option linter.all false
namespace Go.Proofs.YtfebdimolnobaaaGreatDoor
open Go.RowKit Go.Proofs.Tryz
section
open Uq
def j7 (ok:Bool)(v:Value)(w:an)(e:Ending)(w':an):Prop:=aj w w'/\if ok=true then e= .returned v else∃(x:Nz) (y:Int),e=dL x.1 y
def j7.ok {w w':an}{v:Value}(b:aj w w'):j7 true v w (.returned v) w':=⟨b,rfl⟩
def j7.no {w w':an}{v:Value}{x y:Int}(b:aj w w')(hx:x≠0:=by first|decide|exact Nz.ne _):j7 false v w (dL x y) w':=⟨b,⟨x,hx⟩,_,rfl⟩
def j7.part {ok:Bool}{w:an}{v:Value}{e:Ending}{w':an}(h:j7 ok v w e w'):(ok=true/\e= .returned v/\aj w w')\/(ok=false/\∃(x:Nz) (y:Int),e=dL x.1 y/\aj w w'):=by
 obtain⟨h1,h2⟩:=h
 cases ok
 ·rw[dD Uf]at h2;obtain⟨x,y,q⟩:=h2;exact .inr ⟨rfl,x,y,q,h1⟩
 ·exact .inl ⟨rfl,h2,h1⟩
section
variable {S:d8} {mp:am->Option Nat} {B:Nat}
def xZ (hN:DH S)(w:an)(Z:ap)(v:Value)(m:PM)(d:MT)(mb:Nat)(gs:List GF)(nm:am)(k:Nat)(cx:sF w B S mp)(hm:iE w (λb=>b<B) mp mb nm gs)(hG:kG S mp d gs)(hnd:MA d)(hM:iH k w Z v m)(hO:oT k m)(hl:(ed S 8 d m).length<=140737488355328):
  Calls prog 58 #[ag mb,.agg #[v,ae m.unk]] w (j7 (dP S 8 d m) (aa (ed S 8 d m).length) w):=by
 obtain⟨a,c,rfl⟩:=hM.form;have⟨B0,K1⟩:=dS w #[.slice a m.fs.length c,ae m.unk] 49;have HC:=NS (S:=S) (mp:=mp) (B:=B) 8 _ Z _ m d mb gs nm 1 k (cx.on (dV B0 cx.le)) (hm.keep λb _ q=>B0.block b q) hG (hM.below B0 (ay _)) hO rfl
 have HZ:Hid (∀W,aj w W->dP S 8 d m=true->Ua 102 #[ag mb,.agg #[.slice a m.fs.length c,ae m.unk]] W (gP (ed S 8 d m) W)):=λW hW hs=>
  uj hN 8 W Z _ m d mb gs nm k (cx.on (dV hW cx.le)) (hm.keep λb _ q=>hW.block b q) hG hnd (hM.below hW (ay _)) hO hs hl
 generalize ed S 8 d m=y at*;generalize dP S 8 d m=ok at*;have⟨k1,k2⟩:=K1.rules;go_in
 go_wp2_with fail;refine HC.mono ?_;intro e w2 hr;generalize w.alloc (ak #[.slice a m.fs.length c,ae m.unk] 49)=w1 at*
 rcases hr.part with⟨rfl,rfl,b2⟩|⟨rfl,y,z,rfl,b2⟩
 ·have K2:=K1.below b2 K1.lt;clear k1 k2;have⟨k1,k2⟩:=K2.rules;have B2:=dI B0 b2;go_wp2_with fail;refine(HZ.out w2 B2 trivial).mono ?_;rintro e w3 ⟨rfl,b3⟩;go_wp2;go_ret;exact j7.ok (dI B2 b3)
 ·unfold dL;go_wp2;exact⟨rfl,j7.no (dI B0 b2)⟩
def Lf (hN:DH S)(w:an)(Z:ap)(v:Value)(m:PM)(d:MT)(mb:Nat)(gs:List GF)(nm:am)(k:Nat)(cx:sF w B S mp)(hm:iE w (λb=>b<B) mp mb nm gs)(hG:kG S mp d gs)(hnd:MA d)(hM:iH k w Z v m)(hO:oT k m)(hl:(ed S 8 d m).length<=140737488355328):
  Calls prog 54 #[ag mb,.agg #[v,ae m.unk]] w (j7 (dP S 8 d m) (ae ⟨(ed S 8 d m).toArray⟩) w):=by
 obtain⟨a,c,rfl⟩:=hM.form;have⟨B0,K1⟩:=dS w #[.slice a m.fs.length c,ae m.unk] 49;have HC:=xZ hN _ Z _ m d mb gs nm k (cx.on (dV B0 cx.le)) (hm.keep λb _ q=>B0.block b q) hG hnd (hM.below B0 (ay _)) hO hl;have Uq:=hM.mono (Y:=λb=>b<w.heap.size) λ_ _ q=>q
 have HW:Hid (∀W N b,aj w W->w.heap.size<=N->N<=W.heap.size->dP S 8 d m=true->fh W N b (d7 b) []->Ua 97 #[ag mb,.agg #[.slice a m.fs.length c,ae m.unk],d7 b] W (iw N b [] (ed S 8 d m) W)):=λW N b hW hN1 Ur hs hw=>
  Id hN 8 W _ _ m d mb gs nm k N b [] (cx.on (dV hW cx.le)) (hm.keep λb _ q=>hW.block b q) hG hnd (Uq.below hW (ay _)) (λi q=>Ue) (by have:=cx.le;omega) Ur hO hs hw (by simpa using hl)
 generalize ed S 8 d m=y at*;generalize dP S 8 d m=ok at*;have⟨k1,k2⟩:=K1.rules;have hs1:w.heap.size+1=(w.alloc (ak #[.slice a m.fs.length c,ae m.unk] 49)).heap.size:=Uf;go_in
 go_wp2_with fail;refine HC.mono ?_;intro e w2 hr;generalize w.alloc (ak #[.slice a m.fs.length c,ae m.unk] 49)=w1 at*
 rcases hr.part with⟨rfl,rfl,b2⟩|⟨rfl,y,z,rfl,b2⟩
 ·have hs2:=b2.size;go_wp2_with fail;refine(uS (B:=w.heap.size+1) y.length hl Ue).mono ?_;rintro e w3 ⟨b,rfl,hb,Us,b3⟩;have K3:dM w3 w.heap.size _ _:=(b3.block _ Ue).trans (K1.below b2 K1.lt);have hs3:=b3.size;have B3:aj w w3:=(dI B0 b2).trans (dV b3 Ue);clear k1 k2;have⟨k1,k2⟩:=K3.rules;go_wp2_with fail;refine(HW.out w3 (w.heap.size+1) b B3 Ue Ue trivial Us).mono ?_;rintro e w4 ⟨rfl,q1,q2⟩;rw[aS]at q1;have hs4:=q2.bel.size;go_wp2_with fail;refine(Ab q1 Ue).mono ?_;rintro e w5 ⟨rfl,b5⟩;go_wp2;go_ret;exact j7.ok (B3.trans (dV (q2.bel.trans b5) Ue))
 ·unfold dL;go_wp2;exact⟨rfl,j7.no (dI B0 b2)⟩
end
end
section
open Go.Maps
open Uq
section
variable (g:Bool)
def ya (ks:au)(K:an->Prop)(ok:Bool)(v:Value)(w:an)(e:Ending)(w':an):Prop:=dX ks w w'/\K w'/\if ok=true then e= .returned v else∃(x:Nz) (y:Int),e=dL x.1 y
abbrev FI (g:Bool):Nat:=bif g then 156 else 150
abbrev FT (g:Bool):Nat:=bif g then 100 else 95
abbrev FK (g:Bool):Nat:=bif g then 57 else 53
abbrev FS (g:Bool):Nat:=bif g then 56 else 52
abbrev FE (g:Bool):Nat:=bif g then 25 else 24
abbrev ZV (g:Bool):Value:=bif g then aa 0 else T9
section
theorem SM (a b:Addr)(w:an):
  CallsD prog (FI g) #[.pointer (some a),.pointer (some b)] .returning w λe u' w'=>e= .returned (.tuple #[])/\u'= .returning/\w'=w:=by
 cases g<;>dsimp only[FI,cond]
 have hs:=results150;refine callsD_of_wpS func150 rfl λc₀ cs hu=> ?_
 rotate_left;have hs:=results156;refine callsD_of_wpS func156 rfl λc₀ cs hu=> ?_
 all_goals
  apply wpS_seq;apply wpS_region;simp[wpOpsS,go_sem,recoverD,hu,Exit.thenS];refine wpS_of_wp ?_;rw[zZ];go_wp2
  cases c₀
  simp_all [bodyPostS,results]
theorem SN (ab bb:Nat)(k p:Int)(older:List PanicEntry)(w:an)(x y:Value)(ha:w.cell? (ai ab 0)=some x)(hb:w.cell? (ai bb 0)=some y)(fa:w.frozen? (ai ab 0)=false)(fb:w.frozen? (ai bb 0)=false)(hab:¬ab=bb):
  CallsD prog (FI g) #[ag ab,ag bb] (.panicking ({v:= .iface 142 (.agg #[aa k,aa p]),recovered:=false}::older)) w λe u' w'=>
   e= .returned (.tuple #[])/\u'= .panicking ({v:= .iface 142 (.agg #[aa k,aa p]),recovered:=true}::older)/\
    w'=(((w.setCell (ai ab 0) (aa k)).setCell (ai bb 0) (aa p)).alloc (ak #[aa k,aa p] 142)).drew:=by
 have hta:=PI k p;have la:=aQ _ _ ha;have lb:=aQ _ _ hb;simp only at la lb;have⟨p1,p2,p3,p4⟩:=gA (w:=w) (b:=ab) la;have⟨s1,s2,s3,s4⟩:=gA (w:=w) (b:=bb) lb;have hba:¬bb=ab:=λe=>hab e.symm
 cases g<;>dsimp only[FI,cond]
 refine callsD_of_wpS func150 rfl λc₀ cs hu=> ?_
 rotate_left;refine callsD_of_wpS func156 rfl λc₀ cs hu=> ?_
 all_goals
  apply wpS_seq;apply wpS_region;simp[wpOpsS,go_sem,recoverD,hu,Exit.thenS];refine wpS_of_wp ?_;rw[zZ];go_wp2;go_region
  exact⟨rfl,_,rfl,.tuple #[],by simp[results],rfl,rfl,rfl⟩
variable {ks:au} {K:an->Prop} {E B:Nat}
theorem SO (hks:∀x∈ks,x<E)(hK:pQ E B K)(ok:Bool)(v:Value)(w:an)(hE:E<=w.heap.size)(hB:w.heap.size+2<=B)(c0 c1 c2 c3:Value)(h:∀w0,aj w w0->w0.heap.size=w.heap.size+2->Ua (FK g) #[c0,c1,c2,c3] w0 (ya ks K ok v w0)):
  Ua (FT g) #[.func (Fn.func (FK g)) #[] #[c0,c1,c2,c3]] w λe w'=>dX ks w w'/\K w'/\if ok=true then e= .returned (.tuple #[v,aa 0,aa 0])else∃(x:Nz) (y:Int),e= .returned (.tuple #[ZV g,aa x.1,aa y]):=by
 have Ux:= @vD;have⟨B0,K0,K1⟩:=gH w #[aa 0] #[aa 0] 24 3;have HC:Hid (Calls _ _ _ _ _):=h _ B0 Uf;have Uy:=SN g;have Uz:=SM g;clear h
 cases g<;>dsimp only[FI,FT,FK,ZV,cond]at*
 go_enter_defers func95,ntmps95
 rotate_left;go_enter_defers func100,ntmps100
 all_goals
  go_wp2_with fail;generalize(w.alloc (ak #[aa 0] 24)).alloc (ak #[aa 0] 3)=w1 at*;refine HC.out.mono ?_;rintro e w2 ⟨Us,Uv,he⟩;have K2:=K0.kept Us (λq=>by have:=hks _ q;omega);have K3:=K1.kept Us (λq=>by have:=hks _ q;omega);have C2:=(dX.of_below (bs:=ks) B0).trans Us;have⟨k1,k2⟩:=K2.rules;have⟨k3,k4⟩:=K3.rules;have z3:=K3.lt
  cases ok with
  |false=>
   rw[dD Uf]at he;obtain⟨x,y,rfl⟩:=he;unfold dL;refine leaves_cons (args:= #[ag w.heap.size,ag (w.heap.size+1)]) ?_ ?_ ((Uy w.heap.size (w.heap.size+1) x.1 y [] w2 _ _ (k1 0) (k3 0) (k2 0) (k4 0) Ue).mono ?_)
   ·simp
   ·simp[go_sem]
   rintro e u' UC ⟨rfl,rfl,rfl⟩;have q0:=(((K2.set 0 (aa x.1)).other (c:=w.heap.size+1) 0 (aa y) Ue).alloc (ak #[aa x.1,aa y] 142)).cell 0;have q1:=(((K3.other (c:=w.heap.size) 0 (aa x.1) Ue).set 0 (aa y)).alloc (ak #[aa x.1,aa y] 142)).cell 0;have C3:dX ks w (((w2.setCell (ai w.heap.size 0) (aa x.1)).setCell (ai (w.heap.size+1) 0) (aa y)).alloc (ak #[aa x.1,aa y] 142)).drew:=(((C2.freshP (ay _) 0 _).freshP (bT _) 0 _).alloc _).drew;have H3:K (((w2.setCell (ai w.heap.size 0) (aa x.1)).setCell (ai (w.heap.size+1) 0) (aa y)).alloc (ak #[aa x.1,aa y] 142)).drew:=hK w2 _ Uv Uf λz hz hl=>(Below.heap_alloc _ _ z (by simpa using hl)).trans ((dZ Ue).trans (dZ Ue))
   simp at q0 q1;simp[Leaves,settle,results,go_sem,q0,q1];exact⟨C3,H3,x.2⟩
  |true=>
   rw[dE rfl]at he;subst he;go_wp2;refine leaves_cons (args:= #[ag w.heap.size,ag (w.heap.size+1)]) ?_ ?_ ((Uz (ai w.heap.size 0) (ai (w.heap.size+1) 0) _).mono ?_)
   ·simp
   ·simp[go_sem]
   rintro e u' UC ⟨rfl,rfl,rfl⟩;have q0:=((K2.set 0 (aa 0)).other (c:=w.heap.size+1) 0 (aa 0) Ue).cell 0;have q1:=((K3.other (c:=w.heap.size) 0 (aa 0) Ue).set 0 (aa 0)).cell 0;have C3:dX ks w ((w2.setCell (ai w.heap.size 0) (aa 0)).setCell (ai (w.heap.size+1) 0) (aa 0)):=(C2.freshP (ay _) 0 _).freshP (bT _) 0 _;have H3:K ((w2.setCell (ai w.heap.size 0) (aa 0)).setCell (ai (w.heap.size+1) 0) (aa 0)):=hK w2 _ Uv Uf λz hz hl=>(dZ Ue).trans (dZ Ue)
   simp at q0 q1;simp[Leaves,settle,results,go_sem,q0,q1];exact⟨C3,H3⟩
theorem SP (hks:∀x∈ks,x<E)(hK:pQ E B K)(ok:Bool)(v:Value)(w:an)(hE:E<=w.heap.size)(hB:w.heap.size+2<=B)(c0 c1 c2 c3:Value)(h:∀w0,aj w w0->w0.heap.size=w.heap.size+2->Ua (FK g) #[c0,c1,c2,c3] w0 (ya ks K ok v w0)):
  Calls prog (FS g) #[.func (Fn.func (FK g)) #[] #[c0,c1,c2,c3]] w λe w'=>dX ks w w'/\K w'/\e= .returned (.tuple #[if ok=true then v else ZV g,aa (if ok=true then 0 else 12)]):=by
 have HC:=SO g hks hK ok v w hE hB c0 c1 c2 c3 h;clear h
 cases g<;>dsimp only[FT,FK,FS,ZV,cond]at*
 go_in
 rotate_left;go_in
 all_goals
  go_wp2_with fail;refine HC.mono ?_;rintro e w2 ⟨C2,H2,he⟩
  cases ok with
  |false=>
   rw[dD Uf]at he;obtain⟨x,y,rfl⟩:=he;have hx:(x.1 !=0)=true:=by simpa using x.2
   go_wp2;go_ret2;exact⟨C2,H2,rfl⟩
  |true=>
   rw[dE rfl]at he;subst he;go_wp2;go_ret2;exact⟨C2,H2,rfl⟩
theorem Rw (r:Value×Int)(w:an)(hks:∀x∈ks,x<w.heap.size)(hK:pQ w.heap.size (w.heap.size+6) K)(hk0:K w)(sb:Nat)(sv kv:Value)(bs:List dQ)(y:List YM)(P:ap)(nm:am)(a:aw)(n c:Nat)(unk:am)(way:Int)(h1:dM w sb #[sv,kv] 92)(hM:fI w P sv bs y)(hl:y.length<=2001)(hw:way=1\/way=2)
  (hR:(∀m∈y,(m.1.1.toList==nm.toList)=false)->r=(ZV g,5))
  (h:∀(i:Nat) (m:YM),y[i]?=some m->(m.1.1.toList==nm.toList)=true->∃ok v,r=(if ok=true then v else ZV g,if ok=true then 0 else 12)/\∀(w0:an) (q0 q1 q2 q3:Nat),aj w w0->w0.heap.size=w.heap.size+6->w.heap.size<=q0/\w.heap.size<=q1/\w.heap.size<=q2/\w.heap.size<=q3->w0.cell? (ai q0 0)=some (aa way)->w0.cell? (ai q1 0)=some (ag m.1.2)->dM w0 q2 #[.slice a n c,ae unk] 49->w0.cell? (ai q3 0)=some (ag sb)->
   Ua (FK g) #[ag q0,ag q1,ag q2,ag q3] w0 (ya ks K ok v w0)):
  Calls prog (FE g) #[ag sb,aa way,ae nm,.agg #[.slice a n c,ae unk]] w λe w'=>e= .returned (.tuple #[r.1,aa r.2])/\dX ks w w'/\K w':=by
 have Ux:= @vD;obtain⟨w0,Uq⟩:∃w0,((w.alloc (ak #[ag sb] 22)).alloc (ak #[aa way] 3)).alloc (ak #[.slice a n c,ae unk] 49)=w0:=⟨_,rfl⟩;have B0:aj w w0:=by rw[<-Uq];exact(((Below.refl _ _).alloc (ay _) _).alloc Uf _).alloc Ug _
 have KS:dM w0 w.heap.size #[ag sb] 22:=by rw[<-Uq];exact((dM.new w _ _).alloc _).alloc _
 have KY:dM w0 (w.heap.size+1) #[aa way] 3:=by rw[<-Uq];exact(dM.newAt Uf _ _).alloc _
 have KM:dM w0 (w.heap.size+1+1) #[.slice a n c,ae unk] 49:=by rw[<-Uq];exact dM.newAt Uf _ _
 have Ut:=Dt w0 sb sv kv bs y P nm way (h1.below B0 h1.lt) (hM.keep λx _ hl=>B0.block x hl) hl hw;have Uu:Hid (w0.heap.size=w.heap.size+3):=by show _=_;rw[<-Uq];simp
 have⟨s1,s2⟩:=KS.rules;have⟨s3,s4⟩:=KY.rules;have UA:=SP g hks hK
 cases g<;>dsimp only[FK,FS,FE,ZV,cond]at*
 go_in
 rotate_left;go_in
 all_goals
  go_wp2_with fail;refine Ut.mono ?_;clear Ut Uq;rintro e w1 ⟨rfl,⟨i,m,hi,hn,rfl⟩|⟨Uw,rfl⟩⟩
  ·have⟨B1,KP⟩:=dS w1 #[ag m.1.2] 105;have hsz1:(w1.alloc (ak #[ag m.1.2] 105)).heap.size=w.heap.size+4:=by have:=Uu.out;simp;omega
   have⟨ok,v,hr,hc⟩:=h i m hi hn;have HR:Hid _:=hr;clear hr hR
   have UB:=λw3 (hb:Below (w1.alloc (ak #[ag m.1.2] 105)).heap.size (w1.alloc (ak #[ag m.1.2] 105)) w3) (hs:w3.heap.size=(w1.alloc (ak #[ag m.1.2] 105)).heap.size+2)=>by
    have Ur:=dI B1 hb;have h1s:=Uu.out;exact hc w3 _ _ _ _ (dI B0 Ur) Ue ⟨Ue,Ue,Ue,ay _⟩ ((KY.below Ur KY.lt).cell 0) ((KP.below hb KP.lt).cell 0) (KM.below Ur KM.lt) ((KS.below Ur KS.lt).cell 0)
   have HK:=UA ok v (w1.alloc (ak #[ag m.1.2] 105)) Ue Ue _ _ _ _ UB;have B2:=dI B0 B1;go_wp2_with fail;refine HK.mono ?_;rintro e w3 ⟨C3,H3,rfl⟩
   cases ok
   all_goals
    go_wp2;go_ret2;exact⟨by rw[HR.out];rfl,(dX.of_below B2).trans C3,H3⟩
  ·obtain rfl:=hR Uw;have B2:=B0.alloc B0.size (ak #[.pointer none] 105);clear h hR Uw;go_wp2;go_ret2;exact⟨rfl,dX.of_below B2,hK w _ hk0 B2.size λz _ hl=>B2.block z hl⟩
end
end
end
section
open Uq
def vt (form:Int)(m:PM)(n:Int)(v:LV):PM:=if form=2 then m.put n (m.get n++ [pC v])else if form=0/\v.1=0/\gG v.2 eS=true then m.put n []else m.put n [pC v]
def DL (form:Int)(m:PM)(n:Int):Fx (LV×Nat)->Fx (PM×Nat)
 | .error x=> .error x
 | .ok x=> .ok (vt form m n x.1,x.2)
def Lg {form:Int}(h:form≠2)(m:PM)(n:Int)(r:Fx (LV×Nat)):DL form m n r=Nj (decide (form=0)) m n r:=by
 cases r with
 |error x=>rfl
 |ok x=>simp only[DL,Nj,vt,dD h,dF]
def Lh {form:Int}(h:form=2)(m:PM)(n:Int)(r:Fx (LV×Nat)):DL form m n r=JI m n r:=by
 cases r with
 |error x=>rfl
 |ok x=>simp only[DL,JI,vt,dE h]
def BG (form:Int)(args:Array Value)(w:an):(callFunc (lz form) args).run prog w= .ok (.enter (lz form) args) w:=by
 unfold lz
 split
 ·exact enters_of func193 Uj rfl args w
 ·split
  ·exact enters_of func268 Uj rfl args w
  ·exact enters_of func195 Uj rfl args w
def DM (S:d8)(k:Nat)(d:MT)(form:Int)(w:an)(Z:ap)(db:Nat)(m:PM)(n:Int)(v:LV)(h:ek S (k+1) (some d) w Z db m)(ok1:nS S (some d) n .vals)(ok2:∀kd,nS S (some d) n kd->kd= .vals)(hl:m.fs.length<1073741824)(hvl:(m.get n).length<1073741824)(hZ:∀b,Z b->b<w.heap.size):
  Ua (lz form) #[ag db,aa n,vg v] w (jG S k (some d) w Z db (vt form m n v)):=by
 by_cases h0:form=0
 ·have e1:lz form=193:=by unfold lz;rw[dE h0]
  have e2:vt form m n v=if v.1=0/\gG v.2 eS=true then m.put n []else m.put n [pC v]:=by unfold vt;rw[dD Ue];simp[h0]
  rw[e1,e2];exact F8 S k (some d) w Z db m n v h ok1 (.inl ok2) hl hZ
 ·by_cases h2:form=2
  ·have e1:lz form=268:=by unfold lz;rw[dD h0,dE h2]
   have e2:vt form m n v=m.put n (m.get n++ [pC v]):=by unfold vt;rw[dE h2]
   rw[e1,e2];exact xB S k (some d) w Z db m n v h ok1 (.inl ok2) hl hvl
  ·have e1:lz form=195:=by unfold lz;rw[dD h0,dD h2]
   have e2:vt form m n v=m.put n [pC v]:=by unfold vt;rw[dD h2,dD (λq=>h0 q.1)]
   rw[e1,e2];exact xj S k (some d) w Z db m n v h ok1 (.inl ok2) hl
def O2 (w:an)(B:Nat)(S:d8)(mp:am->Option Nat)(k:Nat)(d:MT)(f:eT)(g:GF)(Z:ap)(rb db:Nat)(b:am)(e a z deep:Nat)(kind:Int)(m:PM)(v:Value)
  (I:oF w B S mp k d Z rb db b e a z deep m) (hv:P7 w (λb=>b<B) mp g v) (fg:FG S mp d f g) (h4:g.form≠4) (hb:S.base f.ty<=15) (hff:dR d.fs f.num=some f):
  lJ v [aa kind,ag rb,ag db] w (g6 S k d w Z rb db (b.extract 0 e) deep (DL g.form m f.num (gi (b.extract 0 e) z (S.base f.ty)))):=by
 obtain⟨pb,nb,vb,vv,rfl,h1,h2,h3,Ux,q1,q2,q3⟩:=hv;refine⟨422,[_,_,_],rfl,enters_of func422 Uj rfl,?_⟩;show Ua 422 #[aa kind,ag rb,ag db,ag pb,ag nb,ag vb] w _;rw[fg.eq]at h2 Ux;rw[fg.base]at Ux;have⟨UC,_,_⟩:=kN fg h4 hb;have⟨ok1,ok2⟩:=nV hff UC;have hes:(b.extract 0 e).size=e:=gp I.eb;have hl:=I.wm.len;have hab:=I.az;have hze:=I.ze;have heb:=I.eb;have hbs:=I.bs;have hrb:=I.rB;have Uy:=I.rZ;have Ut:=I.hZ;have hrl:rb<w.heap.size:=dM.lt I.hr;have Uz:ek S (k+1) (some d) w.drew Z db m:=I.hd.keep (λ_ _ _=>rfl);have hr0:dW w.drew rb (b.extract 0 e) z deep:=I.hr;obtain⟨vf,Ur,rfl,eg,hV⟩:=Ki (Ux.keep (w':=w.drew) (λ_ _ _=>rfl)) rb (b.extract 0 e) z deep hr0 Ue Ue Ue (I.cx.u:UOK w.drew) (by have:=I.cx.u1;omega) (by have:=I.cx.u2;omega)
 have HA:Hid (∀(w3:an) (v:LV),ek S (k+1) (some d) w3 Z db m->w.heap.size<=w3.heap.size->Ua (lz g.form) #[ag db,aa f.num,vg v] w3 (jG S k (some d) w3 Z db (vt g.form m f.num v))):=
  λw3 v UD UE=>DM S k d g.form w3 Z db m f.num v UD ok1 ok2 Ue (by have:=hl.2.2 f.num;omega) (λx q=>aD (Ut x q).2 UE)
 have ep:=BG g.form;have UA:Hid (∀x,DL g.form m f.num (.ok x)= .ok (vt g.form m f.num x.1,x.2)):=λ_=>rfl
 have UB:Hid (∀x,DL g.form m f.num (.error x)= .error x):=λ_=>rfl
 obtain⟨R,hR⟩:∃R,gi (b.extract 0 e) z (S.base f.ty)=R:=⟨_,rfl⟩;rw[hR]at hV⊢;clear hR;generalize lz g.form=pf at*;generalize DL g.form m f.num=PR at*;unfold Cp at h1;have Uu:dM w.drew pb #[.func (.func pf) #[] #[]] 480:=h1;have Uv:dM w.drew nb #[aa f.num] 3:=h2;have Uw:dM w.drew vb #[.func (.func vf) #[] Ur.toArray] 478:=h3;go_enter func422,ntmps422;go_upto_region 0 with fail
 go_region_held2 (λW=>W.cell? (ai pb 0)=some (.func (.func pf) #[] #[])/\W.cell? (ai nb 0)=some (aa f.num)/\W.cell? (ai vb 0)=some (.func (.func vf) #[] Ur.toArray))
  (first|exact c4|exact c3|exact⟨Uu.cell 0,Uv.cell 0,Uw.cell 0⟩)
  (first
   |(
     refine hV.mono ?_;intro en w3 hq
     rcases hq.part with⟨x,rfl,rfl,Uq⟩|⟨x,rfl,rfl,Uq,UF⟩
     ·unfold dL;go_wp2;rw[UB.out];exact⟨rfl,rfl,Z,(eC.of_below (Below.refl _ _).drew).trans (.of_kept Uq)⟩
     have c3:w3.cell? (ai pb 0)=some (.func (.func pf) #[] #[])/\w3.cell? (ai nb 0)=some (aa f.num)/\w3.cell? (ai vb 0)=some (.func (.func vf) #[] Ur.toArray):=⟨(Uu.kept Uq Ug).cell 0,(Uv.kept Uq Ug).cell 0,(Uw.kept Uq Ug).cell 0⟩)
   |(
     refine(HA.out w3 x.1 (eC.dr Uz Uq Uy) Uq.size).mono ?_;rintro en w4 ⟨rfl,Z4,Us,UG⟩
     have c4:w4.cell? (ai pb 0)=some (.func (.func pf) #[] #[])/\w4.cell? (ai nb 0)=some (aa f.num)/\w4.cell? (ai vb 0)=some (.func (.func vf) #[] Ur.toArray):=⟨((Uu.kept Uq Ug).step Us (λq=>by have:=(Ut pb q).1;omega)).cell 0,((Uv.kept Uq Ug).step Us (λq=>by have:=(Ut nb q).1;omega)).cell 0,((Uw.kept Uq Ug).step Us (λq=>by have:=(Ut vb q).1;omega)).cell 0⟩))
 all_goals
  go_wp2;go_end0;rw[UA.out];exact⟨rfl,Z4,((eC.of_below (Below.refl _ _).drew).trans (.of_kept Uq)).trans (.of_step Us),UG,dM.step UF Us Uy⟩
def Qd (w:an)(B:Nat)(S:d8)(mp:am->Option Nat)(k:Nat)(d:MT)(f:eT)(g:GF)(Z:ap)(rb db:Nat)(b:am)(e a z deep:Nat)(m:PM)(v:Value)
  (I:oF w B S mp k d Z rb db b e a z deep m) (hv:NQ w (λb=>b<B) mp g v) (fg:FG S mp d f g) (hf:g.form=2) (hb:S.base f.ty<=15) (hff:dR d.fs f.num=some f):
  lJ v [aa (ee (S.base f.ty)),ag rb,ag db] w (g6 S k d w Z rb db (b.extract 0 e) deep (JI m f.num (gi (b.extract 0 e) z (S.base f.ty)))):=by
 obtain⟨pb,nb,vb,vv,rfl,h1,h2,h3,Uv,q1,q2,q3⟩:=hv;refine⟨421,[_,_,_],rfl,enters_of func421 Uk rfl,?_⟩;show Ua 421 #[aa (ee (S.base f.ty)),ag rb,ag db,ag pb,ag nb,ag vb] w _;rw[fg.eq]at h1 h2 Uv;rw[fg.base]at h1 Uv;have⟨UN,_,_⟩:=kN fg Ue hb;have⟨ok1,ok2⟩:=nV hff UN;have UQ:(b.extract 0 e).size=e:=gp I.eb;have hl:=I.wm.len;have U1:=I.az;have U2:=I.ze;have UR:=I.eb;have U3:=I.bs;have US:=I.rB;have UA:=I.rZ;have UD:=I.hZ;have UT:rb<w.heap.size:=dM.lt I.hr;have UG:ek S (k+1) (some d) w.drew Z db m:=I.hd.keep (λ_ _ _=>rfl);have hr0:dW w.drew rb (b.extract 0 e) z deep:=I.hr;obtain⟨vf,Uq,rfl,eg,hV⟩:=Ki (Uv.keep (w':=w.drew) (λ_ _ _=>rfl)) rb (b.extract 0 e) z deep hr0 Ue Ue Ue (I.cx.u:UOK w.drew) (by have:=I.cx.u1;omega) (by have:=I.cx.u2;omega)
 have hA:∀w3:an,∀v:LV,ek S (k+1) (some d) w3 Z db m->Ua 268 #[ag db,aa f.num,vg v] w3 (jG S k (some d) w3 Z db (m.put f.num (m.get f.num++ [pC v]))):=
  λw3 v UV=>xB S k (some d) w3 Z db m f.num v UV ok1 (.inl ok2) Ue (by grind)
 obtain⟨R,hR⟩:∃R,gi (b.extract 0 e) z (S.base f.ty)=R:=⟨_,rfl⟩;rw[hR]at hV⊢;clear hR;generalize(ee (S.base f.ty):Int)=al at*;have Uw:dM w.drew nb #[aa f.num] 3:=h2;have Ux:dM w.drew vb #[.func (.func vf) #[] Uq.toArray] 478:=h3;have⟨k1,k2⟩:=h1.rules;have UU:(al==al)=true:=Uf;go_enter func421,ntmps421;go_upto_region 1 with fail
 go_region_held2 (λW=>W.cell? (ai nb 0)=some (aa f.num)/\W.cell? (ai vb 0)=some (.func (.func vf) #[] Uq.toArray))
  (first|exact c4|exact c3|exact⟨Uw.cell 0,Ux.cell 0⟩)
  (first
   |(
     refine hV.mono ?_;intro en w3 hq
     rcases hq.part with⟨x,rfl,rfl,Us⟩|⟨x,rfl,rfl,Us,Vg⟩
     ·unfold dL;go_wp2;exact⟨rfl,rfl,Z,(eC.of_below (Below.refl _ _).drew).trans (.of_kept Us)⟩
     have c3:w3.cell? (ai nb 0)=some (aa f.num)/\w3.cell? (ai vb 0)=some (.func (.func vf) #[] Uq.toArray):=⟨(Uw.kept Us (by grind)).cell 0,(Ux.kept Us (by grind)).cell 0⟩)
   |(
     go_at_call 268;refine(hA w3 x.1 (eC.dr UG Us UA)).mono ?_;rintro en w4 ⟨rfl,Z4,UF,UK⟩
     have c4:w4.cell? (ai nb 0)=some (aa f.num)/\w4.cell? (ai vb 0)=some (.func (.func vf) #[] Uq.toArray):=⟨((Uw.kept Us (by grind)).step UF (λq=>by grind)).cell 0,((Ux.kept Us (by grind)).step UF (λq=>by grind)).cell 0⟩))
 all_goals
  go_wp2;go_end0;exact⟨rfl,Z4,((eC.of_below (Below.refl _ _).drew).trans (.of_kept Us)).trans (.of_step UF),UK,dM.step Vg UF UA⟩
structure Qe (S:d8)(k:Nat)(d:MT)(B:Nat)(w wr:an)(Z Z':ap)(rb nb db y1 y2:Nat)(b s:am)(deep:Nat)(bs:Nat)(m:PM)(n:Int)(a:Nat)(l:List PV)(F:Nat)(P:Fx (List PV)):Prop where
 st:eC w Z rb wr Z'
 rn:dW wr nb (b.extract 0 y2) a deep
 rr:dW wr rb s y2 deep
 dr:ek S (k+1) (some d) wr Z' db (m.put n l)
 lo:y1<=a
 hi:a<=y2
 ll:l.length<=a
 eq:Hid (P=fw b bs y2 F l a)
 fu:y2-a<=F
 zz:∀x,Z' x->B<=x/\x<wr.heap.size
 zn:¬Z' nb
def Qf (w:an)(B:Nat)(S:d8)(mp:am->Option Nat)(k:Nat)(d:MT)(f:eT)(g:GF)(Z:ap)(rb db:Nat)(b:am)(e a z deep:Nat)(m:PM)(v:Value)
  (I:oF w B S mp k d Z rb db b e a z deep m) (hv:NQ w (λb=>b<B) mp g v) (fg:FG S mp d f g) (hf:g.form=2) (hb:S.base f.ty<=15) (hw:ee (S.base f.ty)≠2) (hff:dR d.fs f.num=some f):
  lJ v [aa 2,ag rb,ag db] w (g6 S k d w Z rb db (b.extract 0 e) deep (qY (S.base f.ty) b f.num m (eP (b.extract 0 e) z))):=by
 obtain⟨pb,ub,vb,vv,rfl,h1,h2,h3,Uv,q1,q2,q3⟩:=hv;refine⟨421,[_,_,_],rfl,enters_of func421 Uk rfl,?_⟩;show Ua 421 #[aa 2,ag rb,ag db,ag pb,ag ub,ag vb] w _;rw[fg.eq]at h1 h2 Uv;rw[fg.base]at h1 Uv;have⟨UN,_,_⟩:=kN fg Ue hb;have⟨ok1,ok2⟩:=nV hff UN;have UQ:(b.extract 0 e).size=e:=gp I.eb;have hl:=I.wm.len;have U1:=I.az;have U2:=I.ze;have UR:=I.eb;have U3:=I.bs;have US:=I.rB;have UA:=I.rZ;have hu1:=I.cx.u1;have hu2:=I.cx.u2;have UD:=I.hZ;have U4:=I.cx;have UT:rb<w.heap.size:=dM.lt I.hr;have UH:=nQ w rb _ z deep I.hr Ue;have Ut:=I.hd.srt;have UG:=I.hd;obtain⟨R,hR⟩:∃R,eP (b.extract 0 e) z=R:=⟨_,rfl⟩;rw[hR]at UH⊢;have HR:Hid (eP (b.extract 0 e) z=R):=hR;clear hR;have hne:((2:Int)==(ee (S.base f.ty):Int))=false:=by grind
 have h13:S.base f.ty≠13:=λq=>hw (by rw[q];rfl)
 have h14:S.base f.ty≠14:=λq=>hw (by rw[q];rfl)
 generalize(ee (S.base f.ty):Int)=al at*
 obtain⟨vf,Uq,rfl⟩:∃vf Uq,vv= .func (.func vf) #[] Uq:=by
  rcases Uv with⟨_,rfl⟩|⟨_,rfl⟩|⟨_,_,_,rfl,_⟩
  ·omega
  ·omega
  grind
 have⟨k1,k2⟩:=h1.rules;have U5:=I.cx.le;clear I;go_enter func421,ntmps421;go_wp2_with fail;refine UH.mono ?_;intro en w3 hq
 rcases hq.part with⟨x,rfl,rfl,Us⟩|⟨y,nb,rfl,rfl,Us,Vh,hnr,UC,UO⟩
 ·unfold dL;go_wp2;exact⟨rfl,rfl,Z,.of_kept Us⟩
 clear k1 k2 UH;obtain⟨y1,y2⟩:=y;have⟨v0,v1,v2⟩:=iU HR.out;rw[UQ]at v2;have UU:(b.extract 0 e).extract 0 y2=b.extract 0 y2:=jR UR v2;simp only[UU]at UC;have U6:(b.extract 0 y2).size=y2:=gp Ue;have UV:=eC.dr UG Us UA
 have P0:Qe S k d B w w3 Z Z rb nb db y1 y2 b (b.extract 0 e) deep (S.base f.ty) m f.num y1 (m.get f.num) (y2-y1) (fw b (S.base f.ty) y2 (y2-y1) (m.get f.num) y1):=
  ⟨.of_kept Us,UC,UO,by rw[Gf Ut.1 Ut.2];omega,ay _,v1,by grind,rfl,ay _,λx q=>⟨(UD x q).1,aD (UD x q).2 Us.size⟩,λq=>by grind⟩
 obtain⟨P,hP⟩:∃P,fw b (S.base f.ty) y2 (y2-y1) (m.get f.num) y1=P:=⟨_,rfl⟩
 have HQ:Hid (qY (S.base f.ty) b f.num m (.ok (y1,y2))=JJ m f.num y2 P):=by
  show JJ m f.num y2 (fw b (S.base f.ty) y2 (y2-y1) (m.get f.num) y1)=_;rw[hP]
 rw[hP]at P0;clear hP;go_wp2;go_loopw [21] (λ_ wr=>∃Z' a' l F',Qe S k d B w wr Z Z' rb nb db y1 y2 b (b.extract 0 e) deep (S.base f.ty) m f.num a' l F' P) (λ_ wr=>lH wr nb y2)
 case atStart=>grind
 case round=>
  obtain⟨Z',a',l,F',O⟩:=hrel;have hM:=rm wr nb _ a' deep O.rn;rw[U6]at hM;have hlo:=O.lo;have hhi:=O.hi;have hll:=O.ll;go_wp2_with fail;refine hM.mono ?_;rintro en w4 ⟨rfl,q,rfl⟩
  by_cases hlt:a'<y2
  ·have hd:decide (a'<y2)=true:=decide_eq_true hlt;obtain⟨F2,rfl⟩:∃F2,F'=F2+1:=⟨F'-1,by have:=O.fu;omega⟩;have UE:Below B w wr:=O.st.below U5 (λx q=>(UD x q).1) US;have Uy:Below B w (wr.drewN q).drew:=(ie UE q).drew;have hu:UOK (wr.drewN q).drew:=(U4.on UE).u;have U7:dW (wr.drewN q).drew nb (b.extract 0 y2) a' deep:=O.rn;have UW:=Vh;have⟨Vi,Ur,Vj,eg,hV⟩:=Ki (Uv.keep (w':=(wr.drewN q).drew) (λx h _=>Uy.block x h)) nb (b.extract 0 y2) a' deep U7 Ue Ue Ue hu Ue Ue;obtain⟨rfl,rfl⟩:vf=Vi/\Uq=Ur.toArray:=by grind
   clear Vj
   have UI:gi (b.extract 0 y2) a' (S.base f.ty)=match jb (b.extract 0 y2) a' (S.base f.ty)with| .error x=> .error x| .ok x=> .ok ((x.1,⟨#[]⟩),x.2):=by
    unfold gi
    grind
   have UJ:=zL (k:=S.base f.ty) (F:=F2) (l:=l) (show y2<=b.size by omega) hlt
   have UB:Hid (∀x,gi (b.extract 0 y2) a' (S.base f.ty)= .error x->qY (S.base f.ty) b f.num m (.ok (y1,y2))= .error x):=λx hx=>by
    rw[HQ.out,O.eq.out,UJ];rw[UI]at hx
    cases hn:jb (b.extract 0 y2) a' (S.base f.ty)with
    |error y=>rw[hn]at hx;cases hx;rfl
    |ok y=>grind
   have UX:Hid (∀x,gi (b.extract 0 y2) a' (S.base f.ty)= .ok x->P=fw b (S.base f.ty) y2 F2 (l++ [pC x.1]) x.2):=λx hx=>by
    rw[O.eq.out,UJ];rw[UI]at hx
    cases hn:jb (b.extract 0 y2) a' (S.base f.ty)with
    |error y=>grind
    |ok y=>rw[hn]at hx;cases hx;rfl
   clear UI UJ;have UK:ek S (k+1) (some d) (wr.drewN q).drew Z' db (m.put f.num l):=O.dr.keep (λ_ _ _=>rfl)
   have hA:∀w5:an,∀v:LV,ek S (k+1) (some d) w5 Z' db (m.put f.num l)->Ua 268 #[ag db,aa f.num,vg v] w5 (jG S k (some d) w5 Z' db (m.put f.num (l++ [pC v]))):=λw5 v Vk=>by
    have h1:=PM.put_len m f.num l;have h2:=Df Ut.1 f.num l;have:=xB S k (some d) w5 Z' db (m.put f.num l) f.num v Vk ok1 (.inl ok2) Ue (by grind);rw[h2,Ge Ut.1]at this;exact this
   obtain⟨Rv,UP⟩:∃Rv,gi (b.extract 0 y2) a' (S.base f.ty)=Rv:=⟨_,rfl⟩
   have U8:Hid (∀x,Rv= .ok x->a'<x.2/\x.2<=y2):=λx hx=>by
    have:=Dd hb (UP.trans hx);omega
   rw[UP]at hV UB UX;clear UP;have Uw:dM (wr.drewN q).drew ub #[aa f.num] 3:=h2.below Uy Ue;have Ux:dM (wr.drewN q).drew vb #[.func (.func vf) #[] Ur.toArray] 478:=h3.below Uy Ue;have U9:dW (wr.drewN q).drew rb (b.extract 0 e) y2 deep:=O.rr;have UY:eC w Z rb (wr.drewN q).drew Z':=O.st.trans (.of_below (ie (Below.refl _ _) q).drew);have UL:=O.zn;have Va:=O.zz;have Vb:¬Z' rb:=O.st.not UT UA;have HM:Hid (lH wr nb y2=y2-a'):=gW O.rn;have Vc:Hid (y2-a'<=F2+1):=O.fu;have hub:Below B w wr:=UE;clear O hM UE;go_upto_region 4 with fail
   go_region_held2 (λW=>W.cell? (ai ub 0)=some (aa f.num)/\W.cell? (ai vb 0)=some (.func (.func vf) #[] Ur.toArray))
    (first|exact c6|exact c5|exact⟨Uw.cell 0,Ux.cell 0⟩)
    (first
     |(
       refine hV.mono ?_;intro en w5 Vl
       rcases Vl.part with⟨x,rfl,rfl,Uu⟩|⟨x,rfl,rfl,Uu,U0⟩
       ·unfold dL;go_wp2;rw[UB.out x rfl];exact⟨rfl,rfl,Z',UY.keptN Uu UW⟩
       have c5:w5.cell? (ai ub 0)=some (aa f.num)/\w5.cell? (ai vb 0)=some (.func (.func vf) #[] Ur.toArray):=⟨(Uw.kept Uu (by grind)).cell 0,(Ux.kept Uu (by grind)).cell 0⟩)
     |(
       go_at_call 268;refine(hA w5 x.1 (eC.dr UK Uu UL)).mono ?_;rintro en w6 ⟨rfl,Z6,Uz,Vm⟩
       have c6:w6.cell? (ai ub 0)=some (aa f.num)/\w6.cell? (ai vb 0)=some (.func (.func vf) #[] Ur.toArray):=⟨((Uw.kept Uu (by grind)).step Uz (λq=>by grind)).cell 0,((Ux.kept Uu (by grind)).step Uz (λq=>by grind)).cell 0⟩))
   all_goals
    have Vd:=U8.out x rfl;have UZ:dW w6 nb (b.extract 0 y2) x.2 deep:=dM.step U0 Uz UL;have Ve:=(UY.keptN Uu UW).trans (.of_step Uz);have Vf:dW w6 rb (b.extract 0 e) y2 deep:=dM.step (dM.kept U9 Uu (by grind)) Uz Vb;have UM:nb<w5.heap.size:=dM.lt U0
    have PN:Qe S k d B w w6 Z (λi=>Z6 i/\i<w6.heap.size) rb nb db y1 y2 b (b.extract 0 e) deep (S.base f.ty) m f.num x.2 (l++ [pC x.1]) F2 P:=
     ⟨Ve.clip,UZ,Vf,Vm.clip,Ue,Vd.2,by grind,UX.out x rfl,by have:=Vc.out;omega,λi q=>⟨(Uz.grow i q.1).elim (λe=>(Va i e).1) (λe=>Ue),q.2⟩,λq=>Uz.not UM UL q.1⟩
    go_wp2;go_roundw
    case rel=>grind
    case measure=>rw[HM.out,gW UZ];omega
  ·have hd:decide (a'<y2)=false:=decide_eq_false hlt
   have HE:Hid (qY (S.base f.ty) b f.num m (.ok (y1,y2))= .ok (m.put f.num l,y2)):=by
    show _=_;rw[HQ.out,O.eq.out]
    have:fw b (S.base f.ty) y2 F' l a'= .ok l:=by
     cases F' with
     |zero=>rfl
     |succ F'=>rw[fw,dD hlt]
    rw[this];rfl
   go_wp2;go_end0;rw[HE.out];exact⟨rfl,Z',O.st.trans (.of_below (ie (Below.refl _ _) q)),O.dr.keep (λ_ _ _=>rfl),O.rr⟩
def nF (form:Int)(m:PM)(n:Int)(sm:PM):PM:=if form=2 then m.put n (m.get n++ [mV sm])else m.put n [mV sm]
def kA (form:Int)(m:PM)(n:Int):PM:=if form=2 then PM.none else((m.get n).headD PV.none).2.2
def yc (form:Int)(args:Array Value)(w:an):(callFunc (jk form) args).run prog w= .ok (.enter (jk form) args) w:=by
 unfold jk
 split
 ·exact enters_of func190 Uj rfl args w
 ·exact enters_of func191 Uj rfl args w
def yX {S:d8}{mp:am->Option Nat}{d:MT}{f:eT}{g:GF}{sub:MT}(fg:FG S mp d f g)(hff:dR d.fs f.num=some f)(hM:Dg S d f sub)(k:Nat)(w:an)(Z:ap)(db:Nat)(m:PM)(h:ek S (k+1+1) (some d) w Z db m)(hl:m.fs.length<1073741823)(hvl:(m.get f.num).length<1073741824)(hZ:∀b,Z b->b<w.heap.size):
  Ua (jk g.form) #[ag db,aa f.num] w (sC S (k+1) (some d) w Z db (some sub) (kA g.form m f.num) (nF g.form m f.num)):=by
 have⟨ok1,ok2,UR⟩:=hM.kind hff
 by_cases h2:g.form=2
 ·have e1:jk g.form=190:=by unfold jk;rw[dE h2]
  have e2:kA g.form m f.num=PM.none:=by unfold kA;rw[dE h2]
  have e3:nF g.form m f.num=λm'=>m.put f.num (m.get f.num++ [mV m']):=funext λsm=>by unfold nF;rw[dE h2]
  rw[e1,e2,e3,<-UR];exact nC S k (some d) w Z db m f.num (h.slot Ue) ok1 ok2 (λ⟨d',f',e1,e2,e3⟩=>by cases e1;rw[hff]at e2;cases e2;rw[fg.rep,h2]at e3;cases e3) hvl (λq=>by have:=hZ _ q;omega)
 ·have e1:jk g.form=191:=by unfold jk;rw[dD h2]
  have e2:kA g.form m f.num=((m.get f.num).headD PV.none).2.2:=by unfold kA;rw[dD h2]
  have e3:nF g.form m f.num=λm'=>m.put f.num [mV m']:=funext λsm=>by unfold nF;rw[dD h2]
  rw[e1,e2,e3,<-UR];exact xl S k (some d) w Z db m f.num h ok1 ok2 ⟨d,f,rfl,hff,by rw[fg.rep];simp[h2]⟩ hl hZ
def Rx (w:an)(B:Nat)(S:d8)(mp pm:am->Option Nat)(k:Nat)(d:MT)(f:eT)(g:GF)(Z:ap)(rb db:Nat)(b:am)(e a z deep F:Nat)(kind:Int)(m:PM)(sub:MT)(v:Value)
  (I:oF w B S mp k d Z rb db b e a z deep m) (hpc:mS w (λb=>b<B) S mp pm) (hv:P8 w (λb=>b<B) mp pm g v) (fg:FG S mp d f g) (hff:dR d.fs f.num=some f) (hS:Eo S) (hM:Dg S d f sub) (hkd:k+deep=8) (hRd:KX S mp pm B b F) (hF:e-z<=F):
  lJ v [aa kind,ag rb,ag db] w (g6 S k d w Z rb db (b.extract 0 e) deep (xC S b F sub (kA g.form m f.num) deep (nF g.form m f.num) (ny (b.extract 0 e) z deep (kt mp g)))):=by
 obtain⟨ib,lb,pb,ub,pn,rfl,h1,h2,h3,h4,US,q1,q2,q3,q4⟩:=hv;refine⟨419,[_,_,_,_],rfl,enters_of func419 Uj rfl,?_⟩;show Ua 419 #[aa kind,ag rb,ag db,ag ib,ag lb,ag pb,ag ub] w _;have UW:g.form≠4:=λq=>by have:=hM.hm;rw[fg.map,q]at this;cases this
 have⟨UH,UT,UU,U9⟩:=sI (deep:=deep) fg hS hM.hs Ue;rw[fg.eq]at h4 US;have UA:S.msg f.ty=some sub:=by have:=hM.hs;unfold eV at this;rw[hM.hm]at this;exact this
 have⟨UI,gs,UV,Va,Vb⟩:=hpc _ _ US;obtain rfl:sub=UI:=by rw[UA]at UV;exact Option.some.inj UV
 have UX:(b.extract 0 e).size=e:=gp I.eb;have hab:=I.az;have hze:=I.ze;have UY:=I.eb;have hbs:=I.bs;have hrb:=I.rB;have UM:=I.rZ;have Uz:=I.hZ;have UZ:=I.cx.le;have U0:rb<w.heap.size:=dM.lt I.hr;have UB:=qg w.drew rb (b.extract 0 e) z deep (kt mp g) (I.hr:dW w.drew rb (b.extract 0 e) z deep) Ue Ue Ue UT UU;obtain⟨Us,Ut⟩:∃Us,kt mp g=Us:=⟨_,rfl⟩;rw[Ut]at h2 UB⊢
 have UN:Hid (∀y:Nat×Nat,ny (b.extract 0 e) z deep Us= .ok y->z<y.1/\y.1<=y.2/\y.2<=e/\1<=k/\(b.extract 0 e).extract 0 y.2=b.extract 0 y.2):=λy hy=>by
  have⟨q1,q2⟩:=vT hy;have⟨v0,v1,v2⟩:=iU (z:=y.1) (e:=y.2) q1;rw[UX]at v2
  have hlv:1<=Us:=by
   rw[<-Ut];unfold kt;rw[dD (λq=>UW q.1),dE U9];exact dm _
  exact⟨v0,v1,v2,Ue,jR UY v2⟩
 clear Ut UT UU UH;obtain⟨R,hR⟩:∃R,ny (b.extract 0 e) z deep Us=R:=⟨_,rfl⟩;rw[hR]at UB UN⊢;clear hR;have hlen:=I.wm.len
 have UO:WM S a sub (kA g.form m f.num):=by
  unfold kA
  split
  ·exact WM.none S a sub
  ·rename_i h2
   have:=(lX I.wm hff hM.hs).2;unfold eI at this;rw[hM.hm,fg.rep]at this;simpa [h2]using this
 have HP:Hid (∀k',k=k'+1->∀(w3:an),ek S (k+1) (some d) w3 Z db m->w.heap.size<=w3.heap.size->Ua (jk g.form) #[ag db,aa f.num] w3 (sC S k (some d) w3 Z db (some sub) (kA g.form m f.num) (nF g.form m f.num))):=by
  rintro k' rfl w3 UD Vc;exact yX fg hff hM k' w3 Z db m UD Ue (by have:=hlen.2.2 f.num;omega) (λx q=>aD (Uz x q).2 Vc)
 have U1:Hid (∀k',k=k'+1->∀(w4:an) (C:ap) (y:Nat×Nat) (nb p:Nat),Below B w w4->z<y.1->y.1<=y.2->y.2<=e->dW w4 nb (b.extract 0 y.2) y.1 ((deep:Int)+1)->ek S k (some sub) w4 C p (kA g.form m f.num)->(∀x,C x->B<=x/\x<w4.heap.size)->B<=nb->¬C nb->
   Ua 89 #[ag pn,ag nb,ag p] w4 (g6 S k' sub w4 C nb p (b.extract 0 y.2) (deep+1) (oS y.2 (eE S b F sub (kA g.form m f.num) y.1 y.2 (deep+1))))):=by
  rintro k' rfl w4 C y nb p UJ v0 v1 v2 Vd UK hC Ve UG;exact hRd w4 C sub _ y.1 y.2 (deep+1) k' pn gs nb p (I.cx.on UJ) (hpc.keep (λx q _=>UJ.block x q)) (Va.keep (λx q _=>UJ.block x q) (λ_ _ q=>q)) Vb (hS.good.sub hM.hs) (by rw[Int.natCast_succ];exact Vd) UK hC Ve UG v1 Ue Ue Ue (UO.mono Ue)
 have ep:=yc g.form;have U2:ek S (k+1) (some d) w.drew Z db m:=I.hd.keep (λ_ _ _=>rfl);clear UO hlen;generalize kA g.form m f.num=m0 at*;generalize nF g.form m f.num=M at*;generalize jk g.form=pf at*;unfold Cp at h3;have U3:dM w.drew ib #[ag pn] 116:=h1;have U4:dM w.drew lb #[aa Us] 3:=h2;have U5:dM w.drew pb #[.func (.func pf) #[] #[]] 477:=h3;have U6:dM w.drew ub #[aa f.num] 3:=h4
 have HC:Hid (∀W:an,Below B w.drew W->W.cell? (ai ib 0)=some (ag pn)/\W.cell? (ai lb 0)=some (aa Us)/\W.cell? (ai pb 0)=some (.func (.func pf) #[] #[])/\W.cell? (ai ub 0)=some (aa f.num)):=λW hW=>
  ⟨(U3.below hW q1).cell 0,(U4.below hW q2).cell 0,(U5.below hW q3).cell 0,(U6.below hW q4).cell 0⟩
 have Uu:Hid (∀y:Nat×Nat,xC S b F sub m0 deep M (.ok y)=JK M y.2 (eE S b F sub m0 y.1 y.2 (deep+1))):=λ_=>rfl
 have b0:Below B w w.drew:=(Below.refl _ _).drew;have UP:eC w Z rb w.drew Z:= .of_below (Below.refl _ _).drew;go_enter func419,ntmps419;go_upto_region 0 with fail
 go_region_held2 (λW=>W.cell? (ai ib 0)=some (ag pn)/\W.cell? (ai lb 0)=some (aa Us)/\W.cell? (ai pb 0)=some (.func (.func pf) #[] #[])/\W.cell? (ai ub 0)=some (aa f.num))
  (first|exact HC.out _ b5|exact HC.out _ b4|exact HC.out _ b3|exact HC.out _ (Below.refl _ _))
  (first
   |(
     go_at_call 185;refine UB.mono ?_;intro en w3 hq
     rcases hq.part with⟨x,rfl,rfl,Ur⟩|⟨y,nb,rfl,rfl,Ur,Vf,Vg,Ux,UL⟩
     ·unfold dL;go_wp2;exact⟨rfl,rfl,Z,UP.trans (.of_kept Ur)⟩
     have⟨v0,v1,v2,v3,v4⟩:=UN.out y rfl;obtain⟨k',rfl⟩:∃k',k=k'+1:=⟨k-1,Ue⟩;have UC:=UP.trans (.of_kept Ur);have UD:=eC.dr U2 Ur UM;have U7:w.heap.size<=w3.heap.size:=Ur.size;have hnb1:w.heap.size<=nb:=Vf;have Uv:nb<w3.heap.size:=dM.lt Ux;have UE:¬Z nb:=λq=>by have:=(Uz nb q).2;omega
     have b3:Below B w.drew w3:=⟨Ur.os,Ur.tape,Ur.output,Ur.size,λi hi=>Ur.block i (aD hi UZ) Ug⟩
     have Uw:dW w3 nb (b.extract 0 y.2) y.1 ((deep:Int)+1):=by rw[<-v4];exact Ux)
   |(
     go_at_call 89;refine(U1.out k' rfl w4 C y nb p (b0.trans b4) v0 v1 v2 UF UK (λx q=>⟨UQ x (hH.1 x q),Vj x q⟩) Ue UG).mono ?_;intro en w5 Vh
     rcases Vh.part with⟨x,hP,rfl,Z5,Uy⟩|⟨sm,hP,rfl,Z5,Uy,Vi⟩
     ·unfold dL;go_wp2;rw[Uu.out y,hP];exact⟨rfl,rfl,_,sJ UC Ue Uq hH.1 Uy⟩
     have b5:Below B w.drew w5:=b4.trans (Uy.below (by have:=Uq.size;omega) (λx q=>UQ x (hH.1 x q)) Ue);have U8:Hid (eE S b F sub m0 y.1 y.2 (deep+1)= .ok sm):=hP
     clear hP)
   |(
     refine(HP.out k' rfl w3 UD U7).mono ?_;rintro en w4 ⟨p,Z4,C,rfl,Uq,UK,hH,Vj⟩;have UQ:∀x,Z4 x->B<=x:=λx q=>(Uq.grow x q).elim (λe=>(Uz x e).1) (λe=>Ue)
     have UF:dW w4 nb (b.extract 0 y.2) y.1 ((deep:Int)+1):=dM.step Uw Uq UE;have b4:Below B w.drew w4:=b3.trans ⟨Uq.os,Uq.tape,Uq.output,Uq.size,λi hi=>Uq.block i Ue (λq=>by have:=(Uz i q).1;omega)⟩
     have UG:¬C nb:=λq=>Uq.not Uv UE (hH.1 nb q)))
 all_goals
  go_wp2;go_end0;rw[Uu.out y,U8.out];exact⟨rfl,_,sJ UC Ue Uq hH.1 Uy,Dh UC U0 UM Uv UE Vg UL Uq hH Uy Vi⟩
def DN {w:an}{Q:ap}{mp pm:am->Option Nat}{k t:am}{p:Nat}(h:qZ w Q mp (Cs w Q mp pm) (MC mp pm) [kJ nt k 1,kJ po t 2] p):ij w Q mp pm [kJ nt k 1,kJ po t 2] p:=
 qZ.move (.keep λ_ _ _=>rfl) (λg hg v hv=>by
  simp only[aN,bH,or_false]at hg;unfold lA
  rcases hg with rfl|rfl
  ·rw[dD (by simp[kJ])];exact hv
  ·rw[dD (by simp[kJ])];exact hv) (λg hg v hv=>by
  simp only[aN,bH,or_false]at hg
  rcases hg with rfl|rfl
  ·exact(iz.lk (by simp[kJ])).2 hv
  ·exact(iz.lk (by simp[kJ])).2 hv) h
def Ry (w:an)(B:Nat)(S:d8)(mp pm:am->Option Nat)(k:Nat)(d:MT)(f:eT)(g:GF)(Z:ap)(rb db:Nat)(b:am)(e a z deep F:Nat)(kind:Int)(m:PM)(v:Value)
  (I:oF w B S mp k d Z rb db b e a z deep m) (hpc:mS w (λb=>b<B) S mp pm) (hv:O1 w (λb=>b<B) mp (qZ w (λb=>b<B) mp (Cs w (λb=>b<B) mp pm) (MC mp pm) [kJ nt g.f.key 1,kJ po g.f.ty 2]) g v) (fg:FG S mp d f g) (hff:dR d.fs f.num=some f) (hS:Eo S) (h4:g.form=4) (hkd:k+deep=8) (hgd:lw S d) (hRd:KX S mp pm B b F) (hF:e-z<=F):
  lJ v [aa kind,ag rb,ag db] w (g6 S k d w Z rb db (b.extract 0 e) deep (xC S b F (et f) PM.none deep (yS f m) (ny (b.extract 0 e) z deep (kt mp g)))):=by
 obtain⟨ib,lb,ub,sb,UE,rfl,h1,h2,h3,h5,UD,q1,q2,q3,q4⟩:=hv;refine⟨418,[_,_,_,_],rfl,enters_of func418 Uj rfl,?_⟩;show Ua 418 #[aa kind,ag rb,ag db,ag ib,ag lb,ag ub,ag sb] w _;have UD:=DN UD;have hm:f.isMap=true:=by rw[fg.map,h4];rfl
 have Uq:eV S f=some (et f):=by unfold eV;rw[dE hm]
 have⟨UN,U2,U3,Vf⟩:=sI (deep:=deep) fg hS Uq Ue;have⟨Vg,kq2,Vh,Vi⟩:=fg.key h4;have UR:oO S f= .ents f.key:=by unfold oO;rw[dE hm]
 have ok1:nS S (some d) f.num (.ents f.key):=λd' f' e1 e2=>by cases e1;rw[hff]at e2;cases e2;exact UR.symm
 have ok2:∀kd,nS S (some d) f.num kd->kd= .ents f.key:=λkd q=>by rw[q d f rfl hff,UR]
 rw[fg.eq]at h3 h5 UD;rw[Vg,Vi]at h5;have U4:(b.extract 0 e).size=e:=gp I.eb;have hab:=I.az;have hze:=I.ze;have U5:=I.eb;have U6:=I.bs;have US:=I.rB;have UT:=I.rZ;have Uv:=I.hZ;have UF:=I.cx.le;have U7:rb<w.heap.size:=dM.lt I.hr;have UG:=λw1 (h:dW w1 rb (b.extract 0 e) z deep)=>qg w1 rb (b.extract 0 e) z deep (kt mp g) h Ue Ue Ue U2 U3
 obtain⟨Ur,Us⟩:∃Ur,kt mp g=Ur:=⟨_,rfl⟩;rw[Us]at h2 UG⊢
 have UU:Hid (∀y:Nat×Nat,ny (b.extract 0 e) z deep Ur= .ok y->z<y.1/\y.1<=y.2/\y.2<=e/\1<=k/\(b.extract 0 e).extract 0 y.2=b.extract 0 y.2):=λy hy=>by
  have⟨q1,q2⟩:=vT hy;have⟨v0,v1,v2⟩:=iU (z:=y.1) (e:=y.2) q1;rw[U4]at v2
  have hlv:1<=Ur:=by
   rw[<-Us];unfold kt;rw[Vf]
   split<;>simp
  exact⟨v0,v1,v2,Ue,jR U5 v2⟩
 clear Us U2 U3 UN;obtain⟨R,hR⟩:∃R,ny (b.extract 0 e) z deep Ur=R:=⟨_,rfl⟩;rw[hR]at UG UU⊢;clear hR;have hlen:=I.wm.len
 have U8:Hid (∀k',k=k'+1->∀(w4:an) (C:ap) (y:Nat×Nat) (nb p:Nat),Below B w w4->z<y.1->y.1<=y.2->y.2<=e->dW w4 nb (b.extract 0 y.2) y.1 ((deep:Int)+1)->ek S k (some (et f)) w4 C p PM.none->(∀x,C x->B<=x/\x<w4.heap.size)->B<=nb->¬C nb->
   Ua 89 #[ag UE,ag nb,ag p] w4 (g6 S k' (et f) w4 C nb p (b.extract 0 y.2) (deep+1) (oS y.2 (eE S b F (et f) PM.none y.1 y.2 (deep+1))))):=by
  rintro k' rfl w4 C y nb p UO v0 v1 v2 Vj Vk hC Vl Vm;exact hRd w4 C (et f) _ y.1 y.2 (deep+1) k' UE _ nb p (I.cx.on UO) (hpc.keep (λx q _=>UO.block x q)) (UD.keep (λx q _=>UO.block x q) (λ_ _ q=>q)) (Bi fg h4) (hS.good.sub Uq) (by rw[Int.natCast_succ];exact Vj) Vk hC Vl Vm v1 Ue Ue Ue (WM.none _ _ _)
 have UH:Hid (∀k',k=k'+1->∀(w6:an) (Z6 E:ap) (eb:Nat) (y:Nat×Nat) (sm:PM),z<y.1->y.1<=y.2->y.2<=e->eE S b F (et f) PM.none y.1 y.2 (deep+1)= .ok sm->ek S (k+1) (some d) w6 Z6 db m->ek S k (some (et f)) w6 E eb sm->(∀x,E x->¬Z6 x)->(∀x,Z6 x->x<w6.heap.size)->(∀x,E x->x<w6.heap.size)->
   Ua 187 #[ag db,aa f.num,.bool (eM iL f.key),ag eb] w6 λen w'=>en= .returned (.tuple #[])/\∃Z',fk w6 (λb=>Z6 b\/E b) w' Z'/\ek S (k+1) (some d) w' Z' db (yS f m sm)):=by
  rintro k' rfl w6 Z6 E eb y sm v0 v1 v2 Vn UM Vo UP Vp Vq;have UV:=ku hS.good U6 F (et f) PM.none y.1 y.2 (deep+1) sm Vn (hS.good.sub Uq) v1 Ue (WM.none _ _ _);have UW:=AZ (hgd f (eW hff).2 hm) UV;have hel:=UV.len.1;exact uK S k' (some d) w6 Z6 E db eb m sm f.num f.key _ UM Vo.toKey Vh UP Vp Vq ok1 ok2 rfl UW.ky (by have⟨r,hr⟩:=UW.key;show(fZ sm).get 1≠ [];have:(mV (fZ sm)).2.2.get 1=_:=hr;simp only[mV]at this;rw[this];simp) Ue (by have:=hlen.2.2 f.num;omega) Ue
 have hr0:=I.hr;have U9:=I.hd;have⟨B1,KE⟩:=dS w #[ah,ah] 183;have UX:w.heap.size<(w.alloc (ak #[ah,ah] 183)).heap.size:=KE.lt;have Ux:Hid (∀y:Nat×Nat,xC S b F (et f) PM.none deep (yS f m) (.ok y)=JK (yS f m) y.2 (eE S b F (et f) PM.none y.1 y.2 (deep+1))):=λ_=>rfl
 clear I;go_enter func418,ntmps418;go_upto_region 1 with fail
 obtain⟨wa,UQ⟩:∃wa,w.alloc (ak #[ah,ah] 183)=wa:=⟨_,rfl⟩;rw[UQ]at KE B1 UX;simp only[UQ];clear UQ;obtain⟨eb,UA⟩:∃eb,w.heap.size=eb:=⟨_,rfl⟩;have b1:Below B w wa.drew:=(B1.mono UF).drew;have UI:dW wa.drew rb (b.extract 0 e) z deep:=dM.below hr0 B1.drew U7;have UJ:ek S (k+1) (some d) wa.drew Z db m:=U9.keep (λx _ q=>B1.block x q);have Uy:eC w Z rb wa.drew Z:= .of_below B1.drew;have HC:Hid (∀W:an,Below B w W->W.cell? (ai ib 0)=some (ag UE)/\W.cell? (ai lb 0)=some (aa Ur)):=λW hW=>⟨(h1.below hW q1).cell 0,(h2.below hW q2).cell 0⟩
 have UY:dM wa.drew w.heap.size #[ah,ah] 183:=KE;rw[UA]at UY UX;simp only[UA]
 go_region_held2 (λW=>W.cell? (ai ib 0)=some (ag UE)/\W.cell? (ai lb 0)=some (aa Ur))
  (first|exact HC.out _ b5|exact HC.out _ b3|exact HC.out _ b1)
  (first
   |(
     go_at_call 185;refine(UG wa.drew UI).mono ?_;intro en w3 hq
     rcases hq.part with⟨x,rfl,rfl,Uw⟩|⟨y,nb,rfl,rfl,Uw,Vr,Vs,UB,UC⟩
     ·unfold dL;go_wp2;exact⟨rfl,rfl,Z,Uy.trans (.of_kept Uw)⟩
     have⟨v0,v1,v2,v3,v4⟩:=UU.out y rfl;obtain⟨k',rfl⟩:∃k',k=k'+1:=⟨k-1,Ue⟩;have UK:=Uy.trans (.of_kept Uw);have Va:=eC.dr UJ Uw UT;have hw3:wa.heap.size<=w3.heap.size:=Uw.size;have hnb1:wa.heap.size<=nb:=Vr;have hnl3:nb<w3.heap.size:=dM.lt UB;have Vb:¬Z nb:=λq=>by have:=(Uv nb q).2;omega
     have Vc:=UY.kept Uw Ug;have Vd:ek S (k'+1) (some (et f)) w3 (λx=>x=eb) eb PM.none:=ek.fresh Vc;have b3:Below B w w3:=UK.below UF (λx q=>(Uv x q).1) US
     have Uz:dW w3 nb (b.extract 0 y.2) y.1 ((deep:Int)+1):=by rw[<-v4];exact UB)
   |(
     go_at_call 89;refine(U8.out k' rfl w3 (λx=>x=eb) y nb eb b3 v0 v1 v2 Uz Vd (λx q=>by subst q;exact⟨Ue,Ue⟩) Ue Ue).mono ?_;intro en w5 Vt
     rcases Vt.part with⟨x,hP,rfl,Z5,Ut⟩|⟨sm,hP,rfl,Z5,Ut,Vu⟩
     ·unfold dL;go_wp2;rw[Ux.out y,hP];exact⟨rfl,rfl,_,sK UK Ue Ue Ut⟩
     have UZ:=sK UK Ue Ue Ut;have b5:Below B w w5:=UZ.below UF (λx q=>(Uv x q).1) US;have U0:Hid (eE S b F (et f) PM.none y.1 y.2 (deep+1)= .ok sm):=hP
     clear hP))
 have U1:∀x,Z5 x->x=eb\/w3.heap.size<=x:=Ut.grow;have UL:=Vu.clip;have UM:ek S (k'+1+1) (some d) w5 Z db m:=Va.keep λx q hl=>Ut.block x hl (λe=>by have:=(Uv x q).2;omega) (λe=>Vb (e▸q))
 have Ve:dW w5 rb (b.extract 0 e) y.2 deep:=(Ut.block rb (dM.lt UC) Ue (λe=>Vs e.symm)).trans UC;have hw5:w3.heap.size<=w5.heap.size:=Ut.size;have⟨k1,k2⟩:=(h3.below b5 q3).rules;have⟨k3,k4⟩:=(h5.below b5 q4).rules;go_wp2_with fail;refine(UH.out k' rfl w5 Z (λx=>Z5 x/\x<w5.heap.size) eb y sm v0 v1 v2 U0.out UM UL (λx q1 q2=>by have:=(Uv x q2).2;have:=U1 x q1.1;omega) (λx q=>by have:=(Uv x q).2;omega) (λx q=>q.2)).mono ?_;rintro en w9 ⟨rfl,Z9,Uu,Vv⟩;go_wp2;go_end0;rw[Ux.out y,U0.out];refine⟨rfl,Z9,UZ.trans ⟨Uu.os,Uu.tape,Uu.output,Uu.size,λi hi q _=>Uu.block i hi (λe=>q (e.imp id (λe=>e.1))),λi q=>(Uu.grow i q).imp (λe=>e.imp id (λe=>e.1)) id⟩,Vv,?_⟩;exact dM.step Ve Uu (λq=>q.elim UT (λq=>(U1 rb q.1).elim (λe=>Ue) (λe=>Ue)))
section
variable {S:d8} {mp:am->Option Nat} {b:am} {deep:Nat} {num:Int} {d:MT} {f:eT} {g:GF} {m:PM} (w:an)
theorem DO {F a z e:Nat}(fg:FG S mp d f g)(hf:g.form=2)(hb:S.base f.ty<=15)(he:e<=b.size):
  jJ S b F d f m deep (fx (b.extract 0 e) a num (ee (S.base f.ty)) z)=JI m f.num (gi (b.extract 0 e) z (S.base f.ty)):=by
 rw[Gd fg hf hb he]
 all_goals (cases gi (b.extract 0 e) z (S.base f.ty)<;>rfl)
theorem Ip {F a z e:Nat}(fg:FG S mp d f g)(hf:g.form=2)(hw:ee (S.base f.ty)≠2):
  jJ S b F d f m deep (fx (b.extract 0 e) a num 2 z)=qY (S.base f.ty) b f.num m (eP (b.extract 0 e) z):=by
 rw[De fg hf hw]
 cases eP (b.extract 0 e) z with
 |error x=>rfl
 |ok y=>simp only[qY];cases fw b (S.base f.ty) y.2 (y.2-y.1) (m.get f.num) y.1<;>rfl
theorem O3 (B:Nat)(S:d8)(mp pm:am->Option Nat)(k:Nat)(d:MT)(f:eT)(g:GF)(Z:ap)(rb db:Nat)(b:am)(e a z deep F kn:Nat)(num:Int)(m:PM)(v:Value)
  (I:oF w B S mp k d Z rb db b e a z deep (m.without g.riv)) (hwm:WM S a d m) (hpc:mS w (λb=>b<B) S mp pm) (hv:lA w (λb=>b<B) mp pm g v) (fg:FG S mp d f g) (hff:dR d.fs f.num=some f) (hS:Eo S) (hkd:k+deep=8) (hgd:lw S d) (hRd:KX S mp pm B b F) (hF:e-z<=F) (hfit:lu mp g kn=true):
  lJ v [aa kn,ag rb,ag db] w (g6 S k d w Z rb db (b.extract 0 e) deep (jJ S b F d f m deep (fx (b.extract 0 e) a num kn z))):=by
 have hq:=(nW fg).1 hfit;have hle:=Bk S f.ty;unfold lA at hv
 by_cases h4:g.form=4
 ·rw[dE h4]at hv;have hm:f.isMap=true:=by rw[fg.map,h4];rfl
  obtain rfl:kn=2:=by
   rcases hq with h|⟨h,_⟩
   ·rw[h];unfold fG;rw[dE hm]
   ·exact h
  rw[fg.lone Ue,iO]at I;have e2:=Gj (b:=b) (F:=F) (deep:=deep) (a:=a) (z:=z) (e:=e) (num:=num) (m:=m) fg hS h4 Ue;rw[show((2:Nat):Int)=2 from rfl,e2];exact Ry w B S mp pm k d f g Z rb db b e a z deep F _ m v I hpc hv fg hff hS h4 hkd hgd hRd hF
 ·rw[dD h4]at hv;unfold Cs at hv;rw[fg.eq,fg.base]at hv;have hm:f.isMap=false:=by rw[fg.map];simp[h4]
  have Uu:fG S f=ee (S.base f.ty):=by unfold fG d8.wire;rw[hm];rfl
  have Uz:eh mp g=S.base f.ty:=by unfold eh;rw[dD h4,fg.eq,fg.base]
  by_cases hb:S.base f.ty=16
  ·rw[dE hb]at hv
   obtain rfl:kn=2:=by
    rcases hq with h|⟨h,_⟩
    ·rw[h,Uu,hb];rfl
    ·exact h
   have:=fg.nest.1 hb;have⟨sub,Ux⟩:=bZ.1 this;have hM:Dg S d f sub:=⟨by unfold eV;rw[hm];exact Ux,hm⟩;have e2:=Gi (b:=b) (F:=F) (deep:=deep) (z:=z) (e:=e) (num:=num) fg hS hM Ue hff hwm
   have e3:(if g.form=2 then PM.none else((m.get f.num).headD PV.none).2.2)=kA g.form (m.without g.riv) f.num:=by
    unfold kA;rw[uL (by rw[fg.riv];exact F9 d f)]
   have e4:vk g m f.num=nF g.form (m.without g.riv) f.num:=funext λsm=>by
    unfold vk nF
    by_cases h2:g.form=2
    ·rw[dE h2,dE h2,fg.lone Ue,iO]
    ·rw[dD h2,dD h2]
   rw[e3,e4]at e2;rw[show((2:Nat):Int)=2 from rfl,e2];exact Rx w B S mp pm k d f g Z rb db b e a z deep F _ _ sub v I hpc hv fg hff hS hM hkd hRd hF
  ·rw[dD hb]at hv;have Uq:S.base f.ty<=15:=Ue
   by_cases h2:g.form=2
   ·have hr:=fg.lone Ue;rw[hr,iO]at I
    by_cases hn:eO (S.base f.ty)=true
    ·rw[dE (by unfold gR;rw[Uz,h2];simpa using hn)]at hv;have Uv:=(tT Uq).1 hn
     rcases hq with h|⟨h,_⟩
     ·rw[Uu]at h;subst h;rw[DO fg h2 Uq I.eb];exact Qd w B S mp k d f g Z rb db b e a z deep m v I hv fg h2 Uq hff
     ·subst h;rw[show((2:Nat):Int)=2 from rfl,Ip fg h2 Uv];exact Qf w B S mp k d f g Z rb db b e a z deep m v I hv fg h2 Uq Uv hff
    ·rw[dD (by unfold gR;rw[Uz];simp[hn])]at hv
     have Uv:ee (S.base f.ty)=2:=by
      by_cases q:ee (S.base f.ty)=2
      ·exact q
      ·exact absurd ((tT Uq).2 q) hn
     obtain rfl:kn=ee (S.base f.ty):=by
      rcases hq with h|⟨h,_⟩
      ·rw[h,Uu]
      ·omega
     rw[DO fg h2 Uq I.eb,<-Lh h2];exact O2 w B S mp k d f g Z rb db b e a z deep _ m v I hv fg h4 Uq hff
   ·rw[dD (by unfold gR;simp[h2])]at hv;have UB:f.isRep=false:=by rw[fg.rep];simp[h2]
    obtain rfl:kn=ee (S.base f.ty):=by
     rcases hq with h|⟨_,h⟩
     ·rw[h,Uu]
     ·rw[UB]at h;cases h
    have e2:=Gg (F:=F) (deep:=deep) (a:=a) (z:=z) (num:=num) (m:=m) fg h4 h2 Uq I.eb;rw[e2,<-Lg h2];exact O2 w B S mp k d f g Z rb db b e a z deep _ _ v I hv fg h4 Uq hff
theorem Iq (B:Nat)(S:d8)(mp pm:am->Option Nat)(k:Nat)(d:MT)(f:eT)(g:GF)(Z:ap)(rb db:Nat)(b:am)(e a z deep F kn:Nat)(num:Int)(m:PM)(v:Value)
  (I:oF w B S mp k d Z rb db b e a z deep m) (hpc:mS w (λb=>b<B) S mp pm) (hv:vX w (λb=>b<B) (lA w (λb=>b<B) mp pm) g v) (fg:FG S mp d f g) (hff:dR d.fs f.num=some f) (hS:Eo S) (hkd:k+deep=8) (hgd:lw S d) (hRd:KX S mp pm B b F) (hF:e-z<=F) (hfit:lu mp g kn=true):
  lJ v [aa kn,ag rb,ag db] w (g6 S k d w Z rb db (b.extract 0 e) deep (jJ S b F d f m deep (fx (b.extract 0 e) a num kn z))):=by
 unfold vX at hv
 by_cases h0:g.riv= []
 ·rw[dE h0]at hv;have hw:m.without g.riv=m:=by rw[h0,iO]
  exact O3 w B S mp pm k d f g Z rb db b e a z deep F kn num m v (by rw[hw];exact I) I.wm hpc hv fg hff hS hkd hgd hRd hF hfit
 ·rw[dD h0]at hv;obtain⟨vb,sb,rv,u,rfl,h1,Us,h2,q1,q2,hu⟩:=hv;refine⟨296,[_,_],rfl,enters_of func296 rfl rfl,?_⟩;show Ua 296 #[aa kn,ag rb,ag db,ag vb,ag sb] w _;have hD:=qp S k (some d) w Z db m rv g.riv I.hd Us.1 fg.rlen (λx hx q=>by have:=Us.2 x hx;have:=(I.hZ x q).1;omega)
  obtain⟨uf,Ur,rfl,eg,_⟩:∃uf Ur,u= .func (.func uf) #[] (List.toArray Ur)/\(∀args w,(callFunc uf args).run prog w= .ok (.enter uf args) w)/\True:=by
   have I0:=hu;unfold lA at hu
   split at hu
   ·obtain⟨_,_,_,_,_,rfl,_⟩:=hu;exact⟨418,[_,_,_,_],rfl,enters_of func418 rfl rfl,trivial⟩
   ·unfold Cs at hu
    split at hu
    ·obtain⟨_,_,_,_,_,rfl,_⟩:=hu;exact⟨419,[_,_,_,_],rfl,enters_of func419 rfl rfl,trivial⟩
    ·split at hu
     ·obtain⟨_,_,_,_,rfl,_⟩:=hu;exact⟨421,[_,_,_],rfl,enters_of func421 rfl rfl,trivial⟩
     ·obtain⟨_,_,_,_,rfl,_⟩:=hu;exact⟨422,[_,_,_],rfl,enters_of func422 rfl rfl,trivial⟩
  have HR:Hid (∀w1 Z1,fk w Z w1 Z1->ek S (k+1) (some d) w1 Z1 db (m.without g.riv)->Ua uf (([aa kn,ag rb,ag db]:aq)++Ur).toArray w1 (g6 S k d w Z rb db (b.extract 0 e) deep (jJ S b F d f m deep (fx (b.extract 0 e) a num kn z)))):=λw1 Z1 st Uy=>by
   have Uw:eC w Z rb w1 Z1:= .of_step st;have UA:=Uw.below I.cx.le (λx q=>(I.hZ x q).1) I.rB;have I1:=I.on Uw Uy (dM.step I.hr st I.rZ) (by have:=I.wm.without f;rw[<-fg.riv]at this;exact this);have⟨UD,Ut,e1,_,hc⟩:=O3 w1 B S mp pm k d f g _ rb db b e a z deep F kn num m _ I1 I.wm (hpc.keep (λx q _=>UA.block x q)) (lA.keep (λx q _=>UA.block x q) (λ_ _ q=>q) hu) fg hff hS hkd hgd hRd hF hfit
   obtain⟨rfl,rfl⟩:uf=UD/\Ur=Ut:=by
    injection e1 with e1 _ e3
    injection e1 with e1
    exact⟨e1,by simpa using e3⟩
   exact hc.mono λ_ _ q=>q.pre Uw.clip
  obtain⟨R,hR⟩:∃R,jJ S b F d f m deep (fx (b.extract 0 e) a num kn z)=R:=⟨_,rfl⟩;rw[hR]at HR⊢;obtain⟨ra,rn,rc,rfl⟩:=dN Us.1;have⟨k1,k2⟩:=h1.rules;have hZ:=I.hZ;go_enter func296,ntmps296;go_wp2_with fail;refine hD.mono ?_;rintro en w1 ⟨rfl,Z1,st1,Uy⟩;have UC:=h2.step st1 (λq=>by have:=(hZ sb q).1;omega);have⟨k1,k2⟩:=UC.rules;have hc:=HR.out w1 Z1 st1 Uy;go_wp2_with fail;refine hc.mono ?_;intro en w2 hq
  cases R with
  |error x=>
   obtain⟨rfl,hq⟩:=hq;unfold dL;go_wp2;exact⟨rfl,rfl,hq⟩
  |ok x=>
   obtain⟨rfl,hq⟩:=hq;go_wp2;go_end0;exact⟨rfl,hq⟩
end
def Li (kind kd:Int)(pk:Bool):Bool:=decide (kind=kd)||(decide (kind=2)&&pk)
def Lj (w:an)(g i:Nat)(kind kd:Int)(pk:Bool)(h1:w.cell? (ai g (i+1))=some (aa kd))(h2:w.cell? (ai g (i+2))=some (.bool pk)):
  Calls prog 142 #[.pointer (some (ai g i)),aa kind] w λe w'=>e= .returned (.bool (Li kind kd pk))/\aj w w':=by
 unfold Li
 by_cases e1:kind=kd
 ·have b1:(kind==kd)=true:=by simp[e1]
  simp only[e1,decide_true,cJ];rw[e1]at b1;subst e1;go_in
  go_wp2;go_ret;exact⟨rfl,Below.refl _ _⟩
 ·have b1:(kind==kd)=false:=by simp[e1]
  simp only[e1,decide_false,dj]
  by_cases e2:kind=2
  ·have b2:(kind==2)=true:=by simp[e2]
   simp only[e2,decide_true,cz];subst e2;go_in
   go_wp2;go_ret;exact⟨rfl,Below.refl _ _⟩
  ·have b2:(kind==2)=false:=by simp[e2]
   simp only[e2,decide_false,cA];go_in
   go_wp2;go_ret;exact⟨rfl,Below.refl _ _⟩
section
variable {mp:ByteArray->Option Nat} {g:GF} {kind num:Int} {v:Value} {w:World} {Q:Nat->Prop}
theorem GC:Li kind (ee (eh mp g)) (gR mp g)=lu mp g kind:=by
 rfl
theorem Ie.one (h:Ie v):v.oneCell'=true:=by
 obtain⟨f,cap,rfl⟩:=h;rfl
theorem vX.fn {pm:ByteArray->Option Nat}(h:vX w Q (lA w Q mp pm) g v):Ie v:=by
 unfold vX at h
 split at h
 ·unfold lA at h
  split at h
  ·obtain⟨_,_,_,_,_,rfl,_⟩:=h;exact⟨_,_,rfl⟩
  ·unfold Cs at h
   split at h
   ·obtain⟨_,_,_,_,_,rfl,_⟩:=h;exact⟨_,_,rfl⟩
   ·split at h
    ·obtain⟨_,_,_,_,rfl,_⟩:=h;exact⟨_,_,rfl⟩
    ·obtain⟨_,_,_,_,rfl,_⟩:=h;exact⟨_,_,rfl⟩
 ·obtain⟨_,_,_,_,rfl,_⟩:=h;exact⟨_,_,rfl⟩
theorem mH.one {pm:ByteArray->Option Nat}{x:rE}(h:mH w Q mp (lA w Q mp pm) (iz w Q mp pm) g x):x.c1.oneCell'=true/\x.c2.oneCell'=true/\x.c3.oneCell'=true/\x.c4.oneCell'=true/\x.c5.oneCell'=true/\x.c6.oneCell'=true/\x.c7.oneCell'=true:=by
 have⟨a,n,c,hr⟩:=dN h.riv.1;have⟨_,_,⟨_,_,q4,_⟩,⟨_,_,q5,_⟩,_,_,q6,_⟩:=h.enc;refine⟨by rw[h.kind];rfl,by rw[h.packs];rfl,by rw[hr];rfl,by rw[q4.eq];rfl,by rw[q5.eq];rfl,by rw[q6.eq];rfl,h.read.fn.one⟩
def DP (w:World)(Q:Nat->Prop)(mp pm:ByteArray->Option Nat)(gs:List GF)(num:Int)(e:Ending):Prop:=
 match ic gs num with
 |none=>e= .returned (.pointer none)
 |some g=>∃gb j v,e= .returned (.pointer (some ⟨gb,j,none⟩))/\Q gb/\gb<w.heap.size/\vX w Q (lA w Q mp pm) g v/\∀W:World,W.heap[gb]?=w.heap[gb]?->W.cell? ⟨gb,j+1,none⟩=some (.int .i64 (ee (eh mp g)))/\W.cell? ⟨gb,j+2,none⟩=some (.bool (gR mp g))/\W.cell? ⟨gb,j+7,none⟩=some v
def BH (w:World)(Q:Nat->Prop)(mp pm:ByteArray->Option Nat)(gs:List GF)(num:Int)(e:Ending):Prop:=
 match ic gs num with
 |none=>e= .returned (.pointer none)
 |some g=>∃gb j x,e= .returned (.pointer (some ⟨gb,j,none⟩))/\Q gb/\gb<w.heap.size/\mH w Q mp (lA w Q mp pm) (iz w Q mp pm) g x/\∀W:World,W.heap[gb]?=w.heap[gb]?->∀i c,(iB x)[i]?=some c->W.cell? ⟨gb,j+i,none⟩=some c
theorem BH.is {pm:ByteArray->Option Nat}{gs:List GF}{e:Ending}(h:BH w Q mp pm gs num e):DP w Q mp pm gs num e:=by
 unfold BH at h;unfold DP
 cases hf:ic gs num with
 |none=>grind
 |some g=>
  rw[hf]at h;obtain⟨gb,j,x,h1,h2,h3,UM,h5⟩:=h;exact⟨gb,j,x.c7,h1,h2,h3,UM.read,λW hW=>⟨by rw[<-UM.kind];exact h5 W hW 1 _ rfl,by rw[<-UM.packs];exact h5 W hW 2 _ rfl,h5 W hW 7 _ rfl⟩⟩
theorem sP (w:World)(Q:Nat->Prop)(mp pm:ByteArray->Option Nat)(gs:List GF)(pb:Nat)(num:Int)(h:ij w Q mp pm gs pb)(hs:gs.Pairwise (λx y=>x.f.num<=y.f.num))(hl:gs.length<=2001):
  Ua 141 #[.pointer (some ⟨pb,0,none⟩),.int .i64 num] w λe w'=>BH w Q mp pm gs num e/\Below w.heap.size w w':=by
 obtain⟨v,l,h1,h2,h3,h4⟩:=h;obtain⟨va,vn,vc,rfl⟩:=dN h3.1;have hn:=h4.nums;have hln:=h4.len
 have VA:l.Pairwise (λa b=>a.n<=b.n):=by
  have:(l.map (·.n)).Pairwise (·<=·):=by grind
  grind
 refine(PP w pb _ l num 0 h1 h3.1 (λx hx=> ?_) VA Ue).mono ?_
 ·have⟨i,hi⟩:=bK.1 hx;have⟨g,_,hg⟩:=h4.get hi;exact hg.one
 ·rintro e w' ⟨hq,hb⟩;refine⟨?_,hb⟩;unfold BH
  rcases hq with⟨i,gb,x,hx,hxn,VL,VM,rfl⟩|⟨U3,rfl⟩
  ·have⟨g,hg,UM⟩:=h4.get hx
   have hf:ic gs num=some g:=wU hg (by rw[<-UM.n];omega) (λk y hy hk=>by
    have Vg:k<l.length:=by
     grind
    have⟨g',UZ,UI⟩:=h4.get (aK Vg);rw[hy]at UZ;obtain rfl:=Option.some.inj UZ;have:=VL k _ (aK Vg) hk;rw[UI.n]at this
    omega)
   rw[hf];have hil:=gl hx;obtain⟨g',rfl,_,UN,Uq⟩:=el h3.1 Ue;obtain rfl:g'=gb:=by simpa [Value.ownBlock]using VM
   refine⟨g',i*8,x,rfl,h3.2 g' rfl,UN,UM,λW hW j c hj=> ?_⟩;have Vh:=gl hj;rw[pL]at Vh;exact Uq W hW _ _ ((fP iB 8 pL l i x hx j Vh).trans hj)
  ·rw[oC λg hg=>by
    have⟨i,hi⟩:=bK.1 hg
    have VB:i<l.length:=by
     grind
    have⟨g',UZ,UI⟩:=h4.get (aK VB);rw[hi]at UZ;obtain rfl:=Option.some.inj UZ;rw[<-UI.n]
    grind]
theorem NT (w:World)(Q:Nat->Prop)(mp pm:ByteArray->Option Nat)(gs:List GF)(pb:Nat)(num:Int)(h:ij w Q mp pm gs pb)(hs:gs.Pairwise (λx y=>x.f.num<=y.f.num))(hl:gs.length<=2001):
  Ua 141 #[.pointer (some ⟨pb,0,none⟩),.int .i64 num] w λe w'=>DP w Q mp pm gs num e/\Below w.heap.size w w':=(sP w Q mp pm gs pb num h hs hl).mono λ_ _ q=>⟨q.1.is,q.2⟩
theorem Fi (S:d8)(mp pm:ByteArray->Option Nat)(B:Nat)(b:ByteArray)(hS:Eo S)(hbs:b.size<=268435456):∀F,KX S mp pm B b F:=by
 intro F
 induction F using Nat.strongRecOn with
 |_ F ih=>
 intro w Z d m a e deep k pb gs rb db cx VN hM hG Vu hr hd hZ U4 VO VP he hF VQ VR;have Vi:(b.extract 0 e).size=e:=gp he;have U7:=cx.le;have VC:rb<w.heap.size:=dM.lt hr;obtain⟨P,hP⟩:∃P,eE S b F d m a e deep=P:=⟨_,rfl⟩;rw[hP];have O0:yT S k d B w w Z Z rb db b e deep F a m P:=⟨eC.refl _ _ _,hr,hd,VP,VR,hF,hP.symm,hZ⟩;clear hP;go_enter func89,ntmps89;go_wp2;go_loopw [9] (λ_ wr=>∃Z' a' m' F',F'<=F/\yT S k d B w wr Z Z' rb db b e deep F' a' m' P) (λ_ wr=>lH wr rb e)
 case atStart=>grind
 case round=>
  obtain⟨Z',a',m',F',hFF,O⟩:=hrel;have Vj:=rm wr rb _ a' deep O.rr;rw[Vi]at Vj;have hhi:=O.hi;have hfu:=O.fu;go_wp2_with fail;refine Vj.mono ?_;rintro en w4 ⟨rfl,q,rfl⟩
  by_cases hlt:a'<e
  ·have VD:decide (a'<e)=true:=decide_eq_true hlt;obtain⟨F1,rfl⟩:∃F1,F'=F1+1:=⟨F'-1,Ue⟩;have Vk:dW (wr.drewN q) rb (b.extract 0 e) a' deep:=O.rr;have VE:ek S (k+1) (some d) (wr.drewN q) Z' db m':=O.dr.keep (λ_ _ _=>rfl);have Vl:eC w Z rb (wr.drewN q) Z':=O.st.trans (.of_below (ie (Below.refl _ _) q));have VF:=Rf (wr.drewN q) rb _ a' deep Vk;have Vm:=Jg (wr.drewN q) rb _ a' deep Vk Ue;have U8:∀x,Z' x->B<=x/\x<(wr.drewN q).heap.size:=O.zz;have UL:¬Z' rb:=O.st.not VC VO;have HM:Hid (lH wr rb e=e-a'):=gW O.rr;have US:∀x,Z x->B<=x:=λx q=>(hZ x q).1
   obtain⟨T,hT⟩:∃T,ju (b.extract 0 e) a'=T:=⟨_,rfl⟩;rw[hT]at Vm;have HT:Hid (ju (b.extract 0 e) a'=T):=hT;clear hT;generalize wr.drewN q=w4 at*;go_wp2_with fail;refine VF.mono ?_;rintro en w5 ⟨rfl,rfl⟩;go_wp2_with fail;refine Vm.mono ?_;intro en w6 VS
   rcases VS.part with⟨x,rfl,rfl,UO⟩|⟨x,rfl,rfl,UO,Vd⟩
   ·have HB:Hid (P= .error x):=by
     show P=_;rw[O.eq.out,Dj he hlt HT.out]
    unfold dL;go_wp2;rw[HB.out];exact⟨rfl,rfl,Z',Vl.trans (.of_kept UO)⟩
   obtain⟨⟨num,kind⟩,z⟩:=x;have⟨kn,Vv,U5,Vw,Ve⟩:=EP HT.out;simp only at Vv Vw Ve Vd;subst Vv;rw[Vi]at Ve;have⟨B7,KT⟩:=dS w6 #[.int .i64 num,.int .i64 kn] 237;have Vn:dW (w6.alloc (Obj.cells #[.int .i64 num,.int .i64 kn] 237)) rb (b.extract 0 e) z deep:=dM.alloc Vd _;have Vo:=(Vl.trans (.of_kept UO)).trans (.of_below B7);have VG:=(eC.dr VE UO UL).keep (λx _ q=>B7.block x q);have VH:Below B w (w6.alloc (Obj.cells #[.int .i64 num,.int .i64 kn] 237)):=Vo.below U7 US U4;have VI:=NT (w6.alloc (Obj.cells #[.int .i64 num,.int .i64 kn] 237)) (λb=>b<B) mp pm gs pb num (hM.keep (λx q _=>VH.block x q) (λ_ _ q=>q)) hG.srt hG.len;have Vp:∀x,Z' x->B<=x/\x<(w6.alloc (Obj.cells #[.int .i64 num,.int .i64 kn] 237)).heap.size:=λx q=>⟨(U8 x q).1,aD (aD (U8 x q).2 UO.size) B7.size⟩
   have VJ:¬Z' w6.heap.size:=λq=>by have:=(U8 _ q).2;have:=UO.size;omega
   have⟨k1,k2⟩:=KT.rules;have hrw:rb<w6.heap.size:=dM.lt Vd;have hBt:B<=w6.heap.size:=Ue;go_wp2_with fail;generalize w6.alloc (Obj.cells #[.int .i64 num,.int .i64 kn] 237)=w7 at*;generalize w6.heap.size=tb at*;refine VI.mono ?_;rintro en w8 ⟨UP,B8⟩;have UT:dW w8 rb (b.extract 0 e) z deep:=dM.below Vn B8 (dM.lt Vn);have UU:=Vo.trans (.of_below B8);have U9:=VG.keep (λx _ q=>B8.block x q);have hb8:Below B w w8:=UU.below U7 US U4;have UB:=KT.below B8 KT.lt;have Vq:∀x,Z' x->B<=x/\x<w8.heap.size:=λx q=>⟨(Vp x q).1,aD (Vp x q).2 B8.size⟩
   have hul:=O.wm.len;have hO:yT S k d B w wr Z Z' rb db b e deep (F1+1) a' m' P:=O;clear k1 k2 O
   cases hfind:ic gs num with
   |none=>
    have U3:∀f,dR d.fs num=some f->¬(kn=fG S f\/(kn=2/\f.isRep=true)):=λf hf hq=>by
     have⟨g,q1,q2⟩:=hG.yes num f hf;rw[hfind]at q1
     cases q1
    unfold DP at UP;rw[hfind]at UP;obtain rfl:en= .returned (.pointer none):=UP;have UV:=AV w8 rb _ z deep kn UT Ue Ue Ue;obtain⟨R,hR⟩:∃R,lq (b.extract 0 e) z kn=R:=⟨_,rfl⟩
    have HL:Hid (P=JQ S b F1 d m' a' e deep R):=by
     have h:=tV (S:=S) (F:=F1) (deep:=deep) (d:=d) (m:=m') he hlt HT.out U5 U3;rw[hR]at h;show P=_;rw[hO.eq.out,h];rfl
    have HW:Hid (∀y,R= .ok y->z<y.2/\y.2<=e):=λy hy=>by
     have:=vU (hR.trans hy);omega
    rw[hR]at UV;clear hR hfind;have⟨k1,k2⟩:=UB.rules;go_wp2_with fail;refine UV.mono ?_;intro en w9 U0
    rcases U0.part with⟨x,rfl,rfl,Ux⟩|⟨y,rfl,rfl,Ux,UA⟩
    ·unfold dL;go_wp2;rw[HL.out];exact⟨rfl,rfl,Z',UU.trans (.of_kept Ux)⟩
    have⟨Vx,UJ⟩:=HW.out y rfl;have UW:=vH w9 rb _ y.2 deep a' UA Ue Ue;have UX:=eC.dr U9 Ux UL;have hex:(b.extract 0 e).extract a' y.2=b.extract a' y.2:=jR he UJ;rw[hex]at UW;clear k1 k2;go_wp2_with fail;refine UW.mono ?_;rintro en VT ⟨rfl,Uy,rfl⟩;have UC:ek S (k+1) (some d) (w9.drewN Uy) Z' db m':=UX.keep (λ_ _ _=>rfl);have Va:=Bf S k (some d) (w9.drewN Uy) Z' db m' (b.extract a' y.2) UC (by rw[aU];omega);go_wp2_with fail;refine Va.mono ?_;rintro en Uz ⟨rfl,U1,Uv,UK⟩;have UD:dW (w9.drewN Uy) rb (b.extract 0 e) y.2 deep:=UA;have Ut:dW Uz rb (b.extract 0 e) y.2 deep:=dM.step UD Uv UL;have stA:eC w Z rb Uz U1:=((UU.trans (.of_kept Ux)).trans (.of_below (ie (Below.refl _ _) Uy))).trans (.of_step Uv)
    have O9:yT S k d B w Uz Z (λi=>U1 i/\i<Uz.heap.size) rb db b e deep F1 y.2 (m'.keep (b.extract a' y.2)) P:=
     ⟨stA.clip,Ut,UK.clip,UJ,hO.wm.keep _ (by rw[aU];omega),Ue,HL,λx q=>⟨(stA.grow x q.1).elim (US x) (λe=>Ue),q.2⟩⟩
    go_wp2;go_roundw
    case rel=>grind
    case measure=>rw[HM.out,gW Ut];omega
   |some g=>
    unfold DP at UP;rw[hfind]at UP;obtain⟨gb,j,v,rfl,hgB,UN,Vf,Uq⟩:=UP
    obtain⟨f,U6,fg⟩:∃f,dR d.fs num=some f/\FG S mp d f g:=by
     cases hf:dR d.fs num with
     |none=>rw[hG.no num hf]at hfind;cases hfind
     |some f=>
      have⟨g2,q1,q2⟩:=hG.yes num f hf;rw[hfind]at q1
      cases q1
      exact⟨f,rfl,q2⟩
    have⟨c1,c2,_⟩:=Uq w8 (B8.block gb UN);have UY:=Lj w8 gb j kn _ _ c1 c2;rw[GC]at UY;have Vb:vX w8 (λb=>b<B) (lA w8 (λb=>b<B) mp pm) g v:=Vf.keep (λx _ q=>B8.block x q) (λv hv=>lA.keep (λx _ q=>B8.block x q) (λ_ _ q=>q) hv);clear c1 c2 hfind
    cases hft:lu mp g kn with
    |false=>
     rw[hft]at UY
     have U3:∀f,dR d.fs num=some f->¬(kn=fG S f\/(kn=2/\f.isRep=true)):=λf' Vy hq=>by
      rw[U6]at Vy
      cases Vy
      rw[(nW fg).2 hq]at hft
      cases hft
     clear hft;have⟨k1,k2⟩:=UB.rules;go_wp2_with fail;refine UY.mono ?_;rintro en Us ⟨rfl,UQ⟩;have UE:dW Us rb (b.extract 0 e) z deep:=dM.below UT UQ (dM.lt UT);have Ur:=UU.trans (.of_below UQ);have UF:=U9.keep (λx _ q=>UQ.block x q);have Uu:=UB.below UQ UB.lt;have UV:=AV Us rb _ z deep kn UE Ue Ue Ue;obtain⟨R,hR⟩:∃R,lq (b.extract 0 e) z kn=R:=⟨_,rfl⟩
     have HL:Hid (P=JQ S b F1 d m' a' e deep R):=by
      have h:=tV (S:=S) (F:=F1) (deep:=deep) (d:=d) (m:=m') he hlt HT.out U5 U3;rw[hR]at h;show P=_;rw[hO.eq.out,h];rfl
     have HW:Hid (∀y,R= .ok y->z<y.2/\y.2<=e):=λy hy=>by
      have:=vU (hR.trans hy);omega
     rw[hR]at UV;clear hR k1 k2;have⟨k1,k2⟩:=Uu.rules;go_wp2_with fail;refine UV.mono ?_;intro en w9 U0
     rcases U0.part with⟨x,rfl,rfl,Ux⟩|⟨y,rfl,rfl,Ux,UA⟩
     ·unfold dL;go_wp2;rw[HL.out];exact⟨rfl,rfl,Z',Ur.trans (.of_kept Ux)⟩
     have⟨Vx,UJ⟩:=HW.out y rfl;have UW:=vH w9 rb _ y.2 deep a' UA Ue Ue;have UX:=eC.dr UF Ux UL;have hex:(b.extract 0 e).extract a' y.2=b.extract a' y.2:=jR he UJ;rw[hex]at UW;clear k1 k2;go_wp2_with fail;refine UW.mono ?_;rintro en VT ⟨rfl,Uy,rfl⟩;have UC:ek S (k+1) (some d) (w9.drewN Uy) Z' db m':=UX.keep (λ_ _ _=>rfl);have Va:=Bf S k (some d) (w9.drewN Uy) Z' db m' (b.extract a' y.2) UC (by rw[aU];omega);go_wp2_with fail;refine Va.mono ?_;rintro en Uz ⟨rfl,U1,Uv,UK⟩;have UD:dW (w9.drewN Uy) rb (b.extract 0 e) y.2 deep:=UA;have Ut:dW Uz rb (b.extract 0 e) y.2 deep:=dM.step UD Uv UL;have stA:eC w Z rb Uz U1:=((Ur.trans (.of_kept Ux)).trans (.of_below (ie (Below.refl _ _) Uy))).trans (.of_step Uv)
     have O9:yT S k d B w Uz Z (λi=>U1 i/\i<Uz.heap.size) rb db b e deep F1 y.2 (m'.keep (b.extract a' y.2)) P:=
      ⟨stA.clip,Ut,UK.clip,UJ,hO.wm.keep _ (by rw[aU];omega),Ue,HL,λx q=>⟨(stA.grow x q.1).elim (US x) (λe=>Ue),q.2⟩⟩
     go_wp2;go_roundw
     case rel=>grind
     case measure=>rw[HM.out,gW Ut];omega
    |true=>
     rw[hft]at UY;have⟨k1,k2⟩:=UB.rules;have Vr:Hid (lu mp g kn=true):=hft;clear hft;go_wp2_with fail;refine UY.mono ?_;rintro en Us ⟨rfl,UQ⟩;have Uw:Below w8.heap.size w8 Us.drew:=UQ.drew;have UE:dW Us.drew rb (b.extract 0 e) z deep:=dM.below UT Uw (dM.lt UT);have Ur:=UU.trans (.of_below Uw);have UF:=U9.keep (λx _ q=>Uw.block x q);have Uu:=UB.below Uw UB.lt;have UG:Below B w Us.drew:=Ur.below U7 US U4;have UH:∀x,Z' x->B<=x/\x<Us.drew.heap.size:=λx q=>⟨(Vq x q).1,aD (Vq x q).2 Uw.size⟩
     have Vc:f.num=num:=(eW U6).1;have I:oF Us.drew B S mp k d Z' rb db b e a' z deep m':=⟨cx.on UG,UE,UF,UH,U4,UL,Vw,Ve,he,hbs,hO.wm⟩;obtain⟨uf,U2,rfl,eg,Vz⟩:=Iq Us.drew B S mp pm k d f g Z' rb db b e a' z deep F1 kn num m' v I (VN.keep (λx q _=>UG.block x q)) (Vb.keep (λx _ q=>Uw.block x q) (λv hv=>lA.keep (λx _ q=>Uw.block x q) (λ_ _ q=>q) hv)) fg (by rw[Vc];omega) hS VQ Vu (ih F1 Ue) Ue Vr.out;have hit:=(nW fg).1 Vr.out;obtain⟨R,hR⟩:∃R,jJ S b F1 d f m' deep (fx (b.extract 0 e) a' num kn z)=R:=⟨_,rfl⟩
     have HL:Hid (P=OT S b F1 d e deep R):=by
      have h:=Di (S:=S) (F:=F1) (deep:=deep) (d:=d) (m:=m') he hlt HT.out U5 U6 hit;rw[hR]at h;show P=_;rw[hO.eq.out,h];rfl
     have HW:Hid (∀y,R= .ok y->WM S y.2 d y.1/\z<y.2/\y.2<=e):=λy hy=>Gk hS hbs Vu he hO.wm HT.out U5 U6 hit (hR.trans hy)
     rw[hR]at Vz;clear hR k1 k2 hit;have Vs:Us.drew.heap[gb]?=w7.heap[gb]?:=(Uw.block gb (aD UN B8.size)).trans (B8.block gb UN);have⟨_,_,c7⟩:=Uq Us.drew Vs;have VK:gb<Us.drew.heap.size:=aD UN (aG B8.size Uw.size);have Vt:=Uu.cell 1;simp only[cG,cC,cD]at Vt;go_upto_region 5 with fail
     go_region_held2 (λW=>W.cell? ⟨gb,j+7,none⟩=some (.func (.func uf) #[] U2.toArray)/\W.cell? ⟨tb,1,none⟩=some (.int .i64 kn))
      (first|exact c9|exact⟨c7,Vt⟩)
      (
       first |(
        refine Vz.mono ?_;intro en w9 U0
        rcases U0.part2 with⟨x,rfl,rfl,Z9,UR⟩|⟨y,rfl,rfl,Z9,UR,UX,UA⟩
        ·unfold dL;go_wp2;rw[HL.out];exact⟨rfl,rfl,Z9,Ur.trans UR⟩
        have c9:w9.cell? ⟨gb,j+7,none⟩=some (.func (.func uf) #[] U2.toArray)/\w9.cell? ⟨tb,1,none⟩=some (.int .i64 kn):=⟨(Uq w9 ((UR.block gb VK (λq=>by have:=(UH gb q).1;omega) Ue).trans Vs)).2.2,(show dM w9 tb #[.int .i64 num,.int .i64 kn] 237 from(UR.block tb Uu.lt VJ Ue).trans Uu).cell 1⟩))
     have⟨VU,Vx,UJ⟩:=HW.out y rfl
     have O9:yT S k d B w w9 Z (λi=>Z9 i/\i<w9.heap.size) rb db b e deep F1 y.2 y.1 P:=
      ⟨(Ur.trans UR).clip,UA,UX.clip,UJ,VU,Ue,HL,λx q=>⟨(UR.grow x q.1).elim (λe=>(UH x e).1) (λe=>by have:=UG.size;omega),q.2⟩⟩
     go_wp2;go_roundw
     case rel=>exact⟨_,_,_,_,Ue,O9⟩
     case measure=>rw[HM.out,gW UA];omega
  ·have VD:decide (a'<e)=false:=decide_eq_false hlt;obtain rfl:a'=e:=Ue
   have HE:Hid (P= .ok m'):=by
    show P=_;rw[O.eq.out,gN hlt]
   go_wp2;go_end0;rw[HE.out];exact⟨rfl,Z',O.st.trans (.of_below (ie (Below.refl _ _) q)),O.dr.keep (λ_ _ _=>rfl),O.rr⟩
end
section
variable {w:an} {B:Nat} {S:d8} {d:MT} {f:eT} {g:GF} {iq:aw}
theorem BI {mp pm:am->Option Nat}(Uw:mS w (λb=>b<B) S mp pm)(fg:FG S mp d f g)(Ur:iz w (λb=>b<B) mp pm g (.pointer iq))(Uy:fB S f=16):
  ∃t p gs,eV S f=some t/\iq=some (ai p 0)/\ij w (λb=>b<B) mp pm gs p/\kG S mp t gs:=by
 unfold iz at Ur
 by_cases h4:g.form=4
 ·rw[dE h4]at Ur;obtain⟨p,h1,h2⟩:=Ur;have hm:f.isMap=true:=by rw[fg.map,h4];rfl
  refine⟨et f,p,_,by unfold eV;rw[dE hm],by grind,DN h2,?_⟩;rw[fg.eq];exact Bi fg h4
 ·rw[dD h4]at Ur;have hm:f.isMap=false:=by rw[fg.map];grind
  have hb:i8 mp g.f.ty=16:=by
   unfold fB at Uy;rw[hm]at Uy;rw[fg.eq,fg.base]
   grind
  rw[dE hb,fg.eq]at Ur;obtain⟨p,h1,h2⟩:=Ur;have⟨d',gs,q1,q2,q3⟩:=Uw _ _ h2;exact⟨d',p,gs,by unfold eV;grind,by grind,q2,q3⟩
section
variable {mp pm:am->Option Nat}
theorem NU (w:an)(Q:ap)(pb xb:Nat)(gs:List GF)(num kind:Int)(h:ij w Q mp pm gs pb)(hs:gs.Pairwise (λx y=>x.f.num<=y.f.num))(hl:gs.length<=2001)(hp:dM w xb #[ag pb] 116):
  Ua 163 #[.agg #[aa num,aa kind],ag xb] w λe w'=>e= .returned (.bool (sl mp gs num kind).isSome)/\aj w w':=by
 have⟨B0,K0⟩:=dS w #[aa num,aa kind] 237;have UZ:=hp.below B0 hp.lt;have HK:=sP _ Q mp pm gs pb num (h.keep (λb _ hl=>B0.block b hl) λ_ _ q=>q) hs hl;have⟨k1,k2⟩:=K0.rules;have⟨k3,k4⟩:=UZ.rules;unfold sl;unfold BH at HK
 cases hf:ic gs num with
 |none=>
  rw[hf]at HK;go_enter func163,ntmps163;go_wp2_with fail;refine HK.mono ?_;rintro e w2 ⟨rfl,b2⟩;go_wp2;go_ret;exact⟨rfl,dI B0 b2⟩
 |some g=>
  rw[hf]at HK;have hr:(if lu mp g kind=true then some g else none).isSome=lu mp g kind:=by split<;>simp_all
  simp only[hr];go_enter func163,ntmps163;go_wp2_with fail;refine HK.mono ?_;rintro e w2 ⟨⟨gb,j,x,rfl,_,Ux,Uv,hc⟩,b2⟩;have c1:=hc w2 (b2.block gb Ux) 1 _ rfl;have c2:=hc w2 (b2.block gb Ux) 2 _ rfl;rw[Uv.kind]at c1;rw[Uv.packs]at c2;have HF:=Lj w2 gb j kind _ _ c1 c2;rw[GC]at HF;have K2:=K0.below b2 K0.lt;clear k1 k2 k3 k4 hr;have⟨k1,k2⟩:=K2.rules;go_wp2_with fail;refine HF.mono ?_;rintro e w3 ⟨rfl,b3⟩;go_wp2;go_ret;exact⟨rfl,dI B0 (dI b2 b3)⟩
end
def Rz (S:d8)(mp pm:am->Option Nat)(B n:Nat):Prop:=
 ∀(w:an) (Z:ap) (v:Value) (m:PM) (d:MT) (pb:Nat) (gs:List GF) (deep k:Nat),sF w B S mp->mS w (λb=>b<B) S mp pm->ij w (λb=>b<B) mp pm gs pb->kG S mp d gs->iH k w Z v m->oT k m->n+deep=9->
  Ua 103 #[ag pb,.agg #[v,ae m.unk],aa deep] w (d9 (dP S n d m) w)
theorem ij.on {w':an}{mp pm:am->Option Nat}{gs:List GF}{pb:Nat}(h:ij w (λb=>b<B) mp pm gs pb)(hb:Below B w w'):ij w' (λb=>b<B) mp pm gs pb:=h.keep (λb q _=>hb.block b q) λ_ _ q=>q
theorem mS.on {w':an}{mp pm:am->Option Nat}(h:mS w (λb=>b<B) S mp pm)(hb:Below B w w'):mS w' (λb=>b<B) S mp pm:=h.keep λb q _=>hb.block b q
theorem RA {n:Nat}{mp pm:am->Option Nat}(ih:Rz S mp pm B n)(cx:sF w B S mp)(Uw:mS w (λb=>b<B) S mp pm)(fg:FG S mp d f g)(Ur:iz w (λb=>b<B) mp pm g (.pointer iq))(Uy:fB S f=16):∃t,eV S f=some t/\H9 S iq n t w:=by
 obtain⟨t,p,gs,h1,rfl,h3,h4⟩:=BI Uw fg Ur Uy;refine⟨t,h1,λW' Z v m k deep hb hM hO hd=> ?_⟩;have UE:=dV hb cx.le;exact ih W' Z v m t p gs deep k (cx.on UE) (Uw.on UE) (h3.on UE) h4 hM hO hd
theorem Lk {mp pm:am->Option Nat}:∀n,Rz S mp pm B n:=by
 intro n
 induction n with
 |zero=>
  intro w Z v m d pb gs deep k cx Uw UO hG hM hO hd;obtain⟨a,c,rfl⟩:=hM.form;obtain rfl:deep=9:=Ue;have⟨B0,K1,K2⟩:=gH w #[ag pb] #[.slice a m.fs.length c,ae m.unk] 116 49;go_enter func103,ntmps103;go_wp2_with (go_at_call 157;refine(Am _).mono ?_;rintro e w2 ⟨rfl,rfl⟩;unfold dL)
  exact⟨rfl,d9.no B0⟩
 |succ n ih=>
  intro w Z v m d pb gs deep k cx Uw UO hG hM hO hd
  cases k with
  |zero=>exact hM.elim
  |succ k=>
  obtain⟨cs,hr,UW⟩:=hM;obtain⟨a,c,rfl⟩:=hr.form;have hcap:=hr.cap;obtain⟨U5,U6,U7⟩:=hO;have⟨B0,K1,K2⟩:=gH w #[ag pb] #[.slice a m.fs.length c,ae m.unk] 116 49;have hd8:(deep:Int)<=8:=Ue;obtain⟨X,HX⟩:∃X,Hid (gE S (dP S n) d [] m.fs=X):=⟨_,rfl⟩
  have HM:Hid (dP S (n+1) d m=(X&&rF (pO S d) m.unk)):=by
   show dP S (n+1) d m=_;rw[dP,HX.out]
  have HU:Hid (∀(W:an),aj w W->dM W w.heap.size #[ag pb] 116->Ua 160 #[ae m.unk,.func (.func 163) #[] #[ag w.heap.size]] W (d9 (rF (pO S d) m.unk) W)):=λW hW hp=>
   Ai W m.unk 163 [ag w.heap.size] (pO S d) U6 (enters_of func163 Uk rfl) λW2 num kind UX=>by
    have:=NU W2 (λb=>b<B) pb w.heap.size gs num kind (UO.on (dV (dI hW UX) cx.le)) hG.srt hG.len (hp.below UX hp.lt);rw[Ky hG]at this;exact this
  generalize rF (pO S d) m.unk=Y at*;go_enter func103,ntmps103;have⟨k1,k2⟩:=K2.rules;go_wp2_with (go_at_call 157;refine(Al _).mono ?_;rintro e w2 ⟨rfl,rfl⟩)
  generalize(w.alloc (ak #[ag pb] 116)).alloc (ak #[.slice a m.fs.length c,ae m.unk] 49)=w1 at*;go_loopw [6,7,8,15] (λ_ _ _ iv wr=>∃i:Nat,iv=aa i/\i<=m.fs.length/\Hid (gE S (dP S n) d (m.fs.take i) (m.fs.drop i)=X)/\aj w1 wr) (λ_ _ _ iv _=>m.fs.length-(intOf iv).toNat)
  case atStart=>exact⟨0,rfl,aL _,HX,Below.refl _ _⟩
  case round=>
   obtain⟨i,rfl,hi,HI,Bw⟩:=hrel;clear k1 k2;have BW:=dI B0 Bw
   by_cases hlt:i<m.fs.length
   ·have⟨x,hx⟩:=gx hlt;have⟨vv,p1,p2,p3⟩:=UW.get hx;obtain⟨va,vc,rfl⟩:=p1.form;obtain⟨g0,rfl,hzg0,UB,Uq⟩:=hr.at Ue;have t0:=Uq wr (BW.block _ UB) _ _ p2;have t1:=kX (Uq wr (BW.block _ UB) _ _ p3);have⟨B1,K5⟩:=dS wr #[aa x.1,.slice va x.2.length vc] 58;have B2:=dI BW B1;have UR:=dI Bw B1;have UF:=K1.below UR K1.lt;have HF:=sP _ (λb=>b<B) mp pm gs pb x.1 (UO.on (dV B2 cx.le)) hG.srt hG.len
    have UC:Hid (X=(pR S (dP S n) d (m.fs.take i) x&&gE S (dP S n) d (m.fs.take (i+1)) (m.fs.drop (i+1)))):=by
     show X=_;rw[<-HI.out,xY hx]
    have⟨k3,k4⟩:=UF.rules;have⟨k5,k6⟩:=K5.rules;have hij:(i:Int)<(m.fs.length:Int):=Ue;have U0:=U7 x (aI hx);clear Uq p2 p3 B1 hx;go_wp2_with fail;refine HF.mono ?_;rintro e w3 ⟨he,b3⟩;generalize wr.alloc (ak #[aa x.1,.slice va x.2.length vc] 58)=w2 at*;generalize wr.heap.size=vb at*;have B3:=dI B2 b3;have US:=dI UR b3;unfold BH at he
    cases hfd:dR d.fs x.1 with
    |none=>
     rw[hG.no _ hfd]at he;obtain rfl:e= .returned (.pointer none):=he
     have Uu:Hid (dP S (n+1) d m=false):=by
      show dP S (n+1) d m=false;rw[HM.out,UC.out,pR,hfd];rfl
     go_wp2_with (go_at_call 157;refine(Am _).mono ?_;rintro e w2 ⟨rfl,rfl⟩;unfold dL)
     rw[Uu.out];exact⟨rfl,d9.no B3⟩
    |some f=>
     have⟨g,hg,fg⟩:=hG.yes _ _ hfd;rw[hg]at he;obtain⟨gb,j,st,rfl,hgB,Ux,Uv,hc⟩:=he;have Uz:=(eW hfd).1
     have HS:Hid (pR S (dP S n) d (m.fs.take i) x=(jO g.riv g.f.num (m.fs.take i)&&fy S (dP S n) f x.2)):=by
      show pR S (dP S n) d (m.fs.take i) x=_;unfold pR;rw[hfd,fg.riv,fg.eq,Uz]
     have⟨iq,Ur,⟨cf,Ut,⟨e4,hen⟩,UY⟩,_,_⟩:=Uv.enc;have hn:=Uv.n;have UG:=Uv.riv.keep (w':=w3.drew) λb _ q=>b3.drew.block b q
     have⟨ra,rc,UP⟩:=iD UG.1;rw[UP]at UG;have UT:=Kw w3.drew (some g0) c c m.fs cs i g.f.num (.slice ra g.riv.length rc) g.riv (hr.keep λb _ q=>B3.drew.block b q) (Ae.below B3.drew (ay _) UW) Ue U5 UG fg.rlen;obtain⟨q,hq⟩:∃q,jO g.riv g.f.num (m.fs.take i)=q:=⟨_,rfl⟩;rw[hq]at UT HS;have UH:w3.heap[gb]?=w2.heap[gb]?:=b3.block gb Ux;have UI:=(K2.below US K2.lt);have UU:=K5.below b3 K5.lt
     have hC:∀W:an,W.heap[gb]?=w3.heap[gb]?->W.cell? (ai gb j)=some (aa g.f.num)/\W.cell? (ai gb (j+3))=some (.slice ra g.riv.length rc)/\W.cell? (ai gb (j+4))=some (.func (.func cf) #[] Ut.toArray):=λW hW=>by
      have c0:=hc W (hW.trans UH) 0 _ rfl;have c3:=hc W (hW.trans UH) 3 _ rfl;have c4:=hc W (hW.trans UH) 4 _ rfl;rw[hn]at c0;rw[UP]at c3;rw[e4]at c4;exact⟨c0,c3,c4⟩
     have Us:gb<w3.heap.size:=aD Ux b3.size;clear hq hg hfd Uz HF hc Uv e4 UP hn;have hic:(i:Int)<=(c:Int):=Ue;go_upto_region 7 with(go_at_call 157;refine(Al _).mono ?_;rintro e w2 ⟨rfl,rfl⟩)
     have UV:=hC w3.drew rfl
     have hW:w3.drew.cell? (ai (w.heap.size+1) 0)=some (.slice (some g0) m.fs.length c)/\w3.drew.cell? (ai gb j)=some (aa g.f.num)/\w3.drew.cell? (ai gb (j+3))=some (.slice ra g.riv.length rc):=
      ⟨UI.drew.cell 0,UV.1,UV.2.1⟩
     go_region_held2 (λW=>W.cell? (ai (w.heap.size+1) 0)=some (.slice (some g0) m.fs.length c)/\W.cell? (ai gb j)=some (aa g.f.num)/\W.cell? (ai gb (j+3))=some (.slice ra g.riv.length rc))
      (first|exact hW|omega)
      (first
       |(
         go_at_call 158;refine UT.mono ?_;intro e w4 UQ
         rcases UQ.part with⟨rfl,rfl,b4⟩|⟨rfl,y,z,rfl,b4⟩
         rotate_left
         ·have B4:=dI B3.drew b4
          have Uu:Hid (dP S (n+1) d m=false):=by
           show dP S (n+1) d m=false;rw[HM.out,UC.out,HS.out];rfl
          unfold dL;go_wp2;rw[Uu.out];exact⟨rfl,d9.no B4⟩
         have hW4:w4.cell? (ai (w.heap.size+1) 0)=some (.slice (some g0) m.fs.length c)/\w4.cell? (ai gb j)=some (aa g.f.num)/\w4.cell? (ai gb (j+3))=some (.slice ra g.riv.length rc):=⟨(UI.drew.below b4 UI.drew.lt).cell 0,(hC w4 (b4.block gb Us)).1,(hC w4 (b4.block gb Us)).2.1⟩))
     have B4:=dI B3.drew b4;have U1:=dI US.drew b4;have UJ:aj w2 w4:=dI b3.drew b4;have UK:=UU.below (w:=w3.drew) b4 UU.lt;have UL:=cx.on (dV B4 cx.le);have UM:=Uw.on (dV B4 cx.le);have UA:=Ur.move (.keep (w':=w4) λb q hl=>UJ.block b hl) λ_ _ q=>q
     have HL:=UY S d f n w4 (λb q hl=>UJ.block b hl) fg (λW' U8=>(UL.on (dV U8 UL.le)).u) (λUy=>RA ih UL UM fg UA Uy) w4.drew Z (.slice va x.2.length vc) x.2 k deep (Below.refl _ _).drew (pN.below B4.drew (ay _) p1) U0 Ue;obtain⟨r,UD⟩:∃r,fy S (dP S n) f x.2=r:=⟨_,rfl⟩;rw[UD]at HL HS;clear UD k3 k4 k5 k6 UY Ur UA;have UN:gb<w4.heap.size:=aD Ux UJ.size;have U2:=hC w4.drew (b4.block gb Us);go_upto_region 8 with fail
     have hV:w4.drew.cell? (ai gb (j+4))=some (.func (.func cf) #[] Ut.toArray)/\w4.drew.cell? (ai vb 1)=some (.slice va x.2.length vc):=⟨U2.2.2,UK.drew.cell 1⟩
     go_region_held2 (λW=>W.cell? (ai gb (j+4))=some (.func (.func cf) #[] Ut.toArray)/\W.cell? (ai vb 1)=some (.slice va x.2.length vc))
      (first|exact hV|omega)
      (first
       |(
         refine HL.mono ?_;intro e w5 UD
         rcases UD.part with⟨rfl,rfl,b5⟩|⟨rfl,y,z,rfl,b5⟩
         rotate_left
         ·have B5:=dI B4.drew b5
          have Uu:Hid (dP S (n+1) d m=false):=by
           show dP S (n+1) d m=false;rw[HM.out,UC.out,HS.out];rfl
          unfold dL;go_wp2;rw[Uu.out];exact⟨rfl,d9.no B5⟩
         have hV5:w5.cell? (ai gb (j+4))=some (.func (.func cf) #[] Ut.toArray)/\w5.cell? (ai vb 1)=some (.slice va x.2.length vc):=⟨(hC w5 ((b5.block gb UN).trans (b4.block gb Us))).2.2,(UK.drew.below b5 UK.drew.lt).cell 1⟩))
     have U3:Hid (gE S (dP S n) d (m.fs.take (i+1)) (m.fs.drop (i+1))=X):=by
      show _=X;rw[UC.out,HS.out];rfl
     go_wp2;go_roundw
     case rel=>exact⟨i+1,by go_num,Ue,U3,dI U1.drew b5⟩
     case measure=>simp[intOf];omega
   ·obtain rfl:i=m.fs.length:=Ue
    have Uu:Hid (dP S (n+1) d m=Y):=by
     show dP S (n+1) d m=Y;rw[HM.out,<-HI.out,cw];rfl
    have UF:=K1.below Bw K1.lt;have K22:=K2.below Bw K2.lt;have U4:=HU.out wr BW UF;have⟨k3,k4⟩:=K22.rules;go_wp2_with fail;refine U4.mono ?_;intro e w4 UQ
    rcases UQ.part with⟨rfl,rfl,b4⟩|⟨rfl,y,z,rfl,b4⟩
    ·go_wp2;go_end0;rw[Uu.out];exact d9.ok (dI BW b4)
    ·unfold dL;go_wp2;rw[Uu.out];exact⟨rfl,d9.no (dI BW b4)⟩
end
def Qg (S:d8)(mp pm:am->Option Nat)(B n:Nat):Prop:=
 ∀(w:an) (Z:ap) (v:Value) (m:PM) (d:MT) (pb:Nat) (gs:List GF) (k:Nat),sF w B S mp->mS w (λb=>b<B) S mp pm->ij w (λb=>b<B) mp pm gs pb->kG S mp d gs->MA d->iH k w Z v m->oT k m->dP S n d m=true->(ed S n d m).length<=140737488355328->
  Ua 104 #[ag pb,.agg #[v,ae m.unk]] w (gP (ed S n d m) w)
def RB (S:d8)(mp pm:am->Option Nat)(B n:Nat):Prop:=
 ∀(w:an) (Z:ap) (v:Value) (m:PM) (d:MT) (pb:Nat) (gs:List GF) (k N b:Nat) (l:List UInt8),sF w B S mp->mS w (λb=>b<B) S mp pm->ij w (λb=>b<B) mp pm gs pb->kG S mp d gs->MA d->iH k w Z v m->(∀i,Z i->i<N)->B<=N->N<=w.heap.size->oT k m->dP S n d m=true->fh w N b (d7 b) l->l.length+(ed S n d m).length<=140737488355328->
  Ua 99 #[ag pb,.agg #[v,ae m.unk],d7 b] w (iw N b l (ed S n d m) w)
section
variable {w:an} {B n:Nat} {S:d8} {mp pm:am->Option Nat} {d:MT} {f:eT} {g:GF} {x:rE}
def RC (hN:DH S)(ih:Qg S mp pm B n)(cx:sF w B S mp)(Uu:mS w (λb=>b<B) S mp pm)(fg:FG S mp d f g)(hnm:0<=f.num/\f.num<=536870911)(Us:mH w (λb=>b<B) mp (lA w (λb=>b<B) mp pm) (iz w (λb=>b<B) mp pm) g x):
  ∃cf Uq,Kz x.c5 cf Uq/\∀N,B<=N->N<=w.heap.size->NI (jU S (ed S n) f) (er S (dP S n) f) N cf Uq w:=by
 have⟨iq,UJ,_,⟨cf,Uq,h1,h2⟩,_⟩:=Us.enc;refine⟨cf,Uq,h1,λN hB hw=>h2 S d f n N w (λ_ _ _=>rfl) (λb q _=>Ue) hw fg hnm λUK=> ?_⟩;obtain⟨t,p,gs,q1,rfl,q3,q4⟩:=BI Uu fg UJ UK;refine⟨t,q1,λW' Z v m k hb hM hO hs hl=> ?_⟩;have Uv:=dV hb hB;exact ih W' Z v m t p gs k (cx.on Uv) (Uu.on Uv) (q3.on Uv) q4 (ui hN q1) hM hO hs hl
def RD (hN:DH S)(ih:Qg S mp pm B n)(ih2:RB S mp pm B n)(cx:sF w B S mp)(Uu:mS w (λb=>b<B) S mp pm)(fg:FG S mp d f g)(hnm:0<=f.num/\f.num<=536870911)(Us:mH w (λb=>b<B) mp (lA w (λb=>b<B) mp pm) (iz w (λb=>b<B) mp pm) g x):
  ∃cf Uq,Kz x.c6 cf Uq/\∀N,B<=N->N<=w.heap.size->Sc (jU S (ed S n) f) (er S (dP S n) f) N cf Uq w:=by
 have⟨iq,UJ,_,_,⟨cf,Uq,h1,h2⟩⟩:=Us.enc;refine⟨cf,Uq,h1,λN hB hw=>h2 S d f n N w (λ_ _ _=>rfl) (λb q _=>Ue) hw fg hnm λUK=> ?_⟩;obtain⟨t,p,gs,q1,rfl,q3,q4⟩:=BI Uu fg UJ UK;refine⟨t,q1,λW' Z v m k hb hM hO hs hl=> ?_,λW' Z v m k b l0 hb hM hZ hO hs UZ hl=> ?_⟩
 ·have Uv:=dV hb hB;exact ih W' Z v m t p gs k (cx.on Uv) (Uu.on Uv) (q3.on Uv) q4 (ui hN q1) hM hO hs hl
 ·have Uv:=dV hb hB;exact ih2 W' Z v m t p gs k N b l0 (cx.on Uv) (Uu.on Uv) (q3.on Uv) q4 (ui hN q1) hM hZ hB (aG hw hb.size) hO hs UZ hl
end
def ye {S:d8}{mp pm:am->Option Nat}{B:Nat}(hN:DH S):∀n,Qg S mp pm B n:=by
 intro n
 induction n with
 |zero=>
  intro w Z v m d pb gs k cx Uu UA hG UB hM hO hs
  cases hs
 |succ n ih=>
  intro w Z v m d pb gs k cx Uu UA hG UB hM hO hs hl
  cases k with
  |zero=>exact hM.elim
  |succ k=>
  obtain⟨cs,hr,UL⟩:=hM;obtain⟨a,c,rfl⟩:=hr.form;obtain⟨U0,U1,UM⟩:=hO;rw[dP,aJ]at hs;have hX:=λx hx=>xN (x:=x) hs.1 hx
  have⟨B0,K1⟩:=dS w #[.slice a m.fs.length c,ae m.unk] 49;rw[ed]at hl;unfold gP;rw[ed];rw[aH]at hl⊢;rw[show m.unk.data.toList.length=m.unk.size by simp]at hl⊢
  have HC:Hid (∀(W0 W:an) (x:PF) (f:eT) (g:GF) (st:rE) (v:Value),aj w W0->Below W0.heap.size W0 W->x∈m.fs->dR d.fs x.1=some f->FG S mp d f g->mH W0 (λb=>b<B) mp (lA W0 (λb=>b<B) mp pm) (iz W0 (λb=>b<B) mp pm) g st->pN (iH k w Z) w Z v x.2->∃cf Uq,Kz st.c5 cf Uq/\Ua cf (v::Uq).toArray W (gP (jE S (ed S n) d x) W)):=λW0 W x f g st v Ux hW hx Ut fg Us hv=>by
   have⟨f',q1,q2⟩:=hX x hx;obtain rfl:f=f':=by grind
   have hb:jE S (ed S n) d x=jU S (ed S n) f x.2:=by unfold jE;rw[Ut]
   have UP:(jE S (ed S n) d x).length<=140737488355328:=aG (vV hx) Ue;rw[hb]at UP⊢;have Uz:=dV Ux cx.le;have⟨cf,Uq,h1,h2⟩:=RC hN ih (cx.on Uz) (Uu.on Uz) fg (UB _ _ Ut) Us;exact⟨cf,Uq,h1,h2 W0.heap.size (aG cx.le Ux.size) (ay _) W Z v x.2 k hW (pN.below (dI Ux hW) (ay _) hv) (UM x hx) (λv hv=>xO q2 hv) UP⟩
  have HT:Hid (∀i,((m.fs.take i).flatMap (jE S (ed S n) d)).length+m.unk.size<=140737488355328):=λi=>by
   have:=ip (g:=jE S (ed S n) d) (l:=m.fs) i;omega
  generalize jE S (ed S n) d=bx at*;clear hl hs;have⟨k1,k2⟩:=K1.rules;go_enter func104,ntmps104;go_wp2;generalize w.alloc (ak #[.slice a m.fs.length c,ae m.unk] 49)=w1 at*;go_loopw [5,7,14] (λsv _ iv wr=>∃i:Nat,iv=aa i/\i<=m.fs.length/\sv=aa (((m.fs.take i).flatMap bx).length+m.unk.size:Nat)/\aj w1 wr) (λ_ _ iv _=>m.fs.length-(intOf iv).toNat)
  case atStart=>exact⟨0,rfl,aL _,Uf,Below.refl _ _⟩
  case round=>
   obtain⟨i,rfl,hi,rfl,Bw⟩:=hrel;clear k1 k2;have BW:=dI B0 Bw
   by_cases hlt:i<m.fs.length
   ·have⟨x,hx⟩:=gx hlt;have⟨vv,p1,p2,p3⟩:=UL.get hx;obtain⟨va,vc,rfl⟩:=p1.form;obtain⟨g0,rfl,UC,Uy,Ur⟩:=hr.at Ue;have t0:=Ur wr (BW.block _ Uy) _ _ p2;have t1:=kX (Ur wr (BW.block _ Uy) _ _ p3);have⟨B1,K5⟩:=dS wr #[aa x.1,.slice va x.2.length vc] 58;have B2:=dI BW B1;have UT:=dI Bw B1;have Uw:=aI hx;have⟨f,Ut,_⟩:=hX x Uw;have⟨g,hg,fg⟩:=hG.yes _ _ Ut;have HF:=sP _ (λb=>b<B) mp pm gs pb x.1 (UA.on (dV B2.drew cx.le)) hG.srt hG.len;unfold BH at HF;rw[hg]at HF;have HZ:=λW st hW Us=>HC.out _ W x f g st _ B2.drew hW Uw Ut fg Us p1
    have hT:=HT.out (i+1);rw[fM hx,aH]at hT
    have HS:Hid (((m.fs.take (i+1)).flatMap bx).length+m.unk.size=((m.fs.take i).flatMap bx).length+m.unk.size+(bx x).length):=by
     show((m.fs.take (i+1)).flatMap bx).length+m.unk.size=_;rw[fM hx,aH];omega
    have UQ:((m.fs.take i).flatMap bx).length+m.unk.size+(bx x).length<=140737488355328:=Ue;generalize((m.fs.take i).flatMap bx).length+m.unk.size=sz at*;have UU:(i:Int)<(m.fs.length:Int):=Ue;have hsum:IntKind.i64.wrap ((sz:Int)+((bx x).length:Int))=(sz:Int)+((bx x).length:Int):=xS Ue Ue;clear Ur p2 p3 B1 hx hg Ut hT;go_upto_region 5 with fail
    generalize wr.alloc (ak #[aa x.1,.slice va x.2.length vc] 58)=w2 at*;generalize wr.heap.size=vb at*;have hW:w2.drew.cell? (ai vb 0)=some (aa x.1)/\w2.drew.cell? (ai vb 1)=some (.slice va x.2.length vc):=⟨K5.drew.cell 0,K5.drew.cell 1⟩;obtain⟨r0,r1⟩:=hW
    go_region_with
     (first
      |(
        go_at_call 141;refine HF.mono ?_;rintro e w3 ⟨⟨gb,j,st,rfl,U2,UN,Us,hc⟩,b3⟩;have⟨cf,Uq,⟨e5,U3⟩,HL⟩:=HZ w3 st b3 Us;have c5:=hc w3 (b3.block gb UN) 5 _ rfl;rw[e5]at c5;have UG:=K5.drew.below b3 K5.drew.lt;have r3:=UG.cell 1
        simp only[cG,cC,cD]at r3)
      |(
        refine HL.mono ?_
        rintro e w4 ⟨rfl,b4⟩))
    all_goals
     go_wp2;go_roundw
     case rel=>exact⟨i+1,by go_num,Ue,by rw[HS.out,dw],dI UT.drew (dI b3 b4)⟩
     case measure=>simp[intOf];omega
   ·obtain rfl:i=m.fs.length:=Ue;rw[bo];go_wp2;go_ret;exact⟨rfl,BW⟩
def Fj {S:d8}{mp pm:am->Option Nat}{B:Nat}(hN:DH S):∀n,RB S mp pm B n:=by
 intro n
 induction n with
 |zero=>
  intro w Z v m d pb gs k N b l cx Uu UA hG UB hM hZ UE UF hO hs
  cases hs
 |succ n ih=>
  intro w Z v m d pb gs k N b l cx Uu UA hG UB hM hZ UE UF hO hs hW hl
  cases k with
  |zero=>exact hM.elim
  |succ k=>
  obtain⟨cs,hr,UL⟩:=hM;obtain⟨a,c,rfl⟩:=hr.form;obtain⟨U0,U1,UM⟩:=hO;rw[dP,aJ]at hs;have hX:=λx hx=>xN (x:=x) hs.1 hx
  have⟨B0,K1⟩:=dS w #[.slice a m.fs.length c,ae m.unk] 49;have W0:=Wr.of B0 UF;have Ux:=hW.on B0;rw[ed]at hl⊢;rw[aH]at hl
  have HC:Hid (∀(W0 W:an) (x:PF) (f:eT) (g:GF) (st:rE) (v:Value) (l2:List UInt8),Below N w W0->Below N W0 W->x∈m.fs->dR d.fs x.1=some f->FG S mp d f g->mH W0 (λb=>b<B) mp (lA W0 (λb=>b<B) mp pm) (iz W0 (λb=>b<B) mp pm) g st->pN (iH k w Z) w Z v x.2->l2.length+(jE S (ed S n) d x).length<=140737488355328->∃cf Uq,Kz st.c6 cf Uq/\(fh W N b (d7 b) l2->Ua cf (v::d7 b::Uq).toArray W (iw N b l2 (jE S (ed S n) d x) W))):=λW0 W x f g st v l2 Ux hW hx Ut fg Us hv US=>by
   have⟨f',q1,q2⟩:=hX x hx;obtain rfl:f=f':=by grind
   have hb:jE S (ed S n) d x=jU S (ed S n) f x.2:=by unfold jE;rw[Ut]
   rw[hb]at US⊢;have Uz:=dV Ux UE;have⟨cf,Uq,h1,h2⟩:=RD hN (ye hN n) ih (cx.on Uz) (Uu.on Uz) fg (UB _ _ Ut) Us;exact⟨cf,Uq,h1,λhw=>h2 N UE (aG UF Ux.size) W Z v x.2 k b l2 hW (hv.under (Ux.trans hW) hZ) hZ (UM x hx) (λv hv=>xO q2 hv) hw US⟩
  have HT:Hid (∀i,l.length+((m.fs.take i).flatMap (jE S (ed S n) d)).length+m.unk.data.toList.length<=140737488355328):=λi=>by
   have:=ip (g:=jE S (ed S n) d) (l:=m.fs) i;omega
  generalize jE S (ed S n) d=bx at*;clear hl hs;have⟨k1,k2⟩:=K1.rules;go_enter func99,ntmps99;go_wp2;generalize w.alloc (ak #[.slice a m.fs.length c,ae m.unk] 49)=w1 at*;go_loopw [7,11] (λ_ iv wr=>∃i:Nat,iv=aa i/\i<=m.fs.length/\fh wr N b (d7 b) (l++(m.fs.take i).flatMap bx)/\Wr N w1 wr) (λ_ iv _=>m.fs.length-(intOf iv).toNat)
  case atStart=>exact⟨0,rfl,aL _,by grind,Wr.refl _ _⟩
  case round=>
   obtain⟨i,rfl,hi,UO,Wi⟩:=hrel;clear k1 k2;have WI:=W0.trans Wi;have hsz:=WI.bel.size
   by_cases hlt:i<m.fs.length
   ·have⟨x,hx⟩:=gx hlt;have⟨vv,p1,p2,p3⟩:=UL.get hx;obtain⟨va,vc,rfl⟩:=p1.form;obtain⟨g0,rfl,UC,Uy,Ur⟩:=hr.at Ue;have UH:=WI.bel.block _ (hZ _ UC);have t0:=Ur wr UH _ _ p2;have t1:=kX (Ur wr UH _ _ p3);have⟨B1,K5⟩:=dS wr #[aa x.1,.slice va x.2.length vc] 58;have UD:=Wi.trans (Wr.of B1 Ue);have UI:=W0.trans UD;have UV:=UO.on B1.drew;have Uw:=aI hx;have⟨f,Ut,_⟩:=hX x Uw;have⟨g,hg,fg⟩:=hG.yes _ _ Ut;have HF:=sP _ (λb=>b<B) mp pm gs pb x.1 (UA.on (dV UI.bel.drew UE)) hG.srt hG.len;unfold BH at HF;rw[hg]at HF;have hT:=HT.out (i+1);rw[fM hx,aH]at hT;have UQ:(l++(m.fs.take i).flatMap bx).length+(bx x).length<=140737488355328:=by grind
    have HZ:=λW st hW Us=>HC.out _ W x f g st _ _ UI.bel.drew hW Uw Ut fg Us p1 UQ
    have HS:Hid (l++(m.fs.take (i+1)).flatMap bx=l++(m.fs.take i).flatMap bx++bx x):=by
     show l++(m.fs.take (i+1)).flatMap bx=_;rw[fM hx,aZ]
    generalize l++(m.fs.take i).flatMap bx=li at*;have UU:(i:Int)<(m.fs.length:Int):=Ue;have UW:=UI.bel.size;clear Ur p2 p3 hx hg Ut hT UH;go_upto_region 4 with fail
    generalize wr.alloc (ak #[aa x.1,.slice va x.2.length vc] 58)=w2 at*;generalize wr.heap.size=vb at*;have hC:w2.drew.cell? (ai vb 0)=some (aa x.1)/\w2.drew.cell? (ai vb 1)=some (.slice va x.2.length vc):=⟨K5.drew.cell 0,K5.drew.cell 1⟩;obtain⟨r0,r1⟩:=hC;have UR:N<=w2.drew.heap.size:=aG UF UW
    go_region_with
     (first
      |(
        go_at_call 141;refine HF.mono ?_;rintro e w3 ⟨⟨gb,j,st,rfl,U2,UN,Us,hc⟩,b3⟩;have⟨cf,Uq,⟨e6,U3⟩,HL⟩:=HZ w3 st (dV b3 UR) Us;have c6:=hc w3 (b3.block gb UN) 6 _ rfl;rw[e6]at c6;have UG:=K5.drew.below b3 K5.drew.lt;have UX:=HL (UV.on b3);have r3:=UG.cell 1
        simp only[cG,cC,cD]at r3)
      |(
        refine UX.mono ?_;rintro e w4 ⟨rfl,q1,q2⟩
        have UY:Wr N w1 w4:=⟨(UD.bel.drew.trans (dV b3 UR)).trans q2.bel,λi cs T h1 h2 h=>q2.fr i cs T h1 h2 ((UD.fr i cs T h1 h2 h).drew.below b3 (UD.fr i cs T h1 h2 h).lt)⟩))
    all_goals
     go_wp2;go_roundw
     case rel=>exact⟨i+1,by go_num,Ue,by rw[HS.out];exact q1,UY⟩
     case measure=>simp[intOf];omega
   ·obtain rfl:i=m.fs.length:=Ue;have hT:=HT.out m.fs.length;rw[bo]at UO hT;have K2:=Wi.fr _ _ _ Uh Uh K1;have⟨k3,k4⟩:=K2.rules;have HR:=ue m.unk UO (by grind) Ue;go_wp2_with fail;refine HR.mono ?_;rintro e w3 ⟨rfl,q1,q2⟩;go_wp2;go_end0;exact⟨rfl,by grind,WI.trans q2⟩
section
variable {S:d8} {mp pm:am->Option Nat} {B:Nat}
def yf (hN:DH S)(w:an)(Z:ap)(v:Value)(m:PM)(d:MT)(pb:Nat)(gs:List GF)(k:Nat)(cx:sF w B S mp)(hpc:mS w (λb=>b<B) S mp pm)(hpl:ij w (λb=>b<B) mp pm gs pb)(hG:kG S mp d gs)(hnd:MA d)(hM:iH k w Z v m)(hO:oT k m)(hl:(ed S 8 d m).length<=140737488355328):
  Calls prog 59 #[ag pb,.agg #[v,ae m.unk]] w (j7 (dP S 8 d m) (aa (ed S 8 d m).length) w):=by
 obtain⟨a,c,rfl⟩:=hM.form;have⟨B0,K1⟩:=dS w #[.slice a m.fs.length c,ae m.unk] 49;have HC:=Lk (S:=S) (mp:=mp) (pm:=pm) (B:=B) 8 _ Z _ m d pb gs 1 k (cx.on (dV B0 cx.le)) (hpc.on (dV B0 cx.le)) (hpl.on (dV B0 cx.le)) hG (hM.below B0 (ay _)) hO rfl
 have HZ:Hid (∀W,aj w W->dP S 8 d m=true->Ua 104 #[ag pb,.agg #[.slice a m.fs.length c,ae m.unk]] W (gP (ed S 8 d m) W)):=λW hW hs=>
  ye hN 8 W Z _ m d pb gs k (cx.on (dV hW cx.le)) (hpc.on (dV hW cx.le)) (hpl.on (dV hW cx.le)) hG hnd (hM.below hW (ay _)) hO hs hl
 generalize ed S 8 d m=y at*;generalize dP S 8 d m=ok at*;have⟨k1,k2⟩:=K1.rules;go_in
 go_wp2_with fail;refine HC.mono ?_;intro e w2 hr;generalize w.alloc (ak #[.slice a m.fs.length c,ae m.unk] 49)=w1 at*
 rcases hr.part with⟨rfl,rfl,b2⟩|⟨rfl,y,z,rfl,b2⟩
 ·have K2:=K1.below b2 K1.lt;clear k1 k2;have⟨k1,k2⟩:=K2.rules;have B2:=dI B0 b2;go_wp2_with fail;refine(HZ.out w2 B2 trivial).mono ?_;rintro e w3 ⟨rfl,b3⟩;go_wp2;go_ret;exact j7.ok (dI B2 b3)
 ·unfold dL;go_wp2;exact⟨rfl,j7.no (dI B0 b2)⟩
def Ll (hN:DH S)(w:an)(Z:ap)(v:Value)(m:PM)(d:MT)(pb:Nat)(gs:List GF)(k:Nat)(cx:sF w B S mp)(hpc:mS w (λb=>b<B) S mp pm)(hpl:ij w (λb=>b<B) mp pm gs pb)(hG:kG S mp d gs)(hnd:MA d)(hM:iH k w Z v m)(hO:oT k m)(hl:(ed S 8 d m).length<=140737488355328):
  Calls prog 55 #[ag pb,.agg #[v,ae m.unk]] w (j7 (dP S 8 d m) (ae ⟨(ed S 8 d m).toArray⟩) w):=by
 obtain⟨a,c,rfl⟩:=hM.form;have⟨B0,K1⟩:=dS w #[.slice a m.fs.length c,ae m.unk] 49;have HC:=yf hN _ Z _ m d pb gs k (cx.on (dV B0 cx.le)) (hpc.on (dV B0 cx.le)) (hpl.on (dV B0 cx.le)) hG hnd (hM.below B0 (ay _)) hO hl;have Uq:=hM.mono (Y:=λb=>b<w.heap.size) λ_ _ q=>q
 have HW:Hid (∀W N b,aj w W->w.heap.size<=N->N<=W.heap.size->dP S 8 d m=true->fh W N b (d7 b) []->Ua 99 #[ag pb,.agg #[.slice a m.fs.length c,ae m.unk],d7 b] W (iw N b [] (ed S 8 d m) W)):=λW N b hW hN1 Ur hs hw=>
  Fj hN 8 W _ _ m d pb gs k N b [] (cx.on (dV hW cx.le)) (hpc.on (dV hW cx.le)) (hpl.on (dV hW cx.le)) hG hnd (Uq.below hW (ay _)) (λi q=>Ue) (by have:=cx.le;omega) Ur hO hs hw (by simpa using hl)
 generalize ed S 8 d m=y at*;generalize dP S 8 d m=ok at*;have⟨k1,k2⟩:=K1.rules;have hs1:w.heap.size+1=(w.alloc (ak #[.slice a m.fs.length c,ae m.unk] 49)).heap.size:=Uf;go_in
 go_wp2_with fail;refine HC.mono ?_;intro e w2 hr;generalize w.alloc (ak #[.slice a m.fs.length c,ae m.unk] 49)=w1 at*
 rcases hr.part with⟨rfl,rfl,b2⟩|⟨rfl,y,z,rfl,b2⟩
 ·have hs2:=b2.size;go_wp2_with fail;refine(uS (B:=w.heap.size+1) y.length hl Ue).mono ?_;rintro e w3 ⟨b,rfl,hb,Us,b3⟩;have K3:dM w3 w.heap.size _ _:=(b3.block _ Ue).trans (K1.below b2 K1.lt);have hs3:=b3.size;have B3:aj w w3:=(dI B0 b2).trans (dV b3 Ue);clear k1 k2;have⟨k1,k2⟩:=K3.rules;go_wp2_with fail;refine(HW.out w3 (w.heap.size+1) b B3 Ue Ue trivial Us).mono ?_;rintro e w4 ⟨rfl,q1,q2⟩;rw[aS]at q1;have hs4:=q2.bel.size;go_wp2_with fail;refine(Ab q1 Ue).mono ?_;rintro e w5 ⟨rfl,b5⟩;go_wp2;go_ret;exact j7.ok (B3.trans (dV (q2.bel.trans b5) Ue))
 ·unfold dL;go_wp2;exact⟨rfl,j7.no (dI B0 b2)⟩
end
end
section
variable {w w':an} {P:ap} {v:Value} {bs:List dQ} {y:List YM} {nm:am} {R:Fx PM} {e:Ending}
theorem qu (hM:fI w P v bs y)(h:jK bs):y.length<=2001:=by
 have e:y.length=(dY bs).length:=by rw[<-hM.names];simp
 rw[e,iN,bE];exact aG (bV _ _) h.ok.few
theorem DQ (hM:fI w P v bs y)(h:jK bs){i:Nat}{m:YM}(hi:y[i]?=some m)(hn:(m.1.1.toList==nm.toList)=true):
  ∃d gs,(dU bs).msg nm=some d/\iE w (λb=>b<w.heap.size) (lR (y.map (·.1))) m.1.2 d.name gs/\kG (dU bs) (lR (y.map (·.1))) d gs/\lw (dU bs) d:=by
 have hz:(y.map (·.1)).map (·.1)=dY bs:=by rw[bB];exact hM.names
 have Us:m.1.1.toList=nm.toList:=by simpa using hn
 have Uq:eM (dY bs) nm=true:=(iF _ _).2 ⟨m.1.1,by rw[<-hM.names];exact aP.2 ⟨m,aI hi,rfl⟩,Us⟩;have⟨_,b,_,_,h2,_,_⟩:=px h.ok hz Uq;have⟨j,m2,hj,_,q2,q3,q4,q5,q6⟩:=qq hM h h2
 have Ut:((y.map (·.1)).map (·.1)).Pairwise (λx y=>x.toList≠y.toList):=by
  rw[hz,iN];exact List.Pairwise.sublist (List.Sublist.map _ dq) h.ok.names
 have e1:m.1.1=m2.1.1:=jd (Us.trans q3.symm);have g1:=qe Ut (s:=m.1.1) (b:=m.1.2) (aP.2 ⟨m,aI hi,rfl⟩);have g2:=qe Ut (s:=m2.1.1) (b:=m2.1.2) (aP.2 ⟨m2,aI hj,rfl⟩);rw[e1,g2]at g1;exact⟨_,m2.2,h2,by rw[<-Option.some.inj g1];exact q4,q5,q6⟩
theorem sQ (hM:fI w P v bs y)(Ur:∀m∈y,(m.1.1.toList==nm.toList)=false):(dU bs).msg nm=none:=by
 have hz:(y.map (·.1)).map (·.1)=dY bs:=by rw[bB];exact hM.names
 refine(wO hz ?_).1
 cases hm:eM (dY bs) nm with
 |false=>rfl
 |true=>
  have⟨x,hx,Uv⟩:=(iF _ _).1 hm;rw[<-hM.names]at hx;obtain⟨m,Uw,rfl⟩:=aP.1 hx;have:=Ur m Uw;rw[Uv]at this;simp at this
theorem lI.toK (h:lI w R e w'):qt [] (λ_ _=>True) w R e w':=by
 cases R with
 |error x=>exact⟨h.1,.of_below h.2,trivial⟩
 |ok m=>
  obtain⟨v,Z',h1,h2,h3,h4⟩:=h;exact⟨v,Z',h1,h2,h3,.of_below h4,trivial⟩
theorem kO.toRet (h:kO [] (λ_ _=>True) w R e w'):Gn w R e w':=by
 cases R with
 |error x=>exact⟨h.1,h.2.1.to_below (ay _) Uf⟩
 |ok m=>
  obtain⟨v,Z',h1,h2,h3,h4,_⟩:=h;exact⟨v,Z',h1,h2,h3,h4.to_below (ay _) Uf⟩
theorem Ir (w:an)(sb:Nat)(v kv:Value)(bs:List dQ)(y:List YM)(P:ap)(nm b:am)(h1:dM w sb #[v,kv] 92)(hM:fI w P v bs y)(h:jK bs)(hu:UOK w)(hbs:b.size<=268435456):
  Ua 21 #[ag sb,aa 1,ae nm,ae b] w (Gn w (fj (dU bs) nm b)):=by
 refine(Ao (ks:= []) (K:=λ_ _=>True) _ w Uf (λ_ _ _ _ _ _=>trivial) rfl trivial sb v kv bs y P nm b 1 h1 hM (qu hM h) (.inl rfl) (λUr=> ?_) (λi m w0 q0 q1 q2 q3 hi hn hb _ _ c0 c1 c2 _=> ?_)).mono λ_ _ q=>q.toRet
 ·unfold fj;rw[sQ hM Ur]
 ·have⟨d,gs,g1,g2,g3,g4⟩:=DQ hM h hi hn;have cx:=Bq hM h hu;refine(PJ _ w0 q0 q1 q2 q3 m.1.2 b c0 c1 c2 λw2 Ux=> ?_).mono λ_ _ q=>q.toK
  have Uu:aj w w2:=dI hb Ux;have e:fj (dU bs) nm b=eE (dU bs) b (b.size+1) d PM.none 0 b.size 1:=by unfold fj;rw[g1]
  rw[e];exact EY (dU bs) (lR (y.map (·.1))) w.heap.size b (PL h) hbs w2 d m.1.2 gs d.name (cx.on Uu) (g2.keep λx q _=>Uu.block x q) g3 g4
end
end Go.Proofs.YtfebdimolnobaaaGreatDoor
