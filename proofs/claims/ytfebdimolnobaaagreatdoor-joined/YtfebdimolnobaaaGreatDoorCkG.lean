import Derived.Test.YtfebdimolnobaaaGreatDoorTreeMem
import Derived.BigQuiet
import Derived.Shelf.SlSortCmp.Whole1
import Derived.Shelf.SlSortCmp.NoneTotal
set_option maxRecDepth 100000
set_option maxHeartbeats 8000000
set_option linter.all false
namespace Go.Proofs.YtfebdimolnobaaaGreatDoor
open Go.RowKit Go.Proofs.Tryz
section
open Go.Maps
attribute [local go_sem] jo jp jq
open Uq
def Pp (f:eF):rL f= [aa f.form,aa (lW f.key),ae (jg f.key),aa (mW f.key),aa (dJ f.type.1),ae f.type.1,aa f.type.2,aa (dJ f.name.1),ae f.name.1,aa f.name.2,aa (dJ f.num.1),ae f.num.1,aa f.num.2]:=by
 obtain⟨form,key,ty,nm,nu⟩:=f
 cases key<;>rfl
def wE {w:an}{g:Nat}{fs:List eF}{j:Nat}{f:eF}(hf:fs[j]?=some f)(h:∀(i:Nat) v,(fs.flatMap rL)[i]?=some v->w.cell? (ai g i)=some v):
  w.cell? (ai g (j*13))=some (aa f.form)/\w.cell? (ai g (j*13+1))=some (aa (lW f.key))/\w.cell? (ai g (j*13+2))=some (ae (jg f.key))/\w.cell? (ai g (j*13+3))=some (aa (mW f.key))/\w.cell? (ai g (j*13+4))=some (aa (dJ f.type.1))/\w.cell? (ai g (j*13+5))=some (ae f.type.1)/\w.cell? (ai g (j*13+6))=some (aa f.type.2)/\w.cell? (ai g (j*13+7))=some (aa (dJ f.name.1))/\w.cell? (ai g (j*13+8))=some (ae f.name.1)/\w.cell? (ai g (j*13+9))=some (aa f.name.2)/\w.cell? (ai g (j*13+10))=some (aa (dJ f.num.1))/\w.cell? (ai g (j*13+11))=some (ae f.num.1)/\w.cell? (ai g (j*13+12))=some (aa f.num.2):=by
 have hg:=λ(i:Nat) hi=>fP rL 13 MH fs j f hf i hi
 rw[Pp]at hg;refine⟨h _ _ (hg 0 Ue),h _ _ (hg 1 Ue),h _ _ (hg 2 Ue),h _ _ (hg 3 Ue),h _ _ (hg 4 Ue),h _ _ (hg 5 Ue),h _ _ (hg 6 Ue),h _ _ (hg 7 Ue),h _ _ (hg 8 Ue),h _ _ (hg 9 Ue),h _ _ (hg 10 Ue),h _ _ (hg 11 Ue),h _ _ (hg 12 Ue)⟩
def ft.get {w:an}{S:ap}:∀{ps:List fo} {cs:aq} {i:Nat} {p:fo},ft w S cs ps->ps[i]?=some p->∃fa fn fc,
   cs[i*4]?=some (aa (lW p.oneof))/\cs[i*4+1]?=some (ae (jg p.oneof))/\cs[i*4+2]?=some (aa (mW p.oneof))/\cs[i*4+3]?=some (.slice fa fn fc)/\
   eD w S 211 13 (.slice fa fn fc) p.fields.length (p.fields.flatMap rL)
 | [],_,_,_,_,h=>by simp at h
 |q::ps,cs,0,p,⟨fa,fn,fc,rest,h1,h2,h3⟩,h=>by
  simp at h;subst h h1;exact⟨fa,fn,fc,rfl,rfl,rfl,rfl,h2⟩
 |q::ps,cs,i+1,p,⟨fa,fn,fc,rest,h1,h2,h3⟩,h=>by
  subst h1;obtain⟨ga,gn,gc,e0,e1,e2,e3,e4⟩:=ft.get h3 (i:=i) (by simpa using h);have e:(i+1)*4=i*4+1+1+1+1:=Ue;refine⟨ga,gn,gc,?_,?_,?_,?_,e4⟩
  ·rw[e];simpa using e0
  ·rw[show(i+1)*4+1=(i*4+1)+1+1+1+1 from by omega];simpa using e1
  ·rw[show(i+1)*4+2=(i*4+2)+1+1+1+1 from by omega];simpa using e2
  ·rw[show(i+1)*4+3=(i*4+3)+1+1+1+1 from by omega];simpa using e3
def mX (types names:ar)(nums:au)(f:eF):Except Nat (ar×au):=
 uC types names nums f.form (lW f.key) (jg f.key) (mW f.key) (dJ f.type.1) f.type.1 f.type.2 f.name.1 f.name.2 f.num.1 f.num.2
def fX (types:ar):ar->au->List eF->Except Nat (ar×au)
 |names,nums,[]=> .ok (names,nums)
 |names,nums,f::fs=>
  match mX types names nums f with
  | .error p=> .error p
  | .ok (n,m)=>fX types n m fs
def mf (types names:ar)(nums:au)(p:fo):Except Nat (ar×au):=
 if lW p.oneof==1 then
  if il names (jg p.oneof)then .error (mW p.oneof)else fX types (names++ [jg p.oneof]) nums p.fields
 else fX types names nums p.fields
def gy (types:ar):ar->au->List fo->Except Nat (ar×au)
 |names,nums,[]=> .ok (names,nums)
 |names,nums,p::ps=>
  match mf types names nums p with
  | .error q=> .error q
  | .ok (n,m)=>gy types n m ps
def lO:List fo->Nat
 | []=>0
 |p::ps=>1+p.fields.length+lO ps
def wG:∀ps:List fo,ps.length<=lO ps
 | []=>ay _
 |p::ps=>by have:=wG ps;simp only[be,lO];omega
def wH {types names:ar}{nums:au}{f:eF}{n:ar}{m:au}(h:mX types names nums f= .ok (n,m))(Uz:nums.Nodup):
  n.length=names.length+1/\m.length=nums.length+1/\m.Nodup:=by
 unfold mX uC jQ at h
 split at h
 ·simp at h
 ·split at h
  ·simp at h
  ·split at h
   ·simp at h
   ·split at h
    ·simp at h
    ·split at h
     ·simp at h
     ·rename_i hb
      simp at h;obtain⟨rfl,rfl⟩:=h;refine⟨Uf,Uf,?_⟩
      have hm:AF nums (iJ f.num.1)=false:=by
       unfold ox at hb;simp at hb;exact hb.2.2
      rw[dz];refine⟨Uz,Uf,λa ha b UV=> ?_⟩;simp at UV;subst UV;rintro rfl;unfold AF at hm;rw[dy]at hm;exact hm _ ha Uf
def TJ (w:an)(tb:Nat)(types:ar)(eb:Bool)(bk:Int)(bs:am)(bp:Nat)(pa:aw)(pn pc:Nat)(va:aw)(vn vc:Nat)(ps:List fo)(pcs:aq)(S:ap)
  (hrow:eD w S 208 4 (.slice pa pn pc) ps.length pcs) (hps:ft w S pcs ps) (HT:eR w tb types) (hlen:lO ps<=2001) (hnum:∀p∈ps,∀f∈p.fields,kh f.num.1) (hg:GOK w):
  Calls prog 124 #[.agg #[.bool eb,aa bk,ae bs,aa bp,.slice pa pn pc,.slice va vn vc],.map (some tb)] w λe w'=>AG (gy types [] [] ps) e/\aj w w':=by
 have UY:=eK hrow.1;subst UY;have hmm:= @run_makeMap prog;have UZ:=HT.lt;have hpl:ps.length<=2001:=aG (wG ps) hlen;have C0:aj w ((((w.alloc (ak #[.bool eb,aa bk,ae bs,aa bp,.slice pa ps.length pc,.slice va vn vc] 152)).alloc (Obj.map #[] 0)).alloc (Obj.map #[] 0)).alloc (ak #[.map (some tb),.map (some (w.heap.size+1)),.map (some (w.heap.size+1+1))] 306)):=(((Ud w _).alloc Uf _).alloc Ug _).alloc Ug _
 have M0:eR ((((w.alloc (ak #[.bool eb,aa bk,ae bs,aa bp,.slice pa ps.length pc,.slice va vn vc] 152)).alloc (Obj.map #[] 0)).alloc (Obj.map #[] 0)).alloc (ak #[.map (some tb),.map (some (w.heap.size+1)),.map (some (w.heap.size+1+1))] 306)) (w.heap.size+1) []:=by
  have:=((World.ownsMap_made (w.alloc (ak #[.bool eb,aa bk,ae bs,aa bp,.slice pa ps.length pc,.slice va vn vc] 152)) prog 9 (unitElem (H:=Unit))).alloc (Obj.map #[] 0)).alloc (ak #[.map (some tb),.map (some (w.heap.size+1)),.map (some (w.heap.size+1+1))] 306);simpa [eR,setOf]using this
 have M1:gY ((((w.alloc (ak #[.bool eb,aa bk,ae bs,aa bp,.slice pa ps.length pc,.slice va vn vc] 152)).alloc (Obj.map #[] 0)).alloc (Obj.map #[] 0)).alloc (ak #[.map (some tb),.map (some (w.heap.size+1)),.map (some (w.heap.size+1+1))] 306)) (w.heap.size+1+1) []:=by
  have:=(World.ownsMap_made ((w.alloc (ak #[.bool eb,aa bk,ae bs,aa bp,.slice pa ps.length pc,.slice va vn vc] 152)).alloc (Obj.map #[] 0)) prog 53 (unitElem (H:=Unit))).alloc (ak #[.map (some tb),.map (some (w.heap.size+1)),.map (some (w.heap.size+1+1))] 306);simpa [gY,setOf]using this
 have K0:dM ((((w.alloc (ak #[.bool eb,aa bk,ae bs,aa bp,.slice pa ps.length pc,.slice va vn vc] 152)).alloc (Obj.map #[] 0)).alloc (Obj.map #[] 0)).alloc (ak #[.map (some tb),.map (some (w.heap.size+1)),.map (some (w.heap.size+1+1))] 306)) (w.heap.size+1+1+1) #[.map (some tb),.map (some (w.heap.size+1)),.map (some (w.heap.size+1+1))] 306:=by
  have:=dM.new (((w.alloc (ak #[.bool eb,aa bk,ae bs,aa bp,.slice pa ps.length pc,.slice va vn vc] 152)).alloc (Obj.map #[] 0)).alloc (Obj.map #[] 0)) #[.map (some tb),.map (some (w.heap.size+1)),.map (some (w.heap.size+1+1))] 306;simpa using this
 generalize hr:gy types [] [] ps=r;have HR:Hid (gy types [] [] ps=r):=hr;clear hr;go_in
 go_wp2;go_loopw [16] (λi wr=>∃(k:Nat) (names:ar) (nums:au),k<=ps.length/\i=aa k/\names.length+lO (ps.drop k)<=2001/\nums.length+lO (ps.drop k)<=2001/\nums.Nodup/\Hid (gy types names nums (ps.drop k)=r)/\eR wr (w.heap.size+1) names/\gY wr (w.heap.size+1+1) nums/\dM wr (w.heap.size+1+1+1) #[.map (some tb),.map (some (w.heap.size+1)),.map (some (w.heap.size+1+1))] 306/\aj w wr) (λi _=>ps.length-(intOf i).toNat)
 case atStart=>exact⟨0,[],[],aL _,rfl,by simpa using hlen,by simpa using hlen,List.nodup_nil,HR,M0,M1,K0,C0⟩
 case round=>
  clear M0 M1 K0 C0;obtain⟨k,names,nums,hk,rfl,UL,UM,Uz,HP,HS,HM,KC,CW⟩:=hrel
  by_cases hlt:k<ps.length
  ·obtain⟨p,hp⟩:=gx hlt;have UO:p∈ps:=aI hp
   have Uq:ps.drop k=p::ps.drop (k+1):=by
    rw[aX hlt];rw[aK hlt]at hp;rw[Option.some.inj hp]
   rw[Uq]at UL UM;simp only[lO]at UL UM;have UI:Hid (gy types names nums (p::ps.drop (k+1))=r):=by rw[<-Uq];exact HP
   obtain⟨g,rfl,_,U7,Uw⟩:=el hrow.1 Ue;obtain⟨fa,fn,fc,p0,p1,p2,p3,UW⟩:=hps.get hp;have U0:=eK UW.1;subst U0;have UC:=Uw wr (CW.block g U7);have q0:=UC _ _ p0;have q1:=UC _ _ p1;have q2:=UC _ _ p2;have q3:=UC _ _ p3;have KP:=dM.new wr #[aa (lW p.oneof),ae (jg p.oneof),aa (mW p.oneof),.slice fa p.fields.length fc] 208;have CA:=CW.alloc CW.size (ak #[aa (lW p.oneof),ae (jg p.oneof),aa (mW p.oneof),.slice fa p.fields.length fc] 208);have UA:eR (wr.alloc (ak #[aa (lW p.oneof),ae (jg p.oneof),aa (mW p.oneof),.slice fa p.fields.length fc] 208)) (w.heap.size+1) names:=HS.keep (Below.heap_alloc _ _ _ HS.lt);have Ux:gY (wr.alloc (ak #[aa (lW p.oneof),ae (jg p.oneof),aa (mW p.oneof),.slice fa p.fields.length fc] 208)) (w.heap.size+1+1) nums:=HM.keep (Below.heap_alloc _ _ _ HM.lt);have Uv:=KC.alloc (ak #[aa (lW p.oneof),ae (jg p.oneof),aa (mW p.oneof),.slice fa p.fields.length fc] 208);have zc:=KC.lt;obtain⟨c1,c2⟩:=Uv.rules;have UD:=hnum p UO;clear Uw UC hp Uq HP UO p0 p1 p2 p3 HS HM KC;obtain⟨rp,UG⟩:∃rp,Hid (mf types names nums p=rp):=⟨_,rfl⟩;obtain⟨nn,UB⟩:∃nn,Hid (nn=if lW p.oneof==1 then names++ [jg p.oneof]else names):=⟨_,rfl⟩
   cases ho:(lW p.oneof==1)
   have Uy:Hid (fX types nn nums p.fields=rp):=by
    have:=UG.out;unfold mf at this;simp only[ho,aM,if_false]at this;rw[show nn=names by rw[UB.out,ho];rfl];exact this
   have UE:=UA;rw[show names=nn by rw[UB.out,ho];rfl]at UE;have U1:nn.length<=names.length+1:=by rw[show nn=names by rw[UB.out,ho];rfl];omega
   have UJ:=Ux;have KCa:=Uv;have Ca:=CA;go_wp2_with fail;clear UA Ux Uv CA c1 c2 q0 q1 q2 q3 KP;rotate_left
   focus
    go_wp2_with fail;refine(RX _ (w.heap.size+1) names _ _ _ UA Ue).mono ?_
    cases h1:il names (jg p.oneof)
    rotate_left
    ·rintro e w4 ⟨rfl,U8⟩
     obtain rfl:r= .error (mW p.oneof):=by
      rw[<-UI.out,gy,mf];simp only[ho,h1,if_true]
     unfold dL;go_wp2;exact⟨rfl,rfl,CA.trans (U8.mono CA.size)⟩
    rintro e w4 ⟨rfl,UX,UF⟩
    have Uy:Hid (fX types nn nums p.fields=rp):=by
     have:=UG.out;unfold mf at this;simp only[ho,h1,aM,if_true,if_false]at this;rw[show nn=names++ [jg p.oneof]by rw[UB.out,ho];rfl];exact this
    have C4:aj w w4:=CA.trans (UF.to_below CA.size (by intro x hx;simp at hx;omega));have UP:dM w4 (w.heap.size+1+1+1) #[.map (some tb),.map (some (w.heap.size+1)),.map (some (w.heap.size+1+1))] 306:=(UF.block _ Uv.lt Ug).trans Uv;have UQ:dM w4 wr.heap.size #[aa (lW p.oneof),ae (jg p.oneof),aa (mW p.oneof),.slice fa p.fields.length fc] 208:=(UF.block _ KP.lt Ug).trans KP;have UR:gY w4 (w.heap.size+1+1) nums:=Ux.keep (UF.block _ Ux.lt Uf);have UE:=UX;rw[show names++ [jg p.oneof]=nn by rw[UB.out,ho];rfl]at UE;have U1:nn.length<=names.length+1:=by rw[show nn=names++ [jg p.oneof]by rw[UB.out,ho];rfl];simp
    have UJ:=UR;have KCa:=UP;have Ca:=C4;obtain⟨y1,y2⟩:=UQ.rules;clear c1 c2 q0 q1 q2 q3;go_wp2_with fail;clear UA Ux Uv CA y1 y2 UQ UP UR UX C4 UF KP
   all_goals
    go_loopw [32] (λi wr=>∃(j:Nat) (names:ar) (nums:au),j<=p.fields.length/\i=aa j/\names.length+(p.fields.length-j)+lO (ps.drop (k+1))<=2001/\nums.length+(p.fields.length-j)+lO (ps.drop (k+1))<=2001/\nums.Nodup/\Hid (fX types names nums (p.fields.drop j)=rp)/\eR wr (w.heap.size+1) names/\gY wr (w.heap.size+1+1) nums/\dM wr (w.heap.size+1+1+1) #[.map (some tb),.map (some (w.heap.size+1)),.map (some (w.heap.size+1+1))] 306/\aj w wr) (λi _=>p.fields.length-(intOf i).toNat)
    case atStart=>exact⟨0,nn,nums,aL _,rfl,Ue,Ue,Uz,Uy,UE,UJ,KCa,Ca⟩
    case round=>
     clear UE UJ KCa Ca Uy;obtain⟨j,names,nums,hj,rfl,UL,UM,Uz,HQ,HS,HM,KC,CW⟩:=hrel
     by_cases hlt2:j<p.fields.length
     ·obtain⟨f,hf⟩:=gx hlt2;have US:f∈p.fields:=aI hf
      have Uq:p.fields.drop j=f::p.fields.drop (j+1):=by
       rw[aX hlt2];rw[aK hlt2]at hf;rw[Option.some.inj hf]
      have UT:Hid (fX types names nums (f::p.fields.drop (j+1))=rp):=by rw[<-Uq];exact HQ
      obtain⟨gf,rfl,_,UN,Ut⟩:=el UW.1 Ue;have UU:=Ut wr (CW.block gf UN);obtain⟨t0,t1,t2,t3,t4,t5,t6,t7,t8,t9,U9,Va,Vb⟩:=wE hf UU;have KF:=dM.new wr (FC f) 211;have CA:=CW.alloc CW.size (FO f);have UA:eR (wr.alloc (FO f)) (w.heap.size+1) names:=HS.keep (Below.heap_alloc _ _ _ HS.lt);have Ux:gY (wr.alloc (FO f)) (w.heap.size+1+1) nums:=HM.keep (Below.heap_alloc _ _ _ HM.lt);have U2:eR (wr.alloc (FO f)) tb types:=HT.keep (CA.block _ UZ);have U3:GOK (wr.alloc (FO f)):=hg.keep (CA.block _ hg.lt);have Uv:=KC.alloc (FO f);have zc:=KC.lt;obtain⟨c1,c2⟩:=Uv.rules;have UK:=UD f US;clear Ut UU hf Uq HQ US HS HM KC;go_wp2_with fail;clear t0 t1 t2 t3 t4 t5 t6 t7 t8 t9 U9 Va Vb c1 c2;refine(TH _ tb (w.heap.size+1) (w.heap.size+1+1) types names nums _ _ _ _ _ _ _ _ _ _ _ _ _ U2 UA Ux Ue (by have:=hg.lt;omega) Ue Ue Uz UK U3).mono ?_
      cases h5:mX types names nums f with
      |error q=>
       have h6:uC types names nums f.form (lW f.key) (jg f.key) (mW f.key) (dJ f.type.1) f.type.1 f.type.2 f.name.1 f.name.2 f.num.1 f.num.2= .error q:=h5;rw[h6];rintro e w5 ⟨rfl,UH⟩;obtain rfl:rp= .error q:=by rw[<-UT.out,fX,h5]
       obtain rfl:r= .error q:=by rw[<-UI.out,gy,UG.out]
       unfold dL;go_wp2;exact⟨rfl,rfl,CA.trans (UH.to_below CA.size (by intro x hx;simp at hx;omega))⟩
      |ok nm=>
       obtain⟨Us,Uu⟩:=nm;have h6:uC types names nums f.form (lW f.key) (jg f.key) (mW f.key) (dJ f.type.1) f.type.1 f.type.2 f.name.1 f.name.2 f.num.1 f.num.2= .ok (Us,Uu):=h5;rw[h6];rintro e w5 ⟨rfl,Vc,Vd,UH⟩;obtain⟨l1,l2,l3⟩:=wH h5 Uz
       have U4:Hid (fX types Us Uu (p.fields.drop (j+1))=rp):=by
        have:=UT.out;rw[fX,h5]at this;exact this
       have C5:aj w w5:=CA.trans (UH.to_below CA.size (by intro x hx;simp at hx;omega));have U5:dM w5 (w.heap.size+1+1+1) #[.map (some tb),.map (some (w.heap.size+1)),.map (some (w.heap.size+1+1))] 306:=(UH.block _ Uv.lt Ug).trans Uv;go_wp2;go_roundw
       case rel=>exact⟨j+1,Us,Uu,Ue,by go_num,Ue,Ue,l3,U4,Vc,Vd,U5,C5⟩
       case measure=>simp[intOf];omega
     ·have Ur:p.fields.drop j= []:=by rw[cO];omega
      obtain rfl:rp= .ok (names,nums):=by rw[<-HQ.out,Ur];rfl
      have U6:Hid (gy types names nums (ps.drop (k+1))=r):=by
       have:=UI.out;rw[gy,UG.out]at this;exact this
      clear Ur;go_wp2;go_roundw
      case rel=>exact⟨k+1,names,nums,Ue,by go_num,Ue,Ue,Uz,U6,HS,HM,KC,CW⟩
      case measure=>simp[intOf];omega
  ·have Ur:ps.drop k= []:=by rw[cO];omega
   obtain rfl:r= .ok (names,nums):=by rw[<-HP.out,Ur];rfl
   clear Ur;go_wp2;go_end0;exact⟨rfl,CW⟩
def eQ.get {w:an}{S:ap}:∀{bs:List dQ} {cs:aq} {i:Nat} {b:dQ},eQ w S cs bs->bs[i]?=some b->∃pa pn pc va vn vc,
   cs[i*6+0]?=some (.bool b.enum)/\cs[i*6+1]?=some (aa (dJ b.name.1))/\cs[i*6+2]?=some (ae b.name.1)/\cs[i*6+3]?=some (aa b.name.2)/\cs[i*6+4]?=some (.slice pa pn pc)/\cs[i*6+5]?=some (.slice va vn vc)/\jD w S b (.slice pa pn pc) (.slice va vn vc)
 | [],_,_,_,_,h=>by simp at h
 |q::bs,cs,0,b,⟨pa,pn,pc,va,vn,vc,rest,h1,h2,h3⟩,h=>by
  simp at h;subst h h1;exact⟨pa,pn,pc,va,vn,vc,rfl,rfl,rfl,rfl,rfl,rfl,h2⟩
 |q::bs,cs,i+1,b,⟨pa,pn,pc,va,vn,vc,rest,h1,h2,h3⟩,h=>by
  subst h1;obtain⟨UY,UZ,U0,U1,U2,U3,e0,e1,e2,e3,e4,e5,e6⟩:=eQ.get h3 (i:=i) (by simpa using h);refine⟨UY,UZ,U0,U1,U2,U3,?_,?_,?_,?_,?_,?_,e6⟩
  ·rw[show(i+1)*6+0=(i*6+0)+1+1+1+1+1+1 from by omega];simpa using e0
  ·rw[show(i+1)*6+1=(i*6+1)+1+1+1+1+1+1 from by omega];simpa using e1
  ·rw[show(i+1)*6+2=(i*6+2)+1+1+1+1+1+1 from by omega];simpa using e2
  ·rw[show(i+1)*6+3=(i*6+3)+1+1+1+1+1+1 from by omega];simpa using e3
  ·rw[show(i+1)*6+4=(i*6+4)+1+1+1+1+1+1 from by omega];simpa using e4
  ·rw[show(i+1)*6+5=(i*6+5)+1+1+1+1+1+1 from by omega];simpa using e5
structure oy (b:dQ):Prop where
 name:b.name.1.size<=2000
 vals:b.values.length<=2001
 vnum:∀v∈b.values,kh v.2.1
 parts:lO b.parts<=2001
 fnum:∀p∈b.parts,∀f∈p.fields,kh f.num.1
def fC (types:ar):ar->Nat->List dQ->Except Nat Unit
 |_,_,[]=> .ok ()
 |names,m,b::bs=>
  if il names b.name.1 then .error b.name.2
  else if b.enum then
   match ki [] b.values with
   | .error p=> .error p
   | .ok _=>fC types (names++ [b.name.1]) m bs
  else if decide (6<m+1)then .error b.name.2
  else
   match gy types [] [] b.parts with
   | .error p=> .error p
   | .ok _=>fC types (names++ [b.name.1]) (m+1) bs
def fi (bs:List dQ):ar:=bs.map λb=>b.name.1
def TK (w:an)(ta:aw)(tn tc:Nat)(bs:List dQ)(cs:aq)(S:ap)(hrow:eD w S 152 6 (.slice ta tn tc) bs.length cs)(hbs:eQ w S cs bs)(hlen:bs.length<=2001)(hok:∀b∈bs,oy b):
  Calls prog 120 #[.agg #[.slice ta tn tc]] w λe w'=>e= .returned (.map (some (w.heap.size+1)))/\eR w' (w.heap.size+1) (fi bs)/\aj w w':=by
 have UH:=eK hrow.1;subst UH;have UU:= @run_makeMap prog;have C0:aj w ((w.alloc (ak #[.slice ta bs.length tc] 87)).alloc (Obj.map #[] 0)):=(Ud w _).alloc Uf _
 have M0:eR ((w.alloc (ak #[.slice ta bs.length tc] 87)).alloc (Obj.map #[] 0)) (w.heap.size+1) []:=by
  have:=World.ownsMap_made (w.alloc (ak #[.slice ta bs.length tc] 87)) prog 9 (unitElem (H:=Unit));simpa [eR,setOf]using this
 go_in
 go_wp2;go_loopw [10] (λi wr=>∃(k:Nat),k<=bs.length/\i=aa k/\eR wr (w.heap.size+1) (fi (bs.take k))/\aj w wr) (λi _=>bs.length-(intOf i).toNat)
 case atStart=>exact⟨0,aL _,rfl,M0,C0⟩
 case round=>
  clear M0 C0;obtain⟨k,hk,rfl,HS,CW⟩:=hrel
  by_cases hlt:k<bs.length
  ·obtain⟨b,hb⟩:=gx hlt;have Uw:=hok b (aI hb);obtain⟨g,rfl,_,UQ,Uq⟩:=el hrow.1 Ue;obtain⟨pa,pn,pc,va,vn,vc,p0,p1,p2,p3,p4,p5,UF⟩:=hbs.get hb;have Ur:=Uq wr (CW.block g UQ);rw[Nat.add_zero]at p0;have q0:=Ur _ _ p0;have q1:=Ur _ _ p1;have q2:=Ur _ _ p2;have q3:=Ur _ _ p3;have q4:=Ur _ _ p4;have q5:=Ur _ _ p5;have KB:=dM.new wr #[.bool b.enum,aa (dJ b.name.1),ae b.name.1,aa b.name.2,.slice pa pn pc,.slice va vn vc] 152;have CA:=CW.alloc CW.size (ak #[.bool b.enum,aa (dJ b.name.1),ae b.name.1,aa b.name.2,.slice pa pn pc,.slice va vn vc] 152);clear Uq Ur p0 p1 p2 p3 p4 p5
   have HL:Hid (fi (bs.take (k+1))=fi (bs.take k)++ [b.name.1]):=by
    unfold Hid fi;rw[bJ,hb];simp
   have UC:eR (wr.alloc (ak #[.bool b.enum,aa (dJ b.name.1),ae b.name.1,aa b.name.2,.slice pa pn pc,.slice va vn vc] 152)) (w.heap.size+1) (fi (bs.take k)):=HS.keep (Below.heap_alloc _ _ _ HS.lt)
   have UV:(fi (bs.take k)).length<maxLen:=by
    unfold fi maxLen;rw[bE,bG];omega
   have hsz:b.name.1.size<=maxLen:=by have:=Uw.name;unfold maxLen;omega
   clear hb UF;go_wp2_with fail;clear q0 q1 q2 q3 q4 q5;refine(Tf _ (w.heap.size+1) _ b.name.1 UC UV hsz).mono ?_;rintro e w4 ⟨rfl,Uy,UA⟩;have C4:aj w w4:=CA.trans (UA.to_below CA.size (by intro x hx;simp at hx;omega));go_wp2;go_roundw
   case rel=>exact⟨k+1,Ue,by go_num,by rw[HL.out];exact Uy,C4⟩
   case measure=>simp[intOf];omega
  ·have HL:Hid (bs.take k=bs):=bY Ue;go_wp2;go_ret;refine⟨rfl,?_,CW⟩;rw[HL.out]at HS;exact HS
def TL (w:an)(ta:aw)(tn tc:Nat)(bs:List dQ)(cs:aq)(S:ap)(hrow:eD w S 152 6 (.slice ta tn tc) bs.length cs)(hbs:eQ w S cs bs)(hlen:bs.length<=2001)(hok:∀b∈bs,oy b)(hg:GOK w):
  Calls prog 71 #[.agg #[.slice ta tn tc]] w λe w'=>AG (fC (fi bs) [] 0 bs) e/\aj w w':=by
 have UH:=eK hrow.1;subst UH;have UU:= @run_makeMap prog;obtain⟨B0,K0⟩:=dS w #[.slice ta bs.length tc] 87;have Ut:eD (w.alloc (ak #[.slice ta bs.length tc] 87)) S 152 6 (.slice ta bs.length tc) bs.length cs:=hrow.keep (λb _ hb=>Below.heap_alloc _ _ _ hb);have Uz:eQ (w.alloc (ak #[.slice ta bs.length tc] 87)) S cs bs:=hbs.keep (λb _ hb=>Below.heap_alloc _ _ _ hb);obtain⟨types,UT⟩:∃t,Hid (fi bs=t):=⟨_,rfl⟩;rw[UT.out];generalize hr:fC types [] 0 bs=r;have HR:Hid (fC types [] 0 bs=r):=hr;clear hr;go_in
 go_wp2_with fail;refine(TK _ ta bs.length tc bs cs S Ut Uz hlen hok).mono ?_;rw[UT.out];rintro e w2 ⟨rfl,UG,UR⟩;have C2:aj w w2:=B0.trans (UR.mono Uf);have K2:=(K0.below UR K0.lt).alloc (Obj.map #[] 0);have zt:w.heap.size+1+1<w2.heap.size:=by have:=UG.lt;simp at this;omega
 have UI:eR (w2.alloc (Obj.map #[] 0)) (w.heap.size+1+1) types:=by
  have:=UG.keep (w':=(w2.alloc (Obj.map #[] 0))) (Below.heap_alloc _ _ _ UG.lt);simpa using this
 have HTlt:=UI.lt;have C3:aj w (w2.alloc (Obj.map #[] 0)):=C2.alloc C2.size _
 have M3:eR (w2.alloc (Obj.map #[] 0)) w2.heap.size []:=by
  have:=World.ownsMap_made w2 prog 9 (unitElem (H:=Unit));simpa [eR,setOf]using this
 have esz:∀o,(w.alloc o).heap.size=w.heap.size+1:=Uf;obtain⟨k1,k2⟩:=K2.rules;clear K0 Ut Uz UG UR B0 C2;go_wp2;clear k1 k2;go_loopw [4,13] (λm i wr=>∃(k cnt:Nat) (names:ar),k<=bs.length/\i=aa k/\m=aa cnt/\cnt<=k/\names.length<=k/\Hid (fC types names cnt (bs.drop k)=r)/\eR wr w2.heap.size names/\eR wr (w.heap.size+1+1) types/\aj w wr) (λ_ i _=>bs.length-(intOf i).toNat)
 case atStart=>exact⟨0,0,[],aL _,rfl,rfl,ay _,Uf,HR,M3,UI,C3⟩
 case round=>
  clear M3 UI C3 HR;obtain⟨k,cnt,names,hk,rfl,rfl,hcnt,hnl,HP,HS,HT,CW⟩:=hrel
  by_cases hlt:k<bs.length
  ·obtain⟨b,hb⟩:=gx hlt;have Uw:=hok b (aI hb)
   have Uu:bs.drop k=b::bs.drop (k+1):=by
    rw[aX hlt];rw[aK hlt]at hb;rw[Option.some.inj hb]
   have Ux:Hid (fC types names cnt (b::bs.drop (k+1))=r):=by rw[<-Uu];exact HP
   obtain⟨g,rfl,_,UQ,Uq⟩:=el hrow.1 Ue;obtain⟨pa,pn,pc,va,vn,vc,p0,p1,p2,p3,p4,p5,UF⟩:=hbs.get hb;have Ur:=Uq wr (CW.block g UQ);rw[Nat.add_zero]at p0;have q0:=Ur _ _ p0;have q1:=Ur _ _ p1;have q2:=Ur _ _ p2;have q3:=Ur _ _ p3;have q4:=Ur _ _ p4;have q5:=Ur _ _ p5;have KB:=dM.new wr #[.bool b.enum,aa (dJ b.name.1),ae b.name.1,aa b.name.2,.slice pa pn pc,.slice va vn vc] 152;have CA:=CW.alloc CW.size (ak #[.bool b.enum,aa (dJ b.name.1),ae b.name.1,aa b.name.2,.slice pa pn pc,.slice va vn vc] 152);clear Uq Ur p0 p1 p2 p3 p4 p5;have UC:eR (wr.alloc (ak #[.bool b.enum,aa (dJ b.name.1),ae b.name.1,aa b.name.2,.slice pa pn pc,.slice va vn vc] 152)) w2.heap.size names:=HS.keep (Below.heap_alloc _ _ _ HS.lt);have UJ:eR (wr.alloc (ak #[.bool b.enum,aa (dJ b.name.1),ae b.name.1,aa b.name.2,.slice pa pn pc,.slice va vn vc] 152)) (w.heap.size+1+1) types:=HT.keep (Below.heap_alloc _ _ _ HT.lt);have z1:=HS.lt;clear hb Uu HP HS HT;go_wp2_with fail;clear q0 q1 q2 q3 q4 q5;refine(RX _ w2.heap.size names _ _ _ UC Ue).mono ?_
   cases h1:il names b.name.1
   rotate_left
   ·rintro e w4 ⟨rfl,U4⟩;obtain rfl:r= .error b.name.2:=by rw[<-Ux.out,fC];simp only[h1,if_true]
    unfold dL;go_wp2;exact⟨rfl,rfl,CA.trans (U4.mono CA.size)⟩
   rintro e w4 ⟨rfl,Uy,UA⟩;have C4:aj w w4:=CA.trans (UA.to_below CA.size (by intro x hx;simp at hx;omega));have UD:dM w4 wr.heap.size #[.bool b.enum,aa (dJ b.name.1),ae b.name.1,aa b.name.2,.slice pa pn pc,.slice va vn vc] 152:=(UA.block _ KB.lt Ug).trans KB;have UE:eR w4 (w.heap.size+1+1) types:=UJ.keep (UA.block _ UJ.lt Ug);have UK:=UF.keep (w':=w4) (λc _ hc=>C4.block c hc);have UL:GOK w4:=hg.keep (C4.block _ hg.lt);have z4:=UD.lt;obtain⟨U5,U6,U7,U8⟩:=UK;clear KB UC UJ CA UF;obtain⟨k1,k2⟩:=UD.rules
   cases hen:b.enum
   ·cases h3:decide (6<cnt+1)
    rotate_left
    ·have hd:(6:Int)<(cnt:Int)+1:=by have:=of_decide_eq_true h3;omega
     obtain rfl:r= .error b.name.2:=by rw[<-Ux.out,fC];simp only[h1,hen,h3,aM,if_true,if_false]
     go_wp2_with fail;refine(kc _ _ b.name.1 b.name.2).mono ?_;rintro e w5 ⟨rfl,Us⟩;unfold dL;go_wp2;exact⟨rfl,rfl,C4.trans (Us.mono C4.size)⟩
    have hd:decide ((6:Int)<(cnt:Int)+1)=false:=by have:=of_decide_eq_false h3;simp;omega
    go_wp2_with fail;refine(rj _ _ b.name.1 b.name.2).mono ?_;rintro e w5 ⟨rfl,Us⟩;clear k1 k2 hd;have C5:=C4.trans (Us.mono C4.size);have UW:=UD.below Us UD.lt;have UM:=UE.keep (Us.block _ UE.lt);have US:=Uy.keep (Us.block _ Uy.lt);have UN:=U6.keep (w':=w5) (λc _ hc=>Us.block c hc);have UO:=U7.keep (w':=w5) (λc _ hc=>Us.block c hc);have UX:=UL.keep (Us.block _ UL.lt);obtain⟨k1,k2⟩:=UW.rules;go_wp2_with fail;clear k1 k2;refine(TJ _ (w.heap.size+1+1) types _ _ _ _ pa pn pc va vn vc b.parts U5 S UN UO UM Uw.parts Uw.fnum UX).mono ?_
    cases h2:gy types [] [] b.parts with
    |error p=>
     rintro e w6 ⟨he,UB⟩;obtain rfl:e=dL 3 p:=he;obtain rfl:r= .error p:=by rw[<-Ux.out,fC];simp only[h1,hen,h2,h3,aM,if_false]
     unfold dL;go_wp2;exact⟨rfl,rfl,C5.trans (UB.mono C5.size)⟩
    |ok nn=>
     rintro e w6 ⟨he,UB⟩;obtain rfl:e= .returned (.tuple #[]):=he
     have UP:Hid (fC types (names++ [b.name.1]) (cnt+1) (bs.drop (k+1))=r):=by
      have:=Ux.out;rw[fC]at this;simp only[h1,hen,h2,h3,aM,if_false]at this;exact this
     go_wp2;go_roundw
     case rel=>exact⟨k+1,cnt+1,names++ [b.name.1],Ue,by go_num,by go_num,Ue,Ug,UP,US.keep (UB.block _ US.lt),UM.keep (UB.block _ UM.lt),C5.trans (UB.mono C5.size)⟩
     case measure=>simp[intOf];omega
   ·go_wp2_with fail;clear k1 k2;refine(TI _ _ _ _ _ _ _ _ va vn vc b.values U8.1 Uw.vals Uw.vnum UL).mono ?_
    cases h2:ki [] b.values with
    |error p=>
     rintro e w5 ⟨he,Us⟩;obtain rfl:e=dL 3 p:=he;obtain rfl:r= .error p:=by rw[<-Ux.out,fC];simp only[h1,hen,h2,aM,if_true,if_false]
     unfold dL;go_wp2;exact⟨rfl,rfl,C4.trans (Us.mono C4.size)⟩
    |ok nn=>
     rintro e w5 ⟨he,Us⟩;obtain rfl:e= .returned (.tuple #[]):=he
     have UP:Hid (fC types (names++ [b.name.1]) cnt (bs.drop (k+1))=r):=by
      have:=Ux.out;rw[fC]at this;simp only[h1,hen,h2,aM,if_true,if_false]at this;exact this
     go_wp2;go_roundw
     case rel=>exact⟨k+1,cnt,names++ [b.name.1],Ue,by go_num,rfl,Ue,Ug,UP,Uy.keep (Us.block _ Uy.lt),UE.keep (Us.block _ UE.lt),C4.trans (Us.mono C4.size)⟩
     case measure=>simp[intOf];omega
  ·have Uv:bs.drop k= []:=by rw[cO];omega
   obtain rfl:r= .ok ():=by rw[<-HP.out,Uv];rfl
   clear Uv;go_wp2;go_end0;exact⟨rfl,CW⟩
end
section
variable {ws:List W} {i j:Nat} {form:Int} {f:eF} {α:Type} {stop:Nat->Bool} {p:fo}
structure tA (ws:List W):Prop where
 few:ws.length<=2001
 size:∀(k:Nat) (x:W),ws[k]?=some x->x.1.size<=2000
 num:∀(k:Nat) (x:W),ws[k]?=some x->dJ x.1=2->kh x.1
def Le {α:Type}(ws:List W)(r:nI α):Prop:=∀a j,r= .ok (a,j)->j<=ws.length
theorem QW {x:W}(h:ws[i]?=some x):i<ws.length:=by
 grind
theorem nL (ws:List W)(s:List UInt8)(i:Nat):Le ws (fV ws s i):=λa j h=>by
 have⟨h1,x,h2,_⟩:=eX _ _ _ _ _ h
 grind
theorem AH (H:tA ws){nm:W×W}(h:j8 ws i= .ok (nm,j)):kh nm.2.1/\i+4<=j/\j<=ws.length:=by
 unfold j8 at h;have⟨_,i1,h1,h⟩:=dO h;have⟨_,i2,h2,h⟩:=dO h;have⟨_,i3,h3,h⟩:=dO h;have⟨_,i4,h4,h⟩:=dO h;have a1:=(ik _ _ _ _ _ h1).1;have a2:=(eX _ _ _ _ _ h2).1;have a3:=ik _ _ _ _ _ h3;have a4:=(eX _ _ _ _ _ h4).1;have a5:=nL _ _ _ _ _ h4;simp at h;obtain⟨rfl,rfl⟩:=h;exact⟨H.num _ _ a3.2.1 a3.2.2,Ue,a5⟩
theorem nM (H:tA ws)(h:fJ ws form i= .ok (f,j)):kh f.num.1/\i+5<=j/\j<=ws.length:=by
 unfold fJ at h;have⟨t,i1,h1,h⟩:=dO h;have⟨nm,i2,h2,h⟩:=dO h;have a1:=(lg _ _ _ _ h1).1;have a2:=AH H h2
 grind
theorem MP (H:tA ws)(h:mO ws i= .ok (f,j)):kh f.num.1/\i+5<=j/\j<=ws.length:=by
 unfold mO at h;have⟨_,i1,h1,h⟩:=dO h;have⟨_,i2,h2,h⟩:=dO h;have⟨_,i3,h3,h⟩:=dO h;have⟨_,i4,h4,h⟩:=dO h;have⟨_,i5,h5,h⟩:=dO h;have⟨_,i6,h6,h⟩:=dO h;have⟨_,i7,h7,h⟩:=dO h;have a1:=(eX _ _ _ _ _ h1).1;have a2:=(eX _ _ _ _ _ h2).1;have a3:=(lg _ _ _ _ h3).1;have a4:=(eX _ _ _ _ _ h4).1;have a5:=(lg _ _ _ _ h5).1;have a6:=(eX _ _ _ _ _ h6).1;have a7:=AH H h7
 grind
theorem pi {p:Nat->nI α}{Q:α->Prop}{wt:α->Nat}{N:Nat}(hp:∀i a j,p i= .ok (a,j)->Q a/\i+wt a<=j/\j<=N):
  ∀n i l j,i<=N->gk stop p n i= .ok (l,j)->(∀a∈l,Q a)/\i+(l.map wt).sum<=j/\j<=N
 |0,i,l,j,hi,h=>by simp[gk]at h;simp_all
 |n+1,i,l,j,hi,h=>by
  unfold gk at h
  split at h
  ·simp_all
  ·have⟨a,i1,h1,h⟩:=dO h;have⟨l',i2,h2,h⟩:=dO h;have a1:=hp _ _ _ h1;have a2:=pi hp n i1 l' i2 a1.2.2 h2
   grind
theorem AI (l:List α):(l.map λ_=>1).sum=l.length:=by
 induction l with
 |nil=>rfl
 |cons a l ih=>(simp;omega)
theorem IQ (ps:List fo):(ps.map λp=>1+p.fields.length).sum=lO ps:=by
 induction ps with
 |nil=>rfl
 |cons p ps ih=>simp only[bO,List.sum_cons,ih,lO]
def AJ (p:fo):Prop:=∀f∈p.fields,kh f.num.1
theorem Hf (H:tA ws)(h:iC ws i= .ok (p,j)):AJ p/\i+(1+p.fields.length)<=j/\j<=ws.length:=by
 unfold iC at h;have⟨_,i1,h1,h⟩:=dO h;have⟨_,i2,h2,h⟩:=dO h;have⟨_,i3,h3,h⟩:=dO h;have⟨f,i4,h4,h⟩:=dO h;have⟨l,i5,h5,h⟩:=dO h;have⟨_,i6,h6,h⟩:=dO h;have⟨l',i7,h7,h8⟩:=dO h5;have a1:=(eX _ _ _ _ _ h1).1;have a2:=(ik _ _ _ _ _ h2).1;have a3:=(eX _ _ _ _ _ h3).1;have a4:=nM H h4;have a7:=pi (Q:=λf=>kh f.num.1) (wt:=λ_=>1) (N:=ws.length) (λi a j h=>by have:=nM H h;grind) _ _ _ _ a4.2.2 h7;have a6:=(eX _ _ _ _ _ h6).1;have a9:=nL _ _ _ _ _ h6;have e8:=Except.ok.inj h8;have e9:=Except.ok.inj h
 cases e9
 cases e8
 rw[AI]at a7;refine⟨?_,?_,a9⟩
 ·intro x hx
  grind
 (simp;omega)
theorem IR (H:tA ws)(h:jN ws i= .ok (p,j)):AJ p/\i+(1+p.fields.length)<=j/\j<=ws.length:=by
 have al:∀(k:Nat) (r:nI eF),i<=k->(∀f j,r= .ok (f,j)->kh f.num.1/\k+5<=j/\j<=ws.length)->lE r= .ok (p,j)->AJ p/\i+(1+p.fields.length)<=j/\j<=ws.length:=by
  intro k r hk hr h;have⟨f,i1,h1,h⟩:=dO h;have:=hr _ _ h1;simp at h;obtain⟨rfl,rfl⟩:=h;refine⟨λx hx=> ?_,by grind,this.2.2⟩
  simp_all
 unfold jN at h
 split at h
 ·exact Hf H h
 ·split at h
  ·exact al i _ (ay _) (λf j h=>MP H h) h
  ·split at h
   ·exact al (i+1) _ (bT _) (λf j h=>nM H h) h
   ·split at h
    ·exact al (i+1) _ (bT _) (λf j h=>nM H h) h
    ·exact al i _ (ay _) (λf j h=>nM H h) h
theorem Hg (H:tA ws){b:dQ}(h:jr ws i= .ok (b,j)):oy b/\i+1<=j/\j<=ws.length:=by
 have few:=H.few;unfold jr at h
 split at h
 ·unfold ld at h;have⟨_,i1,h1,h⟩:=dO h;have⟨nm,i2,h2,h⟩:=dO h;have⟨_,i3,h3,h⟩:=dO h;have⟨l,i4,h4,h⟩:=dO h;have⟨_,i5,h5,h⟩:=dO h;have a1:=(eX _ _ _ _ _ h1).1;have a2:=ik _ _ _ _ _ h2;have a3:=(eX _ _ _ _ _ h3).1;have b3:=nL _ _ _ _ _ h3;have a4:=pi (Q:=λv:W×W=>kh v.2.1) (wt:=λ_=>1) (N:=ws.length) (λi a j h=>by have:=AH H h;grind) _ _ _ _ b3 h4;have a5:=(eX _ _ _ _ _ h5).1;have b5:=nL _ _ _ _ _ h5;simp at h;obtain⟨rfl,rfl⟩:=h;rw[AI]at a4;exact⟨⟨H.size _ _ a2.2.1,by(simp;omega),a4.1,by simp[lO],Uf⟩,Ue,b5⟩
 ·unfold gJ at h;have⟨_,i1,h1,h⟩:=dO h;have⟨nm,i2,h2,h⟩:=dO h;have⟨_,i3,h3,h⟩:=dO h;have⟨l,i4,h4,h⟩:=dO h;have⟨_,i5,h5,h⟩:=dO h;have a1:=(eX _ _ _ _ _ h1).1;have a2:=ik _ _ _ _ _ h2;have a3:=(eX _ _ _ _ _ h3).1;have b3:=nL _ _ _ _ _ h3;have a4:=pi (Q:=AJ) (wt:=λp=>1+p.fields.length) (N:=ws.length) (λi a j h=>IR H h) _ _ _ _ b3 h4;have a5:=(eX _ _ _ _ _ h5).1;have b5:=nL _ _ _ _ _ h5;simp at h;obtain⟨rfl,rfl⟩:=h;rw[IQ]at a4;exact⟨⟨H.size _ _ a2.2.1,Uf,Uf,by(simp;omega),a4.1⟩,Ue,b5⟩
theorem wI (H:tA ws){bs:List dQ}(h:pd ws= .ok (bs,j)):(∀b∈bs,oy b)/\bs.length<=2001:=by
 have few:=H.few;have:=pi (Q:=oy) (wt:=λ_=>1) (N:=ws.length) (λi a j h=>Hg H h) _ _ _ _ (aL _) h;rw[AI]at this
 grind
end
section
attribute [local go_sem] jo jp jq
def lP {t:am}{k:Nat}{x:W}(h:(fA t)[k]?=some x):(k<(zb t).length/\x∈zb t)\/(k=(zb t).length/\x=(⟨#[]⟩,t.size)):=by
 unfold fA at h
 by_cases hk:k<(zb t).length
 ·rw[cp hk]at h;exact .inl ⟨hk,aI h⟩
 ·rw[cg Ue]at h
  by_cases he:k-(zb t).length=0
  ·rw[he]at h;simp at h;exact .inr ⟨Ue,h.symm⟩
  ·rw[aY Ug]at h
   cases h
def rR (t:am):(fA t).length=(zb t).length+1:=by simp[fA]
def FJ (t:am):(zb t).length<=t.size:=by have:=o8 t t.size 0;simpa [zb]using this
def OP (t:am):∀n k,k<=t.size->∀i,k<=i->i<iy lD t n k->lD (fL t i)=true
 |0,k,_,i,h1,h2=>by simp[iy]at h2;omega
 |n+1,k,hk,i,h1,h2=>by
  unfold iy at h2
  by_cases hc:(decide (k<t.size)&&lD (fL t k))=true
  ·rw[dE hc]at h2;have h3:k<t.size/\lD (fL t k)=true:=by simpa using hc
   by_cases he:i=k
   ·subst he;exact h3.2
   ·exact OP t n (k+1) h3.1 i Ue h2
  ·rw[dD hc]at h2;omega
def Cx {t:am}{a e i:Nat}(h:a+i<e)(he:e<=t.size):fL (t.extract a e) i=fL t (a+i):=by
 have hs:i<(t.extract a e).size:=by rw[aU];omega
 rw[<-jf hs,<-jf (by omega:a+i<t.size)]
 congr 2;exact ByteArray.getElem_extract _
def Rb {t:am}{a:Nat}(h:a<t.size)(hd:lD (fL t a)=true):∀i,a<=i->i<gQ t a->lD (fL t i)=true:=by
 intro i h1 h2
 have hl:uY (fL t a)=false:=by
  unfold lD at hd;unfold uY;simp at hd⊢;omega
 by_cases he:i=a
 ·subst he;exact hd
 ·unfold gQ at h2;simp only[hl,hd,cz,aM,if_false]at h2
  split at h2
  ·exact OP t t.size (a+1) h i Ue h2
  ·omega
def tB (t:am):∀n a,∀x∈j9 t n a,∃c,c<t.size/\x=(t.extract c (gQ t c),c)/\Cu (fL t c)=false
 |0,a,x,h=>by simp[j9]at h
 |n+1,a,x,h=>by
  unfold j9 at h
  by_cases ha:a<t.size
  ·rw[dE ha]at h
   by_cases hg:Cu (fL t a)=true
   ·rw[dE hg]at h;exact tB t n (a+1) x h
   ·rw[dD hg]at h
    rcases aN.1 h with rfl|h
    ·exact⟨a,ha,rfl,by simpa using hg⟩
    ·exact tB t n _ x h
  ·rw[dD ha]at h;simp at h
def qP (M:Nat):∀(l:List UInt8) (acc:Nat),(∀c∈l,48<=c.toNat/\c.toNat<=57)->(∃u,Lib.parseUintM M acc l= .ok u)\/Lib.parseUintM M acc l= .range
 | [],acc,_=> .inl ⟨acc,rfl⟩
 |c::l,acc,h=>by
  have hc:=h c Uf;unfold Lib.parseUintM;rw[dE hc]
  split
  ·exact .inr rfl
  ·split
   ·exact .inr rfl
   ·exact qP M l _ (λc hc=>h c (by simp[hc]))
def MQ {s:am}{i:Nat}{c:UInt8}(h:s.data.toList[i]?=some c):fL s i=(c.toNat:Int):=by
 have hi:i<s.size:=by
  by_cases hi:i<s.data.toList.length
  ·simpa using hi
  ·rw[aY Ue]at h;cases h
 rw[<-jf hi]
 have:s.data.toList[i]?=some s[i]:=by
  rw[aK (by simpa using hi)];rfl
 rw[this]at h;rw[Option.some.inj h]
def MR {c:Int}:lD c=true<->48<=c/\c<=57:=by simp[lD]
def IS {s:am}(hs:s.size<=2000)(h0:0<s.size)(hd:∀i,i<s.size->lD (fL s i)=true):kh s:=by
 refine⟨hs,?_⟩
 have Uq:s.data.toList≠ []:=by
  intro e;have:s.data.toList.length=0:=by rw[e];rfl
  have h1:s.data.toList.length=s.size:=Uf;omega
 unfold Lib.parseUintB;rw[dD Uq];refine qP _ _ _ λc hc=> ?_
 have⟨i,hi⟩:=bK.1 hc;have h1:=MQ hi
 have Ur:i<s.size:=by
  by_cases hi2:i<s.data.toList.length
  ·simpa using hi2
  ·rw[aY Ue]at hi;cases hi
 have h2:=MR.1 (hd i Ur);omega
def Cy {t:am}{x:W}(hx:x∈zb t)(hd:lD (fL x.1 0)=true):∀i,i<x.1.size->lD (fL x.1 i)=true:=by
 obtain⟨c,hc,rfl,_⟩:=tB t t.size 0 x hx;have he:=oo t c hc;intro i hi;simp only at hi hd⊢;rw[aU]at hi;rw[Cx Ue he.2]at hd⊢;exact Rb hc (by simpa using hd) (c+i) Ue Ue
def IT {s:am}(h:dJ s=2):lD (fL s 0)=true:=by
 unfold dJ iQ at h
 split at h
 ·omega
 ·split at h
  ·assumption
  ·split at h
   ·omega
   ·split at h<;>omega
def pj (t:am)(ht:t.size<=2000):tA (fA t):=by
 refine⟨?_,?_,?_⟩
 ·rw[rR];have:=FJ t;omega
 ·intro k x hx
  rcases lP hx with⟨_,h⟩|⟨_,rfl⟩
  ·have:=o0 t t.size 0 x h;omega
  ·show(ByteArray.mk #[]).size<=2000;decide
 ·intro k x hx hk
  rcases lP hx with⟨_,h⟩|⟨_,rfl⟩
  ·have:=o0 t t.size 0 x h;exact IS Ue Ue (Cy h (IT hk))
  ·have:dJ (ByteArray.mk #[])=4:=rfl;rw[this]at hk;omega
end
section
open Go.Maps
attribute [local go_sem] jo jp jq
def im (t:ByteArray):Except (Int×Nat) (List dQ):=
 if 2000<t.size then .error (2,0)
 else
  match pd (fA t)with
  | .error p=> .error (2,p)
  | .ok (bs,_)=>
   match fC (fi bs) [] 0 bs with
   | .error p=> .error (3,p)
   | .ok _=> .ok bs
def Hh {w:World}{base rb:Nat}{t:ByteArray}{v:Value}(ht:t.size<=2000)(Uq:w.ownsRow base 148 3 v (fA t).length ((fA t).flatMap wA))(hrb:dM w rb #[v,.int .i64 0] 158)(hne:∀b,v.ownBlock=some b->b≠rb):∃wb,Rd w rb wb (fA t) 0:=by
 have hlen:=rR t;have hl2:=FJ t;obtain⟨a,n,c,rfl⟩:=dN Uq;have hn:=eK Uq;subst hn;obtain⟨g,rfl,hg,UL,Ut⟩:=el Uq Ue;have hc:=Ut w rfl;have W:=pj t ht;refine⟨g,Ue,Ue,λe=>hne g rfl e.symm,⟨c,by simpa using hrb.cell 0⟩,by simpa using hrb.cell 1,hrb.rules.2 1,λk x hx=> ?_,λk x hx hs=> ?_,λk x hx=> ?_⟩
 ·have l3:∀x,(wA x).length=3:=λ_=>rfl
  refine⟨?_,?_,?_⟩
  ·have:=hc (k*3+0) _ ((fP wA 3 l3 _ k x hx 0 Ue).trans rfl);simpa using this
  ·exact hc (k*3+1) _ ((fP wA 3 l3 _ k x hx 1 Ue).trans rfl)
  ·exact hc (k*3+2) _ ((fP wA 3 l3 _ k x hx 2 Ue).trans rfl)
 ·rcases lP hx with⟨h1,_⟩|⟨_,rfl⟩
  ·omega
  ·exact absurd (show 0<(ByteArray.mk #[]).size from hs) Uh
 ·refine⟨W.size k x hx,?_⟩
  rcases lP hx with⟨_,h⟩|⟨_,rfl⟩
  ·have:=o0 t t.size 0 x h;omega
  ·exact ht
def MS (w:World)(r:Except (Int×Nat) (List dQ))(e:Ending)(w':World):Prop:=
 (match r with
 | .error (k,p)=>e=dL k p
 | .ok bs=>∃a n c cs,e= .returned (.agg #[.slice a n c])/\eD w' (λx=>w.heap.size<=x) 152 6 (.slice a n c) bs.length cs/\eQ w' (λx=>w.heap.size<=x) cs bs)/\Below w.heap.size w w'
def TM (w:World)(t:ByteArray)(hmax:t.size<=140737488355328)(hg:GOK w):
  Calls prog 36 #[.string t] w (MS w (im t)):=by
 have⟨B0,K0⟩:=dS w #[.slice none 0 0] 87;generalize hr:im t=r;have HR:Hid (im t=r):=hr;clear hr
 by_cases hl:2000<t.size
 ·have hd:(2000:Int)<(t.size:Int):=Ue;obtain rfl:r= .error (2,0):=by rw[<-HR.out,im,dE hl]
  go_in
  go_wp2_with fail;refine(IH _ _ _).mono ?_;rintro e w2 ⟨rfl,rfl⟩;go_wp2;exact⟨rfl,rfl,B0⟩
 ·have ht:t.size<=2000:=Ue;have hd:decide ((2000:Int)<(t.size:Int))=false:=Ug
  have UH:Hid ((match pd (fA t)with
   | .error p=> .error (2,p)
   | .ok (bs,_)=>
    match fC (fi bs) [] 0 bs with
    | .error p=> .error (3,p)
    | .ok _=> .ok bs)=r):=by
   have:=HR.out;rw[im,dD hl]at this;exact this
  clear hl;go_in
  go_wp2_with fail;refine(Tu t _ ht).mono ?_;rintro e w1 ⟨v,rfl,Uq,UK⟩;obtain⟨va,vn,vc,rfl⟩:=dN Uq;have C1:Below w.heap.size w w1:=B0.trans (UK.mono Uf);have K1:=K0.below UK K0.lt;have C2:=C1.alloc C1.size (Obj.cells #[.slice va vn vc,.int .i64 0] 158);have K2:=K1.alloc (Obj.cells #[.slice va vn vc,.int .i64 0] 158);have⟨wb,R2⟩:=Hh (rb:=w1.heap.size) ht (Uq.alloc (Obj.cells #[.slice va vn vc,.int .i64 0] 158)) (dM.new w1 _ _) (λb hb=>by have:=(Uq.lt b hb).2;omega);have z1:=K1.lt;clear Uq UK hd;go_wp2_with fail;refine(TA _ w1.heap.size wb (fA t) R2).mono ?_
  cases h3:pd (fA t)with
  |error p=>
   rintro e w3 ⟨rfl,j,A⟩;obtain rfl:r= .error (2,p):=by rw[<-UH.out,h3]
   unfold dL;go_wp2;refine⟨rfl,rfl,C2.trans ⟨A.os,A.tape,A.output,A.size,λk hk=> ?_⟩⟩;rw[Below.block A k Ug,Cn,dK,dD Ue]
  |ok q=>
   obtain⟨bs,j⟩:=q;rintro e w3 ⟨⟨a,n,c,cs,rfl,UM,UG⟩,R3,A⟩
   have C3:Below w.heap.size w w3:=C2.trans ⟨A.os,A.tape,A.output,A.size,λk hk=>by
    rw[Below.block A k Ug,Cn,dK,dD Ue]⟩
   have K3:=K2.adv_ A K2.lt Ue;have z3:w1.heap.size+1<=w3.heap.size:=by have:=A.size;simpa using this
   have Uy:=UM.mono (S':=λb=>w.heap.size<b) (λb hb _=>by simp at hb;omega);have Uz:=UG.mono (S':=λb=>w.heap.size<b) (λb hb _=>by simp at hb;omega);have OK:=wI (pj t ht) h3;have C4:=C3.alloc C3.size (Obj.cells #[.slice a n c] 87);have K4:=K3.alloc (Obj.cells #[.slice a n c] 87);have J4:=dM.new w3 #[.slice a n c] 87;have UA:=Uy.keep (w':=w3.alloc (Obj.cells #[.slice a n c] 87)) (λb _ hb=>Below.heap_alloc _ _ _ hb);have UB:=Uz.keep (w':=w3.alloc (Obj.cells #[.slice a n c] 87)) (λb _ hb=>Below.heap_alloc _ _ _ hb);have UO:GOK (w3.alloc (Obj.cells #[.slice a n c] 87)):=hg.keep (C4.block _ hg.lt);clear UM UG R3 Uy Uz;go_wp2_with fail;refine(TL _ a n c bs cs _ UA UB OK.2 OK.1 UO).mono ?_
   cases h4:fC (fi bs) [] 0 bs with
   |error p=>
    rintro e w5 ⟨he,Ux⟩;obtain rfl:e=dL 3 p:=he;obtain rfl:r= .error (3,p):=by rw[<-UH.out,h3];simp only[h4]
    unfold dL;go_wp2;exact⟨rfl,rfl,C4.trans (Ux.mono C4.size)⟩
   |ok u=>
    rintro e w5 ⟨he,Ux⟩;obtain rfl:e= .returned (.tuple #[]):=he;obtain rfl:r= .ok bs:=by rw[<-UH.out,h3];simp only[h4]
    have C5:=C4.trans (Ux.mono C4.size);have K5:=K4.below Ux K4.lt;have J5:=J4.below Ux J4.lt;have UI:=UA.keep (w':=w5) (λb _ hb=>Ux.block b hb);have UJ:=UB.keep (w':=w5) (λb _ hb=>Ux.block b hb);have⟨k1,k2⟩:=K5.rules;have⟨j1,j2⟩:=J5.rules;go_wp2;have K6:=K5.sets_all [.slice a n c] rfl;have C6:Below w.heap.size w (w5.setCells w.heap.size 0 [.slice a n c]):=C5.trans ((Below.refl w.heap.size w5).setCell (p:=⟨w.heap.size,0,none⟩) (ay _) (.slice a n c));refine dG (ec results36 _ _ rfl K6 underlying87 Uj) rfl ⟨⟨a,n,c,cs,rfl,?_,?_⟩,C6⟩
    ·have h9:=UI.keep (w':=w5.setCells w.heap.size 0 [.slice a n c]) (λb hb _=>gX _ _ (by have:w.heap.size<b:=hb;omega) _ _);exact h9.mono (λb hb _=>by have:w.heap.size<b:=hb;omega)
    ·have h9:=UJ.keep (w':=w5.setCells w.heap.size 0 [.slice a n c]) (λb hb _=>gX _ _ (by have:w.heap.size<b:=hb;omega) _ _);exact h9.mono (λb hb _=>by have:w.heap.size<b:=hb;omega)
def dY (bs:List dQ):List ByteArray:=(bs.filter λb=> !b.enum).map λb=>b.name.1
def TN (w:World)(ta:Option Addr)(tn tc:Nat)(bs:List dQ)(cs:List Value)(S:Nat->Prop)(Uq:eD w S 152 6 (.slice ta tn tc) bs.length cs)(UG:eQ w S cs bs)(hlen:bs.length<=2001)(hok:∀b∈bs,oy b):
  Calls prog 66 #[.agg #[.slice ta tn tc]] w λe w'=>∃v,e= .returned v/\w'.ownsRow w.heap.size 9 1 v (dY bs).length (fF (dY bs))/\Below w.heap.size w w':=by
 have UP:=eK Uq.1;subst UP;have⟨i0,UR,US,UT,UU⟩:=info_parts Tryz.info9;have C0:=(Uc w).alloc (ay _) (Obj.cells #[.slice ta bs.length tc] 87);go_in
 go_wp2;go_loopw [3,9] (λv i wr=>∃(k:Nat) (l:List ByteArray),k<=bs.length/\i= .int .i64 k/\l.length<=k/\Hid (l++dY (bs.drop k)=dY bs)/\wr.ownsRow w.heap.size 9 1 v l.length (fF l)/\Below w.heap.size w wr) (λ_ i _=>bs.length-(intOf i).toNat)
 case atStart=>exact⟨0,[],aL _,rfl,ay _,by simp[Hid],bm _ _ _ _,C0⟩
 case round=>
  clear C0;obtain⟨k,l,hk,rfl,hll,HP,UD,CW⟩:=hrel
  by_cases hlt:k<bs.length
  ·have⟨b,hb⟩:=gx hlt;have UQ:=hok b (aI hb)
   have Ur:bs.drop k=b::bs.drop (k+1):=by
    rw[aX hlt];rw[aK hlt]at hb;rw[Option.some.inj hb]
   obtain⟨g,rfl,_,UL,Ut⟩:=el Uq.1 Ue;have⟨pa,pn,pc,va,vn,vc,p0,p1,p2,p3,p4,p5,UV⟩:=UG.get hb;have Uw:=Ut wr (CW.block g UL);rw[Nat.add_zero]at p0;have q0:=Uw _ _ p0;have q1:=Uw _ _ p1;have q2:=Uw _ _ p2;have q3:=Uw _ _ p3;have q4:=Uw _ _ p4;have q5:=Uw _ _ p5;have KB:=dM.new wr #[.bool b.enum,.int .i64 (dJ b.name.1),.string b.name.1,.int .i64 b.name.2,.slice pa pn pc,.slice va vn vc] 152;have CA:=CW.alloc CW.size (Obj.cells #[.bool b.enum,.int .i64 (dJ b.name.1),.string b.name.1,.int .i64 b.name.2,.slice pa pn pc,.slice va vn vc] 152);have Us:=UD.alloc (Obj.cells #[.bool b.enum,.int .i64 (dJ b.name.1),.string b.name.1,.int .i64 b.name.2,.slice pa pn pc,.slice va vn vc] 152);clear Ut Uw p0 p1 p2 p3 p4 p5 hb UV
   cases hen:b.enum
   ·rw[hen]at q0 KB CA Us
    have UC:Hid ((l++ [b.name.1])++dY (bs.drop (k+1))=dY bs):=by
     have:=HP.out;rw[Ur]at this;simpa [dY,hen,Hid]using this
    clear Ur;go_wp2_with fail;refine(TE _ _ UQ.name).mono ?_;rintro e w4 ⟨rfl,UN⟩;have C4:=CA.trans (UN.mono CA.size);have Uu:=eH UN Us;clear q0 q1 q2 q3 q4 q5;go_wp2_with (first|(at_builtin;refine wpList_append_own_at _ rfl _ _ 30 rfl w.heap.size 9 i0 _ 1 16 underlying30 UR US UT UU rfl Uh u3 _ _ rfl (Uu.alloc _) _ 1 1 [_] rfl rfl (cell_one_new _ _ _) ?h1 ?h63 ?hby ?hba ?_;rotate_right;intro v' w5 UE UF hnil hloc))
    case h1=>intro u hu;simp at hu;subst hu;rfl
    case h63=>unfold maxLen;omega
    case hby=>omega
    case hba=>have:=C4.size;simp;omega
    refine⟨⟨k+1,l++ [b.name.1],Ue,by go_num,Ug,UC,?_,?_⟩,by simp[intOf];omega⟩
    ·simpa [fF]using UE
    ·exact(C4.alloc C4.size _).grown UF (by have:=C4.size;simp;omega) (λj hj=>(Uu.lt j hj).1)
   ·rw[hen]at q0 KB CA Us
    have UC:Hid (l++dY (bs.drop (k+1))=dY bs):=by
     have:=HP.out;rw[Ur]at this;simpa [dY,hen,Hid]using this
    clear Ur;go_wp2;go_roundw
    case rel=>exact⟨k+1,l,Ue,by go_num,Ue,UC,Us,CA⟩
    case measure=>simp[intOf];omega
  ·have Uv:bs.drop k= []:=by rw[cO];omega
   have UC:Hid (l=dY bs):=by
    have:=HP.out;rw[Uv]at this;simpa [dY,Hid]using this
   clear Uv;go_wp2;go_ret;refine⟨_,rfl,?_,CW⟩;rw[<-UC.out];exact UD
end
section
variable {stop:Nat->Bool} {ws:List W} {form:Int} {i j:Nat} {f:eF} {p:fo}
structure tC (f:eF):Prop where
 size:f.type.1.size<=2000
 kind:dJ f.type.1=3\/dJ f.type.1=1
 key:f.form=4<->f.key.isSome=true
def tD (p:fo):Prop:=
 (∀f∈p.fields,tC f)/\((∃o,p.oneof=some o/\dJ o.1=1/\∀f∈p.fields,f.form=3)\/(p.oneof=none/\∃f,p.fields= [f]/\(f.form=0\/f.form=1\/f.form=2\/f.form=4)))
def AK (b:dQ):Prop:=∀p∈b.parts,tD p
theorem nN {α:Type}{p:Nat->nI α}{Q:α->Prop}(hp:∀i a j,p i= .ok (a,j)->Q a):∀(n i:Nat) (l:List α) (j:Nat),gk stop p n i= .ok (l,j)->∀a∈l,Q a
 |0,i,l,j,h=>by
  simp[gk]at h
  simp_all
 |n+1,i,l,j,h=>by
  unfold gk at h
  split at h
  ·simp_all
  ·have⟨a,k,h1,h⟩:=dO h;have⟨r,k2,h2,h⟩:=dO h;simp at h;obtain⟨rfl,_⟩:=h;intro x hx
   rcases aN.1 hx with rfl|hx
   ·grind
   ·exact nN hp n k r k2 h2 x hx
theorem kj (H:tA ws)(hf:form≠4)(h:fJ ws form i= .ok (f,j)):tC f/\f.form=form:=by
 unfold fJ at h;have⟨t,i1,h1,h⟩:=dO h;have⟨nm,i2,h2,h⟩:=dO h;simp at h;obtain⟨rfl,_⟩:=h;have⟨_,h3,h4⟩:=lg _ _ _ _ h1;exact⟨⟨H.size _ _ h3,h4,by grind⟩,rfl⟩
theorem Er (H:tA ws)(h:mO ws i= .ok (f,j)):tC f/\f.form=4:=by
 unfold mO at h;have⟨_,i1,_,h⟩:=dO h;have⟨_,i2,_,h⟩:=dO h;have⟨k,i3,_,h⟩:=dO h;have⟨_,i4,_,h⟩:=dO h;have⟨t,i5,h5,h⟩:=dO h;have⟨_,i6,_,h⟩:=dO h;have⟨nm,i7,_,h⟩:=dO h;simp at h;obtain⟨rfl,_⟩:=h;have⟨_,h3,h4⟩:=lg _ _ _ _ h5;exact⟨⟨H.size _ _ h3,h4,Uf⟩,rfl⟩
theorem AL (H:tA ws)(h:iC ws i= .ok (p,j)):tD p:=by
 unfold iC at h;have⟨_,i1,_,h⟩:=dO h;have⟨o,i2,h2,h⟩:=dO h;have⟨_,i3,_,h⟩:=dO h;have⟨f,i4,h4,h⟩:=dO h;have⟨l,i5,h5,h⟩:=dO h;have⟨_,i6,_,h⟩:=dO h;have⟨l',i7,h7,h8⟩:=dO h5;simp at h;obtain⟨rfl,_⟩:=h;simp at h8;obtain⟨rfl,_⟩:=h8;have a4:=kj H Uh h4;have a7:=nN (Q:=λf=>tC f/\f.form=3) (λi a j h=>kj H Uh h) _ _ _ _ h7;have ho:=(ik _ _ _ _ _ h2).2.2
 have all:∀x∈f::l',tC x/\x.form=3:=by
  simp_all
 exact⟨λx hx=>(all x hx).1,.inl ⟨o,rfl,ho,λx hx=>(all x hx).2⟩⟩
theorem lQ {r:nI eF}(hr:∀f j,r= .ok (f,j)->tC f/\(f.form=0\/f.form=1\/f.form=2\/f.form=4))(h:lE r= .ok (p,j)):tD p:=by
 have⟨f,i1,h1,h⟩:=dO h;simp at h;obtain⟨rfl,_⟩:=h;have:=hr _ _ h1;exact⟨by simp_all,.inr ⟨rfl,f,rfl,this.2⟩⟩
theorem Cz (H:tA ws)(h:jN ws i= .ok (p,j)):tD p:=by
 unfold jN at h
 split at h
 ·exact AL H h
 ·split at h
  ·exact lQ (λf j hf=>by have:=Er H hf;simp_all) h
  ·split at h
   ·exact lQ (λf j hf=>by have:=kj H Uh hf;simp_all) h
   ·split at h
    ·exact lQ (λf j hf=>by have:=kj H Uh hf;simp_all) h
    ·exact lQ (λf j hf=>by have:=kj H Uh hf;simp_all) h
theorem CB (H:tA ws){bs:List dQ}(h:pd ws= .ok (bs,j)):∀b∈bs,AK b:=by
 refine nN (Q:=AK) (λi b j hb=> ?_) _ _ _ _ h;unfold jr at hb
 split at hb
 ·unfold ld at hb;have⟨_,i1,_,hb⟩:=dO hb;have⟨n,i2,_,hb⟩:=dO hb;have⟨_,i3,_,hb⟩:=dO hb;have⟨l,i4,_,hb⟩:=dO hb;have⟨_,i5,_,hb⟩:=dO hb;simp at hb;obtain⟨rfl,_⟩:=hb;intro p hp;simp at hp
 ·unfold gJ at hb;have⟨_,i1,_,hb⟩:=dO hb;have⟨n,i2,_,hb⟩:=dO hb;have⟨_,i3,_,hb⟩:=dO hb;have⟨l,i4,h4,hb⟩:=dO hb;have⟨_,i5,_,hb⟩:=dO hb;simp at hb;obtain⟨rfl,_⟩:=hb;exact nN (Q:=tD) (λi p j hp=>Cz H hp) _ _ _ _ h4
end
def Em:ar:=mN.map λl=>⟨l.toArray⟩
def CD (s:am):(dJ s==3)=je s.toList:=by
 cases h4:je s.toList
 ·unfold dJ iQ
  by_cases h0:s.size=0
  ·simp[h0]
  ·cases h1:uY (fL s 0)<;>cases h2:lD (fL s 0)<;>cases h3:oZ s.toList<;>simp[h0,h4]
 ·have hs:s=⟨s.toList.toArray⟩:=by rw[ByteArray.toList_eq]
  have hm:s.toList∈mN:=by simpa [je]using h4
  have:∀l∈mN,(dJ ⟨l.toArray⟩==3)=true:=Ui;rw[hs];exact this _ hm
inductive PM where
 |mk (fs:List (Int×List (Int×am×PM))) (unk:am)
abbrev PV:=Int×am×PM
abbrev PF:=Int×List PV
def PM.fs:PM->List PF
 | .mk fs _=>fs
def PM.unk:PM->am
 | .mk _ u=>u
def eS:am:=⟨#[]⟩
def PM.none:PM:= .mk [] eS
def PV.none:PV:=(0,eS,PM.none)
def gG (a b:am):Bool:=a.toList==b.toList
structure eT where
 name:am
 ty:am
 key:am
 how:am
 num:Int
structure MT where
 name:am
 fs:List eT
structure d8 where
 ms:List MT
 es:ar
def CE:am:=⟨#[109,97,112]⟩
def IU:am:=⟨#[114,101,112,101,97,116,101,100]⟩
def kI:am:=⟨#[111,112,116,105,111,110,97,108]⟩
def eT.isMap (f:eT):Bool:=gG f.how CE
def eT.isRep (f:eT):Bool:=gG f.how IU
def mg:List MT->am->Option MT
 | [],_=>none
 |m::l,s=>if gG m.name s then some m else mg l s
def d8.msg (S:d8)(s:am):Option MT:=mg S.ms s
def nt:am:=⟨#[107,101,121]⟩
def po:am:=⟨#[118,97,108,117,101]⟩
def et (f:eT):MT:=⟨eS,[⟨nt,f.key,eS,kI,1⟩,⟨po,f.ty,eS,kI,2⟩]⟩
def eV (S:d8)(f:eT):Option MT:=if f.isMap then some (et f)else S.msg f.ty
def dR:List eT->Int->Option eT
 | [],_=>none
 |f::l,n=>if f.num=n then some f else dR l n
def CF:List (List UInt8)->List UInt8->Nat->Option Nat
 | [],_,_=>none
 |x::l,s,k=>if s==x then some k else CF l s (k+1)
def d8.base (S:d8)(t:am):Nat:=
 match CF mN t.toList 0 with
 |some k=>k
 |none=>if eM S.es t then 15 else 16
def ee (k:Nat):Nat:=
 if k<=6 then 0 else if k=8\/k=10\/k=12 then 1 else if k=7\/k=9\/k=11 then 5 else if k=15 then 0 else 2
def d8.wire (S:d8)(t:am):Nat:=ee (S.base t)
def fG (S:d8)(f:eT):Nat:=if f.isMap then 2 else S.wire f.ty
def mh (n:Int):Int:=if n%4294967296<2147483648 then n%4294967296 else n%4294967296+18446744069414584320
def Co (v:Int):Int:=if v%2=1 then 18446744073709551615-v/2 else v/2
def kD (k:Nat)(n:Int):Int:=
 if k=0\/k=9\/k=15 then mh n else if k=2 then n%4294967296 else if k=4 then Co (n%4294967296)else if k=5 then Co n
 else if k=6 then(if 0<n then 1 else 0)else n
abbrev Fx (α:Type):=Except (Int×Int) α
def lL (b:am)(a e:Nat):Nat->Nat->Int->Fx (Int×Nat)
 |0,_,_=> .error (7,a)
 |f+1,i,n=>
  if a+i<e then
   (
    if i=9/\1<fL b (a+i)then .error (7,a) else if fL b (a+i)<128 then .ok (n+fL b (a+i)%128*2^(7*i),a+i+1) else lL b a e f (i+1) (n+fL b (a+i)%128*2^(7*i)))
  else .error (6,a)
def g9 (b:am)(a e:Nat):Fx (Int×Nat):=lL b a e 10 0 0
def Hi (s:am):Nat->Nat->Int
 |0,_=>0
 |f+1,i=>if i<s.size then 256*Hi s f (i+1)+fL s i else 0
def wJ (s:am):Int:=Hi s s.size 0
structure oj where
 num:Int
 kind:Nat
 a:Nat
 fr:Nat
 e:Nat
 n:Int
def fD (b:am)(a e:Nat):Fx oj:=
 match g9 b a e with
 | .error x=> .error x
 | .ok (t,fr)=>
  if t/8<1\/536870911<t/8 then .error (8,a)
  else if t%8=0 then
   match g9 b fr e with
   | .error x=> .error x
   | .ok (n,en)=> .ok ⟨t/8,0,a,fr,en,n⟩
  else if t%8=1 then(if fr+8<=e then .ok ⟨t/8,1,a,fr,fr+8,wJ (b.extract fr (fr+8))⟩else .error (6,fr))
  else if t%8=5 then(if fr+4<=e then .ok ⟨t/8,5,a,fr,fr+4,wJ (b.extract fr (fr+4))⟩else .error (6,fr))
  else if t%8=2 then
   match g9 b fr e with
   | .error x=> .error x
   | .ok (n,bh)=>if(bh:Int)+n<=e then .ok ⟨t/8,2,a,bh,bh+n.toNat,0⟩else .error (6,bh)
  else .error (9,a)
def gz:List PF->Int->List PV
 | [],_=> []
 |x::l,n=>if x.1=n then x.2 else gz l n
def PM.get (m:PM)(n:Int):List PV:=gz m.fs n
def gK (n:Int)(l:List PV):Bool->List PF->List PF
 |done,[]=>if done then []else [(n,l)]
 |done,x::r=>
  (if !done&&decide (n<=x.1)then [(n,l)]else [])++((if x.1=n then []else [x])++gK n l (done||decide (n<=x.1)) r)
def PM.put (m:PM)(n:Int)(l:List PV):PM:= .mk (gK n l l.isEmpty m.fs) m.unk
def PM.keep (m:PM)(s:am):PM:= .mk m.fs (m.unk++s)
def iL:ar:= [⟨#[105,110,116,51,50]⟩,⟨#[105,110,116,54,52]⟩,⟨#[115,105,110,116,51,50]⟩,⟨#[115,105,110,116,54,52]⟩,⟨#[115,102,105,120,101,100,51,50]⟩,⟨#[115,102,105,120,101,100,54,52]⟩]
def kE:am:=⟨#[115,116,114,105,110,103]⟩
def MU (n:Int):Int:=if n<9223372036854775808 then n else n-18446744073709551616
def jW (t:am)(x y:PV):Bool:=
 if gG t kE then Op.bytesLess x.2.1.toList y.2.1.toList else if eM iL t then decide (MU x.1<MU y.1)else decide (x.1<y.1)
def fE (v:PV):PV:=(v.2.2.get 1).headD PV.none
def gZ (x y:PV):Bool:=decide (x.1=y.1)&&gG x.2.1 y.2.1
def fY (t:am)(v:PV):Bool->List PV->List PV
 |done,[]=>if done then []else [v]
 |done,x::r=>
  (if !done&&(jW t (fE v) (fE x)||gZ (fE v) (fE x))then [v]else [])++
   ((if gZ (fE v) (fE x)then []else [x])++fY t v (done||(jW t (fE v) (fE x)||gZ (fE v) (fE x))) r)
def jt (t:am)(l:List PV)(v:PV):List PV:=fY t v false l
def fH (m:PM)(n:Int):PM:=if(m.get n).isEmpty then m.put n [PV.none]else m
def fZ (m:PM):PM:= .mk (fH (fH m 1) 2).fs eS
def oz (S:d8)(d:MT)(deep:Nat):Bool:=
 if !(gG d.name eS)||deep !=8 then decide (8<deep)else
 match d.fs with
 |_::f::_=>(S.msg f.ty).isSome
 |_=>false
def jh (how:am):Bool:=fL how 0==46
def io (f:eT):List eT->PM->PM
 | [],m=>m
 |o::l,m=>io f l (if gG o.how f.how&&jh o.how&&decide (o.num≠f.num)then m.put o.num []else m)
def gF (S:d8)(d:MT)(f:eT)(m:PM)(v:PV):PM:=
 if f.isMap then m.put f.num (jt f.key (m.get f.num) (v.1,v.2.1,fZ v.2.2))
 else if f.isRep then m.put f.num (m.get f.num++ [v])
 else if gG f.how eS&&(eV S f).isNone&&decide (v.1=0)&&gG v.2.1 eS then m.put f.num []
 else(io f d.fs m).put f.num [v]
def eI (f:eT)(m:PM):PV:=if f.isRep||f.isMap then PV.none else(m.get f.num).headD PV.none
def IV (s:am):Nat->Nat->Int->Option Int
 |0,_,c=>some c
 |f+1,i,c=>if fL s i<128\/191<fL s i then none else IV s f (i+1) (64*c+fL s i-128)
def Rc (s:am)(n:Nat)(low c:Int):Option Nat:=
 if s.size<n then none else
 match IV s (n-1) 1 c with
 |none=>none
 |some c=>if c<low\/1114111<c\/(55296<=c/\c<=57343)then none else some n
def Sl (s:am):Option Nat:=
 if 240<=fL s 0 then Rc s 4 65536 (fL s 0-240)else if 224<=fL s 0 then Rc s 3 2048 (fL s 0-224)
 else if 192<=fL s 0 then Rc s 2 128 (fL s 0-192)else if 128<=fL s 0 then none else Rc s 1 0 (fL s 0)
def Re:Nat->am->Bool
 |0,_=>true
 |f+1,s=>if s.size=0 then true else
  match Sl s with
  |none=>false
  |some n=>Re f (s.extract n s.size)
def RZ (s:am):Bool:=Re s.size s
def mQ (S:d8)(b:am)(f:eT)(r:oj):Fx PV:=
 if r.kind=2 then
  (if gG f.ty kE&& !(RZ (b.extract r.fr r.e))then .error (10,r.fr)else .ok (0,b.extract r.fr r.e,PM.none))
 else .ok (kD (S.base f.ty) r.n,eS,PM.none)
def fw (b:am)(k:Nat)(e:Nat):Nat->List PV->Nat->Fx (List PV)
 |0,l,_=> .ok l
 |F+1,l,a=>
  if a<e then
   if ee k=0 then
    match g9 b a e with
    | .error x=> .error x
    | .ok (n,z)=>fw b k e F (l++ [(kD k n,eS,PM.none)]) z
   else
    let z:=if ee k=5 then 4 else 8
    if a+z<=e then fw b k e F (l++ [(kD k (wJ (b.extract a (a+z))),eS,PM.none)]) (a+z)else .error (6,a)
  else .ok l
def ko (S:d8)(b:am)(f:eT)(l:List PV)(a e:Nat):Fx (List PV):=fw b (S.base f.ty) e (e-a) l a
def eE (S:d8)(b:am):Nat->MT->PM->Nat->Nat->Nat->Fx PM
 |0,_,m,_,_,_=> .ok m
 |F+1,d,m,a,e,deep=>
  if a<e then
   match fD b a e with
   | .error x=> .error x
   | .ok r=>
    match dR d.fs r.num with
    |none=>eE S b F d (m.keep (b.extract r.a r.e)) r.e e deep
    |some f=>
     if r.kind=fG S f then
      match eV S f with
      |some sub=>
       if oz S sub (deep+1)then .error (11,r.fr)
       else match eE S b F sub (eI f m).2.2 r.fr r.e (deep+1)with
        | .error x=> .error x
        | .ok sm=>eE S b F d (gF S d f m ((eI f m).1,(eI f m).2.1,sm)) r.e e deep
      |none=>
       match mQ S b f r with
       | .error x=> .error x
       | .ok v=>eE S b F d (gF S d f m v) r.e e deep
     else if r.kind=2/\f.isRep then
      match ko S b f (m.get f.num) r.fr r.e with
      | .error x=> .error x
      | .ok l=>eE S b F d (m.put f.num l) r.e e deep
     else eE S b F d (m.keep (b.extract r.a r.e)) r.e e deep
  else .ok m
def fj (S:d8)(name b:am):Fx PM:=
 match S.msg name with
 |none=> .error (5,0)
 |some d=>eE S b (b.size+1) d PM.none 0 b.size 1
section
open Go.Maps Go.ChangeMaps Go.WideMaps Go.WideElems
def qJ (s:ByteArray):ByteArray:=⟨#[46]⟩++s
def yG (o:Option W)(form:Int):ByteArray:=
 match o with
 |some x=>qJ x.1
 |none=>if form=0 then eS else if form=1 then kI else if form=2 then IU else CE
def iM (o:Option W)(f:eF):eT:=⟨f.name.1,f.type.1,jg f.key,yG o f.form,iJ f.num.1⟩
structure GF where
 f:eT
 form:Int
 riv:List Int
def i9 (f:eF):Int:=iJ f.num.1
def pp (p:fo)(f:eF):List Int:=(p.fields.filter λo=>decide (i9 o≠i9 f)).map i9
def rS (p:fo)(f:eF):GF:=⟨iM p.oneof f,f.form,pp p f⟩
def uD (b:dQ):List GF:=b.parts.flatMap λp=>p.fields.map (rS p)
def nw (t:ByteArray):Nat:=(CF mN t.toList 0).getD 0
def i8 (mp:ByteArray->Option Nat)(t:ByteArray):Nat:=if dJ t=3 then nw t else if(mp t).isSome then 16 else 15
def yH (mp:ByteArray->Option Nat)(t:ByteArray):Option Nat:=if dJ t=3 then none else mp t
def gI:Option Nat->Value
 |none=> .pointer none
 |some b=> .pointer (some ⟨b,0,none⟩)
def gd (l:List Int):List Value:=l.map (Value.int .i64)
def mj (w:World)(P:Nat->Prop)(mp:ByteArray->Option Nat)(g:GF)(fb:Nat):Prop:=
 ∃rv,dM w fb #[.int .i64 g.f.num,.int .i64 g.form,.int .i64 (i8 mp g.f.ty),gI (yH mp g.f.ty),rv] 220/\P fb/\eD w P 3 1 rv g.riv.length (gd g.riv)
def eU (l:List Nat):List Value:=l.map λb=>gI (some b)
def kJ (s:ByteArray)(t:ByteArray)(n:Int):GF:=⟨⟨s,t,eS,kI,n⟩,1,[]⟩
def lM (w:World)(P:Nat->Prop)(mp:ByteArray->Option Nat)(key val:ByteArray)(eb:Nat):Prop:=
 ∃fv b1 b2,dM w eb #[.string eS,fv] 108/\P eb/\eD w P 212 1 fv 2 (eU [b1,b2])/\mj w P mp (kJ nt key 1) b1/\mj w P mp (kJ po val 2) b2
def eJ (w:World)(P:Nat->Prop)(mp:ByteArray->Option Nat)(g:GF)(fb:Nat):Prop:=
 if g.form=4 then∃rv eb,dM w fb #[.int .i64 g.f.num,.int .i64 4,.int .i64 16,gI (some eb),rv] 220/\P fb/\eD w P 3 1 rv g.riv.length (gd g.riv)/\lM w P mp g.f.key g.f.ty eb
 else mj w P mp g fb
def fT (w:World)(P:Nat->Prop)(mp:ByteArray->Option Nat):List GF->List Nat->Prop
 | [],l=>l= []
 |g::gs,l=>∃b r,l=b::r/\eJ w P mp g b/\fT w P mp gs r
def iE (w:World)(P:Nat->Prop)(mp:ByteArray->Option Nat)(b:Nat)(name:ByteArray)(gs:List GF):Prop:=
 ∃fv Uq,dM w b #[.string name,fv] 108/\P b/\eD w P 212 1 fv Uq.length (eU Uq)/\fT w P mp gs Uq
section
variable {w w':World} {P Q:Nat->Prop} {mp:ByteArray->Option Nat}
def mj.keep (hk:∀b,P b->b<w.heap.size->w'.heap[b]?=w.heap[b]?){g:GF}{fb:Nat}(h:mj w P mp g fb):mj w' P mp g fb:=by
 obtain⟨rv,h1,h2,h3⟩:=h;exact⟨rv,(hk fb h2 h1.lt).trans h1,h2,h3.keep hk⟩
def lM.keep (hk:∀b,P b->b<w.heap.size->w'.heap[b]?=w.heap[b]?){k v:ByteArray}{eb:Nat}(h:lM w P mp k v eb):lM w' P mp k v eb:=by
 obtain⟨fv,b1,b2,h1,h2,h3,h4,h5⟩:=h;exact⟨fv,b1,b2,(hk eb h2 h1.lt).trans h1,h2,h3.keep hk,h4.keep hk,h5.keep hk⟩
def eJ.keep (hk:∀b,P b->b<w.heap.size->w'.heap[b]?=w.heap[b]?){g:GF}{fb:Nat}(h:eJ w P mp g fb):eJ w' P mp g fb:=by
 unfold eJ at h⊢
 split at h
 ·rename_i h0
  rw[dE h0];obtain⟨rv,eb,h1,h2,h3,h4⟩:=h;exact⟨rv,eb,(hk fb h2 h1.lt).trans h1,h2,h3.keep hk,h4.keep hk⟩
 ·rename_i h0
  rw[dD h0];exact mj.keep hk h
def fT.keep (hk:∀b,P b->b<w.heap.size->w'.heap[b]?=w.heap[b]?):∀{gs:List GF} {l:List Nat},fT w P mp gs l->fT w' P mp gs l
 | [],_,h=>h
 |_::_,_,⟨b,r,h1,h2,h3⟩=>⟨b,r,h1,h2.keep hk,fT.keep hk h3⟩
def iE.keep (hk:∀b,P b->b<w.heap.size->w'.heap[b]?=w.heap[b]?){b:Nat}{name:ByteArray}{gs:List GF}(h:iE w P mp b name gs):iE w' P mp b name gs:=by
 obtain⟨fv,Uq,h1,h2,h3,h4⟩:=h;exact⟨fv,Uq,(hk b h2 h1.lt).trans h1,h2,h3.keep hk,h4.keep hk⟩
def mj.mono (hs:∀b,P b->b<w.heap.size->Q b){g:GF}{fb:Nat}(h:mj w P mp g fb):mj w Q mp g fb:=by
 obtain⟨rv,h1,h2,h3⟩:=h;exact⟨rv,h1,hs _ h2 h1.lt,h3.mono hs⟩
def lM.mono (hs:∀b,P b->b<w.heap.size->Q b){k v:ByteArray}{eb:Nat}(h:lM w P mp k v eb):lM w Q mp k v eb:=by
 obtain⟨fv,b1,b2,h1,h2,h3,h4,h5⟩:=h;exact⟨fv,b1,b2,h1,hs _ h2 h1.lt,h3.mono hs,h4.mono hs,h5.mono hs⟩
def eJ.mono (hs:∀b,P b->b<w.heap.size->Q b){g:GF}{fb:Nat}(h:eJ w P mp g fb):eJ w Q mp g fb:=by
 unfold eJ at h⊢
 split at h
 ·rename_i h0
  rw[dE h0];obtain⟨rv,eb,h1,h2,h3,h4⟩:=h;exact⟨rv,eb,h1,hs _ h2 h1.lt,h3.mono hs,h4.mono hs⟩
 ·rename_i h0
  rw[dD h0];exact mj.mono hs h
def fT.mono (hs:∀b,P b->b<w.heap.size->Q b):∀{gs:List GF} {l:List Nat},fT w P mp gs l->fT w Q mp gs l
 | [],_,h=>h
 |_::_,_,⟨b,r,h1,h2,h3⟩=>⟨b,r,h1,h2.mono hs,fT.mono hs h3⟩
def iE.mono (hs:∀b,P b->b<w.heap.size->Q b){b:Nat}{name:ByteArray}{gs:List GF}(h:iE w P mp b name gs):iE w Q mp b name gs:=by
 obtain⟨fv,Uq,h1,h2,h3,h4⟩:=h;exact⟨fv,Uq,h1,hs _ h2 h1.lt,h3.mono hs,h4.mono hs⟩
def fT.len:∀{gs:List GF} {l:List Nat},fT w P mp gs l->l.length=gs.length
 | [],_,h=>by rw[show _= []from h];rfl
 |_::_,_,⟨b,r,h1,_,h3⟩=>by rw[h1];simp[h3.len]
def fT.snoc {g:GF}{b:Nat}(h2:eJ w P mp g b):∀{gs:List GF} {l:List Nat},fT w P mp gs l->fT w P mp (gs++ [g]) (l++ [b])
 | [],_,h=>by rw[show _= []from h];exact⟨b,[],rfl,h2,rfl⟩
 |_::_,_,⟨c,r,h1,h3,h4⟩=>by rw[h1];exact⟨c,r++ [b],rfl,h3,fT.snoc h2 h4⟩
def fT.get:∀{gs:List GF} {l:List Nat},fT w P mp gs l->∀{i:Nat} {g:GF},gs[i]?=some g->∃b,l[i]?=some b/\eJ w P mp g b
 | [],_,_,i,g,h=>by simp at h
 |_::_,_,⟨b,r,h1,h3,h4⟩,0,g,h=>by
  simp at h;subst h;subst h1;exact⟨b,rfl,h3⟩
 |_::_,_,⟨b,r,h1,h3,h4⟩,i+1,g,h=>by
  subst h1;have⟨c,q1,q2⟩:=h4.get (i:=i) (g:=g) (by simpa using h);exact⟨c,by simpa using q1,q2⟩
end
def gr:Value->Option (DataW Unit×List MemPlace)
 | .pointer none=>some (.lit (.int .i64 (-1)),[])
 | .pointer (some ⟨b,0,none⟩)=>some (.lit (.int .i64 b),[])
 |_=>none
def kK (o:Option Nat):gr (gI o)=some (.lit (.int .i64 (match o with|some b=>(b:Int)|none=> -1)),[]):=by cases o<;>rfl
def pr {v:Value}{o:Option Nat}{ps:List MemPlace}(h:gr v=some (.lit (.int .i64 (match o with|some b=>(b:Int)|none=> -1)),ps)):v=gI o:=by
 unfold gr at h
 split at h
 ·cases o with
  |none=>rfl
  |some b=>simp at h
 ·cases o with
  |none=>simp at h
  |some b=>simp at h;have e:=Int.ofNat.inj h.1;subst e;rfl
 ·cases h
def nO (o:Option Nat):DataW Unit:= .lit (.int .i64 (match o with|some b=>(b:Int)|none=> -1))
def fU (w:World)(b n:Nat)(mp:ByteArray->Option Nat):Prop:=
 ∃D,w.ownsMap prog 9 gr b n D/\∀s:ByteArray,D.atKey (qH s) (nO none)=nO (mp s)
def ja (mp:ByteArray->Option Nat)(s:ByteArray)(b:Nat):ByteArray->Option Nat:=λt=>if gG t s then some b else mp t
def fU.keep {w w':World}{b n:Nat}{mp:ByteArray->Option Nat}(h:fU w b n mp)(hb:w'.heap[b]?=w.heap[b]?):fU w' b n mp:=by
 obtain⟨D,h1,h2⟩:=h;exact⟨D,ka h1 hb,h2⟩
def fU.lt {w:World}{b n:Nat}{mp:ByteArray->Option Nat}(h:fU w b n mp):b<w.heap.size:=by
 obtain⟨D,h1,h2⟩:=h;exact h1.lt
def fU.made (w:World):fU (w.alloc (.map #[] 0)) w.heap.size 0 (λ_=>none):=
 ⟨_,World.ownsMap_made w prog 9 gr,λ_=>rfl⟩
def FL (s t:ByteArray):qH t=qH s<->gG t s=true:=by
 unfold qH gG;rw[ByteArray.toList_eq,ByteArray.toList_eq];simp
def MV {D:DataW Unit}{mp:ByteArray->Option Nat}(hm:IsMap D)(h:∀s:ByteArray,D.atKey (qH s) (nO none)=nO (mp s))(s:ByteArray)(b:Nat):
  ∀t:ByteArray,(D.put (qH s) (nO (some b))).atKey (qH t) (nO none)=nO (ja mp s b t):=by
 intro t;unfold ja
 by_cases e:gG t s=true
 ·rw[dE e,(FL s t).2 e];exact atKey_put_same hm (show WideAt.IsKeyLit (qH s)from trivial) _ _
 ·rw[dD e,atKey_put_other (λh=>e ((FL s t).1 h))];exact h t
end
section
open Go.Maps
open Uq
def rT (w:an)(f:eF)(h:kh f.num.1)(hb:iJ f.num.1<=536870911)(hg:GOK w):
  Calls prog 109 #[.agg (FC f)] w λe w'=>e= .returned (aa (i9 f))/\aj w w':=by
 have B0:=(Uc w).alloc (ay _) (FO f);have wr:IntKind.i64.wrap (iJ f.num.1:Int)=(iJ f.num.1:Int):=by simp[IntKind.wrap,IntKind.bits,IntKind.signed];omega
 unfold i9;go_in
 go_wp2_with fail;refine(RY _ _ _ _ h (hg.keep (Below.heap_alloc _ _ _ hg.lt))).mono ?_;rintro e w1 ⟨rfl,Uq⟩;go_wp2;go_ret;exact⟨rfl,B0.trans (Uq.mono Uf)⟩
def BOK (w:an):Prop:=∀i v,(Em.map Value.string)[i]?=some v->w.cell? (ai 0 i)=some v
def BOK.lt {w:an}(h:BOK w):0<w.heap.size:=aQ _ _ (h 0 _ rfl)
def BOK.keep {w w':an}(h:BOK w)(hb:w'.heap[0]?=w.heap[0]?):BOK w':=by
 intro i v hv;rw[<-h i v hv];unfold World.cell?;rw[hb]
def pt (s:am):Nat->Nat
 |0=>0
 |k+1=>if((Em.getD k eS).toList==s.toList)then k else pt s k
def IW (k:Nat)(x:am)(h:Em[k]?=some x)(w:an):(Instr.index 427 (.agg #[ae ⟨#[105,110,116,51,50]⟩,ae ⟨#[105,110,116,54,52]⟩,ae ⟨#[117,105,110,116,51,50]⟩,ae ⟨#[117,105,110,116,54,52]⟩,ae ⟨#[115,105,110,116,51,50]⟩,ae ⟨#[115,105,110,116,54,52]⟩,ae ⟨#[98,111,111,108]⟩,ae ⟨#[102,105,120,101,100,51,50]⟩,ae ⟨#[102,105,120,101,100,54,52]⟩,ae ⟨#[115,102,105,120,101,100,51,50]⟩,ae ⟨#[115,102,105,120,101,100,54,52]⟩,ae ⟨#[102,108,111,97,116]⟩,ae ⟨#[100,111,117,98,108,101]⟩,ae ⟨#[115,116,114,105,110,103]⟩,ae ⟨#[98,121,116,101,115]⟩]) (aa (k:Int))).run prog w= .ok (ae x) w:=by
 have hk:k<15:=by
  by_cases h':k<15
  ·exact h'
  ·rw[aY (by show 15<=k;omega)]at h;cases h
 rcases(show k=0\/k=1\/k=2\/k=3\/k=4\/k=5\/k=6\/k=7\/k=8\/k=9\/k=10\/k=11\/k=12\/k=13\/k=14 from by omega)with rfl|rfl|rfl|rfl|rfl|rfl|rfl|rfl|rfl|rfl|rfl|rfl|rfl|rfl|rfl
 all_goals
  obtain rfl:=Option.some.inj h;change _=_
  kernel_rfl
def IX (w:an)(s:am)(hb:BOK w):
  Calls prog 245 #[ae s] w λe w'=>e= .returned (aa (pt s 15))/\w'=w:=by
 have c0:=hb 0 _ rfl;have c1:=hb 1 _ rfl;have c2:=hb 2 _ rfl;have c3:=hb 3 _ rfl;have c4:=hb 4 _ rfl;have c5:=hb 5 _ rfl;have c6:=hb 6 _ rfl;have c7:=hb 7 _ rfl;have c8:=hb 8 _ rfl;have c9:=hb 9 _ rfl;have c10:=hb 10 _ rfl;have Uq:=hb 11 _ rfl;have Ur:=hb 12 _ rfl;have Q0:=hb 13 _ rfl;have QZ:=hb 14 _ rfl;go_in
 go_wp2;clear c0 c1 c2 c3 c4 c5 c6 c7 c8 c9 c10 Uq Ur Q0 QZ;go_loopw [3,7] (λv i wr=>∃(k:Nat),k<=15/\i=aa k/\v=aa (pt s k)/\w=wr) (λ_ i _=>15-(intOf i).toNat)
 case atStart=>exact⟨0,aL _,rfl,rfl,rfl⟩
 case round=>
  obtain⟨k,hk,rfl,rfl,rfl⟩:=hrel
  by_cases hlt:k<15
  ·have⟨x,hx⟩:=gx (l:=Em) (show k<Em.length from hlt);have e:pt s (k+1)=if x.toList==s.toList then k else pt s k:=by rw[pt,bW,hx];rfl
   have hi:=IW k x hx;have Us:(k:Int)<15:=Ue;clear hx
   cases hc:(x.toList==s.toList)
   ·rw[hc,dD Uf]at e;go_wp2;go_roundw
    case rel=>exact⟨k+1,Ue,rfl,by rw[e],trivial⟩
    case measure=>simp[intOf];omega
   ·rw[hc,dE rfl]at e;go_wp2;go_roundw
    case rel=>exact⟨k+1,Ue,rfl,by rw[e],trivial⟩
    case measure=>simp[intOf];omega
  ·have Us:decide ((k:Int)<15)=false:=Ug;obtain rfl:k=15:=Ue;go_wp2;go_ret;exact⟨rfl,rfl⟩
def FM (l:List UInt8):Nat->Nat
 |0=>0
 |k+1=>if(mN.getD k []==l)then k else FM l k
def MW (k:Nat):(Em.getD k eS).toList=mN.getD k []:=by
 unfold Em;rw[bW,bW,aO]
 cases mN[k]? with
 |none=>simp[eS,ByteArray.toList_eq]
 |some l=>simp[ByteArray.toList_eq]
def CG (s:am):∀k,pt s k=FM s.toList k
 |0=>rfl
 |k+1=>by rw[pt,FM,CG s k,MW]
def IY:∀l∈mN,FM l 15=(CF mN l 0).getD 0:=Uh
def IZ {s:am}(h:je s.toList=true):pt s 15=nw s:=by
 have hm:s.toList∈mN:=by simpa [je]using h
 rw[CG];exact IY _ hm
def mm {s:am}(h:dJ s=3):je s.toList=true:=by
 unfold dJ iQ at h
 split at h
 ·cases h
 ·split at h
  ·cases h
  ·split at h
   ·cases h
   ·split at h
    ·assumption
    ·cases h
def I3 (w:an):(zeroValue 105).run prog w= .ok (.pointer none) w:=Uj
def fU.look {w:an}{b n:Nat}{mp:am->Option Nat}(h:fU w b n mp)(s:am)(hs:s.size<=maxLen):
  (Instr.lookup 145 (.map (some b)) (ae s) false).run prog w= .ok (gI (mp s)) w:=by
 obtain⟨D,h1,h2⟩:=h;have⟨v,ps,Ur,hR⟩:=h1.lookup Hd underlying145 (I3 w) (kK none) (He s hs);have e:=h2 s;unfold nO at e;rw[e]at hR;rw[Ur,pr hR]
def rU (mp:am->Option Nat)(s:am):Value:= .agg #[aa (i8 mp s),gI (yH mp s)]
def CH (w:an)(b:Nat)(mp:am->Option Nat)(s:am)(p:Nat)(hk:dJ s=3)(hb:BOK w):
  Calls prog 167 #[.map (some b),.agg #[aa 3,ae s,aa p]] w λe w'=>e= .returned (rU mp s)/\aj w w':=by
 have B0:=((Uc w).alloc (ay _) (ak #[aa 3,ae s,aa p] 148)).alloc Uf (ak #[aa 0,.pointer none] 216);have Us:BOK ((w.alloc (ak #[aa 3,ae s,aa p] 148)).alloc (ak #[aa 0,.pointer none] 216)):=hb.keep (B0.block _ hb.lt)
 have K1:∀x y,dM ((w.alloc (ak #[aa 3,ae s,aa p] 148)).alloc (ak #[x,y] 216)) (w.heap.size+1) #[x,y] 216:=λx y=>by
  have:=dM.new (w.alloc (ak #[aa 3,ae s,aa p] 148)) #[x,y] 216;simpa using this
 have B1:∀o,aj w ((w.alloc (ak #[aa 3,ae s,aa p] 148)).alloc o):=λo=>(Ud w _).alloc Uf o
 have e3:pt s 15=nw s:=IZ (mm hk)
 have hT:rU mp s= .agg #[aa (pt s 15),.pointer none]:=by
  unfold rU i8 yH;rw[dE hk,dE hk,e3];rfl
 rw[hT];clear hk e3 hT;go_in
 go_wp2_with fail;refine(IX _ s Us).mono ?_;rintro e w1 ⟨rfl,rfl⟩;go_wp2;exact dG (ec results167 _ _ rfl (K1 _ _) underlying216 Uj) rfl ⟨rfl,B1 _⟩
def CI (w:an)(b n:Nat)(mp:am->Option Nat)(k:Int)(s:am)(p:Nat)(H:fU w b n mp)(hs:s.size<=2000)(hk:k=dJ s)(hk3:¬dJ s=3):
  Calls prog 167 #[.map (some b),.agg #[aa k,ae s,aa p]] w λe w'=>e= .returned (rU mp s)/\aj w w':=by
 have B0:=((Uc w).alloc (ay _) (ak #[aa k,ae s,aa p] 148)).alloc Uf (ak #[aa 0,.pointer none] 216);have H0:fU ((w.alloc (ak #[aa k,ae s,aa p] 148)).alloc (ak #[aa 0,.pointer none] 216)) b n mp:=H.keep (B0.block _ H.lt)
 have K1:∀x y,dM ((w.alloc (ak #[aa k,ae s,aa p] 148)).alloc (ak #[x,y] 216)) (w.heap.size+1) #[x,y] 216:=λx y=>by
  have:=dM.new (w.alloc (ak #[aa k,ae s,aa p] 148)) #[x,y] 216;simpa using this
 have B1:∀o,aj w ((w.alloc (ak #[aa k,ae s,aa p] 148)).alloc o):=λo=>(Ud w _).alloc Uf o
 have Uq:=H0.look s Ul;have hd:(k==3)=false:=by rw[hk];simp[hk3]
 have hd2:¬k=3:=by rw[hk];exact hk3
 unfold rU i8 yH;rw[dD hk3,dD hk3];clear hk hk3 H0
 cases hm:mp s with
 |none=>
  rw[hm]at Uq;unfold gI at Uq⊢;go_in
  go_wp2;exact dG (ec results167 _ _ rfl (K1 _ _) underlying216 Uj) rfl ⟨rfl,B1 _⟩
 |some x=>
  rw[hm]at Uq;unfold gI at Uq⊢;go_in
  go_wp2;exact dG (ec results167 _ _ rfl (K1 _ _) underlying216 Uj) rfl ⟨rfl,B1 _⟩
def wL (w:an)(b n:Nat)(mp:am->Option Nat)(s:am)(p:Nat)(H:fU w b n mp)(hs:s.size<=2000)(hb:BOK w):
  Ua 167 #[.map (some b),.agg #[aa (dJ s),ae s,aa p]] w λe w'=>e= .returned (rU mp s)/\aj w w':=by
 by_cases hk:dJ s=3
 ·have:=CH w b mp s p hk hb;rw[hk];exact this
 ·exact CI w b n mp _ s p H hs rfl hk
section
variable {w:an} {P:ap} {n eb:Nat}
theorem Es {g k:Nat}{T:TypeId}{cs:Array Value}(h:dM w g cs T)(hp:P g)(hs:cs.size=n*k)(hm:n<=maxLen):eD w P T k (Ub g n n) n cs.toList:=by
 refine⟨⟨by simpa using hs,.inr ⟨g,n,cs,rfl,aL _,h,ay _,hm,hs,?_⟩⟩,λb hb=> ?_⟩
 ·rw[bY];simp[hs]
 ·cases hb
  exact hp
theorem ew {a b c:an}(h:Below a.heap.size a b)(k:Below b.heap.size b c):Below a.heap.size a c:=
 h.trans ⟨k.os,k.tape,k.output,k.size,λi hi=>k.block i (aD hi h.size)⟩
theorem eD.nil0 (w:an)(Z:ap)(T:TypeId)(k:Nat):eD w Z T k (ah) 0 []:=⟨bm _ _ _ _,λb hb=>by cases hb⟩
theorem dM.newAt (h:n=w.heap.size)(cs:Array Value)(T:TypeId):dM (w.alloc (.cells cs T)) n cs T:=h▸dM.new w cs T
def mo (w:an)(P:ap)(kb vb:Int)(kp vp:Value)(eb:Nat):Prop:=
 ∃fv b1 b2,dM w eb #[ae eS,fv] 108/\P eb/\eD w P 212 1 fv 2 (eU [b1,b2])/\
  (dM w b1 #[aa 1,aa 1,aa kb,kp,ah] 220/\P b1)/\(dM w b2 #[aa 2,aa 1,aa vb,vp,ah] 220/\P b2)
theorem mo.ent {mp:am->Option Nat}{k v:am}(h:mo w P (i8 mp k) (i8 mp v) (gI (yH mp k)) (gI (yH mp v)) eb):lM w P mp k v eb:=by
 obtain⟨fv,b1,b2,h1,h2,h3,h4,h5⟩:=h;exact⟨fv,b1,b2,h1,h2,h3,⟨_,h4.1,h4.2,eD.nil0 _ _ _ _⟩,⟨_,h5.1,h5.2,eD.nil0 _ _ _ _⟩⟩
theorem mo.keep {w':an}(hk:∀b,P b->b<w.heap.size->w'.heap[b]?=w.heap[b]?){kb vb:Int}{kp vp:Value}(h:mo w P kb vb kp vp eb):mo w' P kb vb kp vp eb:=by
 obtain⟨fv,b1,b2,h1,h2,h3,h4,h5⟩:=h;exact⟨fv,b1,b2,(hk _ h2 h1.lt).trans h1,h2,h3.keep hk,⟨(hk _ h4.2 h4.1.lt).trans h4.1,h4.2⟩,⟨(hk _ h5.2 h5.1.lt).trans h5.1,h5.2⟩⟩
theorem mo.mono {Q:ap}(hs:∀b,P b->Q b){kb vb:Int}{kp vp:Value}(h:mo w P kb vb kp vp eb):mo w Q kb vb kp vp eb:=by
 obtain⟨fv,b1,b2,h1,h2,h3,h4,h5⟩:=h;exact⟨fv,b1,b2,h1,hs _ h2,h3.mono (λb hb _=>hs b hb),⟨h4.1,hs _ h4.2⟩,⟨h5.1,hs _ h5.2⟩⟩
theorem I4 {c o1 o2:Nat}{v1 v2:Value}{b:Nat}(h:c≠b):((w.setCell (ai c o1) v1).setCell (ai c o2) v2).heap[b]?=w.heap[b]?:=by
 rw[dK,dD h,dK,dD h]
theorem MX (w:an)(kb vb:Int)(kp vp:Value):
  Calls prog 166 #[.agg #[aa kb,kp],.agg #[aa vb,vp]] w λe w'=>∃eb,e= .returned (ag eb)/\mo w' (λb=>w.heap.size<=b) kb vb kp vp eb/\aj w w':=by
 go_in
 go_wp2;go_ret;have z:∀(u:an) (o:Obj),(u.alloc o).heap.size=u.heap.size+1:=λu o=>Uf
 refine⟨_,rfl,⟨_,w.heap.size+1+1,w.heap.size+1+1+1,dM.newAt (by simp only[z]) _ _,Ue,Es ((dM.newAt (by simp only[z]) _ _).alloc _) Ue rfl Ul,
  ⟨(((dM.newAt (by simp only[z]) _ _).alloc _).alloc _).alloc _,Ue⟩,⟨((dM.newAt (by simp only[z]) _ _).alloc _).alloc _,Ue⟩⟩,?_⟩
 exact(((((Ud w _).alloc (by simp only[z];omega) _).alloc (by simp only[z];omega) _).alloc (by simp only[z];omega) _).alloc (by simp only[z];omega) _).alloc (by simp only[z];omega) _
def I5 (w:an)(mp:am->Option Nat)(f:eF)(e:Ending)(w':an):Prop:=
 if f.form=4 then∃eb,e= .returned (.agg #[aa 16,ag eb])/\lM w' (λb=>w.heap.size<=b) mp (jg f.key) f.type.1 eb
 else e= .returned (rU mp f.type.1)
theorem uZ (w:an)(b n:Nat)(mp:am->Option Nat)(f:eF)(hf:f.form=4)(H:fU w b n mp)(hk:lW f.key=dJ (jg f.key))(hks:(jg f.key).size<=2000)(hts:f.type.1.size<=2000)(hb:BOK w):
  Calls prog 110 #[.map (some b),.agg (FC f)] w λe w'=>(∃eb,e= .returned (.agg #[aa 16,ag eb])/\lM w' (λb=>w.heap.size<=b) mp (jg f.key) f.type.1 eb)/\aj w w':=by
 obtain⟨form,key,ty,nm,nu⟩:=f;dsimp only[FC]at hf hk hks hts⊢;subst hf;rw[hk];generalize hks':jg key=ks at*;obtain⟨ts,tp⟩:=ty;have B0:=((Uc w).alloc (ay _) (ak #[aa 4,aa (dJ ks),ae ks,aa (mW key),aa (dJ ts),ae ts,aa tp,aa (dJ nm.1),ae nm.1,aa nm.2,aa (dJ nu.1),ae nu.1,aa nu.2] 211)).alloc Uf (ak #[aa 0,.pointer none] 216);have K0:=(dM.new w #[aa 4,aa (dJ ks),ae ks,aa (mW key),aa (dJ ts),ae ts,aa tp,aa (dJ nm.1),ae nm.1,aa nm.2,aa (dJ nu.1),ae nu.1,aa nu.2] 211).alloc (ak #[aa 0,.pointer none] 216);have K1:dM ((w.alloc (ak #[aa 4,aa (dJ ks),ae ks,aa (mW key),aa (dJ ts),ae ts,aa tp,aa (dJ nm.1),ae nm.1,aa nm.2,aa (dJ nu.1),ae nu.1,aa nu.2] 211)).alloc (ak #[aa 0,.pointer none] 216)) (w.heap.size+1) #[aa 0,.pointer none] 216:=dM.newAt Uf _ _;go_in
 go_wp2_with fail;generalize((w.alloc (ak #[aa 4,aa (dJ ks),ae ks,aa (mW key),aa (dJ ts),ae ts,aa tp,aa (dJ nm.1),ae nm.1,aa nm.2,aa (dJ nu.1),ae nu.1,aa nu.2] 211)).alloc (ak #[aa 0,.pointer none] 216))=w1 at*;have B1:aj w w1.drew:=B0.drew;have KA:=K0.drew;have KB:=K1.drew;have z1:=K1.lt
 have Uq:Hid (Ua 167 #[.map (some b),.agg #[aa (dJ ks),ae ks,aa (mW key)]] w1.drew (λe w'=>e= .returned (.agg #[aa (i8 mp ks),gI (yH mp ks)])/\Below w1.drew.heap.size w1.drew w')):=
  wL _ b n mp ks (mW key) (H.keep (B1.block _ H.lt)) hks (hb.keep (B1.block _ hb.lt))
 have Ur:Hid (∀w2:an,Below w1.drew.heap.size w1.drew w2->Ua 167 #[.map (some b),.agg #[aa (dJ ts),ae ts,aa tp]] w2 (λe w'=>e= .returned (.agg #[aa (i8 mp ts),gI (yH mp ts)])/\aj w2 w')):=
  λw2 h2=>wL w2 b n mp ts tp (H.keep ((ew B1 h2).block _ H.lt)) hts (hb.keep ((ew B1 h2).block _ hb.lt))
 have HE:Hid (∀(w':an) (eb:Nat),mo w' (λb=>w.heap.size<=b) (i8 mp ks) (i8 mp ts) (gI (yH mp ks)) (gI (yH mp ts)) eb->lM w' (λb=>w.heap.size<=b) mp ks ts eb):=λw' eb h=>h.ent
 generalize(i8 mp ks:Int)=k1 at Uq Ur HE;generalize(i8 mp ts:Int)=k2 at Uq Ur HE;generalize gI (yH mp ks)=p1 at Uq Ur HE;generalize gI (yH mp ts)=p2 at Uq Ur HE
 have Us:Hid (∀w3:an,Ua 166 #[.agg #[aa k1,p1],.agg #[aa k2,p2]] w3 (λe w'=>∃eb,e= .returned (ag eb)/\mo w' (λb=>w3.heap.size<=b) k1 k2 p1 p2 eb/\aj w3 w')):=
  λw3=>MX w3 k1 k2 p1 p2
 clear H hb hk hks hts B0;generalize(dJ ks)=q1 at*;generalize(dJ ts)=q2 at*;generalize(mW key:Int)=q3 at*;generalize(tp:Int)=q4 at*;clear hks';have a0:w1.drew.cell? (ai w.heap.size 1)=some (aa q1)/\w1.drew.cell? (ai w.heap.size 2)=some (ae ks)/\w1.drew.cell? (ai w.heap.size 3)=some (aa q3)/\w1.drew.cell? (ai w.heap.size 4)=some (aa q2)/\w1.drew.cell? (ai w.heap.size 5)=some (ae ts)/\w1.drew.cell? (ai w.heap.size 6)=some (aa q4):=⟨KA.cell 1,KA.cell 2,KA.cell 3,KA.cell 4,KA.cell 5,KA.cell 6⟩
 have HS:Hid (∀(u v:an),Below u.heap.size u v->w.heap.size<u.heap.size->u.cell? (ai w.heap.size 1)=some (aa q1)/\u.cell? (ai w.heap.size 2)=some (ae ks)/\u.cell? (ai w.heap.size 3)=some (aa q3)/\u.cell? (ai w.heap.size 4)=some (aa q2)/\u.cell? (ai w.heap.size 5)=some (ae ts)/\u.cell? (ai w.heap.size 6)=some (aa q4)->
   v.cell? (ai w.heap.size 1)=some (aa q1)/\v.cell? (ai w.heap.size 2)=some (ae ks)/\v.cell? (ai w.heap.size 3)=some (aa q3)/\v.cell? (ai w.heap.size 4)=some (aa q2)/\v.cell? (ai w.heap.size 5)=some (ae ts)/\v.cell? (ai w.heap.size 6)=some (aa q4)):=
  λu v h hl ⟨h1,h2,h3,h4,h5,h6⟩=>⟨(h.cell (p:=(ai w.heap.size 1)) hl).trans h1,(h.cell (p:=(ai w.heap.size 2)) hl).trans h2,(h.cell (p:=(ai w.heap.size 3)) hl).trans h3,(h.cell (p:=(ai w.heap.size 4)) hl).trans h4,(h.cell (p:=(ai w.heap.size 5)) hl).trans h5,(h.cell (p:=(ai w.heap.size 6)) hl).trans h6⟩
 clear KA K0 K1;obtain⟨i1,i2,i3,i4,i5,i6⟩:=a0;have zd:w.heap.size<w1.drew.heap.size:=Nat.lt_of_succ_lt KB.lt;go_region_with (first|(go_at_call 167;refine(Ur.out w2 b2).mono ?_;rintro e w3 ⟨rfl,b3⟩;have J3:=J2.below b3 J2.lt)|(go_at_call 167;refine Uq.out.mono ?_;rintro e w2 ⟨rfl,b2⟩;have J2:=KB.below b2 KB.lt;have⟨j1,j2,j3,j4,j5,j6⟩:=HS.out _ _ b2 zd ⟨i1,i2,i3,i4,i5,i6⟩)|(go_at_call 166;refine(Us.out w3).mono ?_;rintro e w4 ⟨eb,rfl,hE,b4⟩;have J4:=J3.below b4 J3.lt;have⟨y7,y8⟩:=J4.rules))
 all_goals
  go_wp2;refine dG (ec results110 _ _ rfl ((J4.set 0 _).set 1 _) underlying216 Uj) rfl ⟨⟨eb,rfl,HE.out _ _ ?_⟩,?_⟩
  ·exact((hE.keep (λb hb _=>I4 (by have:=J3.lt;omega))).mono (λb hb=>by have:=J3.lt;omega))
  ·exact((ew (ew (ew B1 b2) b3) b4).setCell (p:=(ai (w.heap.size+1) 0)) (bT _) _).setCell (p:=(ai (w.heap.size+1) 1)) (bT _) _
theorem ve (w:an)(b n:Nat)(mp:am->Option Nat)(f:eF)(hf:¬f.form=4)(H:fU w b n mp)(hts:f.type.1.size<=2000)(hb:BOK w):
  Calls prog 110 #[.map (some b),.agg (FC f)] w λe w'=>e= .returned (rU mp f.type.1)/\aj w w':=by
 have hd:(f.form==4)=false:=by simp[hf]
 have B0:=((Uc w).alloc (ay _) (FO f)).alloc Uf (ak #[aa 0,.pointer none] 216);have K1:dM ((w.alloc (FO f)).alloc (ak #[aa 0,.pointer none] 216)) (w.heap.size+1) #[aa 0,.pointer none] 216:=dM.newAt Uf _ _
 have HC:Hid (∀w1:an,aj w w1->Ua 167 #[.map (some b),.agg #[aa (dJ f.type.1),ae f.type.1,aa f.type.2]] w1 (λe w'=>e= .returned (.agg #[aa (i8 mp f.type.1),gI (yH mp f.type.1)])/\aj w1 w')):=
  λw1 h1=>wL w1 b n mp f.type.1 f.type.2 (H.keep (h1.block _ H.lt)) hts (hb.keep (h1.block _ hb.lt))
 unfold rU;generalize yH mp f.type.1=o at HC⊢;generalize(i8 mp f.type.1:Int)=q at HC⊢
 cases o
 all_goals
  unfold gI at HC⊢;go_in
  go_wp2_with fail;generalize((w.alloc (FO f)).alloc (ak #[aa 0,.pointer none] 216))=w1 at*;refine(HC.out w1 B0).mono ?_;rintro e w2 ⟨rfl,b2⟩;have J2:=K1.below b2 K1.lt;have⟨y7,y8⟩:=J2.rules;go_wp2;refine dG (ec results110 _ _ rfl ((J2.set 0 _).set 1 _) underlying216 Uj) rfl ⟨rfl,?_⟩;exact((ew B0 b2).setCell (p:=(ai (w.heap.size+1) 0)) (bT _) _).setCell (p:=(ai (w.heap.size+1) 1)) (bT _) _
structure Et (f:eF):Prop where
 key:f.form=4->lW f.key=dJ (jg f.key)/\(jg f.key).size<=2000
 ty:f.type.1.size<=2000
theorem CJ (w:an)(b n:Nat)(mp:am->Option Nat)(f:eF)(hg:Et f)(H:fU w b n mp)(hb:BOK w):
  Ua 110 #[.map (some b),.agg (FC f)] w λe w'=>I5 w mp f e w'/\aj w w':=by
 unfold I5
 by_cases hf:f.form=4
 ·refine(uZ w b n mp f hf H (hg.key hf).1 (hg.key hf).2 hg.ty hb).mono λe w' h=> ?_
  rw[dE hf];exact h
 ·refine(ve w b n mp f hf H hg.ty hb).mono λe w' h=> ?_
  rw[dD hf];exact h
end
def Tryz.info3:(prog.info? 3).map (λi=>(i.zero,i.size,i.bytes))=some (some (.int .i64 0),1,8):=Uj
def AM (f:eF):Prop:=kh f.num.1/\iJ f.num.1<=536870911
def wM (f:eF)(l:List eF):List Int:=(l.filter λo=>decide (i9 o≠i9 f)).map i9
def Hj (f o:eF)(l:List eF):wM f (l++ [o])=wM f l++(if i9 o=i9 f then []else [i9 o]):=by
 unfold wM
 by_cases h:i9 o=i9 f<;>simp[h]
def I6 (w:World)(p:fo)(f:eF)(fa:Option Addr)(fc:Nat)(S:Nat->Prop)(hrow:eD w S 211 13 (.slice fa p.fields.length fc) p.fields.length (p.fields.flatMap rL))(hlen:p.fields.length<=2001)
  (hf:AM f) (hps:∀o∈p.fields,AM o) (hg:GOK w):
  Calls prog 111 #[.agg #[.int .i64 (lW p.oneof),.string (jg p.oneof),.int .i64 (mW p.oneof),.slice fa p.fields.length fc],.agg (FC f)] w λe w'=>∃v,e= .returned v/\w'.ownsRow w.heap.size 3 1 v (pp p f).length (gd (pp p f))/\Below w.heap.size w w':=by
 have⟨i0,UU,UV,UW,UX⟩:=info_parts Tryz.info3;have B0:=((Uc w).alloc (ay _) (Obj.cells #[.int .i64 (lW p.oneof),.string (jg p.oneof),.int .i64 (mW p.oneof),.slice fa p.fields.length fc] 208)).alloc Uf (FO f)
 have UM:dM ((w.alloc (Obj.cells #[.int .i64 (lW p.oneof),.string (jg p.oneof),.int .i64 (mW p.oneof),.slice fa p.fields.length fc] 208)).alloc (FO f)) (w.heap.size+1) (FC f) 211:=by
  have:=dM.new (w.alloc (Obj.cells #[.int .i64 (lW p.oneof),.string (jg p.oneof),.int .i64 (mW p.oneof),.slice fa p.fields.length fc] 208)) (FC f) 211;simpa using this
 have e0:pp p f=wM f p.fields:=rfl;rw[e0];go_in
 go_wp2;go_loopw [5,11] (λv i wr=>∃(k:Nat),k<=p.fields.length/\i= .int .i64 k/\wr.ownsRow w.heap.size 3 1 v (wM f (p.fields.take k)).length (gd (wM f (p.fields.take k)))/\dM wr (w.heap.size+1) (FC f) 211/\v.ownBlock≠some (w.heap.size+1)/\Below w.heap.size w wr) (λ_ i _=>p.fields.length-(intOf i).toNat)
 case atStart=>exact⟨0,aL _,rfl,bm _ _ _ _,UM,(by intro h;cases h),B0⟩
 case round=>
  obtain⟨k,hk,rfl,Uq,KF,UG,CW⟩:=hrel
  by_cases hlt:k<p.fields.length
  ·have⟨o,ho⟩:=gx hlt;have UJ:o∈p.fields:=aI ho;have Us:p.fields.take (k+1)=p.fields.take k++ [o]:=by rw[bJ,ho];rfl
   obtain⟨gf,rfl,_,UH,Ur⟩:=el hrow.1 Ue;have UK:=Ur wr (CW.block gf UH);have⟨t0,t1,t2,t3,t4,t5,t6,t7,t8,t9,UY,UZ,U0⟩:=wE ho UK;have UC:=hps o UJ;have KO:=dM.new wr (FC o) 211;have CA:=CW.alloc CW.size (FO o);have UN:=KF.alloc (FO o);have Ut:=Uq.alloc (FO o);have Ux:Hid (wM f (p.fields.take (k+1))=wM f (p.fields.take k)++(if i9 o=i9 f then []else [i9 o])):=by rw[Us];exact Hj f o _
   have UO:(wM f (p.fields.take k)).length<=2001:=by
    unfold wM;rw[bE];exact aG (bV _ _) (by rw[bG];omega)
   generalize wM f (p.fields.take k)=L at Uq Ut Ux UO;clear Ur UK ho UJ Us Uq KF;go_upto_region 5 with fail
   clear t0 t1 t2 t3 t4 t5 t6 t7 t8 t9 UY UZ U0;generalize hw1:wr.alloc (FO o)=w1 at*;have zo:wr.heap.size<w1.heap.size:=KO.lt;clear hw1;have UP:Hid (Ua 109 #[.agg (FC o)] w1.drew (λe w'=>e= .returned (.int .i64 (i9 o))/\Below w1.drew.heap.size w1.drew w')):=rT _ o UC.1 UC.2 (hg.keep (CA.block _ hg.lt));have UQ:Hid (∀w2:World,Below w1.drew.heap.size w1.drew w2->Ua 109 #[.agg (FC f)] w2 (λe w'=>e= .returned (.int .i64 (i9 f))/\Below w2.heap.size w2 w')):=λw2 h2=>rT w2 f hf.1 hf.2 (hg.keep ((ew CA.drew h2).block _ hg.lt))
   have UR:Hid (∀w3:World,Below w.heap.size w w3->Ua 109 #[.agg (FC o)] w3 (λe w'=>e= .returned (.int .i64 (i9 o))/\Below w3.heap.size w3 w')):=λw3 h3=>rT w3 o UC.1 UC.2 (hg.keep (h3.block _ hg.lt))
   have US:Below w.heap.size w w1.drew:=CA.drew;have UD:=KO.drew;have Uy:=UN.drew;have Uz:w1.drew.ownsRow w.heap.size 3 1 u5 L.length (gd L):=Ut;have⟨o1,o2⟩:=UD.rules;have⟨f1,f2⟩:=Uy.rules;go_cut [11,19]from 11 to 25 (λi c wx=>i= .int .i64 (k:Int)/\c= .bool (!(i9 o==i9 f))/\Below w1.drew.heap.size w1.drew wx)
   case first=>
    go_region_with (first|(go_at_call 109;refine(UQ.out w2 b2).mono ?_;rintro e w3 ⟨rfl,b3⟩)|(go_at_call 109;refine UP.out.mono ?_;rintro e w2 ⟨rfl,b2⟩;have⟨q1,q2⟩:=(Uy.below b2 Uy.lt).rules))
    all_goals
     go_wp2;go_meet
     case rel=>exact⟨rfl,rfl,ew b2 b3⟩
   case rest=>
    obtain⟨rfl,rfl,bc⟩:=hcut;have CC:=ew US bc;have Uu:=eH bc Uz;have UT:=UD.below bc UD.lt;have UE:=Uy.below bc Uy.lt;clear o1 o2 f1 f2;have⟨o1,o2⟩:=UT.rules
    cases hq:(i9 o==i9 f)
    ·have UF:¬i9 o=i9 f:=by simpa using hq
     have UA:=Ux.out;rw[dD UF]at UA;go_wp2_with fail;refine(UR.out wc CC).mono ?_;rintro e w4 ⟨rfl,b4⟩;have C4:=ew CC b4;have Uv:=eH b4 Uu;have UL:=UE.below b4 UE.lt;clear o1 o2;go_wp2_with (first|(at_builtin;refine wpList_append_own_at _ rfl _ _ 35 rfl w.heap.size 3 i0 _ 1 8 underlying35 UU UV UW UX rfl Uh u5 _ _ rfl (Uv.alloc _) _ 1 1 [_] rfl rfl (cell_one_new _ _ _) ?h1 ?h63 ?hby ?hba ?_;rotate_right;intro v' w5 UB Uw hnil UI))
     case h1=>intro u hu;simp at hu;subst hu;rfl
     case h63=>unfold maxLen;omega
     case hby=>omega
     case hba=>have:=C4.size;simp;omega
     refine⟨⟨k+1,Ue,by go_num,?_,?_,?_,?_⟩,by simp[intOf];omega⟩
     ·rw[UA];simpa [gd]using UB
     ·exact(UL.alloc _).grown Uw (λe=>UG e.symm)
     ·intro e
      rcases UI with h|h
      ·exact UG (h.symm.trans e)
      ·rw[h]at e;have e2:=Option.some.inj e;have:=UL.lt;simp at e2;omega
     ·exact(C4.alloc C4.size _).grown Uw (by have:=C4.size;simp;omega) (λj hj=>(Uv.lt j hj).1)
    ·have UA:=Ux.out;rw[dE (by simpa using hq),bN]at UA;go_wp2;go_roundw
     case rel=>exact⟨k+1,Ue,rfl,by rw[UA];exact Uu,UE,UG,CC⟩
     case measure=>simp[intOf];omega
  ·have hli:decide ((k:Int)<(p.fields.length:Int))=false:=Ug;obtain rfl:k=p.fields.length:=Ue;rw[bo]at Uq;go_wp2;go_ret;exact⟨_,rfl,Uq,CW⟩
end
section
open Uq
section
variable {w:an} {P:ap} {mp:am->Option Nat}
def kr (x y:Int):Int:=if x<y then-1 else if y<x then 1 else 0
theorem mY (x y:Int):kr x y<0<->x<y:=by
 unfold kr
 by_cases h:x<y
 ·simp[h]
 ·by_cases h2:y<x<;>simp[h,h2]
theorem AN (x:Int)(w:an):Calls prog 170 #[aa x] w λe w'=>e= .returned (.bool false)/\w'=w:=by
 go_in
 go_wp2;go_ret;exact⟨rfl,rfl⟩
theorem qd (x y:Int)(w:an):Calls prog 114 #[aa x,aa y] w λe w'=>e= .returned (aa (kr x y))/\w'=w:=by
 unfold kr
 by_cases h:x<y
 ·rw[dE h];go_in
  go_wp2_with (first|(go_at_call 170;refine(AN _ _).mono ?_;rintro e w' ⟨rfl,rfl⟩))
  go_ret;exact⟨rfl,rfl⟩
 ·have hd:decide (x<y)=false:=by simp[h]
  rw[dD h]
  by_cases h2:y<x
  ·rw[dE h2];go_in
   go_wp2_with (first|(go_at_call 170;refine(AN _ _).mono ?_;rintro e w' ⟨rfl,rfl⟩))
   go_ret;exact⟨rfl,rfl⟩
  ·have hd2:decide (y<x)=false:=by simp[h2]
   rw[dD h2];go_in
   go_wp2_with (first|(go_at_call 170;refine(AN _ _).mono ?_;rintro e w' ⟨rfl,rfl⟩))
   go_ret;exact⟨rfl,rfl⟩
theorem eJ.cell0 {g:GF}{fb:Nat}(h:eJ w P mp g fb):w.cell? (ai fb 0)=some (aa g.f.num)/\P fb:=by
 unfold eJ at h
 split at h
 ·obtain⟨rv,eb,h1,h2,_⟩:=h;exact⟨h1.cell 0,h2⟩
 ·obtain⟨rv,h1,h2,_⟩:=h;exact⟨h1.cell 0,h2⟩
theorem fT.zip:∀{gs:List GF} {l:au},fT w P mp gs l->∃z:List (GF×Nat),z.map (·.1)=gs/\z.map (·.2)=l/\∀x∈z,eJ w P mp x.1 x.2
 | [],_,h=>⟨[],rfl,h.symm,Uf⟩
 |g::gs,_,⟨b,r,h1,h2,h3⟩=>by
  have⟨z,e1,e2,e3⟩:=fT.zip h3;refine⟨(g,b)::z,by simp[e1],by simp[e2,h1],?_⟩;intro x hx
  rcases aN.1 hx with rfl|hx
  ·exact h2
  ·exact e3 x hx
theorem fT.of_zip:∀{z:List (GF×Nat)},(∀x∈z,eJ w P mp x.1 x.2)->fT w P mp (z.map (·.1)) (z.map (·.2))
 | [],_=>rfl
 |x::z,h=>⟨x.2,z.map (·.2),rfl,h x aV,fT.of_zip (λy hy=>h y (aT _ hy))⟩
end
end
end Go.Proofs.YtfebdimolnobaaaGreatDoor
namespace Go.Proofs
open Go.Shelf
theorem Tryz.bShelfSrt {f:FuncId}{B:Func}(h:((prog.funcs[f]?).elim "" Func.name== "runtime.NumGoroutine")=false)(k:prog.funcs[f]?=some {B with name:=(prog.funcs[f]?).elim "" Func.name}):Bears prog f B:=⟨_,h,k⟩
def Tryz.sortF_ren:Go.Shelf.Ren:=⟨fun|6=>112|15=>169|14=>168|28=>254|29=>255|20=>246|21=>247|22=>248|23=>249|24=>250|25=>251|26=>252|27=>253|46=>331|47=>332|48=>333|49=>334|50=>335|57=>400|n=>n,fun|22=>106|24=>212|25=>222|3=>3|39=>295|0=>0|53=>164|55=>53|4=>4|46=>367|45=>366|50=>331|5=>5|9=>9|66=>428|70=>431|76=>468|77=>469|n=>n,fun|n=>n⟩
theorem Tryz.sortF:Go.Proofs.SlLaysF.n6 Tryz.prog Tryz.sortF_ren:=by constructor<;>first|kernel_rfl|(intro w;kernel_rfl)|(apply Tryz.bShelfSrt<;>kernel_rfl)
end Go.Proofs
namespace Go.Proofs.YtfebdimolnobaaaGreatDoor
open Go.RowKit Go.Proofs.Tryz
section
open Go.Maps Go.Sort
open Uq
def Pq (a b:Nat)(x y:Int)(w:an)(ha:w.cell? (ai a 0)=some (aa x))(hb:w.cell? (ai b 0)=some (aa y)):
  Calls prog 113 #[ag a,ag b] w λe w'=>e= .returned (aa (kr x y))/\∃q,w'=w.drewN q:=by
 have hC:=qd x y;generalize kr x y=c at hC⊢;have hda:w.drew.cell? (ai a 0)=some (aa x):=ha;have hdb:w.drew.cell? (ai b 0)=some (aa y):=hb;go_in
 go_wp2;go_region_with (first|(go_at_call 114;refine(hC _).mono ?_;rintro e w' ⟨rfl,rfl⟩))
 all_goals
  go_wp2;go_ret;exact⟨rfl,1,rfl⟩
end
section
open Go.Maps Go.Sort
section
variable {α:Type} [Inhabited α] {enc:α->Value}
def CK {w:an}{g n:Nat}{os:Array Obj}{Uq:Array Value}{e:TypeId}{fr:Nat×Nat}(d:Array α)(hb:w.heap[g]?=some (.cells Uq e fr)):
  (sortWorld enc w g 0 n d os).heap[g]?=some (.cells (putCells enc 0 d Uq) e fr):=by
 have hg:g<w.heap.size:=(bA.1 hb).1;unfold sortWorld;rw[heap_grow_old _ _ (by simpa using hg)];simp[putRow,mapBlock,Sort.ahead,Array.getElem?_modify,hb,onCells]
def tE {w:an}{g n:Nat}{os:Array Obj}(d:Array α):w.grownBy (sortWorld enc w g 0 n d os) (some g):=by
 refine⟨rfl,rfl,rfl,by simp[sortWorld],λk hk Uy=> ?_⟩;unfold sortWorld;rw[heap_grow_old _ _ (by simpa using hk)];have:g≠k:=λe=>Uy (by rw[e])
 simp[putRow,mapBlock,Sort.ahead,Array.getElem?_modify,this]
def CL (Uq:Array Value)(ts:List α)(h:ts.length<=Uq.size):(putCells enc 0 ts.toArray Uq).toList.take ts.length=ts.map enc:=by
 apply List.ext_getElem?;intro j
 by_cases hj:j<ts.length
 ·rw[cr hj,bz];simp[putCells,hj,show j<Uq.size by omega]
 ·rw[List.getElem?_take_eq_none Ue,aY Ug]
def CM {w:an}{base g cap n m:Nat}{e:TypeId}{os:Array Obj}{Uq:Array Value}{ts:List α}(hl:ts.length=m)(hbase:base<=g)(hb:w.heap[g]?=some (.cells Uq e (0,0)))
  (h1:m<=cap) (h2:cap<=maxLen) (h3:Uq.size=cap*1):
  (sortWorld enc w g 0 n ts.toArray os).ownsRow base e 1 (Ub g m cap) m (ts.map enc):=
 ⟨by simp[hl],.inr ⟨g,cap,_,rfl,hbase,CK _ hb,h1,h2,by simp[putCells,h3],by rw[Nat.mul_one,<-hl];exact CL Uq ts Ue⟩⟩
def zh {w:an}{g:Nat}{Uq:Array Value}{e:TypeId}{ss:List α}(hb:w.heap[g]?=some (.cells Uq e (0,0)))(ht:Uq.toList.take ss.length=ss.map enc):Holds enc w g 0 ss.toArray:=by
 intro j hj;have Uw:j<ss.length:=by simpa using hj
 refine⟨?_,by simp[World.frozen?,hb]⟩;have h1:(Uq.toList.take ss.length)[j]?=(ss.map enc)[j]?:=by rw[ht]
 rw[cr Uw]at h1;simp only[World.cell?,hb,Nat.zero_add];simp only[Option.isSome_none,aM,if_false];rw[<-bz,h1];simp[Uw]
end
def zi {β:Type}{p:β->Prop}:∀l:List β,(∀x∈l,p x)->∃D:List {x:β//p x},D.map (·.1)=l
 | [],_=>⟨[],rfl⟩
 |x::l,h=>by
  have⟨D,hD⟩:=zi l (λy hy=>h y (aT _ hy));exact⟨⟨x,h x aV⟩::D,by simp[hD]⟩
def kF (w:an)(g:Nat):Type:={x:Int×Nat//w.cell? (ai x.2 0)=some (aa x.1)/\x.2≠g}
def kF.enc {w:an}{g:Nat}(x:kF w g):Value:=gI (some x.1.2)
def kF.cf {w:an}{g:Nat}(x y:kF w g):Int:=kr x.1.1 y.1.1
def kF.lt {w:an}{g:Nat}(x y:kF w g):ltOf (kF.cf (w:=w) (g:=g)) x y=decide (x.1.1<y.1.1):=by
 unfold ltOf kF.cf;rw[co];simp[mY]
def kF.swo (w:an)(g:Nat):SWO (ltOf (kF.cf (w:=w) (g:=g)))where
 irrefl x:=by rw[kF.lt];simp
 trans x y z h1 h2:=by rw[kF.lt]at*;simp at*;omega
 ntrans x y z h1 h2:=by rw[kF.lt]at*;simp at*;omega
def Pr (w:an)(lo:Nat)(v:Value)(l:List (Int×Nat))(e:Ending)(w':an):Prop:=
 e= .returned (.tuple #[])/\∃l':List (Int×Nat),l'.Perm l/\l'.Pairwise (λa b=>a.1<=b.1)/\w'.ownsRow lo 212 1 v l.length (eU (l'.map (·.2)))/\w.grownBy w' v.ownBlock
def Ps (w:an)(lo:Nat)(v:Value)(l:List (Int×Nat))(hrow:w.ownsRow lo 212 1 v l.length (eU (l.map (·.2))))(hc:∀x∈l,w.cell? (ai x.2 0)=some (aa x.1))(Uy:∀x∈l,v.ownBlock≠some x.2)(hl:l.length<=2001):
  Ua 112 #[v,.func (.func 113) #[] #[]] w (Pr w lo v l):=by
 by_cases h0:l= []
 ·subst h0;obtain⟨a,c,rfl⟩:=iD hrow;refine(AnyF.slices_SortFunc_none (P:=prog) (ρ:=Tryz.sortF_ren) {Tryz.sortF with} a c _ w).mono ?_;rintro e w' ⟨rfl,rfl⟩;exact⟨rfl,[],List.Perm.refl _,List.Pairwise.nil,hrow,⟨rfl,rfl,rfl,ay _,λ_ _ _=>rfl⟩⟩
 ·rcases hrow.2 with⟨rfl,h1⟩|⟨g,cap,Uq,rfl,hg,hb,hn,hm,hs,ht⟩
  ·exact absurd (bC h1) h0
  ·have UA:g<w.heap.size:=dM.lt hb;have hp:∀x∈l,w.cell? (ai x.2 0)=some (aa x.1)/\x.2≠g:=λx hx=>⟨hc x hx,λe=>Uy x hx (by rw[e];rfl)⟩
   have⟨x0,UD⟩:=List.exists_mem_of_ne_nil l h0;haveI:Inhabited (kF w g):=⟨⟨x0,hp x0 UD⟩⟩;obtain⟨D,hD⟩:∃D:List (kF w g),D.map (·.1)=l:=zi l hp;have Uz:D.length=l.length:=by rw[<-hD];simp
   have Ut:eU (l.map (·.2))=D.map kF.enc:=by
    rw[<-hD];unfold eU;rw[bB,bB];rfl
   have eg:∀args w,(callFunc 113 args).run prog w= .ok (.enter 113 args) w:=enters_of func113 Uj rfl
   have Ux:CmpLays1 prog 113 #[] (kF.enc (w:=w) (g:=g)) kF.cf g 0 D.toArray.size w:=by
    intro m os dk hsz x y
    have Ur:∀z:kF w g,(sortWorld kF.enc w g 0 m dk os).cell? (ai z.1.2 0)=some (aa z.1.1):=λz=>by
     have hz:=aQ _ _ z.2.1;have UB:=(tE (enc:=kF.enc) (w:=w) (g:=g) (n:=m) (os:=os) dk).block z.1.2 hz (λe=>z.2.2 (Option.some.inj e));exact(bu (a:=(ai z.1.2 0)) UB).trans z.2.1
    refine(Pq x.1.2 y.1.2 x.1.1 y.1.1 _ (Ur x) (Ur y)).mono ?_;rintro e w' ⟨rfl,q,rfl⟩;exact⟨rfl,q,#[],by rw[grow_empty]⟩
   have hH:Holds kF.enc w g 0 D.toArray:=zh hb (by rw[Uz,<-Ut];simpa using ht);have Uu:=Any.slices_SortFunc Tryz.sortF kF.enc (λ_=>rfl) kF.cf (kF.swo w g) 113 #[] g 0 cap D.toArray w eg Ux hH UA Ug;have e1:(D.toArray.size)=l.length:=by simpa using Uz
   rw[e1]at Uu;refine Uu.mono ?_;rintro e w' ⟨rfl,d',n,os,Us,Uv,rfl⟩;have hsz:d'.size=l.length:=by rw[Us.1];exact e1
   refine⟨rfl,d'.toList.map (·.1),?_,?_,?_,tE d'⟩
   ·have h2:=Us.2.2;rw[<-e1]at h2;rw[dx,show D.toArray.size=d'.size from by rw[hsz];exact e1,dx]at h2;rw[<-hD];exact List.Perm.map _ (by simpa using h2)
   ·rw[cm,bM];intro i j hi hj UE;have UC:i<d'.size:=by simpa using hi
    have Uw:j<d'.size:=by simpa using hj
    have h2:=Uv i j (aL _) UE Ue;rw[kF.lt,getElem!_pos d' i UC,getElem!_pos d' j Uw]at h2;simp at h2⊢;exact h2
   ·have e2:eU ((d'.toList.map (·.1)).map (·.2))=d'.toList.map kF.enc:=by
     unfold eU;rw[bB,bB];rfl
    rw[e2];have:=CM (enc:=kF.enc) (n:=n) (os:=os) (ts:=d'.toList) (m:=l.length) (by simpa using hsz) hg hb hn hm hs;simpa using this
end
section
open Go.Maps
open Uq
section
variable {f:eF} {p:fo} {w' w:an} {P:ap} {mp:am->Option Nat} {tb:Int} {tv:Value}
def RS (f:eF)(p:fo)(fa:aw)(fc c9 pb:Nat)(w':an):Prop:=w'.cell? (ai c9 0)=some (aa f.form)/\w'.cell? (ai c9 1)=some (aa (lW f.key))/\w'.cell? (ai c9 2)=some (ae (jg f.key))/\w'.cell? (ai c9 3)=some (aa (mW f.key))/\w'.cell? (ai c9 4)=some (aa (dJ f.type.1))/\w'.cell? (ai c9 5)=some (ae f.type.1)/\w'.cell? (ai c9 6)=some (aa f.type.2)/\w'.cell? (ai c9 7)=some (aa (dJ f.name.1))/\w'.cell? (ai c9 8)=some (ae f.name.1)/\w'.cell? (ai c9 9)=some (aa f.name.2)/\w'.cell? (ai c9 10)=some (aa (dJ f.num.1))/\w'.cell? (ai c9 11)=some (ae f.num.1)/\w'.cell? (ai c9 12)=some (aa f.num.2)/\w'.cell? (ai pb 0)=some (aa (lW p.oneof))/\w'.cell? (ai pb 1)=some (ae (jg p.oneof))/\w'.cell? (ai pb 2)=some (aa (mW p.oneof))/\w'.cell? (ai pb 3)=some (.slice fa p.fields.length fc)
theorem RS.of {fa:aw}{fc c9 pb:Nat}(h:dM w' c9 (FC f) 211)(k:dM w' pb #[aa (lW p.oneof),ae (jg p.oneof),aa (mW p.oneof),.slice fa p.fields.length fc] 208):RS f p fa fc c9 pb w':=
 ⟨h.cell 0,h.cell 1,h.cell 2,h.cell 3,h.cell 4,h.cell 5,h.cell 6,h.cell 7,h.cell 8,h.cell 9,h.cell 10,h.cell 11,h.cell 12,k.cell 0,k.cell 1,k.cell 2,k.cell 3⟩
def qK (w':an)(P:ap)(mp:am->Option Nat)(f:eF)(tb:Int)(tv:Value):Prop:=
 if f.form=4 then tb=16/\∃eb,tv=gI (some eb)/\lM w' P mp (jg f.key) f.type.1 eb else tb=i8 mp f.type.1/\tv=gI (yH mp f.type.1)
theorem qK.keep (hk:∀b,P b->b<w.heap.size->w'.heap[b]?=w.heap[b]?)(h:qK w P mp f tb tv):qK w' P mp f tb tv:=by
 unfold qK at h⊢
 split at h
 ·rename_i h0
  rw[dE h0];obtain⟨h1,eb,h2,h3⟩:=h;exact⟨h1,eb,h2,h3.keep hk⟩
 ·rename_i h0
  rw[dD h0];exact h
theorem qK.mono {Q:ap}(hs:∀b,P b->b<w.heap.size->Q b)(h:qK w P mp f tb tv):qK w Q mp f tb tv:=by
 unfold qK at h⊢
 split at h
 ·rename_i h0
  rw[dE h0];obtain⟨h1,eb,h2,h3⟩:=h;exact⟨h1,eb,h2,h3.mono hs⟩
 ·rename_i h0
  rw[dD h0];exact h
theorem AO (w:an)(b n:Nat)(mp:am->Option Nat)(f:eF)(hg:Et f)(H:fU w b n mp)(hb:BOK w):
  Ua 110 #[.map (some b),.agg (FC f)] w λe w'=>∃tb tv,e= .returned (.agg #[aa tb,tv])/\qK w' (λb=>w.heap.size<=b) mp f tb tv/\aj w w':=by
 refine(CJ w b n mp f hg H hb).mono ?_;rintro e w' ⟨h1,h2⟩;unfold I5 at h1
 by_cases h0:f.form=4
 ·rw[dE h0]at h1;obtain⟨eb,rfl,h3⟩:=h1;exact⟨16,_,rfl,by unfold qK;rw[dE h0];exact⟨rfl,eb,rfl,h3⟩,h2⟩
 ·rw[dD h0]at h1;exact⟨_,_,h1,by unfold qK;rw[dD h0];exact⟨rfl,rfl⟩,h2⟩
theorem I7 {fb:Nat}{rv:Value}(hb:dM w fb #[aa (i9 f),aa f.form,aa tb,tv,rv] 220)(hp:P fb)
  (hr:eD w P 3 1 rv (pp p f).length (gd (pp p f))) (ht:qK w P mp f tb tv):eJ w P mp (rS p f) fb:=by
 unfold qK at ht;unfold eJ;show if f.form=4 then _ else _
 split at ht
 ·rename_i h0
  rw[dE h0];obtain⟨rfl,eb,rfl,h3⟩:=ht;rw[h0]at hb;exact⟨rv,eb,hb,hp,hr,h3⟩
 ·rename_i h0
  rw[dD h0];obtain⟨rfl,rfl⟩:=ht;exact⟨rv,hb,hp,hr⟩
end
end
end Go.Proofs.YtfebdimolnobaaaGreatDoor
