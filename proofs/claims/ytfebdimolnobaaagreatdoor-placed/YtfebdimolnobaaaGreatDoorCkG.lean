import Derived.Test.YtfebdimolnobaaaGreatDoorCkE
set_option maxRecDepth 100000
set_option maxHeartbeats 8000000
set_option linter.all false
namespace Go.Proofs.YtfebdimolnobaaaGreatDoor
open Go.RowKit
section
open Go.Maps
attribute [local go_sem] ia ic ie
attribute [local go_sem↓] Go.wp_at_zero Go.wp_at_succ
theorem Jq (f:dM):ox f= [aa f.form,aa (kS f.key),ae (iz f.key),aa (kM f.key),aa (cZ f.type.1),ae f.type.1,aa f.type.2,aa (cZ f.name.1),ae f.name.1,aa f.name.2,aa (cZ f.num.1),ae f.num.1,aa f.num.2]:=by
 obtain⟨form,key,ty,nm,nu⟩:=f
 cases key<;>rfl
theorem pH {w:an}{g:Nat}{fs:List dM}{j:Nat}{f:dM}(hf:fs[j]?=some f)(h:∀(i:Nat) v,(fs.flatMap ox)[i]?=some v->w.cell? (ai g i)=some v):
  w.cell? (ai g (j*13))=some (aa f.form)/\w.cell? (ai g (j*13+1))=some (aa (kS f.key))/\w.cell? (ai g (j*13+2))=some (ae (iz f.key))/\w.cell? (ai g (j*13+3))=some (aa (kM f.key))/\w.cell? (ai g (j*13+4))=some (aa (cZ f.type.1))/\w.cell? (ai g (j*13+5))=some (ae f.type.1)/\w.cell? (ai g (j*13+6))=some (aa f.type.2)/\w.cell? (ai g (j*13+7))=some (aa (cZ f.name.1))/\w.cell? (ai g (j*13+8))=some (ae f.name.1)/\w.cell? (ai g (j*13+9))=some (aa f.name.2)/\w.cell? (ai g (j*13+10))=some (aa (cZ f.num.1))/\w.cell? (ai g (j*13+11))=some (ae f.num.1)/\w.cell? (ai g (j*13+12))=some (aa f.num.2):=by
 have hg:=fun(i:Nat) hi=>eE ox 13 G7 fs j f hf i hi
 rw[Jq]at hg;refine⟨h _ _ (hg 0 (by omega)),h _ _ (hg 1 (by omega)),h _ _ (hg 2 (by omega)),h _ _ (hg 3 (by omega)),h _ _ (hg 4 (by omega)),h _ _ (hg 5 (by omega)),h _ _ (hg 6 (by omega)),h _ _ (hg 7 (by omega)),h _ _ (hg 8 (by omega)),h _ _ (hg 9 (by omega)),h _ _ (hg 10 (by omega)),h _ _ (hg 11 (by omega)),h _ _ (hg 12 (by omega))⟩
theorem ec.get {w:an}{S:ap}:∀{ps:List er} {cs:aq} {i:Nat} {p:er},ec w S cs ps->ps[i]?=some p->∃fa fn fc,
   cs[i*4]?=some (aa (kS p.oneof))/\cs[i*4+1]?=some (ae (iz p.oneof))/\cs[i*4+2]?=some (aa (kM p.oneof))/\cs[i*4+3]?=some (.slice fa fn fc)/\
   dJ w S 211 13 (.slice fa fn fc) p.fields.length (p.fields.flatMap ox)
 | [],_,_,_,_,h=>by simp at h
 |q::ps,cs,0,p,⟨fa,fn,fc,rest,h1,h2,h3⟩,h=>by
  simp at h;subst h h1;exact⟨fa,fn,fc,rfl,rfl,rfl,rfl,h2⟩
 |q::ps,cs,i+1,p,⟨fa,fn,fc,rest,h1,h2,h3⟩,h=>by
  subst h1;obtain⟨ga,gn,gc,e0,e1,e2,e3,e4⟩:=ec.get h3 (i:=i) (by simpa using h);have e:(i+1)*4=i*4+1+1+1+1:=by omega
  refine⟨ga,gn,gc,?_,?_,?_,?_,e4⟩
  ·rw[e];simpa using e0
  ·rw[show(i+1)*4+1=(i*4+1)+1+1+1+1 from by omega];simpa using e1
  ·rw[show(i+1)*4+2=(i*4+2)+1+1+1+1 from by omega];simpa using e2
  ·rw[show(i+1)*4+3=(i*4+3)+1+1+1+1 from by omega];simpa using e3
def mt (types names:ar)(nums:au)(f:dM):Except Nat (ar×au):=
 pG types names nums f.form (kS f.key) (iz f.key) (kM f.key) (cZ f.type.1) f.type.1 f.type.2 f.name.1 f.name.2 f.num.1 f.num.2
def eF (types:ar):ar->au->List dM->Except Nat (ar×au)
 |names,nums,[]=> .ok (names,nums)
 |names,nums,f::fs=>
  match mt types names nums f with
  | .error p=> .error p
  | .ok (n,m)=>eF types n m fs
def mT (types names:ar)(nums:au)(p:er):Except Nat (ar×au):=
 if kS p.oneof==1 then
  if gA names (iz p.oneof)then .error (kM p.oneof)else eF types (names++ [iz p.oneof]) nums p.fields
 else eF types names nums p.fields
def fw (types:ar):ar->au->List er->Except Nat (ar×au)
 |names,nums,[]=> .ok (names,nums)
 |names,nums,p::ps=>
  match mT types names nums p with
  | .error q=> .error q
  | .ok (n,m)=>fw types n m ps
def ji:List er->Nat
 | []=>0
 |p::ps=>1+p.fields.length+ji ps
theorem sL:∀ps:List er,ps.length<=ji ps
 | []=>ay _
 |p::ps=>by have:=sL ps;simp only[bn,ji];omega
theorem o0 {types names:ar}{nums:au}{f:dM}{n:ar}{m:au}(h:mt types names nums f= .ok (n,m))(Oc:nums.Nodup):
  n.length=names.length+1/\m.length=nums.length+1/\m.Nodup:=by
 unfold mt pG gh at h
 split at h
 ·simp at h
 ·split at h
  ·simp at h
  ·split at h
   ·simp at h
   ·split at h
    ·simp at h
    ·split at h
     ·simp at h
     ·rename_i hb
      simp at h;obtain⟨rfl,rfl⟩:=h;refine⟨by simp,by simp,?_⟩
      have hm:uI nums (fy f.num.1)=false:=by
       unfold oZ at hb;simp at hb;exact hb.2.2
      rw[List.nodup_append];refine⟨Oc,by simp,fun a ha b OP=> ?_⟩;simp at OP;subst OP;rintro rfl;unfold uI at hm;rw[cA]at hm;exact hm _ ha (by simp)
theorem NQ (w:an)(tb:Nat)(types:ar)(eb:Bool)(bk:Int)(bs:am)(bp:Nat)(pa:aw)(pn pc:Nat)(va:aw)(vn vc:Nat)(ps:List er)(pcs:aq)(S:ap)
  (hrow:dJ w S 208 4 (.slice pa pn pc) ps.length pcs) (hps:ec w S pcs ps) (HT:dN w tb types) (hlen:ji ps<=2001) (hnum:∀p∈ps,∀f∈p.fields,gT f.num.1) (hg:GOK w):
  Calls Tryz.prog 124 #[.agg #[.bool eb,aa bk,ae bs,aa bp,.slice pa pn pc,.slice va vn vc],.map (some tb)] w fun e w'=>wK (fw types [] [] ps) e/\aj w w':=by
 have OR:=dR hrow.1;subst OR;have hmm:= @run_makeMap Tryz.prog;have OJ:=HT.lt;have hpl:ps.length<=2001:=aG (sL ps) hlen;have C0:aj w ((((w.alloc (ak #[.bool eb,aa bk,ae bs,aa bp,.slice pa ps.length pc,.slice va vn vc] 152)).alloc (Obj.map #[] 0)).alloc (Obj.map #[] 0)).alloc (ak #[.map (some tb),.map (some (w.heap.size+1)),.map (some (w.heap.size+1+1))] 306)):=((((Below.refl w.heap.size w).alloc (ay _) _).alloc (by simp) _).alloc (by simp;omega) _).alloc (by simp;omega) _
 have M0:dN ((((w.alloc (ak #[.bool eb,aa bk,ae bs,aa bp,.slice pa ps.length pc,.slice va vn vc] 152)).alloc (Obj.map #[] 0)).alloc (Obj.map #[] 0)).alloc (ak #[.map (some tb),.map (some (w.heap.size+1)),.map (some (w.heap.size+1+1))] 306)) (w.heap.size+1) []:=by
  have:=((World.ownsMap_made (w.alloc (ak #[.bool eb,aa bk,ae bs,aa bp,.slice pa ps.length pc,.slice va vn vc] 152)) Tryz.prog 9 (unitElem (H:=Unit))).alloc (Obj.map #[] 0)).alloc (ak #[.map (some tb),.map (some (w.heap.size+1)),.map (some (w.heap.size+1+1))] 306);simpa [dN,setOf]using this
 have M1:eC ((((w.alloc (ak #[.bool eb,aa bk,ae bs,aa bp,.slice pa ps.length pc,.slice va vn vc] 152)).alloc (Obj.map #[] 0)).alloc (Obj.map #[] 0)).alloc (ak #[.map (some tb),.map (some (w.heap.size+1)),.map (some (w.heap.size+1+1))] 306)) (w.heap.size+1+1) []:=by
  have:=(World.ownsMap_made ((w.alloc (ak #[.bool eb,aa bk,ae bs,aa bp,.slice pa ps.length pc,.slice va vn vc] 152)).alloc (Obj.map #[] 0)) Tryz.prog 53 (unitElem (H:=Unit))).alloc (ak #[.map (some tb),.map (some (w.heap.size+1)),.map (some (w.heap.size+1+1))] 306);simpa [eC,setOf]using this
 have K0:de ((((w.alloc (ak #[.bool eb,aa bk,ae bs,aa bp,.slice pa ps.length pc,.slice va vn vc] 152)).alloc (Obj.map #[] 0)).alloc (Obj.map #[] 0)).alloc (ak #[.map (some tb),.map (some (w.heap.size+1)),.map (some (w.heap.size+1+1))] 306)) (w.heap.size+1+1+1) #[.map (some tb),.map (some (w.heap.size+1)),.map (some (w.heap.size+1+1))] 306:=by
  have:=de.new (((w.alloc (ak #[.bool eb,aa bk,ae bs,aa bp,.slice pa ps.length pc,.slice va vn vc] 152)).alloc (Obj.map #[] 0)).alloc (Obj.map #[] 0)) #[.map (some tb),.map (some (w.heap.size+1)),.map (some (w.heap.size+1+1))] 306;simpa using this
 generalize hr:fw types [] [] ps=r;have HR:Hid (fw types [] [] ps=r):=hr;clear hr;go_enter Tryz.func124,Tryz.ntmps124
 go_wp2;go_loopw [16] (fun i wr=>∃(k:Nat) (names:ar) (nums:au),k<=ps.length/\i=aa k/\names.length+ji (ps.drop k)<=2001/\nums.length+ji (ps.drop k)<=2001/\nums.Nodup/\Hid (fw types names nums (ps.drop k)=r)/\dN wr (w.heap.size+1) names/\eC wr (w.heap.size+1+1) nums/\de wr (w.heap.size+1+1+1) #[.map (some tb),.map (some (w.heap.size+1)),.map (some (w.heap.size+1+1))] 306/\aj w wr) (fun i _=>ps.length-(intOf i).toNat)
 case atStart=>exact⟨0,[],[],aM _,rfl,by simpa using hlen,by simpa using hlen,List.nodup_nil,HR,M0,M1,K0,C0⟩
 case round=>
  clear M0 M1 K0 C0;obtain⟨k,names,nums,hk,rfl,Ow,Ox,Oc,HP,HS,HM,KC,CW⟩:=hrel
  by_cases hlt:k<ps.length
  ·obtain⟨p,hp⟩:=gx hlt;have OL:p∈ps:=aI hp
   have N3:ps.drop k=p::ps.drop (k+1):=by
    rw[aU hlt];rw[aJ hlt]at hp;rw[Option.some.inj hp]
   rw[N3]at Ow Ox;simp only[ji]at Ow Ox;have Om:Hid (fw types names nums (p::ps.drop (k+1))=r):=by rw[<-N3];exact HP
   obtain⟨g,rfl,_,OT,Oi⟩:=dE hrow.1 (by omega);obtain⟨fa,fn,fc,p0,p1,p2,p3,OD⟩:=hps.get hp;have OS:=dR OD.1;subst OS;have Oo:=Oi wr (CW.block g OT);have q0:=Oo _ _ p0;have q1:=Oo _ _ p1;have q2:=Oo _ _ p2;have q3:=Oo _ _ p3;have KP:=de.new wr #[aa (kS p.oneof),ae (iz p.oneof),aa (kM p.oneof),.slice fa p.fields.length fc] 208;have CA:=CW.alloc CW.size (ak #[aa (kS p.oneof),ae (iz p.oneof),aa (kM p.oneof),.slice fa p.fields.length fc] 208);have Og:dN (wr.alloc (ak #[aa (kS p.oneof),ae (iz p.oneof),aa (kM p.oneof),.slice fa p.fields.length fc] 208)) (w.heap.size+1) names:=HS.keep (Below.heap_alloc _ _ _ HS.lt);have Oe:eC (wr.alloc (ak #[aa (kS p.oneof),ae (iz p.oneof),aa (kM p.oneof),.slice fa p.fields.length fc] 208)) (w.heap.size+1+1) nums:=HM.keep (Below.heap_alloc _ _ _ HM.lt);have Ob:=KC.alloc (ak #[aa (kS p.oneof),ae (iz p.oneof),aa (kM p.oneof),.slice fa p.fields.length fc] 208);have zc:=KC.lt;obtain⟨c1,c2⟩:=Ob.rules;have Oh:=hnum p OL;clear Oi Oo hp N3 HP OL p0 p1 p2 p3 HS HM KC;obtain⟨rp,Ol⟩:∃rp,Hid (mT types names nums p=rp):=⟨_,rfl⟩
   cases ho:(kS p.oneof==1)
   ·have Od:Hid (eF types names nums p.fields=rp):=by
     have:=Ol.out;unfold mT at this;simp only[ho,aK,if_false]at this;exact this
    go_wp2_with fail
    go_loopw [32] (fun i wr=>∃(j:Nat) (names:ar) (nums:au),j<=p.fields.length/\i=aa j/\names.length+(p.fields.length-j)+ji (ps.drop (k+1))<=2001/\nums.length+(p.fields.length-j)+ji (ps.drop (k+1))<=2001/\nums.Nodup/\Hid (eF types names nums (p.fields.drop j)=rp)/\dN wr (w.heap.size+1) names/\eC wr (w.heap.size+1+1) nums/\de wr (w.heap.size+1+1+1) #[.map (some tb),.map (some (w.heap.size+1)),.map (some (w.heap.size+1+1))] 306/\aj w wr) (fun i _=>p.fields.length-(intOf i).toNat)
    case atStart=>exact⟨0,names,nums,aM _,rfl,by omega,by omega,Oc,Od,Og,Oe,Ob,CA⟩
    case round=>
     clear Og Oe Ob CA Od c1 c2 q0 q1 q2 q3 KP;obtain⟨j,names,nums,hj,rfl,Ow,Ox,Oc,HQ,HS,HM,KC,CW⟩:=hrel
     by_cases hlt2:j<p.fields.length
     ·obtain⟨f,hf⟩:=gx hlt2;have Oq:f∈p.fields:=aI hf
      have N3:p.fields.drop j=f::p.fields.drop (j+1):=by
       rw[aU hlt2];rw[aJ hlt2]at hf;rw[Option.some.inj hf]
      have Ot:Hid (eF types names nums (f::p.fields.drop (j+1))=rp):=by rw[<-N3];exact HQ
      obtain⟨gf,rfl,_,Ok,N8⟩:=dE OD.1 (by omega);have Ou:=N8 wr (CW.block gf Ok);obtain⟨t0,t1,t2,t3,t4,t5,t6,t7,t8,t9,OE,OF,OG⟩:=pH hf Ou;have KF:=de.new wr (FC f) 211;have CA:=CW.alloc CW.size (FO f);have Og:dN (wr.alloc (FO f)) (w.heap.size+1) names:=HS.keep (Below.heap_alloc _ _ _ HS.lt);have Oe:eC (wr.alloc (FO f)) (w.heap.size+1+1) nums:=HM.keep (Below.heap_alloc _ _ _ HM.lt);have Oy:dN (wr.alloc (FO f)) tb types:=HT.keep (CA.block _ OJ);have Oz:GOK (wr.alloc (FO f)):=hg.keep (CA.block _ hg.lt);have Ob:=KC.alloc (FO f);have zc:=KC.lt;obtain⟨c1,c2⟩:=Ob.rules;have Oj:=Oh f Oq;clear N8 Ou hf N3 HQ Oq HS HM KC;go_wp2_with fail
      clear t0 t1 t2 t3 t4 t5 t6 t7 t8 t9 OE OF OG c1 c2;refine(Ns _ tb (w.heap.size+1) (w.heap.size+1+1) types names nums _ _ _ _ _ _ _ _ _ _ _ _ _ Oy Og Oe (by omega) (by have:=hg.lt;omega) (by omega) (by omega) Oc Oj Oz).mono ?_
      cases h5:mt types names nums f with
      |error q=>
       have h6:pG types names nums f.form (kS f.key) (iz f.key) (kM f.key) (cZ f.type.1) f.type.1 f.type.2 f.name.1 f.name.2 f.num.1 f.num.2= .error q:=h5;rw[h6];rintro e w5 ⟨rfl,Of⟩;obtain rfl:rp= .error q:=by rw[<-Ot.out,eF,h5]
       obtain rfl:r= .error q:=by rw[<-Om.out,fw,Ol.out]
       unfold da;go_wp2;exact⟨rfl,rfl,CA.trans (Of.to_below CA.size (by intro x hx;simp at hx;omega))⟩
      |ok nm=>
       obtain⟨N2,Oa⟩:=nm;have h6:pG types names nums f.form (kS f.key) (iz f.key) (kM f.key) (cZ f.type.1) f.type.1 f.type.2 f.name.1 f.name.2 f.num.1 f.num.2= .ok (N2,Oa):=h5;rw[h6];rintro e w5 ⟨rfl,OH,OI,Of⟩;obtain⟨l1,l2,l3⟩:=o0 h5 Oc
       have OA:Hid (eF types N2 Oa (p.fields.drop (j+1))=rp):=by
        have:=Ot.out;rw[eF,h5]at this;exact this
       have C5:aj w w5:=CA.trans (Of.to_below CA.size (by intro x hx;simp at hx;omega));have OB:de w5 (w.heap.size+1+1+1) #[.map (some tb),.map (some (w.heap.size+1)),.map (some (w.heap.size+1+1))] 306:=(Of.block _ Ob.lt (by simp;omega)).trans Ob;go_wp2;go_roundw
       case rel=>exact⟨j+1,N2,Oa,by omega,by go_num,by omega,by omega,l3,OA,OH,OI,OB,C5⟩
       case measure=>simp[intOf];omega
     ·have N7:p.fields.drop j= []:=by rw[cq];omega
      obtain rfl:rp= .ok (names,nums):=by rw[<-HQ.out,N7];rfl
      have OC:Hid (fw types names nums (ps.drop (k+1))=r):=by
       have:=Om.out;rw[fw,Ol.out]at this;exact this
      clear N7;go_wp2;go_roundw
      case rel=>exact⟨k+1,names,nums,by omega,by go_num,by omega,by omega,Oc,OC,HS,HM,KC,CW⟩
      case measure=>simp[intOf];omega
   ·go_wp2_with fail
    refine(Ly _ (w.heap.size+1) names _ _ _ Og (by omega)).mono ?_
    cases h1:gA names (iz p.oneof)
    rotate_left
    ·rintro e w4 ⟨rfl,OU⟩
     obtain rfl:r= .error (kM p.oneof):=by
      rw[<-Om.out,fw,mT];simp only[ho,h1,if_true]
     unfold da;go_wp2;exact⟨rfl,rfl,CA.trans (OU.mono CA.size)⟩
    rintro e w4 ⟨rfl,OQ,Ov⟩
    have Od:Hid (eF types (names++ [iz p.oneof]) nums p.fields=rp):=by
     have:=Ol.out;unfold mT at this;simp only[ho,h1,aK,if_true,if_false]at this;exact this
    have C4:aj w w4:=CA.trans (Ov.to_below CA.size (by intro x hx;simp at hx;omega));have OM:de w4 (w.heap.size+1+1+1) #[.map (some tb),.map (some (w.heap.size+1)),.map (some (w.heap.size+1+1))] 306:=(Ov.block _ Ob.lt (by simp;omega)).trans Ob;have ON:de w4 wr.heap.size #[aa (kS p.oneof),ae (iz p.oneof),aa (kM p.oneof),.slice fa p.fields.length fc] 208:=(Ov.block _ KP.lt (by simp;omega)).trans KP;have OO:eC w4 (w.heap.size+1+1) nums:=Oe.keep (Ov.block _ Oe.lt (by simp));obtain⟨y1,y2⟩:=ON.rules;clear c1 c2 q0 q1 q2 q3;go_wp2_with fail
    go_loopw [32] (fun i wr=>∃(j:Nat) (names:ar) (nums:au),j<=p.fields.length/\i=aa j/\names.length+(p.fields.length-j)+ji (ps.drop (k+1))<=2001/\nums.length+(p.fields.length-j)+ji (ps.drop (k+1))<=2001/\nums.Nodup/\Hid (eF types names nums (p.fields.drop j)=rp)/\dN wr (w.heap.size+1) names/\eC wr (w.heap.size+1+1) nums/\de wr (w.heap.size+1+1+1) #[.map (some tb),.map (some (w.heap.size+1)),.map (some (w.heap.size+1+1))] 306/\aj w wr) (fun i _=>p.fields.length-(intOf i).toNat)
    case atStart=>exact⟨0,names++ [iz p.oneof],nums,aM _,rfl,by simp;omega,by omega,Oc,Od,OQ,OO,OM,C4⟩
    case round=>
     clear Og Oe Ob CA Od y1 y2 ON OM OO OQ C4 Ov KP;obtain⟨j,names,nums,hj,rfl,Ow,Ox,Oc,HQ,HS,HM,KC,CW⟩:=hrel
     by_cases hlt2:j<p.fields.length
     ·obtain⟨f,hf⟩:=gx hlt2;have Oq:f∈p.fields:=aI hf
      have N3:p.fields.drop j=f::p.fields.drop (j+1):=by
       rw[aU hlt2];rw[aJ hlt2]at hf;rw[Option.some.inj hf]
      have Ot:Hid (eF types names nums (f::p.fields.drop (j+1))=rp):=by rw[<-N3];exact HQ
      obtain⟨gf,rfl,_,Ok,N8⟩:=dE OD.1 (by omega);have Ou:=N8 wr (CW.block gf Ok);obtain⟨t0,t1,t2,t3,t4,t5,t6,t7,t8,t9,OE,OF,OG⟩:=pH hf Ou;have KF:=de.new wr (FC f) 211;have CA:=CW.alloc CW.size (FO f);have Og:dN (wr.alloc (FO f)) (w.heap.size+1) names:=HS.keep (Below.heap_alloc _ _ _ HS.lt);have Oe:eC (wr.alloc (FO f)) (w.heap.size+1+1) nums:=HM.keep (Below.heap_alloc _ _ _ HM.lt);have Oy:dN (wr.alloc (FO f)) tb types:=HT.keep (CA.block _ OJ);have Oz:GOK (wr.alloc (FO f)):=hg.keep (CA.block _ hg.lt);have Ob:=KC.alloc (FO f);have zc:=KC.lt;obtain⟨c1,c2⟩:=Ob.rules;have Oj:=Oh f Oq;clear N8 Ou hf N3 HQ Oq HS HM KC;go_wp2_with fail
      clear t0 t1 t2 t3 t4 t5 t6 t7 t8 t9 OE OF OG c1 c2;refine(Ns _ tb (w.heap.size+1) (w.heap.size+1+1) types names nums _ _ _ _ _ _ _ _ _ _ _ _ _ Oy Og Oe (by omega) (by have:=hg.lt;omega) (by omega) (by omega) Oc Oj Oz).mono ?_
      cases h5:mt types names nums f with
      |error q=>
       have h6:pG types names nums f.form (kS f.key) (iz f.key) (kM f.key) (cZ f.type.1) f.type.1 f.type.2 f.name.1 f.name.2 f.num.1 f.num.2= .error q:=h5;rw[h6];rintro e w5 ⟨rfl,Of⟩;obtain rfl:rp= .error q:=by rw[<-Ot.out,eF,h5]
       obtain rfl:r= .error q:=by rw[<-Om.out,fw,Ol.out]
       unfold da;go_wp2;exact⟨rfl,rfl,CA.trans (Of.to_below CA.size (by intro x hx;simp at hx;omega))⟩
      |ok nm=>
       obtain⟨N2,Oa⟩:=nm;have h6:pG types names nums f.form (kS f.key) (iz f.key) (kM f.key) (cZ f.type.1) f.type.1 f.type.2 f.name.1 f.name.2 f.num.1 f.num.2= .ok (N2,Oa):=h5;rw[h6];rintro e w5 ⟨rfl,OH,OI,Of⟩;obtain⟨l1,l2,l3⟩:=o0 h5 Oc
       have OA:Hid (eF types N2 Oa (p.fields.drop (j+1))=rp):=by
        have:=Ot.out;rw[eF,h5]at this;exact this
       have C5:aj w w5:=CA.trans (Of.to_below CA.size (by intro x hx;simp at hx;omega));have OB:de w5 (w.heap.size+1+1+1) #[.map (some tb),.map (some (w.heap.size+1)),.map (some (w.heap.size+1+1))] 306:=(Of.block _ Ob.lt (by simp;omega)).trans Ob;go_wp2;go_roundw
       case rel=>exact⟨j+1,N2,Oa,by omega,by go_num,by omega,by omega,l3,OA,OH,OI,OB,C5⟩
       case measure=>simp[intOf];omega
     ·have N7:p.fields.drop j= []:=by rw[cq];omega
      obtain rfl:rp= .ok (names,nums):=by rw[<-HQ.out,N7];rfl
      have OC:Hid (fw types names nums (ps.drop (k+1))=r):=by
       have:=Om.out;rw[fw,Ol.out]at this;exact this
      clear N7;go_wp2;go_roundw
      case rel=>exact⟨k+1,names,nums,by omega,by go_num,by omega,by omega,Oc,OC,HS,HM,KC,CW⟩
      case measure=>simp[intOf];omega
  ·have N7:ps.drop k= []:=by rw[cq];omega
   obtain rfl:r= .ok (names,nums):=by rw[<-HP.out,N7];rfl
   clear N7;go_wp2;go_end0;exact⟨rfl,CW⟩
theorem dU.get {w:an}{S:ap}:∀{bs:List dh} {cs:aq} {i:Nat} {b:dh},dU w S cs bs->bs[i]?=some b->∃pa pn pc va vn vc,
   cs[i*6+0]?=some (.bool b.enum)/\cs[i*6+1]?=some (aa (cZ b.name.1))/\cs[i*6+2]?=some (ae b.name.1)/\cs[i*6+3]?=some (aa b.name.2)/\cs[i*6+4]?=some (.slice pa pn pc)/\cs[i*6+5]?=some (.slice va vn vc)/\im w S b (.slice pa pn pc) (.slice va vn vc)
 | [],_,_,_,_,h=>by simp at h
 |q::bs,cs,0,b,⟨pa,pn,pc,va,vn,vc,rest,h1,h2,h3⟩,h=>by
  simp at h;subst h h1;exact⟨pa,pn,pc,va,vn,vc,rfl,rfl,rfl,rfl,rfl,rfl,h2⟩
 |q::bs,cs,i+1,b,⟨pa,pn,pc,va,vn,vc,rest,h1,h2,h3⟩,h=>by
  subst h1;obtain⟨OI,OJ,OL,OM,ON,OO,e0,e1,e2,e3,e4,e5,e6⟩:=dU.get h3 (i:=i) (by simpa using h);refine⟨OI,OJ,OL,OM,ON,OO,?_,?_,?_,?_,?_,?_,e6⟩
  ·rw[show(i+1)*6+0=(i*6+0)+1+1+1+1+1+1 from by omega];simpa using e0
  ·rw[show(i+1)*6+1=(i*6+1)+1+1+1+1+1+1 from by omega];simpa using e1
  ·rw[show(i+1)*6+2=(i*6+2)+1+1+1+1+1+1 from by omega];simpa using e2
  ·rw[show(i+1)*6+3=(i*6+3)+1+1+1+1+1+1 from by omega];simpa using e3
  ·rw[show(i+1)*6+4=(i*6+4)+1+1+1+1+1+1 from by omega];simpa using e4
  ·rw[show(i+1)*6+5=(i*6+5)+1+1+1+1+1+1 from by omega];simpa using e5
structure mw (b:dh):Prop where
 name:b.name.1.size<=2000
 vals:b.values.length<=2001
 vnum:∀v∈b.values,gT v.2.1
 parts:ji b.parts<=2001
 fnum:∀p∈b.parts,∀f∈p.fields,gT f.num.1
def ey (types:ar):ar->Nat->List dh->Except Nat Unit
 |_,_,[]=> .ok ()
 |names,m,b::bs=>
  if gA names b.name.1 then .error b.name.2
  else if b.enum then
   match jJ [] b.values with
   | .error p=> .error p
   | .ok _=>ey types (names++ [b.name.1]) m bs
  else if decide (6<m+1)then .error b.name.2
  else
   match fw types [] [] b.parts with
   | .error p=> .error p
   | .ok _=>ey types (names++ [b.name.1]) (m+1) bs
def ez (bs:List dh):ar:=bs.map fun b=>b.name.1
theorem NR (w:an)(ta:aw)(tn tc:Nat)(bs:List dh)(cs:aq)(S:ap)(hrow:dJ w S 152 6 (.slice ta tn tc) bs.length cs)(hbs:dU w S cs bs)(hlen:bs.length<=2001)(hok:∀b∈bs,mw b):
  Calls Tryz.prog 120 #[.agg #[.slice ta tn tc]] w fun e w'=>e= .returned (.map (some (w.heap.size+1)))/\dN w' (w.heap.size+1) (ez bs)/\aj w w':=by
 have Oo:=dR hrow.1;subst Oo;have OE:= @run_makeMap Tryz.prog;have C0:aj w ((w.alloc (ak #[.slice ta bs.length tc] 87)).alloc (Obj.map #[] 0)):=((Below.refl w.heap.size w).alloc (ay _) _).alloc (by simp) _
 have M0:dN ((w.alloc (ak #[.slice ta bs.length tc] 87)).alloc (Obj.map #[] 0)) (w.heap.size+1) []:=by
  have:=World.ownsMap_made (w.alloc (ak #[.slice ta bs.length tc] 87)) Tryz.prog 9 (unitElem (H:=Unit));simpa [dN,setOf]using this
 go_enter Tryz.func120,Tryz.ntmps120
 go_wp2;go_loopw [10] (fun i wr=>∃(k:Nat),k<=bs.length/\i=aa k/\dN wr (w.heap.size+1) (ez (bs.take k))/\aj w wr) (fun i _=>bs.length-(intOf i).toNat)
 case atStart=>exact⟨0,aM _,rfl,M0,C0⟩
 case round=>
  clear M0 C0;obtain⟨k,hk,rfl,HS,CW⟩:=hrel
  by_cases hlt:k<bs.length
  ·obtain⟨b,hb⟩:=gx hlt;have Oc:=hok b (aI hb);obtain⟨g,rfl,_,OA,N2⟩:=dE hrow.1 (by omega);obtain⟨pa,pn,pc,va,vn,vc,p0,p1,p2,p3,p4,p5,Ol⟩:=hbs.get hb;have N3:=N2 wr (CW.block g OA);rw[Nat.add_zero]at p0;have q0:=N3 _ _ p0;have q1:=N3 _ _ p1;have q2:=N3 _ _ p2;have q3:=N3 _ _ p3;have q4:=N3 _ _ p4;have q5:=N3 _ _ p5;have KB:=de.new wr #[.bool b.enum,aa (cZ b.name.1),ae b.name.1,aa b.name.2,.slice pa pn pc,.slice va vn vc] 152;have CA:=CW.alloc CW.size (ak #[.bool b.enum,aa (cZ b.name.1),ae b.name.1,aa b.name.2,.slice pa pn pc,.slice va vn vc] 152);clear N2 N3 p0 p1 p2 p3 p4 p5
   have HL:Hid (ez (bs.take (k+1))=ez (bs.take k)++ [b.name.1]):=by
    unfold Hid ez;rw[bu,hb];simp
   have Oi:dN (wr.alloc (ak #[.bool b.enum,aa (cZ b.name.1),ae b.name.1,aa b.name.2,.slice pa pn pc,.slice va vn vc] 152)) (w.heap.size+1) (ez (bs.take k)):=HS.keep (Below.heap_alloc _ _ _ HS.lt)
   have OF:(ez (bs.take k)).length<maxLen:=by
    unfold ez maxLen;rw[aV,be];omega
   have hsz:b.name.1.size<=maxLen:=by have:=Oc.name;unfold maxLen;omega
   clear hb Ol;go_wp2_with fail
   clear q0 q1 q2 q3 q4 q5;refine(Nn _ (w.heap.size+1) _ b.name.1 Oi OF hsz).mono ?_;rintro e w4 ⟨rfl,Oe,Og⟩;have C4:aj w w4:=CA.trans (Og.to_below CA.size (by intro x hx;simp at hx;omega));go_wp2;go_roundw
   case rel=>exact⟨k+1,by omega,by go_num,by rw[HL.out];exact Oe,C4⟩
   case measure=>simp[intOf];omega
  ·have HL:Hid (bs.take k=bs):=bY (by omega);go_wp2;go_ret;refine⟨rfl,?_,CW⟩;rw[HL.out]at HS;exact HS
theorem NS (w:an)(ta:aw)(tn tc:Nat)(bs:List dh)(cs:aq)(S:ap)(hrow:dJ w S 152 6 (.slice ta tn tc) bs.length cs)(hbs:dU w S cs bs)(hlen:bs.length<=2001)(hok:∀b∈bs,mw b)(hg:GOK w):
  Calls Tryz.prog 71 #[.agg #[.slice ta tn tc]] w fun e w'=>wK (ey (ez bs) [] 0 bs) e/\aj w w':=by
 have Oo:=dR hrow.1;subst Oo;have OE:= @run_makeMap Tryz.prog;obtain⟨B0,K0⟩:=di w #[.slice ta bs.length tc] 87;have N8:dJ (w.alloc (ak #[.slice ta bs.length tc] 87)) S 152 6 (.slice ta bs.length tc) bs.length cs:=hrow.keep (fun b _ hb=>Below.heap_alloc _ _ _ hb);have Of:dU (w.alloc (ak #[.slice ta bs.length tc] 87)) S cs bs:=hbs.keep (fun b _ hb=>Below.heap_alloc _ _ _ hb);obtain⟨types,OD⟩:∃t,Hid (ez bs=t):=⟨_,rfl⟩;rw[OD.out];generalize hr:ey types [] 0 bs=r;have HR:Hid (ey types [] 0 bs=r):=hr;clear hr;go_enter Tryz.func71,Tryz.ntmps71
 go_wp2_with fail
 refine(NR _ ta bs.length tc bs cs S N8 Of hlen hok).mono ?_;rw[OD.out];rintro e w2 ⟨rfl,Om,OB⟩;have C2:aj w w2:=B0.trans (OB.mono (by simp));have K2:=(K0.below OB K0.lt).alloc (Obj.map #[] 0);have zt:w.heap.size+1+1<w2.heap.size:=by have:=Om.lt;simp at this;omega
 have Oq:dN (w2.alloc (Obj.map #[] 0)) (w.heap.size+1+1) types:=by
  have:=Om.keep (w':=(w2.alloc (Obj.map #[] 0))) (Below.heap_alloc _ _ _ Om.lt);simpa using this
 have HTlt:=Oq.lt;have C3:aj w (w2.alloc (Obj.map #[] 0)):=C2.alloc C2.size _
 have M3:dN (w2.alloc (Obj.map #[] 0)) w2.heap.size []:=by
  have:=World.ownsMap_made w2 Tryz.prog 9 (unitElem (H:=Unit));simpa [dN,setOf]using this
 have esz:∀o,(w.alloc o).heap.size=w.heap.size+1:=by simp
 obtain⟨k1,k2⟩:=K2.rules;clear K0 N8 Of Om OB B0 C2;go_wp2;clear k1 k2;go_loopw [4,13] (fun m i wr=>∃(k cnt:Nat) (names:ar),k<=bs.length/\i=aa k/\m=aa cnt/\cnt<=k/\names.length<=k/\Hid (ey types names cnt (bs.drop k)=r)/\dN wr w2.heap.size names/\dN wr (w.heap.size+1+1) types/\aj w wr) (fun _ i _=>bs.length-(intOf i).toNat)
 case atStart=>exact⟨0,0,[],aM _,rfl,rfl,ay _,by simp,HR,M3,Oq,C3⟩
 case round=>
  clear M3 Oq C3 HR;obtain⟨k,cnt,names,hk,rfl,rfl,hcnt,hnl,HP,HS,HT,CW⟩:=hrel
  by_cases hlt:k<bs.length
  ·obtain⟨b,hb⟩:=gx hlt;have Oc:=hok b (aI hb)
   have Oa:bs.drop k=b::bs.drop (k+1):=by
    rw[aU hlt];rw[aJ hlt]at hb;rw[Option.some.inj hb]
   have Od:Hid (ey types names cnt (b::bs.drop (k+1))=r):=by rw[<-Oa];exact HP
   obtain⟨g,rfl,_,OA,N2⟩:=dE hrow.1 (by omega);obtain⟨pa,pn,pc,va,vn,vc,p0,p1,p2,p3,p4,p5,Ol⟩:=hbs.get hb;have N3:=N2 wr (CW.block g OA);rw[Nat.add_zero]at p0;have q0:=N3 _ _ p0;have q1:=N3 _ _ p1;have q2:=N3 _ _ p2;have q3:=N3 _ _ p3;have q4:=N3 _ _ p4;have q5:=N3 _ _ p5;have KB:=de.new wr #[.bool b.enum,aa (cZ b.name.1),ae b.name.1,aa b.name.2,.slice pa pn pc,.slice va vn vc] 152;have CA:=CW.alloc CW.size (ak #[.bool b.enum,aa (cZ b.name.1),ae b.name.1,aa b.name.2,.slice pa pn pc,.slice va vn vc] 152);clear N2 N3 p0 p1 p2 p3 p4 p5;have Oi:dN (wr.alloc (ak #[.bool b.enum,aa (cZ b.name.1),ae b.name.1,aa b.name.2,.slice pa pn pc,.slice va vn vc] 152)) w2.heap.size names:=HS.keep (Below.heap_alloc _ _ _ HS.lt);have Ot:dN (wr.alloc (ak #[.bool b.enum,aa (cZ b.name.1),ae b.name.1,aa b.name.2,.slice pa pn pc,.slice va vn vc] 152)) (w.heap.size+1+1) types:=HT.keep (Below.heap_alloc _ _ _ HT.lt);have z1:=HS.lt;clear hb Oa HP HS HT;go_wp2_with fail
   clear q0 q1 q2 q3 q4 q5;refine(Ly _ w2.heap.size names _ _ _ Oi (by omega)).mono ?_
   cases h1:gA names b.name.1
   rotate_left
   ·rintro e w4 ⟨rfl,OP⟩;obtain rfl:r= .error b.name.2:=by rw[<-Od.out,ey];simp only[h1,if_true]
    unfold da;go_wp2;exact⟨rfl,rfl,CA.trans (OP.mono CA.size)⟩
   rintro e w4 ⟨rfl,Oe,Og⟩;have C4:aj w w4:=CA.trans (Og.to_below CA.size (by intro x hx;simp at hx;omega));have Oj:de w4 wr.heap.size #[.bool b.enum,aa (cZ b.name.1),ae b.name.1,aa b.name.2,.slice pa pn pc,.slice va vn vc] 152:=(Og.block _ KB.lt (by simp;omega)).trans KB;have Ok:dN w4 (w.heap.size+1+1) types:=Ot.keep (Og.block _ Ot.lt (by simp;omega));have Ou:=Ol.keep (w':=w4) (fun c _ hc=>C4.block c hc);have Ov:GOK w4:=hg.keep (C4.block _ hg.lt);have z4:=Oj.lt;obtain⟨OQ,OR,OS,OT⟩:=Ou;clear KB Oi Ot CA Ol;obtain⟨k1,k2⟩:=Oj.rules
   cases hen:b.enum
   ·cases h3:decide (6<cnt+1)
    rotate_left
    ·have hd:(6:Int)<(cnt:Int)+1:=by have:=of_decide_eq_true h3;omega
     obtain rfl:r= .error b.name.2:=by rw[<-Od.out,ey];simp only[h1,hen,h3,aK,if_true,if_false]
     go_wp2_with fail
     refine(iD _ _ b.name.1 b.name.2).mono ?_;rintro e w5 ⟨rfl,N7⟩;unfold da;go_wp2;exact⟨rfl,rfl,C4.trans (N7.mono C4.size)⟩
    have hd:decide ((6:Int)<(cnt:Int)+1)=false:=by have:=of_decide_eq_false h3;simp;omega
    go_wp2_with fail
    refine(mS _ _ b.name.1 b.name.2).mono ?_;rintro e w5 ⟨rfl,N7⟩;clear k1 k2 hd;have C5:=C4.trans (N7.mono C4.size);have OG:=Oj.below N7 Oj.lt;have Ow:=Ok.keep (N7.block _ Ok.lt);have OC:=Oe.keep (N7.block _ Oe.lt);have Ox:=OR.keep (w':=w5) (fun c _ hc=>N7.block c hc);have Oy:=OS.keep (w':=w5) (fun c _ hc=>N7.block c hc);have OH:=Ov.keep (N7.block _ Ov.lt);obtain⟨k1,k2⟩:=OG.rules;go_wp2_with fail
    clear k1 k2;refine(NQ _ (w.heap.size+1+1) types _ _ _ _ pa pn pc va vn vc b.parts OQ S Ox Oy Ow Oc.parts Oc.fnum OH).mono ?_
    cases h2:fw types [] [] b.parts with
    |error p=>
     rintro e w6 ⟨he,Oh⟩;obtain rfl:e=da 3 p:=he;obtain rfl:r= .error p:=by rw[<-Od.out,ey];simp only[h1,hen,h2,h3,aK,if_false]
     unfold da;go_wp2;exact⟨rfl,rfl,C5.trans (Oh.mono C5.size)⟩
    |ok nn=>
     rintro e w6 ⟨he,Oh⟩;obtain rfl:e= .returned (.tuple #[]):=he
     have Oz:Hid (ey types (names++ [b.name.1]) (cnt+1) (bs.drop (k+1))=r):=by
      have:=Od.out;rw[ey]at this;simp only[h1,hen,h2,h3,aK,if_false]at this;exact this
     go_wp2;go_roundw
     case rel=>exact⟨k+1,cnt+1,names++ [b.name.1],by omega,by go_num,by go_num,by omega,by simp;omega,Oz,OC.keep (Oh.block _ OC.lt),Ow.keep (Oh.block _ Ow.lt),C5.trans (Oh.mono C5.size)⟩
     case measure=>simp[intOf];omega
   ·go_wp2_with fail
    clear k1 k2;refine(NP _ _ _ _ _ _ _ _ va vn vc b.values OT.1 Oc.vals Oc.vnum Ov).mono ?_
    cases h2:jJ [] b.values with
    |error p=>
     rintro e w5 ⟨he,N7⟩;obtain rfl:e=da 3 p:=he;obtain rfl:r= .error p:=by rw[<-Od.out,ey];simp only[h1,hen,h2,aK,if_true,if_false]
     unfold da;go_wp2;exact⟨rfl,rfl,C4.trans (N7.mono C4.size)⟩
    |ok nn=>
     rintro e w5 ⟨he,N7⟩;obtain rfl:e= .returned (.tuple #[]):=he
     have Oz:Hid (ey types (names++ [b.name.1]) cnt (bs.drop (k+1))=r):=by
      have:=Od.out;rw[ey]at this;simp only[h1,hen,h2,aK,if_true,if_false]at this;exact this
     go_wp2;go_roundw
     case rel=>exact⟨k+1,cnt,names++ [b.name.1],by omega,by go_num,rfl,by omega,by simp;omega,Oz,Oe.keep (N7.block _ Oe.lt),Ok.keep (N7.block _ Ok.lt),C4.trans (N7.mono C4.size)⟩
     case measure=>simp[intOf];omega
  ·have Ob:bs.drop k= []:=by rw[cq];omega
   obtain rfl:r= .ok ():=by rw[<-HP.out,Ob];rfl
   clear Ob;go_wp2;go_end0;exact⟨rfl,CW⟩
end
structure qu (ws:List W):Prop where
 few:ws.length<=2001
 size:∀(k:Nat) (x:W),ws[k]?=some x->x.1.size<=2000
 num:∀(k:Nat) (x:W),ws[k]?=some x->cZ x.1=2->gT x.1
def Le {α:Type}(ws:List W)(r:mg α):Prop:=∀a j,r= .ok (a,j)->j<=ws.length
theorem vh {ws:List W}{i:Nat}{x:W}(h:ws[i]?=some x):i<ws.length:=by
 by_cases hi:i<ws.length
 ·exact hi
 ·rw[aQ (by omega)]at h;cases h
theorem lE (ws:List W)(s:List UInt8)(i:Nat):Le ws (eQ ws s i):=fun a j h=>by
 obtain⟨h1,x,h2,_⟩:=dY _ _ _ _ _ h;have:=vh h2;omega
theorem wL {ws:List W}(H:qu ws){i:Nat}{nm:W×W}{j:Nat}(h:kN ws i= .ok (nm,j)):gT nm.2.1/\i+4<=j/\j<=ws.length:=by
 unfold kN at h;obtain⟨_,i1,h1,h⟩:=dg h;obtain⟨_,i2,h2,h⟩:=dg h;obtain⟨_,i3,h3,h⟩:=dg h;obtain⟨_,i4,h4,h⟩:=dg h;have a1:=(gd _ _ _ _ _ h1).1;have a2:=(dY _ _ _ _ _ h2).1;have a3:=gd _ _ _ _ _ h3;have a4:=(dY _ _ _ _ _ h4).1;have a5:=lE _ _ _ _ _ h4;simp at h;obtain⟨rfl,rfl⟩:=h;exact⟨H.num _ _ a3.2.1 a3.2.2,by omega,a5⟩
theorem lF {ws:List W}(H:qu ws){form:Int}{i:Nat}{f:dM}{j:Nat}(h:ee ws form i= .ok (f,j)):gT f.num.1/\i+5<=j/\j<=ws.length:=by
 unfold ee at h;obtain⟨t,i1,h1,h⟩:=dg h;obtain⟨nm,i2,h2,h⟩:=dg h;have a1:=(ju _ _ _ _ h1).1;have a2:=wL H h2;simp at h;obtain⟨rfl,rfl⟩:=h;exact⟨a2.1,by omega,a2.2.2⟩
theorem Hg {ws:List W}(H:qu ws){i:Nat}{f:dM}{j:Nat}(h:kO ws i= .ok (f,j)):gT f.num.1/\i+5<=j/\j<=ws.length:=by
 unfold kO at h;obtain⟨_,i1,h1,h⟩:=dg h;obtain⟨_,i2,h2,h⟩:=dg h;obtain⟨_,i3,h3,h⟩:=dg h;obtain⟨_,i4,h4,h⟩:=dg h;obtain⟨_,i5,h5,h⟩:=dg h;obtain⟨_,i6,h6,h⟩:=dg h;obtain⟨_,i7,h7,h⟩:=dg h;have a1:=(dY _ _ _ _ _ h1).1;have a2:=(dY _ _ _ _ _ h2).1;have a3:=(ju _ _ _ _ h3).1;have a4:=(dY _ _ _ _ _ h4).1;have a5:=(ju _ _ _ _ h5).1;have a6:=(dY _ _ _ _ _ h6).1;have a7:=wL H h7;simp at h;obtain⟨rfl,rfl⟩:=h;exact⟨a7.1,by omega,a7.2.2⟩
theorem mU {α:Type}{stop:Nat->Bool}{p:Nat->mg α}{Q:α->Prop}{wt:α->Nat}{N:Nat}(hp:∀i a j,p i= .ok (a,j)->Q a/\i+wt a<=j/\j<=N):
  ∀n i l j,i<=N->fk stop p n i= .ok (l,j)->(∀a∈l,Q a)/\i+(l.map wt).sum<=j/\j<=N
 |0,i,l,j,hi,h=>by simp[fk]at h;obtain⟨rfl,rfl⟩:=h;simp;exact hi
 |n+1,i,l,j,hi,h=>by
  unfold fk at h
  split at h
  ·simp at h;obtain⟨rfl,rfl⟩:=h;simp;exact hi
  ·obtain⟨a,i1,h1,h⟩:=dg h;obtain⟨l',i2,h2,h⟩:=dg h;have a1:=hp _ _ _ h1;have a2:=mU hp n i1 l' i2 a1.2.2 h2;simp at h;obtain⟨rfl,rfl⟩:=h;refine⟨?_,?_,a2.2.2⟩
   ·intro x hx
    rcases aL.1 hx with rfl|hx
    ·exact a1.1
    ·exact a2.1 x hx
   ·simp only[br,List.sum_cons];omega
theorem wM {α:Type}(l:List α):(l.map fun _=>1).sum=l.length:=by
 induction l with
 |nil=>rfl
 |cons a l ih=>simp only[br,List.sum_cons,ih,bn];omega
theorem Ej (ps:List er):(ps.map fun p=>1+p.fields.length).sum=ji ps:=by
 induction ps with
 |nil=>rfl
 |cons p ps ih=>simp only[br,List.sum_cons,ih,ji]
def wN (p:er):Prop:=∀f∈p.fields,gT f.num.1
theorem CZ {ws:List W}(H:qu ws){i:Nat}{p:er}{j:Nat}(h:gp ws i= .ok (p,j)):wN p/\i+(1+p.fields.length)<=j/\j<=ws.length:=by
 unfold gp at h;obtain⟨_,i1,h1,h⟩:=dg h;obtain⟨_,i2,h2,h⟩:=dg h;obtain⟨_,i3,h3,h⟩:=dg h;obtain⟨f,i4,h4,h⟩:=dg h;obtain⟨l,i5,h5,h⟩:=dg h;obtain⟨_,i6,h6,h⟩:=dg h;obtain⟨l',i7,h7,h8⟩:=dg h5;have a1:=(dY _ _ _ _ _ h1).1;have a2:=(gd _ _ _ _ _ h2).1;have a3:=(dY _ _ _ _ _ h3).1;have a4:=lF H h4;have a7:=mU (Q:=fun f=>gT f.num.1) (wt:=fun _=>1) (N:=ws.length) (fun i a j h=>by have:=lF H h;exact⟨this.1,by omega,this.2.2⟩) _ _ _ _ a4.2.2 h7;have a6:=(dY _ _ _ _ _ h6).1;have a9:=lE _ _ _ _ _ h6;have e8:=Except.ok.inj h8;have e9:=Except.ok.inj h
 cases e9
 cases e8
 rw[wM]at a7;refine⟨?_,?_,a9⟩
 ·intro x hx
  rcases aL.1 hx with rfl|hx
  ·exact a4.1
  ·exact a7.1 x hx
 ·simp only[aH,bn,cy];omega
theorem Ek {ws:List W}(H:qu ws){i:Nat}{p:er}{j:Nat}(h:kX ws i= .ok (p,j)):wN p/\i+(1+p.fields.length)<=j/\j<=ws.length:=by
 have al:∀(k:Nat) (r:mg dM),i<=k->(∀f j,r= .ok (f,j)->gT f.num.1/\k+5<=j/\j<=ws.length)->fo r= .ok (p,j)->wN p/\i+(1+p.fields.length)<=j/\j<=ws.length:=by
  intro k r hk hr h;obtain⟨f,i1,h1,h⟩:=dg h;have:=hr _ _ h1;simp at h;obtain⟨rfl,rfl⟩:=h;refine⟨fun x hx=> ?_,by simp;omega,this.2.2⟩;simp at hx;subst hx;exact this.1
 unfold kX at h
 split at h
 ·exact CZ H h
 ·split at h
  ·exact al i _ (ay _) (fun f j h=>Hg H h) h
  ·split at h
   ·exact al (i+1) _ (bE _) (fun f j h=>lF H h) h
   ·split at h
    ·exact al (i+1) _ (bE _) (fun f j h=>lF H h) h
    ·exact al i _ (ay _) (fun f j h=>lF H h) h
theorem C7 {ws:List W}(H:qu ws){i:Nat}{b:dh}{j:Nat}(h:jg ws i= .ok (b,j)):mw b/\i+1<=j/\j<=ws.length:=by
 have few:=H.few;unfold jg at h
 split at h
 ·unfold jP at h;obtain⟨_,i1,h1,h⟩:=dg h;obtain⟨nm,i2,h2,h⟩:=dg h;obtain⟨_,i3,h3,h⟩:=dg h;obtain⟨l,i4,h4,h⟩:=dg h;obtain⟨_,i5,h5,h⟩:=dg h;have a1:=(dY _ _ _ _ _ h1).1;have a2:=gd _ _ _ _ _ h2;have a3:=(dY _ _ _ _ _ h3).1;have b3:=lE _ _ _ _ _ h3;have a4:=mU (Q:=fun v:W×W=>gT v.2.1) (wt:=fun _=>1) (N:=ws.length) (fun i a j h=>by have:=wL H h;exact⟨this.1,by omega,this.2.2⟩) _ _ _ _ b3 h4;have a5:=(dY _ _ _ _ _ h5).1;have b5:=lE _ _ _ _ _ h5;simp at h;obtain⟨rfl,rfl⟩:=h;rw[wM]at a4;exact⟨⟨H.size _ _ a2.2.1,by simp only;omega,a4.1,by simp[ji],by simp⟩,by omega,b5⟩
 ·unfold fH at h;obtain⟨_,i1,h1,h⟩:=dg h;obtain⟨nm,i2,h2,h⟩:=dg h;obtain⟨_,i3,h3,h⟩:=dg h;obtain⟨l,i4,h4,h⟩:=dg h;obtain⟨_,i5,h5,h⟩:=dg h;have a1:=(dY _ _ _ _ _ h1).1;have a2:=gd _ _ _ _ _ h2;have a3:=(dY _ _ _ _ _ h3).1;have b3:=lE _ _ _ _ _ h3;have a4:=mU (Q:=wN) (wt:=fun p=>1+p.fields.length) (N:=ws.length) (fun i a j h=>Ek H h) _ _ _ _ b3 h4;have a5:=(dY _ _ _ _ _ h5).1;have b5:=lE _ _ _ _ _ h5;simp at h;obtain⟨rfl,rfl⟩:=h;rw[Ej]at a4;exact⟨⟨H.size _ _ a2.2.1,by simp,by simp,by simp only;omega,a4.1⟩,by omega,b5⟩
theorem sM {ws:List W}(H:qu ws){bs:List dh}{j:Nat}(h:oH ws= .ok (bs,j)):(∀b∈bs,mw b)/\bs.length<=2001:=by
 have few:=H.few;have:=mU (Q:=mw) (wt:=fun _=>1) (N:=ws.length) (fun i a j h=>C7 H h) _ _ _ _ (aM _) h;rw[wM]at this;exact⟨this.1,by omega⟩
end Go.Proofs.YtfebdimolnobaaaGreatDoor
