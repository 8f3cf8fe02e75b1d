import Derived.Test.YtfebdimolnobaaaGreatDoorRtK
import Derived.Test.YtfebdimolnobaaaGreatDoorRows
import Derived.Deep.Strs
import Derived.ProofKit
import Derived.ChangeSlices
import Derived.LaidMore
import Derived.OpenShut
import Derived.SizedLaws
import Derived.Carry
import Derived.Stop.Joined
import Derived.Stop.LaidErr
import Derived.Lib.LaidU8T
import Derived.Deep.DeepHandedRow
import Derived.Deep.DeepWitnessRowRef
set_option maxRecDepth 100000
set_option maxHeartbeats 8000000
set_option linter.all false
namespace Go.Proofs.YtfebdimolnobaaaGreatDoor
open Go.RowKit Go.Proofs.Tryz
section
open Go.Maps
open Uq
def QQ {bs:List dQ}(h:jK bs){nm a b:am}(ha:a.size<=1048576):
  ((nG (fj (dU bs) nm a)).1≠0->(nG (fj (dU bs) nm a)).1=6\/(nG (fj (dU bs) nm (a++b))=nG (fj (dU bs) nm a)))/\
  ((nG (fj (dU bs) nm a)).1=0->(nG (fj (dU bs) nm b)).1≠0->nG (fj (dU bs) nm (a++b))=((nG (fj (dU bs) nm b)).1,a.size+(nG (fj (dU bs) nm b)).2))/\
  ((nG (fj (dU bs) nm a)).1=0->(nG (fj (dU bs) nm b)).1=0->oT 9 (qM (fj (dU bs) nm a))/\vZ 9 (qM (fj (dU bs) nm a))<=251658300/\(jM (dU bs) nm (qM (fj (dU bs) nm a))).2=0/\(jM (dU bs) nm (qM (fj (dU bs) nm a))).1.size<=251658300/\(nG (fj (dU bs) nm (a++b))).1=0/\fj (dU bs) nm ((jM (dU bs) nm (qM (fj (dU bs) nm a))).1++b)=fj (dU bs) nm (a++b)):=by
 cases hA:fj (dU bs) nm a with
 |error x=>
  have:=LG (c:=x.1) (p:=x.2) hA;refine⟨λ_=> ?_,λh=>absurd h this,λh=>absurd h this⟩
  by_cases h6:x.1=6
  ·exact .inl h6
  ·exact .inr (by rw[LH (c:=x.1) (p:=x.2) hA h6])
 |ok x=>
  refine⟨λh=>absurd rfl h,λ_ hb=> ?_,λ_ hb=> ?_⟩
  ·cases hB:fj (dU bs) nm b with
   |ok y=>rw[hB]at hb;exact absurd rfl hb
   |error y=>rw[LI (c:=y.1) (p:=y.2) hA hB];rfl
  ·cases hB:fj (dU bs) nm b with
   |error y=>rw[hB]at hb;exact absurd hb (LG (c:=y.1) (p:=y.2) hB)
   |ok y=>
    have⟨s1,s2,s3,s4,s5⟩:=Oy h ha hA;have⟨m,j1,j2⟩:=N5 (b:=b) hA s5 hB;exact⟨s1,s2,s3,s4,by rw[j1];rfl,j2.trans j1.symm⟩
def IK:am:=⟨#[77,48]⟩
def Mn (w:an)(rv:Value)(raw:List Int)(a b:am)(hg:GOK w)(hbo:BOK w)(hu:UOK w)(hr:∀x∈raw,L4 x)(hf:raw.length<1099511627776)(hrow:jj w (λb=>b<w.heap.size) rv raw.length (raw.map λx=>aa x))(ha:a.size<=1048576)(hb:b.size<=1048576):
  Calls prog 10 #[rv,ae a,ae b] w λe w'=>e= .returned (.bool true)/\aj w w':=by
 have HB:=NZ w hg hbo hu;have Uu:=Me raw;go_in
 go_wp2_with fail;refine HB.mono ?_;rintro e w1 ⟨rfl,b1⟩;have HP:=OC w1 rv raw hr hf ((hrow.keep λb _ l=>b1.block b l).mono λb _ l=>l);generalize rK raw=L at*;clear HB hrow;go_wp2_with fail;refine HP.mono ?_;rintro e w2 ⟨v,Y,vs,rfl,hv,UP,hY,b2⟩;have UZ:=dI b1 b2;have⟨B3,N3⟩:=dS w2 #[v] 68;have HT:=QJ (w2.alloc (ak #[v] 68)) v Y vs L Uu (hv.keep λb _ l=>B3.block b l) (UP.keep λb _ l=>B3.block b l);obtain⟨va,vc,rfl⟩:=hv.form;have⟨k1,k2⟩:=N3.rules;clear HP;go_wp2_with fail;refine HT.mono ?_;rintro e w4 ⟨⟨rfl,hz⟩,b4⟩;have U0:=dI B3 b4;have Uq:=dI UZ U0;have⟨bs,UA,Vc⟩:=FA Uu hz;have Ur:=Da UA;have HP:=c5 w4 (pZ L) Ue (hg.keep (Uq.block _ hg.lt)) (hbo.keep (Uq.block _ hbo.lt));rw[UA]at HP;clear HT k1 k2 hv UP Uu UA Vc;go_wp2_with fail;refine HP.mono ?_;rintro e w5 ⟨⟨sb,kp,mk,rfl,hS⟩,b5⟩;have U1:=dI Uq b5;clear HP;have L5:=tx.new U1 Uq.size b5.size hS Ur;have⟨j1,j2,j3⟩:=QQ Ur (nm:=IK) (b:=b) ha;have Uv:Hid _:=j1;have Uw:Hid _:=j2;have Ux:Hid _:=j3;clear j1 j2 j3;have UH:=λR W (h:tx w sb kp mk bs R W) s hs=>h.dec Ur hu IK s hs
 have HD:Hid _:=UH;have UI:=λR W (h:tx w sb kp mk bs R W) (way:Int) hw Z mv m (hM:iH 9 W Z mv m) hZ hO UF=>h.enc Ur hu IK way hw hM hZ hO UF
 have HE:Hid _:=UI;clear UH UI;have UJ:=HD.out _ _ L5 a Ue 2 (.inr rfl);have Uy:(a++b).size<=268435456:=by rw[bj];omega
 have U2:Hid (∀(W:an) (Z:ap) (v:Value),iH 9 W Z v (qM (fj (dU bs) IK (a++b)))->Q1 9 (qM (fj (dU bs) IK (a++b)))):=λW Z v h=>Qr Uy h
 have hp2:= @Qs (dU bs) IK b;have UK:=λR W h=>HD.out R W h b Ue 1 (.inl rfl)
 have UL:=λR W h=>HD.out R W h (a++b) Uy 1 (.inl rfl)
 have UM:=λR W h s hs=>HD.out R W h s hs 2 (.inr rfl)
 have H2:Hid _:=UK;have H3:Hid _:=UL;have H4:Hid _:=UM;clear UK UL UM HD Uy;generalize fj (dU bs) IK a=D1 at*;generalize fj (dU bs) IK b=D2 at*;generalize hD3:fj (dU bs) IK (a++b)=D3 at*;clear hD3;generalize nG D1=E1 at*;generalize qM D1=M1 at*;generalize nG D2=E2 at*;generalize qM D2=M2 at*;have zab:¬9223372036854775807<a.size+b.size:=Ue;go_wp2_with fail;refine UJ.mono ?_;rintro e w6 ⟨v1,Z1,rfl,UB,L6,S6⟩;clear UJ;obtain⟨a1,c1,rfl⟩:=UB.form;have⟨B7,N7⟩:=dS w6 #[.slice a1 M1.fs.length c1,ae M1.unk] 49;have⟨L7,S7⟩:=L6.on B7;have x7:=S7.mrn UB λb q=> .inr q
 have HX:=H2.out _ _ L7;go_wp2_with fail;generalize w6.alloc (ak #[.slice a1 M1.fs.length c1,ae M1.unk] 49)=w7 at*;refine HX.mono ?_;rintro e w8 ⟨v2,Z2,rfl,UQ,L8,S8⟩;clear HX;obtain⟨a2,c2,rfl⟩:=UQ.form;have N8:=S8.blk N7 (.inr ⟨ay _,N7.lt⟩);have x8:=S8.mrn x7 λb q=> .inl (.inr q)
 have⟨B9,_⟩:=dS w8 #[.slice a2 M2.fs.length c2,ae M2.unk] 49;have⟨L9,S9⟩:=L8.on B9;have N9:=S9.blk N8 (.inl (.inr ⟨ay _,N7.lt⟩));have x9:=S9.mrn x8 λb q=> .inl (.inl (.inr q))
 have HX:=H3.out _ _ L9;generalize hE3:nG D3=E3 at*;generalize hM3:qM D3=M3 at*;go_wp2_with fail;generalize w8.alloc (ak #[.slice a2 M2.fs.length c2,ae M2.unk] 49)=w9 at*;refine HX.mono ?_;rintro e UR ⟨v3,Z3,rfl,UC,US,UD⟩;clear HX;obtain⟨a3,c3,rfl⟩:=UC.form;have UN:=UD.blk N9 (.inl (.inl (.inr ⟨ay _,N7.lt⟩)));have x10:=UD.mrn x9 λb q=> .inl (.inl (.inl (.inr q)))
 have⟨UT,Us⟩:=dS UR #[.slice a3 M3.fs.length c3,ae M3.unk] 49;have⟨UE,Ut⟩:=US.on UT;have U3:=Ut.blk UN (.inl (.inl (.inl (.inr ⟨ay _,N7.lt⟩))));have x11:=Ut.mrn x10 λb q=> .inl (.inl (.inl (.inl (.inr q))))
 have U4:=Ut.mrn UC λb q=> .inr q
 have⟨k1,k2⟩:=U3.rules;clear N7 x7 N8 x8 N9 x9 UN x10 UB UQ UC L6 L7 L8 L9 US S6 S7 S8 S9 UD Ut B7 B9 UT
 by_cases hf1:E1.1=0
 ·by_cases hf2:E2.1=0
  ·have⟨hO,UF,he,Vd,UU,UV⟩:=Ux.out hf1 hf2;have e1:(E1.1 !=0)=false:=by simpa using hf1
   have e2:(E2.1 !=0)=false:=by simpa using hf2
   have HX:=HE.out _ _ UE 1 (.inl rfl) _ _ _ x11 (λb q=> .inl (.inl (.inl (.inl (.inl (.inr q)))))) hO Ue;rw[he]at HX;have Uz:((jM (dU bs) IK M1).1++b).size<=268435456:=by rw[bj];omega
   have H5:=λR W h=>H4.out R W h _ Uz
   rw[UV,hE3,hM3]at H5;have H6:Hid _:=H5;have zc:¬9223372036854775807<(jM (dU bs) IK M1).1.size+b.size:=by rw[bj]at Uz;omega
   have U5:E3.1=0:=UU;obtain⟨Ve,E3b⟩:=E3;obtain rfl:Ve=0:=U5;clear Uv Uw Ux H5 he Vd UV Uz UU UF hO H2 H3 H4 HE;generalize(jM (dU bs) IK M1).1=C at*;go_wp2_with fail;generalize UR.alloc (ak #[.slice a3 M3.fs.length c3,ae M3.unk] 49)=w11 at*;refine HX.mono ?_;rintro e w12 ⟨rfl,Vf,UW⟩;clear HX k1 k2;have U6:=UW.blk Us (.inr ⟨ay _,Us.lt⟩);have U7:=UW.mrn U4 λb q=> .inl (.inr q)
   have HX:=H6.out _ _ Vf;go_wp2_with fail;refine HX.mono ?_;rintro e Vg ⟨v4,Z4,rfl,UX,Vh,UY⟩;clear HX;obtain⟨a4,c4,rfl⟩:=UX.form;have U8:=UY.blk U6 (.inr ⟨ay _,Us.lt⟩);have U9:=UY.mrn U7 λb q=> .inl (.inr q)
   have⟨Vi,Vj⟩:=dS Vg #[.slice a4 M3.fs.length c4,ae M3.unk] 49;have⟨Vk,UG⟩:=Vh.on Vi;have Va:=UG.blk U8 (.inl (.inr ⟨ay _,Us.lt⟩));have UO:=UG.mrn U9 λb q=> .inl (.inl (.inr q))
   have Vb:=UG.mrn UX λb q=> .inr q
   have HX:=Lt 9 _ _ _ _ _ _ UO Vb (U2.out _ _ _ UO);have⟨k1,k2⟩:=Va.rules;have⟨k3,k4⟩:=Vj.rules;go_wp2_with fail;refine HX.mono ?_;rintro e w15 ⟨rfl,Vl⟩;have bel:=dI Vk.bel Vl;clear HX k1 k2 k3 k4;go_wp2;go_ret;exact⟨rfl,bel⟩
  ·have bel:=UE.bel;have h2:=Uw.out hf1 hf2;have e1:(E1.1 !=0)=false:=by simpa using hf1
   have e2:(E2.1 !=0)=true:=by simpa using hf2
   have e3:(E2.1==E2.1)=true:=Uf;obtain rfl:E3=_:=h2;clear k1 k2 Uv Uw Ux;have e5:wrap64 ((a.size:Int)+E2.2)=(a.size:Int)+E2.2:=by simp only[wrap64];omega
   have e6:(((a.size:Int)+E2.2)==((a.size:Int)+E2.2))=true:=Uf;go_wp2;go_ret;exact⟨rfl,bel⟩
 ·have bel:=UE.bel;have h1:=Uv.out hf1;have e1:(E1.1 !=0)=true:=by simpa using hf1
  clear k1 k2
  by_cases h6:E1.1=6
  ·have e6:(E1.1==6)=true:=by simpa using h6
   clear h1;go_wp2;go_ret;exact⟨rfl,bel⟩
  ·have e6:(E1.1==6)=false:=by simpa using h6
   obtain rfl:=h1.resolve_left h6;have e3:(E3.1==E3.1)=true:=Uf;have e4:(E3.2==E3.2)=true:=Uf
   cases e7:(E3.1==7)<;>
   ·go_wp2;go_ret;exact⟨rfl,bel⟩
end
section
open Go.ChangeShapes Go.WideShapes Go.RowKit Go.Deep Go.Proofs.YtfebdimolnobaaaGreatDoor.Rows
def iZ {s:am}{l:List UInt8}(h:s.data.toList=l):s=⟨l.toArray⟩:=by
 cases s
 simp only at h;subst h;rfl
def GY:prog.cellsOf 9=1:=Uj
def Mo:prog.cellsOf 3=1:=Uj
section
variable {H:Type}
def Mp (d:DataW H):1<=uptoBulk d:=by
 cases d with
 |lit l=>cases l<;>simp[uptoBulk]
 |_=>simp[uptoBulk]
def Ef:∀l:List (DataW H),l.length<=uptoBulkAll l
 | []=>aL _
 |d::l=>by have:=Ef l;have:=Mp d;rw[uptoBulkAll,be];omega
def QR {n:Int}(h:(Lit.int .i64 n).wf=true): -9223372036854775808<=n/\n<=9223372036854775807:=by
 have h2:(decide (IntKind.i64.min<=n)&&decide (n<=IntKind.i64.max))=true:=h;simp only[aJ,dF]at h2;exact h2
def Mq {s:am}:uptoBulk (.lit (.string s.data.toList):DataW H)=s.size+1:=by rw[uptoBulk,dt];rfl
def GZ {enc:TypeId×Value->H}{w:an}{v:Value}{d:DataW H}{ps:List MemPlace}(hv:∃s,v=ae s)(h:DataW.Trod enc prog w 0 (λ_=>true) true 9 v d ps):∃s,v=ae s/\uptoBulk d=s.size+1:=by
 obtain⟨fuel,hf⟩:=h;obtain⟨s,rfl⟩:=hv;have⟨s',e,hx,_⟩:=DataW.trod_string underlying9 hf
 obtain rfl:s=s':=by
  have:Value.string s=ae s':=List.cons.inj e|>.1
  cases this
  rfl
 exact⟨s,rfl,by rw[show d=_ from dH Prod.fst hx,Mq]⟩
end
def Cl (a:Addr)(i:Nat):(a.add i).block=a.block:=by unfold Addr.add;split<;>rfl
def Mr {H:Type}{enc:TypeId×Value->H}{w:an}{a:aw}{n c:Nat}{d:DataW H}{ps:List MemPlace}(h:DataW.Trod enc prog w 0 (λ_=>true) true 35 (.slice a n c) d ps):
  ∃raw:List Int,(∀x∈raw,L4 x)/\raw.length<=uptoBulk d/\jj w (λb=>b<w.heap.size) (.slice a n c) raw.length (raw.map λx=>aa x):=by
 obtain⟨fuel,hf⟩:=h
 rcases open_ints underlying35 underlying3 Mo hf with⟨hc,hx⟩|⟨a',len,cap,zs,hc,_,hl,_,hz,hx,Uq,Ur⟩
 ·have e:(Value.slice a n c)=ah:=List.cons.inj hc|>.1
  cases e
  exact⟨[],λx h=>(by cases h),aL _,none,0,rfl,ay _,λh=>absurd h Uh⟩
 ·have e:(Value.slice a n c)= .slice (some a') len cap:=List.cons.inj hc|>.1
  cases e
  have hz:zs.length=c:=hz;have hlen:(zs.take n).length=n:=by rw[bG];omega
  have hb:=Ef (lits .i64 (zs.take n):List (DataW H));have hd:d= .slice (lits .i64 (zs.take n)) (lits .i64 (zs.drop n)):=dH Prod.fst hx;refine⟨zs.take n,λx hx=>QR (Ur x (List.mem_of_mem_take hx)),?_,some a',c,by rw[hlen],Ue,λhn=> ?_⟩
  ·rw[hd,uptoBulk];have:(lits .i64 (zs.take n):List (DataW H)).length=(zs.take n).length:=by simp[lits]
   omega
  ·have h0:=Uq 0 Ue;refine⟨a',rfl,by have:=aQ _ _ h0;rwa [Cl]at this,by have:=aQ _ _ h0;rwa [Cl]at this,λw' hw p u hu=> ?_⟩;rw[aO]at hu;obtain⟨x,hx,rfl⟩:=aW.1 hu;obtain⟨hp,rfl⟩:=bX.1 hx;rw[hlen]at hp;have:=Uq p Ue;rw[bu (w:=w) (by rw[Cl];exact hw),this,List.getElem_take,bW,aK Ue];rfl
end
section
open Go.ChangeShapes Go.WideShapes Go.ChangeAt Go.RowKit
def own:ownKnob prog.godebug=none:=Uj
def Ms:prog.globalNamed "strconv.ErrRange" =some 5:=Uj
def ON:(prog.globals[5]?).map (·.type)=some 354:=Uj
def Mt:prog.globalNamed "twinwire/model.baseWords" =some 0:=Uj
def OO:(prog.globals[0]?).map (·.type)=some 427:=Uj
def QS:prog.cellsOf 493=1:=Uj
def QT:prog.cellsOf 427=15:=Uj
def RU: "*" ++ "errors.errorString" = "*errors.errorString" :=Uh
def S3 (u:TypeId)(h:prog.typeName? 3 u=some "*errors.errorString"):u=491:=
 typeName_ptr_named (nm:= "errors.errorString") (by rw[RU];kernel_rfl) Uj Uh u (by rw[RU];exact h)
def FB:Rows.laid_unicode_utf8_first=Lib.firstData:=Uj
def Eg:(Rows.laid_unicode_utf8_acceptRanges:DataW Unit)=Lib.acceptData:=Uj
def fQ {H:Type}{enc:TypeId×Value->H}{P:Program}{w:an}{base:Nat}{sp:Nat->Bool}{held:Bool}{fuel:Nat}{t:TypeId}{c:Value}{y:DataW H×List MemPlace}
  (ht:P.underlying t=some .string) (h:DataW.trod enc P w base sp held fuel t [c]=some y):∃s,c=ae s/\y=(.lit (.string s.data.toList),[]):=by
 have⟨s,h1,h2,_⟩:=DataW.trod_string ht h;exact⟨s,List.cons.inj h1|>.1,h2⟩
def Mu {W:an}(h:Lib.VarReads prog W "twinwire/model.baseWords" Rows.laid_twinwire_model_baseWords):BOK W:=by
 obtain⟨g,t,cs,fuel,p,hg,ht,Uq,hd⟩:=h;obtain rfl:=Option.some.inj (Mt.symm.trans hg);obtain rfl:=Option.some.inj (OO.symm.trans ht)
 have hb:cs=(Em.map Value.string).toArray:=by
  obtain⟨l⟩:=cs
  cases fuel with
  |zero=>simp[DataW.trod]at hd
  |succ fuel=>
   simp only[DataW.trod,underlying427,QT,GY]at hd
   split at hd
   ·rename_i hl
    obtain⟨c0,c1,c2,c3,c4,c5,c6,c7,c8,c9,c10,Ur,Us,Q0,QZ,rfl⟩:∃c0 c1 c2 c3 c4 c5 c6 c7 c8 c9 c10 Ur Us Q0 QZ,l= [c0,c1,c2,c3,c4,c5,c6,c7,c8,c9,c10,Ur,Us,Q0,QZ]:=by
     match l,hl with
     | [a0,a1,a2,a3,a4,a5,a6,a7,a8,a9,a10,a11,a12,a13,a14],_=>exact⟨a0,a1,a2,a3,a4,a5,a6,a7,a8,a9,a10,a11,a12,a13,a14,rfl⟩
    have e:List.range 15= [0,1,2,3,4,5,6,7,8,9,10,11,12,13,14]:=rfl;rw[e]at hd;simp only[aW,List.mapM_cons,List.mapM_nil,Option.bind_eq_bind,Option.bind_eq_some_iff,Option.pure_def,Option.some.injEq]at hd;obtain⟨xs,⟨y0,h0,_,⟨y1,h1,_,⟨y2,h2,_,⟨y3,h3,_,⟨y4,h4,_,⟨y5,h5,_,⟨y6,h6,_,⟨y7,h7,_,⟨y8,h8,_,⟨y9,h9,_,⟨y10,Ut,_,⟨y11,Uu,_,⟨y12,Uv,_,⟨y13,Uw,_,⟨y14,Ux,_,rfl,rfl⟩,rfl⟩,rfl⟩,rfl⟩,rfl⟩,rfl⟩,rfl⟩,rfl⟩,rfl⟩,rfl⟩,rfl⟩,rfl⟩,rfl⟩,rfl⟩,rfl⟩,hx⟩:=hd;obtain⟨n0,rfl,rfl⟩:=fQ underlying9 h0;obtain⟨n1,rfl,rfl⟩:=fQ underlying9 h1;obtain⟨n2,rfl,rfl⟩:=fQ underlying9 h2;obtain⟨n3,rfl,rfl⟩:=fQ underlying9 h3;obtain⟨n4,rfl,rfl⟩:=fQ underlying9 h4;obtain⟨n5,rfl,rfl⟩:=fQ underlying9 h5;obtain⟨n6,rfl,rfl⟩:=fQ underlying9 h6;obtain⟨n7,rfl,rfl⟩:=fQ underlying9 h7;obtain⟨n8,rfl,rfl⟩:=fQ underlying9 h8;obtain⟨n9,rfl,rfl⟩:=fQ underlying9 h9;obtain⟨n10,rfl,rfl⟩:=fQ underlying9 Ut;obtain⟨n11,rfl,rfl⟩:=fQ underlying9 Uu;obtain⟨n12,rfl,rfl⟩:=fQ underlying9 Uv;obtain⟨n13,rfl,rfl⟩:=fQ underlying9 Uw;obtain⟨n14,rfl,rfl⟩:=fQ underlying9 Ux;simp[Rows.laid_twinwire_model_baseWords]at hx;obtain⟨⟨x0,x1,x2,x3,x4,x5,x6,x7,x8,x9,x10,x11,x12,Uy,x14⟩,_⟩:=hx;rw[iZ x0,iZ x1,iZ x2,iZ x3,iZ x4,iZ x5,iZ x6,iZ x7,iZ x8,iZ x9,iZ x10,iZ x11,iZ x12,iZ Uy,iZ x14];rfl
   ·cases hd
 intro i v hi;rw[World.var?_cell Mt (hb▸Uq) i];simpa using hi
def Eh {W:an}(h:laidMetH prog Rows.joinedUptoRow.laid W):GOK W/\BOK W/\UOK W:=by
 rw[MakeChecks.laidMetH_plain _ _ _ Uj]at h;have hr:∀n d,(n,d)∈Rows.joinedUptoRow.laid->Lib.VarReads prog W n d:=λn d hm=>Lib.laidMet.reads h hm
 have h4:laidMet prog [("strconv.ErrRange",Rows.laid_strconv_ErrRange), ("strconv.ErrSyntax",Rows.laid_strconv_ErrSyntax), ("twinwire/model.baseWords",Rows.laid_twinwire_model_baseWords), ("unicode/utf8.first",Rows.laid_unicode_utf8_first)] W:=h.tail.tail.tail.tail;have⟨a,s,hv,_⟩:=laid_sentinel h4 Ms ON underlying354 S3 underlying491 underlying493 rfl rfl underlying9 QS GY;refine⟨⟨_,by simpa using World.var?_cell Ms hv 0,.inr ⟨_,_,rfl⟩⟩,Mu (hr _ _ (by simp[Rows.joinedUptoRow])),?_⟩;have r1:=hr "unicode/utf8.first" _ (.tail _ (.tail _ (.tail _ (.tail _ (.tail _ (.tail _ (.tail _ (.head _))))))));have r2:=hr "unicode/utf8.acceptRanges" _ (.tail _ (.tail _ (.tail _ (.head _))));rw[FB]at r1;rw[Eg]at r2;exact utf8Tabs_of_readsT (U8Types.of196 Tryz.laysVs) ⟨Uj,Uj,Uj,Uj,Uj,Uj,Uj⟩ r1 r2
end
end Go.Proofs.YtfebdimolnobaaaGreatDoor
