import Derived.Test.YtfebdimolnobaaaGreatDoorCkG
import Derived.BigQuiet
set_option maxRecDepth 100000
set_option maxHeartbeats 8000000
set_option linter.all false
namespace Go.Proofs.YtfebdimolnobaaaGreatDoor
open Go.RowKit
section
attribute [local go_sem] ia ic ie
theorem jT {t:am}{k:Nat}{x:W}(h:(fj t)[k]?=some x):(k<(wG t).length/\x∈wG t)\/(k=(wG t).length/\x=(⟨#[]⟩,t.size)):=by
 unfold fj at h
 by_cases hk:k<(wG t).length
 ·rw[cn hk]at h;exact .inl ⟨hk,aI h⟩
 ·rw[ck (by omega)]at h
  by_cases he:k-(wG t).length=0
  ·rw[he]at h;simp at h;exact .inr ⟨by omega,h.symm⟩
  ·rw[aQ (by simp;omega)]at h
   cases h
theorem pI (t:am):(fj t).length=(wG t).length+1:=by simp[fj]
theorem BM (t:am):(wG t).length<=t.size:=by have:=mO t t.size 0;simpa [wG]using this
theorem IY (t:am):∀n k,k<=t.size->∀i,k<=i->i<gR jZ t n k->jZ (eB t i)=true
 |0,k,_,i,h1,h2=>by simp[gR]at h2;omega
 |n+1,k,hk,i,h1,h2=>by
  unfold gR at h2
  by_cases hc:(decide (k<t.size)&&jZ (eB t k))=true
  ·rw[if_pos hc]at h2;have h3:k<t.size/\jZ (eB t k)=true:=by simpa using hc
   by_cases he:i=k
   ·subst he;exact h3.2
   ·exact IY t n (k+1) h3.1 i (by omega) h2
  ·rw[if_neg hc]at h2;omega
theorem yr {t:am}{a e i:Nat}(h:a+i<e)(he:e<=t.size):eB (t.extract a e) i=eB t (a+i):=by
 have hs:i<(t.extract a e).size:=by rw[aR];omega
 rw[<-gY hs,<-gY (by omega:a+i<t.size)]
 congr 2;exact ByteArray.getElem_extract _
theorem Lz {t:am}{a:Nat}(h:a<t.size)(hd:jZ (eB t a)=true):∀i,a<=i->i<fT t a->jZ (eB t i)=true:=by
 intro i h1 h2
 have hl:sH (eB t a)=false:=by
  unfold jZ at hd;unfold sH;simp at hd⊢;omega
 by_cases he:i=a
 ·subst he;exact hd
 ·unfold fT at h2;simp only[hl,hd,cu,aK,if_false]at h2
  split at h2
  ·exact IY t t.size (a+1) h i (by omega) h2
  ·omega
theorem qv (t:am):∀n a,∀x∈jf t n a,∃c,c<t.size/\x=(t.extract c (fT t c),c)/\Ar (eB t c)=false
 |0,a,x,h=>by simp[jf]at h
 |n+1,a,x,h=>by
  unfold jf at h
  by_cases ha:a<t.size
  ·rw[if_pos ha]at h
   by_cases hg:Ar (eB t a)=true
   ·rw[if_pos hg]at h;exact qv t n (a+1) x h
   ·rw[if_neg hg]at h
    rcases aL.1 h with rfl|h
    ·exact⟨a,ha,rfl,by simpa using hg⟩
    ·exact qv t n _ x h
  ·rw[if_neg ha]at h;simp at h
theorem oI (M:Nat):∀(l:List UInt8) (acc:Nat),(∀c∈l,48<=c.toNat/\c.toNat<=57)->(∃u,Lib.parseUintM M acc l= .ok u)\/Lib.parseUintM M acc l= .range
 | [],acc,_=> .inl ⟨acc,rfl⟩
 |c::l,acc,h=>by
  have hc:=h c (by simp);unfold Lib.parseUintM;rw[if_pos hc]
  split
  ·exact .inr rfl
  ·split
   ·exact .inr rfl
   ·exact oI M l _ (fun c hc=>h c (by simp[hc]))
theorem Hh {s:am}{i:Nat}{c:UInt8}(h:s.data.toList[i]?=some c):eB s i=(c.toNat:Int):=by
 have hi:i<s.size:=by
  by_cases hi:i<s.data.toList.length
  ·simpa using hi
  ·rw[aQ (by omega)]at h;cases h
 rw[<-gY hi]
 have:s.data.toList[i]?=some s[i]:=by
  rw[aJ (by simpa using hi)];rfl
 rw[this]at h;rw[Option.some.inj h]
theorem Hi {c:Int}:jZ c=true<->48<=c/\c<=57:=by simp[jZ]
theorem El {s:am}(hs:s.size<=2000)(h0:0<s.size)(hd:∀i,i<s.size->jZ (eB s i)=true):gT s:=by
 refine⟨hs,?_⟩
 have N2:s.data.toList≠ []:=by
  intro e;have:s.data.toList.length=0:=by rw[e];rfl
  have h1:s.data.toList.length=s.size:=by simp
  omega
 unfold Lib.parseUintB;rw[if_neg N2];refine oI _ _ _ fun c hc=> ?_
 obtain⟨i,hi⟩:=List.mem_iff_getElem?.1 hc;have h1:=Hh hi
 have N3:i<s.size:=by
  by_cases hi2:i<s.data.toList.length
  ·simpa using hi2
  ·rw[aQ (by omega)]at hi;cases hi
 have h2:=Hi.1 (hd i N3);omega
theorem yt {t:am}{x:W}(hx:x∈wG t)(hd:jZ (eB x.1 0)=true):∀i,i<x.1.size->jZ (eB x.1 i)=true:=by
 obtain⟨c,hc,rfl,_⟩:=qv t t.size 0 x hx;have he:=nS t c hc;intro i hi;simp only at hi hd⊢;rw[aR]at hi;rw[yr (by omega) he.2]at hd⊢;exact Lz hc (by simpa using hd) (c+i) (by omega) (by omega)
theorem Em {s:am}(h:cZ s=2):jZ (eB s 0)=true:=by
 unfold cZ gZ at h
 split at h
 ·omega
 ·split at h
  ·assumption
  ·split at h
   ·omega
   ·split at h<;>omega
theorem mW (t:am)(ht:t.size<=2000):qu (fj t):=by
 refine⟨?_,?_,?_⟩
 ·rw[pI];have:=BM t;omega
 ·intro k x hx
  rcases jT hx with⟨_,h⟩|⟨_,rfl⟩
  ·have:=mN t t.size 0 x h;omega
  ·show(ByteArray.mk #[]).size<=2000;decide
 ·intro k x hx hk
  rcases jT hx with⟨_,h⟩|⟨_,rfl⟩
  ·have:=mN t t.size 0 x h;exact El (by omega) (by omega) (yt h (Em hk))
  ·have:cZ (ByteArray.mk #[])=4:=rfl;rw[this]at hk;omega
end
section
open Go.Maps
attribute [local go_sem] ia ic ie
def gi (t:ByteArray):Except (Int×Nat) (List dh):=
 if 2000<t.size then .error (2,0)
 else
  match oH (fj t)with
  | .error p=> .error (2,p)
  | .ok (bs,_)=>
   match ey (ez bs) [] 0 bs with
   | .error p=> .error (3,p)
   | .ok _=> .ok bs
theorem C8 {w:World}{base rb:Nat}{t:ByteArray}{v:Value}(ht:t.size<=2000)(N2:w.ownsRow base 148 3 v (fj t).length ((fj t).flatMap sJ))(hrb:de w rb #[v,.int .i64 0] 158)(hne:∀b,v.ownBlock=some b->b≠rb):∃wb,Rd w rb wb (fj t) 0:=by
 have hlen:=pI t;have hl2:=BM t;obtain⟨a,n,c,rfl⟩:=df N2;have hn:=dR N2;subst hn;obtain⟨g,rfl,hg,Ov,N8⟩:=dE N2 (by omega);have hc:=N8 w rfl;have W:=mW t ht;refine⟨g,by omega,by omega,fun e=>hne g rfl e.symm,⟨c,by simpa using hrb.cell 0⟩,by simpa using hrb.cell 1,hrb.rules.2 1,fun k x hx=> ?_,fun k x hx hs=> ?_,fun k x hx=> ?_⟩
 ·have l3:∀x,(sJ x).length=3:=fun _=>rfl
  refine⟨?_,?_,?_⟩
  ·have:=hc (k*3+0) _ ((eE sJ 3 l3 _ k x hx 0 (by omega)).trans rfl);simpa using this
  ·exact hc (k*3+1) _ ((eE sJ 3 l3 _ k x hx 1 (by omega)).trans rfl)
  ·exact hc (k*3+2) _ ((eE sJ 3 l3 _ k x hx 2 (by omega)).trans rfl)
 ·rcases jT hx with⟨h1,_⟩|⟨_,rfl⟩
  ·omega
  ·exact absurd (show 0<(ByteArray.mk #[]).size from hs) (by decide)
 ·refine⟨W.size k x hx,?_⟩
  rcases jT hx with⟨_,h⟩|⟨_,rfl⟩
  ·have:=mN t t.size 0 x h;omega
  ·exact ht
def Hj (w:World)(r:Except (Int×Nat) (List dh))(e:Ending)(w':World):Prop:=
 (match r with
 | .error (k,p)=>e=da k p
 | .ok bs=>∃a n c cs,e= .returned (.agg #[.slice a n c])/\dJ w' (fun x=>w.heap.size<=x) 152 6 (.slice a n c) bs.length cs/\dU w' (fun x=>w.heap.size<=x) cs bs)/\Below w.heap.size w w'
theorem NT (w:World)(t:ByteArray)(hmax:t.size<=140737488355328)(hg:GOK w):
  Calls Tryz.prog 36 #[.string t] w (Hj w (gi t)):=by
 obtain⟨B0,K0⟩:=di w #[.slice none 0 0] 87;generalize hr:gi t=r;have HR:Hid (gi t=r):=hr;clear hr
 by_cases hl:2000<t.size
 ·have hd:(2000:Int)<(t.size:Int):=by omega
  obtain rfl:r= .error (2,0):=by rw[<-HR.out,gi,if_pos hl]
  go_enter Tryz.func36,Tryz.ntmps36
  go_wp2_with fail
  refine(Ed _ _ _).mono ?_;rintro e w2 ⟨rfl,rfl⟩;go_wp2;exact⟨rfl,rfl,B0⟩
 ·have ht:t.size<=2000:=by omega
  have hd:decide ((2000:Int)<(t.size:Int))=false:=by simp;omega
  have Oo:Hid ((match oH (fj t)with
   | .error p=> .error (2,p)
   | .ok (bs,_)=>
    match ey (ez bs) [] 0 bs with
    | .error p=> .error (3,p)
    | .ok _=> .ok bs)=r):=by
   have:=HR.out;rw[gi,if_neg hl]at this;exact this
  clear hl;go_enter Tryz.func36,Tryz.ntmps36
  go_wp2_with fail
  refine(NG t _ ht).mono ?_;rintro e w1 ⟨v,rfl,N2,Ou⟩;obtain⟨va,vn,vc,rfl⟩:=df N2;have C1:Below w.heap.size w w1:=B0.trans (Ou.mono (by simp));have K1:=K0.below Ou K0.lt;have C2:=C1.alloc C1.size (Obj.cells #[.slice va vn vc,.int .i64 0] 158);have K2:=K1.alloc (Obj.cells #[.slice va vn vc,.int .i64 0] 158);obtain⟨wb,R2⟩:=C8 (rb:=w1.heap.size) ht (N2.alloc (Obj.cells #[.slice va vn vc,.int .i64 0] 158)) (de.new w1 _ _) (fun b hb=>by have:=(N2.lt b hb).2;omega);have z1:=K1.lt;clear N2 Ou hd;go_wp2_with fail
  refine(NL _ w1.heap.size wb (fj t) R2).mono ?_
  cases h3:oH (fj t)with
  |error p=>
   rintro e w3 ⟨rfl,j,A⟩;obtain rfl:r= .error (2,p):=by rw[<-Oo.out,h3]
   unfold da;go_wp2;refine⟨rfl,rfl,C2.trans ⟨A.os,A.tape,A.output,A.size,fun k hk=> ?_⟩⟩;rw[Below.block A k (by simp;omega),yh,dd,if_neg (by omega)]
  |ok q=>
   obtain⟨bs,j⟩:=q;rintro e w3 ⟨⟨a,n,c,cs,rfl,Ow,Om⟩,R3,A⟩
   have C3:Below w.heap.size w w3:=C2.trans ⟨A.os,A.tape,A.output,A.size,fun k hk=>by
    rw[Below.block A k (by simp;omega),yh,dd,if_neg (by omega)]⟩
   have K3:=K2.adv_ A K2.lt (by omega);have z3:w1.heap.size+1<=w3.heap.size:=by have:=A.size;simpa using this
   have Oe:=Ow.mono (S':=fun b=>w.heap.size<b) (fun b hb _=>by simp at hb;omega);have Of:=Om.mono (S':=fun b=>w.heap.size<b) (fun b hb _=>by simp at hb;omega);have OK:=sM (mW t ht) h3;have C4:=C3.alloc C3.size (Obj.cells #[.slice a n c] 87);have K4:=K3.alloc (Obj.cells #[.slice a n c] 87);have J4:=de.new w3 #[.slice a n c] 87;have Og:=Oe.keep (w':=w3.alloc (Obj.cells #[.slice a n c] 87)) (fun b _ hb=>Below.heap_alloc _ _ _ hb);have Oh:=Of.keep (w':=w3.alloc (Obj.cells #[.slice a n c] 87)) (fun b _ hb=>Below.heap_alloc _ _ _ hb);have Oy:GOK (w3.alloc (Obj.cells #[.slice a n c] 87)):=hg.keep (C4.block _ hg.lt);clear Ow Om R3 Oe Of;go_wp2_with fail
   refine(NS _ a n c bs cs _ Og Oh OK.2 OK.1 Oy).mono ?_
   cases h4:ey (ez bs) [] 0 bs with
   |error p=>
    rintro e w5 ⟨he,Od⟩;obtain rfl:e=da 3 p:=he;obtain rfl:r= .error (3,p):=by rw[<-Oo.out,h3];simp only[h4]
    unfold da;go_wp2;exact⟨rfl,rfl,C4.trans (Od.mono C4.size)⟩
   |ok u=>
    rintro e w5 ⟨he,Od⟩;obtain rfl:e= .returned (.tuple #[]):=he;obtain rfl:r= .ok bs:=by rw[<-Oo.out,h3];simp only[h4]
    have C5:=C4.trans (Od.mono C4.size);have K5:=K4.below Od K4.lt;have J5:=J4.below Od J4.lt;have Oq:=Og.keep (w':=w5) (fun b _ hb=>Od.block b hb);have Ot:=Oh.keep (w':=w5) (fun b _ hb=>Od.block b hb);obtain⟨k1,k2⟩:=K5.rules;obtain⟨j1,j2⟩:=J5.rules;go_wp2;have K6:=K5.sets_all [.slice a n c] rfl;have C6:Below w.heap.size w (w5.setCells w.heap.size 0 [.slice a n c]):=C5.trans ((Below.refl w.heap.size w5).setCell (p:=⟨w.heap.size,0,none⟩) (ay _) (.slice a n c));refine bodyPost_ret (dw Tryz.results36 _ _ rfl K6 Tryz.underlying87 (by kernel_rfl)) rfl ⟨⟨a,n,c,cs,rfl,?_,?_⟩,C6⟩
    ·have h9:=Oq.keep (w':=w5.setCells w.heap.size 0 [.slice a n c]) (fun b hb _=>fP _ _ (by have:w.heap.size<b:=hb;omega) _ _);exact h9.mono (fun b hb _=>by have:w.heap.size<b:=hb;omega)
    ·have h9:=Ot.keep (w':=w5.setCells w.heap.size 0 [.slice a n c]) (fun b hb _=>fP _ _ (by have:w.heap.size<b:=hb;omega) _ _);exact h9.mono (fun b hb _=>by have:w.heap.size<b:=hb;omega)
def dq (bs:List dh):List ByteArray:=(bs.filter fun b=> !b.enum).map fun b=>b.name.1
theorem NU (w:World)(ta:Option Addr)(tn tc:Nat)(bs:List dh)(cs:List Value)(S:Nat->Prop)(N2:dJ w S 152 6 (.slice ta tn tc) bs.length cs)(Om:dU w S cs bs)(hlen:bs.length<=2001)(hok:∀b∈bs,mw b):
  Calls Tryz.prog 66 #[.agg #[.slice ta tn tc]] w fun e w'=>∃v,e= .returned v/\w'.ownsRow w.heap.size 9 1 v (dq bs).length (el (dq bs))/\Below w.heap.size w w':=by
 have Oz:=dR N2.1;subst Oz;obtain⟨i0,OB,OC,OD,OE⟩:=info_parts Tryz.info9;have C0:=(Below.refl w.heap.size w).alloc (ay _) (Obj.cells #[.slice ta bs.length tc] 87);go_enter Tryz.func66,Tryz.ntmps66
 go_wp2;go_loopw [3,9] (fun v i wr=>∃(k:Nat) (l:List ByteArray),k<=bs.length/\i= .int .i64 k/\l.length<=k/\Hid (l++dq (bs.drop k)=dq bs)/\wr.ownsRow w.heap.size 9 1 v l.length (el l)/\Below w.heap.size w wr) (fun _ i _=>bs.length-(intOf i).toNat)
 case atStart=>exact⟨0,[],aM _,rfl,ay _,by simp[Hid],aX _ _ _ _,C0⟩
 case round=>
  clear C0;obtain⟨k,l,hk,rfl,hll,HP,Oj,CW⟩:=hrel
  by_cases hlt:k<bs.length
  ·obtain⟨b,hb⟩:=gx hlt;have OA:=hok b (aI hb)
   have N3:bs.drop k=b::bs.drop (k+1):=by
    rw[aU hlt];rw[aJ hlt]at hb;rw[Option.some.inj hb]
   obtain⟨g,rfl,_,Ov,N8⟩:=dE N2.1 (by omega);obtain⟨pa,pn,pc,va,vn,vc,p0,p1,p2,p3,p4,p5,OF⟩:=Om.get hb;have Oc:=N8 wr (CW.block g Ov);rw[Nat.add_zero]at p0;have q0:=Oc _ _ p0;have q1:=Oc _ _ p1;have q2:=Oc _ _ p2;have q3:=Oc _ _ p3;have q4:=Oc _ _ p4;have q5:=Oc _ _ p5;have KB:=de.new wr #[.bool b.enum,.int .i64 (cZ b.name.1),.string b.name.1,.int .i64 b.name.2,.slice pa pn pc,.slice va vn vc] 152;have CA:=CW.alloc CW.size (Obj.cells #[.bool b.enum,.int .i64 (cZ b.name.1),.string b.name.1,.int .i64 b.name.2,.slice pa pn pc,.slice va vn vc] 152);have N7:=Oj.alloc (Obj.cells #[.bool b.enum,.int .i64 (cZ b.name.1),.string b.name.1,.int .i64 b.name.2,.slice pa pn pc,.slice va vn vc] 152);clear N8 Oc p0 p1 p2 p3 p4 p5 hb OF
   cases hen:b.enum
   ·rw[hen]at q0 KB CA N7
    have Oi:Hid ((l++ [b.name.1])++dq (bs.drop (k+1))=dq bs):=by
     have:=HP.out;rw[N3]at this;simpa [dq,hen,Hid]using this
    clear N3;go_wp2_with fail
    refine(NO _ _ OA.name).mono ?_;rintro e w4 ⟨rfl,Ox⟩;have C4:=CA.trans (Ox.mono CA.size);have Oa:=dO Ox N7;clear q0 q1 q2 q3 q4 q5;go_wp2_with (first|(at_builtin;refine wpList_append_own_at _ rfl _ _ 30 rfl w.heap.size 9 i0 _ 1 16 Tryz.underlying30 OB OC OD OE rfl (by decide) u3 _ _ rfl (Oa.alloc _) _ 1 1 [_] rfl rfl (cell_one_new _ _ _) ?h1 ?h63 ?hby ?hba ?_;rotate_right;intro v' w5 Ok Ol hnil hloc))
    case h1=>intro u hu;simp at hu;subst hu;rfl
    case h63=>unfold maxLen;omega
    case hby=>omega
    case hba=>have:=C4.size;simp;omega
    refine⟨⟨k+1,l++ [b.name.1],by omega,by go_num,by simp;omega,Oi,?_,?_⟩,by simp[intOf];omega⟩
    ·simpa [el]using Ok
    ·exact(C4.alloc C4.size _).grown Ol (by have:=C4.size;simp;omega) (fun j hj=>(Oa.lt j hj).1)
   ·rw[hen]at q0 KB CA N7
    have Oi:Hid (l++dq (bs.drop (k+1))=dq bs):=by
     have:=HP.out;rw[N3]at this;simpa [dq,hen,Hid]using this
    clear N3;go_wp2;go_roundw
    case rel=>exact⟨k+1,l,by omega,by go_num,by omega,Oi,N7,CA⟩
    case measure=>simp[intOf];omega
  ·have Ob:bs.drop k= []:=by rw[cq];omega
   have Oi:Hid (l=dq bs):=by
    have:=HP.out;rw[Ob]at this;simpa [dq,Hid]using this
   clear Ob;go_wp2;go_ret;refine⟨_,rfl,?_,CW⟩;rw[<-Oi.out];exact Oj
end
structure qw (f:dM):Prop where
 size:f.type.1.size<=2000
 kind:cZ f.type.1=3\/cZ f.type.1=1
 key:f.form=4<->f.key.isSome=true
def qx (p:er):Prop:=
 (∀f∈p.fields,qw f)/\((∃o,p.oneof=some o/\cZ o.1=1/\∀f∈p.fields,f.form=3)\/(p.oneof=none/\∃f,p.fields= [f]/\(f.form=0\/f.form=1\/f.form=2\/f.form=4)))
def wO (b:dh):Prop:=∀p∈b.parts,qx p
theorem lG {α:Type}{stop:Nat->Bool}{p:Nat->mg α}{Q:α->Prop}(hp:∀i a j,p i= .ok (a,j)->Q a):∀(n i:Nat) (l:List α) (j:Nat),fk stop p n i= .ok (l,j)->∀a∈l,Q a
 |0,i,l,j,h=>by
  simp[fk]at h;obtain⟨rfl,_⟩:=h;simp
 |n+1,i,l,j,h=>by
  unfold fk at h
  split at h
  ·simp at h;obtain⟨rfl,_⟩:=h;simp
  ·obtain⟨a,k,h1,h⟩:=dg h;obtain⟨r,k2,h2,h⟩:=dg h;simp at h;obtain⟨rfl,_⟩:=h;intro x hx
   rcases aL.1 hx with rfl|hx
   ·exact hp _ _ _ h1
   ·exact lG hp n k r k2 h2 x hx
theorem iR {ws:List W}(H:qu ws){form:Int}{i:Nat}{f:dM}{j:Nat}(hf:form≠4)(h:ee ws form i= .ok (f,j)):qw f/\f.form=form:=by
 unfold ee at h;obtain⟨t,i1,h1,h⟩:=dg h;obtain⟨nm,i2,h2,h⟩:=dg h;simp at h;obtain⟨rfl,_⟩:=h;obtain⟨_,h3,h4⟩:=ju _ _ _ _ h1;exact⟨⟨H.size _ _ h3,h4,by simp[hf]⟩,rfl⟩
theorem Ay {ws:List W}(H:qu ws){i:Nat}{f:dM}{j:Nat}(h:kO ws i= .ok (f,j)):qw f/\f.form=4:=by
 unfold kO at h;obtain⟨_,i1,_,h⟩:=dg h;obtain⟨_,i2,_,h⟩:=dg h;obtain⟨k,i3,_,h⟩:=dg h;obtain⟨_,i4,_,h⟩:=dg h;obtain⟨t,i5,h5,h⟩:=dg h;obtain⟨_,i6,_,h⟩:=dg h;obtain⟨nm,i7,_,h⟩:=dg h;simp at h;obtain⟨rfl,_⟩:=h;obtain⟨_,h3,h4⟩:=ju _ _ _ _ h5;exact⟨⟨H.size _ _ h3,h4,by simp⟩,rfl⟩
theorem wS {ws:List W}(H:qu ws){i:Nat}{p:er}{j:Nat}(h:gp ws i= .ok (p,j)):qx p:=by
 unfold gp at h;obtain⟨_,i1,_,h⟩:=dg h;obtain⟨o,i2,h2,h⟩:=dg h;obtain⟨_,i3,_,h⟩:=dg h;obtain⟨f,i4,h4,h⟩:=dg h;obtain⟨l,i5,h5,h⟩:=dg h;obtain⟨_,i6,_,h⟩:=dg h;obtain⟨l',i7,h7,h8⟩:=dg h5;simp at h;obtain⟨rfl,_⟩:=h;simp at h8;obtain⟨rfl,_⟩:=h8;have a4:=iR H (by decide) h4;have a7:=lG (Q:=fun f=>qw f/\f.form=3) (fun i a j h=>iR H (by decide) h) _ _ _ _ h7;have ho:=(gd _ _ _ _ _ h2).2.2
 have all:∀x∈f::l',qw x/\x.form=3:=by
  intro x hx
  rcases aL.1 hx with rfl|hx
  ·exact a4
  ·exact a7 x hx
 exact⟨fun x hx=>(all x hx).1,.inl ⟨o,rfl,ho,fun x hx=>(all x hx).2⟩⟩
theorem jU {r:mg dM}{p:er}{j:Nat}(hr:∀f j,r= .ok (f,j)->qw f/\(f.form=0\/f.form=1\/f.form=2\/f.form=4))(h:fo r= .ok (p,j)):qx p:=by
 obtain⟨f,i1,h1,h⟩:=dg h;simp at h;obtain⟨rfl,_⟩:=h;have:=hr _ _ h1;exact⟨by intro x hx;simp at hx;subst hx;exact this.1,.inr ⟨rfl,f,rfl,this.2⟩⟩
theorem yv {ws:List W}(H:qu ws){i:Nat}{p:er}{j:Nat}(h:kX ws i= .ok (p,j)):qx p:=by
 unfold kX at h
 split at h
 ·exact wS H h
 ·split at h
  ·exact jU (fun f j hf=>by have:=Ay H hf;exact⟨this.1,by simp[this.2]⟩) h
  ·split at h
   ·exact jU (fun f j hf=>by have:=iR H (by decide) hf;exact⟨this.1,by simp[this.2]⟩) h
   ·split at h
    ·exact jU (fun f j hf=>by have:=iR H (by decide) hf;exact⟨this.1,by simp[this.2]⟩) h
    ·exact jU (fun f j hf=>by have:=iR H (by decide) hf;exact⟨this.1,by simp[this.2]⟩) h
theorem yw {ws:List W}(H:qu ws){bs:List dh}{j:Nat}(h:oH ws= .ok (bs,j)):∀b∈bs,wO b:=by
 refine lG (Q:=wO) (fun i b j hb=> ?_) _ _ _ _ h;unfold jg at hb
 split at hb
 ·unfold jP at hb;obtain⟨_,i1,_,hb⟩:=dg hb;obtain⟨n,i2,_,hb⟩:=dg hb;obtain⟨_,i3,_,hb⟩:=dg hb;obtain⟨l,i4,_,hb⟩:=dg hb;obtain⟨_,i5,_,hb⟩:=dg hb;simp at hb;obtain⟨rfl,_⟩:=hb;intro p hp;simp at hp
 ·unfold fH at hb;obtain⟨_,i1,_,hb⟩:=dg hb;obtain⟨n,i2,_,hb⟩:=dg hb;obtain⟨_,i3,_,hb⟩:=dg hb;obtain⟨l,i4,h4,hb⟩:=dg hb;obtain⟨_,i5,_,hb⟩:=dg hb;simp at hb;obtain⟨rfl,_⟩:=hb;exact lG (Q:=qx) (fun i p j hp=>yv H hp) _ _ _ _ h4
def yx:ar:=kW.map fun l=>⟨l.toArray⟩
theorem yy (s:am):(cZ s==3)=g9 s.toList:=by
 cases h4:g9 s.toList
 ·unfold cZ gZ
  by_cases h0:s.size=0
  ·simp[h0]
  ·cases h1:sH (eB s 0)<;>cases h2:jZ (eB s 0)<;>cases h3:ow s.toList<;>simp[h0,h4]
 ·have hs:s=⟨s.toList.toArray⟩:=by rw[ByteArray.toList_eq]
  have hm:s.toList∈kW:=by simpa [g9]using h4
  have:∀l∈kW,(cZ ⟨l.toArray⟩==3)=true:=by decide+kernel
  rw[hs];exact this _ hm
inductive PM where
 |mk (fs:List (Int×List (Int×am×PM))) (unk:am)
abbrev PV:=Int×am×PM
abbrev PF:=Int×List PV
def PM.fs:PM->List PF
 | .mk fs _=>fs
def PM.unk:PM->am
 | .mk _ u=>u
def eS:am:=⟨#[]⟩
def PM.none:PM:= .mk [] eS
def PV.none:PV:=(0,eS,PM.none)
def gy (a b:am):Bool:=a.toList==b.toList
structure ek where
 name:am
 ty:am
 key:am
 how:am
 num:Int
structure MT where
 name:am
 fs:List ek
structure dG where
 ms:List MT
 es:ar
def C9:am:=⟨#[109,97,112]⟩
def Jr:am:=⟨#[114,101,112,101,97,116,101,100]⟩
def lp:am:=⟨#[111,112,116,105,111,110,97,108]⟩
def ek.isMap (f:ek):Bool:=gy f.how C9
def ek.isRep (f:ek):Bool:=gy f.how Jr
def ki:List MT->am->Option MT
 | [],_=>none
 |m::l,s=>if gy m.name s then some m else ki l s
def dG.msg (S:dG)(s:am):Option MT:=ki S.ms s
def lH:am:=⟨#[107,101,121]⟩
def oz:am:=⟨#[118,97,108,117,101]⟩
def dW (f:ek):MT:=⟨eS,[⟨lH,f.key,eS,lp,1⟩,⟨oz,f.ty,eS,lp,2⟩]⟩
def ed (S:dG)(f:ek):Option MT:=if f.isMap then some (dW f)else S.msg f.ty
def dv:List ek->Int->Option ek
 | [],_=>none
 |f::l,n=>if f.num=n then some f else dv l n
def yA:List (List UInt8)->List UInt8->Nat->Option Nat
 | [],_,_=>none
 |x::l,s,k=>if s==x then some k else yA l s (k+1)
def dG.base (S:dG)(t:am):Nat:=
 match yA kW t.toList 0 with
 |some k=>k
 |none=>if dX S.es t then 15 else 16
def dL (k:Nat):Nat:=
 if k<=6 then 0 else if k=8\/k=10\/k=12 then 1 else if k=7\/k=9\/k=11 then 5 else if k=15 then 0 else 2
def dG.wire (S:dG)(t:am):Nat:=dL (S.base t)
def eZ (S:dG)(f:ek):Nat:=if f.isMap then 2 else S.wire f.ty
def qy (n:Int):Int:=if n%4294967296<2147483648 then n%4294967296 else n%4294967296+18446744069414584320
def En (v:Int):Int:=if v%2=1 then 18446744073709551615-v/2 else v/2
def eW (k:Nat)(n:Int):Int:=
 if k=0\/k=9\/k=15 then qy n else if k=2 then n%4294967296 else if k=4 then En (n%4294967296)else if k=5 then En n
 else if k=6 then(if 0<n then 1 else 0)else n
abbrev Fx (α:Type):=Except (Int×Int) α
def lD (b:am)(a e:Nat):Nat->Nat->Int->Fx (Int×Nat)
 |0,_,_=> .error (7,a)
 |f+1,i,n=>
  if a+i<e then
   (
    if i=9/\1<eB b (a+i)then .error (7,a) else if eB b (a+i)<128 then .ok (n+eB b (a+i)%128*2^(7*i),a+i+1) else lD b a e f (i+1) (n+eB b (a+i)%128*2^(7*i)))
  else .error (6,a)
def fA (b:am)(a e:Nat):Fx (Int×Nat):=lD b a e 10 0 0
def Lh (s:am):Nat->Nat->Int
 |0,_=>0
 |f+1,i=>if i<s.size then 256*Lh s f (i+1)+eB s i else 0
def Au (s:am):Int:=Lh s s.size 0
structure rK where
 num:Int
 kind:Nat
 a:Nat
 fr:Nat
 e:Nat
 n:Int
def fF (b:am)(a e:Nat):Fx rK:=
 match fA b a e with
 | .error x=> .error x
 | .ok (t,fr)=>
  if t/8<1\/536870911<t/8 then .error (8,a)
  else if t%8=0 then
   match fA b fr e with
   | .error x=> .error x
   | .ok (n,en)=> .ok ⟨t/8,0,a,fr,en,n⟩
  else if t%8=1 then(if fr+8<=e then .ok ⟨t/8,1,a,fr,fr+8,Au (b.extract fr (fr+8))⟩else .error (6,fr))
  else if t%8=5 then(if fr+4<=e then .ok ⟨t/8,5,a,fr,fr+4,Au (b.extract fr (fr+4))⟩else .error (6,fr))
  else if t%8=2 then
   match fA b fr e with
   | .error x=> .error x
   | .ok (n,bh)=>if(bh:Int)+n<=e then .ok ⟨t/8,2,a,bh,bh+n.toNat,0⟩else .error (6,bh)
  else .error (9,a)
def fU:List PF->Int->List PV
 | [],_=> []
 |x::l,n=>if x.1=n then x.2 else fU l n
def PM.get (m:PM)(n:Int):List PV:=fU m.fs n
def iG (n:Int)(l:List PV):Bool->List PF->List PF
 |done,[]=>if done then []else [(n,l)]
 |done,x::r=>
  (if !done&&decide (n<=x.1)then [(n,l)]else [])++((if x.1=n then []else [x])++iG n l (done||decide (n<=x.1)) r)
def PM.put (m:PM)(n:Int)(l:List PV):PM:= .mk (iG n l l.isEmpty m.fs) m.unk
def PM.keep (m:PM)(s:am):PM:= .mk m.fs (m.unk++s)
def kY:ar:= [⟨#[105,110,116,51,50]⟩,⟨#[105,110,116,54,52]⟩,⟨#[115,105,110,116,51,50]⟩,⟨#[115,105,110,116,54,52]⟩,⟨#[115,102,105,120,101,100,51,50]⟩,⟨#[115,102,105,120,101,100,54,52]⟩]
def oA:am:=⟨#[115,116,114,105,110,103]⟩
def Js (n:Int):Int:=if n<9223372036854775808 then n else n-18446744073709551616
def sN (t:am)(x y:PV):Bool:=
 if gy t oA then Op.bytesLess x.2.1.toList y.2.1.toList else if dX kY t then decide (Js x.1<Js y.1)else decide (x.1<y.1)
def gr (v:PV):PV:=(v.2.2.get 1).headD PV.none
def mG (x y:PV):Bool:=decide (x.1=y.1)&&gy x.2.1 y.2.1
def gM (t:am)(v:PV):Bool->List PV->List PV
 |done,[]=>if done then []else [v]
 |done,x::r=>
  (if !done&&(sN t (gr v) (gr x)||mG (gr v) (gr x))then [v]else [])++
   ((if mG (gr v) (gr x)then []else [x])++gM t v (done||(sN t (gr v) (gr x)||mG (gr v) (gr x))) r)
def kj (t:am)(l:List PV)(v:PV):List PV:=gM t v false l
def et (m:PM)(n:Int):PM:=if(m.get n).isEmpty then m.put n [PV.none]else m
def gH (m:PM):PM:= .mk (et (et m 1) 2).fs eS
def sO (S:dG)(d:MT)(deep:Nat):Bool:=
 if !(gy d.name eS)||deep !=8 then decide (8<deep)else
 match d.fs with
 |_::f::_=>(S.msg f.ty).isSome
 |_=>false
def jw (how:am):Bool:=eB how 0==46
def jx (f:ek):List ek->PM->PM
 | [],m=>m
 |o::l,m=>jx f l (if gy o.how f.how&&jw o.how&&decide (o.num≠f.num)then m.put o.num []else m)
def iw (S:dG)(d:MT)(f:ek)(m:PM)(v:PV):PM:=
 if f.isMap then m.put f.num (kj f.key (m.get f.num) (v.1,v.2.1,gH v.2.2))
 else if f.isRep then m.put f.num (m.get f.num++ [v])
 else if gy f.how eS&&(ed S f).isNone&&decide (v.1=0)&&gy v.2.1 eS then m.put f.num []
 else(jx f d.fs m).put f.num [v]
def eA (f:ek)(m:PM):PV:=if f.isRep||f.isMap then PV.none else(m.get f.num).headD PV.none
def Eo (s:am):Nat->Nat->Int->Option Int
 |0,_,c=>some c
 |f+1,i,c=>if eB s i<128\/191<eB s i then none else Eo s f (i+1) (64*c+eB s i-128)
def LC (s:am)(n:Nat)(low c:Int):Option Nat:=
 if s.size<n then none else
 match Eo s (n-1) 1 c with
 |none=>none
 |some c=>if c<low\/1114111<c\/(55296<=c/\c<=57343)then none else some n
def Mx (s:am):Option Nat:=
 if 240<=eB s 0 then LC s 4 65536 (eB s 0-240)else if 224<=eB s 0 then LC s 3 2048 (eB s 0-224)
 else if 192<=eB s 0 then LC s 2 128 (eB s 0-192)else if 128<=eB s 0 then none else LC s 1 0 (eB s 0)
def LD:Nat->am->Bool
 |0,_=>true
 |f+1,s=>if s.size=0 then true else
  match Mx s with
  |none=>false
  |some n=>LD f (s.extract n s.size)
def Nt (s:am):Bool:=LD s.size s
def pJ (S:dG)(b:am)(f:ek)(r:rK):Fx PV:=
 if r.kind=2 then
  (if gy f.ty oA&& !(Nt (b.extract r.fr r.e))then .error (10,r.fr)else .ok (0,b.extract r.fr r.e,PM.none))
 else .ok (eW (S.base f.ty) r.n,eS,PM.none)
def e7 (b:am)(k:Nat)(e:Nat):Nat->List PV->Nat->Fx (List PV)
 |0,l,_=> .ok l
 |F+1,l,a=>
  if a<e then
   if dL k=0 then
    match fA b a e with
    | .error x=> .error x
    | .ok (n,z)=>e7 b k e F (l++ [(eW k n,eS,PM.none)]) z
   else
    let z:=if dL k=5 then 4 else 8
    if a+z<=e then e7 b k e F (l++ [(eW k (Au (b.extract a (a+z))),eS,PM.none)]) (a+z)else .error (6,a)
  else .ok l
def mH (S:dG)(b:am)(f:ek)(l:List PV)(a e:Nat):Fx (List PV):=e7 b (S.base f.ty) e (e-a) l a
def dQ (S:dG)(b:am):Nat->MT->PM->Nat->Nat->Nat->Fx PM
 |0,_,m,_,_,_=> .ok m
 |F+1,d,m,a,e,deep=>
  if a<e then
   match fF b a e with
   | .error x=> .error x
   | .ok r=>
    match dv d.fs r.num with
    |none=>dQ S b F d (m.keep (b.extract r.a r.e)) r.e e deep
    |some f=>
     if r.kind=eZ S f then
      match ed S f with
      |some sub=>
       if sO S sub (deep+1)then .error (11,r.fr)
       else match dQ S b F sub (eA f m).2.2 r.fr r.e (deep+1)with
        | .error x=> .error x
        | .ok sm=>dQ S b F d (iw S d f m ((eA f m).1,(eA f m).2.1,sm)) r.e e deep
      |none=>
       match pJ S b f r with
       | .error x=> .error x
       | .ok v=>dQ S b F d (iw S d f m v) r.e e deep
     else if r.kind=2/\f.isRep then
      match mH S b f (m.get f.num) r.fr r.e with
      | .error x=> .error x
      | .ok l=>dQ S b F d (m.put f.num l) r.e e deep
     else dQ S b F d (m.keep (b.extract r.a r.e)) r.e e deep
  else .ok m
def gN (S:dG)(name b:am):Fx PM:=
 match S.msg name with
 |none=> .error (5,0)
 |some d=>dQ S b (b.size+1) d PM.none 0 b.size 1
section
open Go.Maps Go.ChangeMaps Go.WideMaps Go.WideElems
def mX (s:ByteArray):ByteArray:=⟨#[46]⟩++s
def uJ (o:Option W)(form:Int):ByteArray:=
 match o with
 |some x=>mX x.1
 |none=>if form=0 then eS else if form=1 then lp else if form=2 then Jr else C9
def gU (o:Option W)(f:dM):ek:=⟨f.name.1,f.type.1,iz f.key,uJ o f.form,fy f.num.1⟩
structure GF where
 f:ek
 form:Int
 riv:List Int
def gV (f:dM):Int:=fy f.num.1
def mY (p:er)(f:dM):List Int:=(p.fields.filter fun o=>decide (gV o≠gV f)).map gV
def pK (p:er)(f:dM):GF:=⟨gU p.oneof f,f.form,mY p f⟩
def rj (b:dh):List GF:=b.parts.flatMap fun p=>p.fields.map (pK p)
def o8 (t:ByteArray):Nat:=(yA kW t.toList 0).getD 0
def gQ (mp:ByteArray->Option Nat)(t:ByteArray):Nat:=if cZ t=3 then o8 t else if(mp t).isSome then 16 else 15
def uK (mp:ByteArray->Option Nat)(t:ByteArray):Option Nat:=if cZ t=3 then none else mp t
def ft:Option Nat->Value
 |none=> .pointer none
 |some b=> .pointer (some ⟨b,0,none⟩)
def eL (l:List Int):List Value:=l.map (Value.int .i64)
def ko (w:World)(P:Nat->Prop)(mp:ByteArray->Option Nat)(g:GF)(fb:Nat):Prop:=
 ∃rv,de w fb #[.int .i64 g.f.num,.int .i64 g.form,.int .i64 (gQ mp g.f.ty),ft (uK mp g.f.ty),rv] 220/\P fb/\dJ w P 3 1 rv g.riv.length (eL g.riv)
def dV (l:List Nat):List Value:=l.map fun b=>ft (some b)
def jj (s:ByteArray)(t:ByteArray)(n:Int):GF:=⟨⟨s,t,eS,lp,n⟩,1,[]⟩
def jQ (w:World)(P:Nat->Prop)(mp:ByteArray->Option Nat)(key val:ByteArray)(eb:Nat):Prop:=
 ∃fv b1 b2,de w eb #[.string eS,fv] 108/\P eb/\dJ w P 212 1 fv 2 (dV [b1,b2])/\ko w P mp (jj lH key 1) b1/\ko w P mp (jj oz val 2) b2
def dP (w:World)(P:Nat->Prop)(mp:ByteArray->Option Nat)(g:GF)(fb:Nat):Prop:=
 if g.form=4 then∃rv eb,de w fb #[.int .i64 g.f.num,.int .i64 4,.int .i64 16,ft (some eb),rv] 220/\P fb/\dJ w P 3 1 rv g.riv.length (eL g.riv)/\jQ w P mp g.f.key g.f.ty eb
 else ko w P mp g fb
def eH (w:World)(P:Nat->Prop)(mp:ByteArray->Option Nat):List GF->List Nat->Prop
 | [],l=>l= []
 |g::gs,l=>∃b r,l=b::r/\dP w P mp g b/\eH w P mp gs r
def gD (w:World)(P:Nat->Prop)(mp:ByteArray->Option Nat)(b:Nat)(name:ByteArray)(gs:List GF):Prop:=
 ∃fv N2,de w b #[.string name,fv] 108/\P b/\dJ w P 212 1 fv N2.length (dV N2)/\eH w P mp gs N2
section
variable {w w':World} {P Q:Nat->Prop} {mp:ByteArray->Option Nat}
theorem ko.keep (hk:∀b,P b->b<w.heap.size->w'.heap[b]?=w.heap[b]?){g:GF}{fb:Nat}(h:ko w P mp g fb):ko w' P mp g fb:=by
 obtain⟨rv,h1,h2,h3⟩:=h;exact⟨rv,(hk fb h2 h1.lt).trans h1,h2,h3.keep hk⟩
theorem jQ.keep (hk:∀b,P b->b<w.heap.size->w'.heap[b]?=w.heap[b]?){k v:ByteArray}{eb:Nat}(h:jQ w P mp k v eb):jQ w' P mp k v eb:=by
 obtain⟨fv,b1,b2,h1,h2,h3,h4,h5⟩:=h;exact⟨fv,b1,b2,(hk eb h2 h1.lt).trans h1,h2,h3.keep hk,h4.keep hk,h5.keep hk⟩
theorem dP.keep (hk:∀b,P b->b<w.heap.size->w'.heap[b]?=w.heap[b]?){g:GF}{fb:Nat}(h:dP w P mp g fb):dP w' P mp g fb:=by
 unfold dP at h⊢
 split at h
 ·rename_i h0
  rw[if_pos h0];obtain⟨rv,eb,h1,h2,h3,h4⟩:=h;exact⟨rv,eb,(hk fb h2 h1.lt).trans h1,h2,h3.keep hk,h4.keep hk⟩
 ·rename_i h0
  rw[if_neg h0];exact ko.keep hk h
theorem eH.keep (hk:∀b,P b->b<w.heap.size->w'.heap[b]?=w.heap[b]?):∀{gs:List GF} {l:List Nat},eH w P mp gs l->eH w' P mp gs l
 | [],_,h=>h
 |_::_,_,⟨b,r,h1,h2,h3⟩=>⟨b,r,h1,h2.keep hk,eH.keep hk h3⟩
theorem gD.keep (hk:∀b,P b->b<w.heap.size->w'.heap[b]?=w.heap[b]?){b:Nat}{name:ByteArray}{gs:List GF}(h:gD w P mp b name gs):gD w' P mp b name gs:=by
 obtain⟨fv,N2,h1,h2,h3,h4⟩:=h;exact⟨fv,N2,(hk b h2 h1.lt).trans h1,h2,h3.keep hk,h4.keep hk⟩
theorem ko.mono (hs:∀b,P b->b<w.heap.size->Q b){g:GF}{fb:Nat}(h:ko w P mp g fb):ko w Q mp g fb:=by
 obtain⟨rv,h1,h2,h3⟩:=h;exact⟨rv,h1,hs _ h2 h1.lt,h3.mono hs⟩
theorem jQ.mono (hs:∀b,P b->b<w.heap.size->Q b){k v:ByteArray}{eb:Nat}(h:jQ w P mp k v eb):jQ w Q mp k v eb:=by
 obtain⟨fv,b1,b2,h1,h2,h3,h4,h5⟩:=h;exact⟨fv,b1,b2,h1,hs _ h2 h1.lt,h3.mono hs,h4.mono hs,h5.mono hs⟩
theorem dP.mono (hs:∀b,P b->b<w.heap.size->Q b){g:GF}{fb:Nat}(h:dP w P mp g fb):dP w Q mp g fb:=by
 unfold dP at h⊢
 split at h
 ·rename_i h0
  rw[if_pos h0];obtain⟨rv,eb,h1,h2,h3,h4⟩:=h;exact⟨rv,eb,h1,hs _ h2 h1.lt,h3.mono hs,h4.mono hs⟩
 ·rename_i h0
  rw[if_neg h0];exact ko.mono hs h
theorem eH.mono (hs:∀b,P b->b<w.heap.size->Q b):∀{gs:List GF} {l:List Nat},eH w P mp gs l->eH w Q mp gs l
 | [],_,h=>h
 |_::_,_,⟨b,r,h1,h2,h3⟩=>⟨b,r,h1,h2.mono hs,eH.mono hs h3⟩
theorem gD.mono (hs:∀b,P b->b<w.heap.size->Q b){b:Nat}{name:ByteArray}{gs:List GF}(h:gD w P mp b name gs):gD w Q mp b name gs:=by
 obtain⟨fv,N2,h1,h2,h3,h4⟩:=h;exact⟨fv,N2,h1,hs _ h2 h1.lt,h3.mono hs,h4.mono hs⟩
theorem eH.len:∀{gs:List GF} {l:List Nat},eH w P mp gs l->l.length=gs.length
 | [],_,h=>by rw[show _= []from h];rfl
 |_::_,_,⟨b,r,h1,_,h3⟩=>by rw[h1];simp[h3.len]
theorem eH.snoc {g:GF}{b:Nat}(h2:dP w P mp g b):∀{gs:List GF} {l:List Nat},eH w P mp gs l->eH w P mp (gs++ [g]) (l++ [b])
 | [],_,h=>by rw[show _= []from h];exact⟨b,[],rfl,h2,rfl⟩
 |_::_,_,⟨c,r,h1,h3,h4⟩=>by rw[h1];exact⟨c,r++ [b],rfl,h3,eH.snoc h2 h4⟩
theorem eH.get:∀{gs:List GF} {l:List Nat},eH w P mp gs l->∀{i:Nat} {g:GF},gs[i]?=some g->∃b,l[i]?=some b/\dP w P mp g b
 | [],_,_,i,g,h=>by simp at h
 |_::_,_,⟨b,r,h1,h3,h4⟩,0,g,h=>by
  simp at h;subst h;subst h1;exact⟨b,rfl,h3⟩
 |_::_,_,⟨b,r,h1,h3,h4⟩,i+1,g,h=>by
  subst h1;obtain⟨c,q1,q2⟩:=h4.get (i:=i) (g:=g) (by simpa using h);exact⟨c,by simpa using q1,q2⟩
end
def eU:Value->Option (DataW Unit×List MemPlace)
 | .pointer none=>some (.lit (.int .i64 (-1)),[])
 | .pointer (some ⟨b,0,none⟩)=>some (.lit (.int .i64 b),[])
 |_=>none
theorem jk (o:Option Nat):eU (ft o)=some (.lit (.int .i64 (match o with|some b=>(b:Int)|none=> -1)),[]):=by cases o<;>rfl
theorem mZ {v:Value}{o:Option Nat}{ps:List MemPlace}(h:eU v=some (.lit (.int .i64 (match o with|some b=>(b:Int)|none=> -1)),ps)):v=ft o:=by
 unfold eU at h
 split at h
 ·cases o with
  |none=>rfl
  |some b=>simp at h
 ·cases o with
  |none=>simp at h
  |some b=>simp at h;have e:=Int.ofNat.inj h.1;subst e;rfl
 ·cases h
def lI (o:Option Nat):DataW Unit:= .lit (.int .i64 (match o with|some b=>(b:Int)|none=> -1))
def eI (w:World)(b n:Nat)(mp:ByteArray->Option Nat):Prop:=
 ∃D,w.ownsMap Tryz.prog 9 eU b n D/\∀s:ByteArray,D.atKey (oy s) (lI none)=lI (mp s)
def gW (mp:ByteArray->Option Nat)(s:ByteArray)(b:Nat):ByteArray->Option Nat:=fun t=>if gy t s then some b else mp t
theorem eI.keep {w w':World}{b n:Nat}{mp:ByteArray->Option Nat}(h:eI w b n mp)(hb:w'.heap[b]?=w.heap[b]?):eI w' b n mp:=by
 obtain⟨D,h1,h2⟩:=h;exact⟨D,iQ h1 hb,h2⟩
theorem eI.lt {w:World}{b n:Nat}{mp:ByteArray->Option Nat}(h:eI w b n mp):b<w.heap.size:=by
 obtain⟨D,h1,h2⟩:=h;exact h1.lt
theorem eI.made (w:World):eI (w.alloc (.map #[] 0)) w.heap.size 0 (fun _=>none):=
 ⟨_,World.ownsMap_made w Tryz.prog 9 eU,fun _=>rfl⟩
theorem BN (s t:ByteArray):oy t=oy s<->gy t s=true:=by
 unfold oy gy;rw[ByteArray.toList_eq,ByteArray.toList_eq];simp
theorem Hl {D:DataW Unit}{mp:ByteArray->Option Nat}(hm:IsMap D)(h:∀s:ByteArray,D.atKey (oy s) (lI none)=lI (mp s))(s:ByteArray)(b:Nat):
  ∀t:ByteArray,(D.put (oy s) (lI (some b))).atKey (oy t) (lI none)=lI (gW mp s b t):=by
 intro t;unfold gW
 by_cases e:gy t s=true
 ·rw[if_pos e,(BN s t).2 e];exact atKey_put_same hm (show WideAt.IsKeyLit (oy s)from trivial) _ _
 ·rw[if_neg e,atKey_put_other (fun h=>e ((BN s t).1 h))];exact h t
end
section
open Go.Maps
attribute [local go_sem↓] Go.wp_at_zero Go.wp_at_succ
theorem pL (w:an)(f:dM)(h:gT f.num.1)(hb:fy f.num.1<=536870911)(hg:GOK w):
  Calls Tryz.prog 109 #[.agg (FC f)] w fun e w'=>e= .returned (aa (gV f))/\aj w w':=by
 have B0:=(Below.refl w.heap.size w).alloc (ay _) (FO f);have wr:IntKind.i64.wrap (fy f.num.1:Int)=(fy f.num.1:Int):=by simp[IntKind.wrap,IntKind.bits,IntKind.signed];omega
 unfold gV;go_enter Tryz.func109,Tryz.ntmps109
 go_wp2_with fail
 refine(Jm _ _ _ _ h (hg.keep (Below.heap_alloc _ _ _ hg.lt))).mono ?_;rintro e w1 ⟨rfl,N2⟩;go_wp2;go_ret;exact⟨rfl,B0.trans (N2.mono (by simp))⟩
end
end Go.Proofs.YtfebdimolnobaaaGreatDoor
