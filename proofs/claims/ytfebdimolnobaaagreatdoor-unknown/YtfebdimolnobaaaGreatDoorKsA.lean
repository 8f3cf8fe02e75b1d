import Derived.Test.YtfebdimolnobaaaGreatDoorItA
set_option maxRecDepth 100000
set_option maxHeartbeats 8000000
set_option linter.all false
namespace Go.Proofs.YtfebdimolnobaaaGreatDoor
open Go.RowKit Go.Proofs.Tryz
section
open Vo
def SQ:Nat->PM->Prop
 |0,_=>True
 |k+1,m=>m.fs.length<=1099511627776/\∀x∈m.fs,x.2.length<=1099511627776/\∀v∈x.2,SQ k v.2.2
def pP.ln:∀{k:Nat} {m:PM},pP k m->SQ k m
 |0,_,_=>trivial
 |_+1,_,h=>⟨h.1,λx hx=>⟨(h.2.2 x hx).1,λv hv=>pP.ln ((h.2.2 x hx).2 v hv).2.2.2⟩⟩
def UM (k:Nat):Prop:=∀(w:aw) (Z Z':ax) (v v':Value) (m:PM),gP k w Z v m->gP k w Z' v' m->SQ k m->
 U8 27 #[.agg #[v,ag m.unk],.agg #[v',ag m.unk]] w λe w'=>e= .returned (.bool true)/\ak w w'
def Mz:∀k,UM k
 |0=>λw Z Z' v v' m h=>h.elim
 |k+1=>λw Z Z' v v' m h h' hO=>by
  have H:=Mz k;obtain⟨cs,hr,hv⟩:=h;obtain⟨cs',VC,VG⟩:=h';obtain⟨a,c,rfl⟩:=hr.form;obtain⟨a',c',rfl⟩:=VC.form;obtain⟨ho1,VH⟩:=hO;obtain⟨B0,KA,KB⟩:=gY w #[.slice a m.fs.length c,ag m.unk] #[.slice a' m.fs.length c',ag m.unk] 49 49;have hxx:(m.unk.toList==m.unk.toList)=true:=Vd;obtain⟨k1,k2⟩:=KA.I;obtain⟨k3,k4⟩:=KB.I;go_enter func27,ntmps27;go_wp2;generalize(w.alloc (am #[.slice a m.fs.length c,ag m.unk] 49)).alloc (am #[.slice a' m.fs.length c',ag m.unk] 49)=w0 at*;go_loopw [5,6,7,8,9] (λiv _ _ _ _ wr=>∃i:Nat,i<=m.fs.length/\iv=aa i/\ak w0 wr) (λiv _ _ _ _ _=>m.fs.length-(intOf iv).toNat)
  case atStart=>exact⟨0,aP _,rfl,Below.refl _ _⟩
  case round=>
   clear k1 k2 k3 k4;obtain⟨i,hi,rfl,B⟩:=hrel;have VA:=KA.G B KA.lt;have VB:=KB.G B KB.lt;obtain⟨k1,k2⟩:=VA.I;obtain⟨k3,k4⟩:=VB.I;by_cases hlt:i<m.fs.length
   .obtain⟨x,hx⟩:=gx hlt;obtain⟨vv,p1,p2,p3⟩:=hv.get hx;obtain⟨vv',q1,q2,q3⟩:=VG.get hx;obtain⟨g,rfl,_,VD,Vq⟩:=hr.at Vc;obtain⟨g',rfl,_,Vt,Vp⟩:=VC.at Vc;obtain⟨ma,mc,rfl⟩:=p1.form;obtain⟨ma',mc',rfl⟩:=q1.form;have hli:(i:Int)<(m.fs.length:Int):=Vc;have Bw:=dU B0 B;have t0:=Vq wr (Bw.block _ VD) _ _ p2;have t1:=lI (Vq wr (Bw.block _ VD) _ _ p3);have u0:=Vp wr (Bw.block _ Vt) _ _ q2;have u1:=lI (Vp wr (Bw.block _ Vt) _ _ q3);obtain⟨hox1,Vx⟩:=VH x (aL hx);clear Vq Vp p2 p3 q2 q3 hx;obtain⟨vcs,VI,VJ⟩:=p1;obtain⟨vcs',Vy,Vz⟩:=q1
    have HC:Hid (∀(W:aw) (y:PV) (mv Vu:Value),ak w W->y∈x.2->gP k w Z mv y.2.2->gP k w Z' Vu y.2.2->U8 27 #[.agg #[mv,ag y.2.2.unk],.agg #[Vu,ag y.2.2.unk]] W λe w'=>e= .returned (.bool true)/\Below W.heap.size W w'):=λW y mv Vu hW hy h1 h2=>
     H W Z Z' mv Vu y.2.2 (h1.G hW (aE _)) (h2.G hW (aE _)) (Vx y hy)
    go_upto_region 8 with fail
    go_quiet (fail);go_wp2;clear k1 k2 k3 k4 t0 t1 u0 u1 VA VB Bw;go_loopw [8,9] (λjv _ wr=>∃j:Nat,j<=x.2.length/\jv=aa j/\ak w0 wr) (λjv _ _=>x.2.length-(intOf jv).toNat)
    case atStart=>exact⟨0,aP _,rfl,im B _⟩
    case round=>
     obtain⟨j,hj,rfl,Bj⟩:=hrel;have Bw:=dU B0 Bj;by_cases hlj:j<x.2.length
     .obtain⟨y,hy⟩:=gx hlj;obtain⟨mv,a1,a2,a3,a4,a5⟩:=VJ.get hy;obtain⟨Vu,b1,b2,b3,b4,b5⟩:=Vz.get hy;obtain⟨na,nc,rfl⟩:=a1.form;obtain⟨VE,VF,rfl⟩:=b1.form;obtain⟨e,rfl,_,Vw,Vv⟩:=VI.at Vc;obtain⟨e',rfl,_,Vs,Vr⟩:=Vy.at Vc;have hjl:(j:Int)<(x.2.length:Int):=Vc;have hyy:(y.2.1.toList==y.2.1.toList)=true:=Vd;have HS:Hid (∀W:aw,ak w W->(W.cell? (aj ((e.add (j*4)).block) ((e.add (j*4)).off+2))=some (.slice na y.2.2.fs.length nc)/\W.cell? (aj ((e.add (j*4)).block) ((e.add (j*4)).off+3))=some (ag y.2.2.unk))/\(W.cell? (aj ((e'.add (j*4)).block) ((e'.add (j*4)).off+2))=some (.slice VE y.2.2.fs.length VF)/\W.cell? (aj ((e'.add (j*4)).block) ((e'.add (j*4)).off+3))=some (ag y.2.2.unk))):=λW hW=>⟨⟨lI (Vv W (hW.block _ Vw) _ _ a4),lI (Vv W (hW.block _ Vw) _ _ a5)⟩,lI (Vr W (hW.block _ Vs) _ _ b4),lI (Vr W (hW.block _ Vs) _ _ b5)⟩
      have HN:Hid (∀W:aw,ak w W->(W.cell? (e.add (j*4))=some (.int .u64 y.1)/\W.cell? (aj ((e.add (j*4)).block) ((e.add (j*4)).off+1))=some (ag y.2.1))/\(W.cell? (e'.add (j*4))=some (.int .u64 y.1)/\W.cell? (aj ((e'.add (j*4)).block) ((e'.add (j*4)).off+1))=some (ag y.2.1))):=λW hW=>⟨⟨Vv W (hW.block _ Vw) _ _ a2,lI (Vv W (hW.block _ Vw) _ _ a3)⟩,Vr W (hW.block _ Vs) _ _ b2,lI (Vr W (hW.block _ Vs) _ _ b3)⟩
      have HX:=HC.o _ y _ _ Bw.drew (aL hy) a1 b1;clear Vv Vr a2 a3 a4 a5 b2 b3 b4 b5 hy;go_upto_region 13 with fail
      go_region_held2 (λW=>(W.cell? (aj ((e.add (j*4)).block) ((e.add (j*4)).off+2))=some (.slice na y.2.2.fs.length nc)/\W.cell? (aj ((e.add (j*4)).block) ((e.add (j*4)).off+3))=some (ag y.2.2.unk))/\(W.cell? (aj ((e'.add (j*4)).block) ((e'.add (j*4)).off+2))=some (.slice VE y.2.2.fs.length VF)/\W.cell? (aj ((e'.add (j*4)).block) ((e'.add (j*4)).off+3))=some (ag y.2.2.unk)))
       (first|exact HS.o _ (dU Bw.drew c2)|exact HS.o _ Bw.drew)
       (first|(go_at_call 27;refine HX.V ?_;rintro en w2 ⟨rfl,c2⟩))
      obtain⟨⟨r0,r1⟩,r2,r3⟩:=HN.o _ (dU Bw.drew c2);go_upto_region 14 with fail
      go_quiet (fail);go_wp2;go_roundw
      case rel=>exact⟨j+1,Vc,by go_num,im (dU Bj.drew c2) _⟩
      case measure=>simp[intOf];omega
     .obtain rfl:j=x.2.length:=Vc;go_wp2;go_roundw
      case rel=>exact⟨i+1,Vc,by go_num,Bj⟩
      case measure=>simp[intOf];omega
   .obtain rfl:i=m.fs.length:=Vc;go_wp2;go_ret;exact⟨rfl,dU B0 B⟩
end
end Go.Proofs.YtfebdimolnobaaaGreatDoor
