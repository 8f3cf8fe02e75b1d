import Derived.Test.YtfebdimolnobaaaGreatDoorEnD
set_option maxRecDepth 100000
set_option maxHeartbeats 8000000
set_option linter.all false
namespace Go.Proofs.YtfebdimolnobaaaGreatDoor
open Go.RowKit Go.Proofs.Tryz
section
open VH
def TD:Nat->PM->Prop
 |0,_=>True
 |k+1,m=>m.fs.length<=4398046511104/\∀x∈m.fs,x.2.length<=4398046511104/\∀v∈x.2,TD k v.2.2
def pi.ln:∀{k:Nat} {m:PM},pi k m->TD k m
 |0,_,_=>trivial
 |_+1,_,h=>⟨h.1,λx hx=>⟨(h.2.2 x hx).1,λv hv=>pi.ln ((h.2.2 x hx).2 v hv).2.2.2⟩⟩
def U4 (k:Nat):Prop:=∀(w:aw) (Z Z':ax) (v v':Value) (m:PM),gV k w Z v m->gV k w Z' v' m->TD k m->
 Vq 27 #[.agg #[v,ag m.unk],.agg #[v',ag m.unk]] w λe w'=>e= .returned (.bool true)/\ak w w'
def MF:∀k,U4 k
 |0=>λw Z Z' v v' m h=>h.elim
 |k+1=>λw Z Z' v v' m h h' hO=>by
  have H:=MF k;obtain⟨cs,hr,hv⟩:=h;obtain⟨cs',VV,VZ⟩:=h';obtain⟨a,c,rfl⟩:=hr.form;obtain⟨a',c',rfl⟩:=VV.form;obtain⟨ho1,V0⟩:=hO;obtain⟨B0,KA,KB⟩:=gN w #[.slice a m.fs.length c,ag m.unk] #[.slice a' m.fs.length c',ag m.unk] 49 49;have hxx:(m.unk.toList==m.unk.toList)=true:=Vw;obtain⟨k1,k2⟩:=KA.I;obtain⟨k3,k4⟩:=KB.I;go_enter func27,ntmps27;go_wp2;generalize(w.alloc (am #[.slice a m.fs.length c,ag m.unk] 49)).alloc (am #[.slice a' m.fs.length c',ag m.unk] 49)=w0 at*;go_loopw [5,6,7,8,9] (λiv _ _ _ _ wr=>∃i:Nat,i<=m.fs.length/\iv=aa i/\ak w0 wr) (λiv _ _ _ _ _=>m.fs.length-(intOf iv).toNat)
  case atStart=>exact⟨0,aP _,rfl,Below.refl _ _⟩
  case round=>
   clear k1 k2 k3 k4;obtain⟨i,hi,rfl,B⟩:=hrel;have VT:=KA.G B KA.lt;have VU:=KB.G B KB.lt;obtain⟨k1,k2⟩:=VT.I;obtain⟨k3,k4⟩:=VU.I;by_cases hlt:i<m.fs.length
   .obtain⟨x,hx⟩:=gx hlt;obtain⟨vv,p1,p2,p3⟩:=hv.get hx;obtain⟨vv',q1,q2,q3⟩:=VZ.get hx;obtain⟨g,rfl,_,VW,VJ⟩:=hr.at Vv;obtain⟨g',rfl,_,VM,VI⟩:=VV.at Vv;obtain⟨ma,mc,rfl⟩:=p1.form;obtain⟨ma',mc',rfl⟩:=q1.form;have hli:(i:Int)<(m.fs.length:Int):=Vv;have Bw:=dW B0 B;have t0:=VJ wr (Bw.block _ VW) _ _ p2;have t1:=lK (VJ wr (Bw.block _ VW) _ _ p3);have u0:=VI wr (Bw.block _ VM) _ _ q2;have u1:=lK (VI wr (Bw.block _ VM) _ _ q3);obtain⟨hox1,VQ⟩:=V0 x (aL hx);clear VJ VI p2 p3 q2 q3 hx;obtain⟨vcs,V7,V8⟩:=p1;obtain⟨vcs',VR,VS⟩:=q1
    have HC:Hid (∀(W:aw) (y:PV) (mv VN:Value),ak w W->y∈x.2->gV k w Z mv y.2.2->gV k w Z' VN y.2.2->Vq 27 #[.agg #[mv,ag y.2.2.unk],.agg #[VN,ag y.2.2.unk]] W λe w'=>e= .returned (.bool true)/\Below W.heap.size W w'):=λW y mv VN hW hy h1 h2=>
     H W Z Z' mv VN y.2.2 (h1.G hW (aE _)) (h2.G hW (aE _)) (VQ y hy)
    go_upto_region 8 with fail
    go_quiet (fail);go_wp2;clear k1 k2 k3 k4 t0 t1 u0 u1 VT VU Bw;go_loopw [8,9] (λjv _ wr=>∃j:Nat,j<=x.2.length/\jv=aa j/\ak w0 wr) (λjv _ _=>x.2.length-(intOf jv).toNat)
    case atStart=>exact⟨0,aP _,rfl,iu B _⟩
    case round=>
     obtain⟨j,hj,rfl,Bj⟩:=hrel;have Bw:=dW B0 Bj;by_cases hlj:j<x.2.length
     .obtain⟨y,hy⟩:=gx hlj;obtain⟨mv,a1,a2,a3,a4,a5⟩:=V8.get hy;obtain⟨VN,b1,b2,b3,b4,b5⟩:=VS.get hy;obtain⟨na,nc,rfl⟩:=a1.form;obtain⟨VX,VY,rfl⟩:=b1.form;obtain⟨e,rfl,_,VP,VO⟩:=V7.at Vv;obtain⟨e',rfl,_,VL,VK⟩:=VR.at Vv;have hjl:(j:Int)<(x.2.length:Int):=Vv;have hyy:(y.2.1.toList==y.2.1.toList)=true:=Vw;have HS:Hid (∀W:aw,ak w W->(W.cell? (aj ((e.add (j*4)).block) ((e.add (j*4)).off+2))=some (.slice na y.2.2.fs.length nc)/\W.cell? (aj ((e.add (j*4)).block) ((e.add (j*4)).off+3))=some (ag y.2.2.unk))/\(W.cell? (aj ((e'.add (j*4)).block) ((e'.add (j*4)).off+2))=some (.slice VX y.2.2.fs.length VY)/\W.cell? (aj ((e'.add (j*4)).block) ((e'.add (j*4)).off+3))=some (ag y.2.2.unk))):=λW hW=>⟨⟨lK (VO W (hW.block _ VP) _ _ a4),lK (VO W (hW.block _ VP) _ _ a5)⟩,lK (VK W (hW.block _ VL) _ _ b4),lK (VK W (hW.block _ VL) _ _ b5)⟩
      have HN:Hid (∀W:aw,ak w W->(W.cell? (e.add (j*4))=some (.int .u64 y.1)/\W.cell? (aj ((e.add (j*4)).block) ((e.add (j*4)).off+1))=some (ag y.2.1))/\(W.cell? (e'.add (j*4))=some (.int .u64 y.1)/\W.cell? (aj ((e'.add (j*4)).block) ((e'.add (j*4)).off+1))=some (ag y.2.1))):=λW hW=>⟨⟨VO W (hW.block _ VP) _ _ a2,lK (VO W (hW.block _ VP) _ _ a3)⟩,VK W (hW.block _ VL) _ _ b2,lK (VK W (hW.block _ VL) _ _ b3)⟩
      have HX:=HC.o _ y _ _ Bw.drew (aL hy) a1 b1;clear VO VK a2 a3 a4 a5 b2 b3 b4 b5 hy;go_upto_region 13 with fail
      go_region_held2 (λW=>(W.cell? (aj ((e.add (j*4)).block) ((e.add (j*4)).off+2))=some (.slice na y.2.2.fs.length nc)/\W.cell? (aj ((e.add (j*4)).block) ((e.add (j*4)).off+3))=some (ag y.2.2.unk))/\(W.cell? (aj ((e'.add (j*4)).block) ((e'.add (j*4)).off+2))=some (.slice VX y.2.2.fs.length VY)/\W.cell? (aj ((e'.add (j*4)).block) ((e'.add (j*4)).off+3))=some (ag y.2.2.unk)))
       (first|exact HS.o _ (dW Bw.drew c2)|exact HS.o _ Bw.drew)
       (first|(go_at_call 27;refine HX.V ?_;rintro en w2 ⟨rfl,c2⟩))
      obtain⟨⟨r0,r1⟩,r2,r3⟩:=HN.o _ (dW Bw.drew c2);go_upto_region 14 with fail
      go_quiet (fail);go_wp2;go_roundw
      case rel=>exact⟨j+1,Vv,by go_num,iu (dW Bj.drew c2) _⟩
      case measure=>simp[intOf];omega
     .obtain rfl:j=x.2.length:=Vv;go_wp2;go_roundw
      case rel=>exact⟨i+1,Vv,by go_num,Bj⟩
      case measure=>simp[intOf];omega
   .obtain rfl:i=m.fs.length:=Vv;go_wp2;go_ret;exact⟨rfl,dW B0 B⟩
end
end Go.Proofs.YtfebdimolnobaaaGreatDoor
