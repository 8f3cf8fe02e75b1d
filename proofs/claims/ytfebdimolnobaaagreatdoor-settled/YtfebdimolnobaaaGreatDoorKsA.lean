import Derived.Test.YtfebdimolnobaaaGreatDoorEnB
set_option maxRecDepth 100000
set_option maxHeartbeats 8000000
set_option linter.all false
namespace Go.Proofs.YtfebdimolnobaaaGreatDoor
open Go.RowKit Go.Proofs.Tryz
section
attribute [local go_sem↓] Go.wp_at_zero Go.wp_at_succ
def OB:Nat->PM->Prop
 |0,_=>True
 |k+1,m=>m.fs.length<=1099511627776/\∀x∈m.fs,x.2.length<=1099511627776/\∀v∈x.2,OB k v.2.2
def nR.ln:∀{k:Nat} {m:PM},nR k m->OB k m
 |0,_,_=>trivial
 |_+1,_,h=>⟨h.1,λx hx=>⟨(h.2.2 x hx).1,λv hv=>nR.ln ((h.2.2 x hx).2 v hv).2.2.2⟩⟩
def Qp (k:Nat):Prop:=∀(w:an) (Z Z':ap) (v v':Value) (m:PM),iy k w Z v m->iy k w Z' v' m->OB k m->
 Calls prog 27 #[.agg #[v,ae m.unk],.agg #[v',ae m.unk]] w λe w'=>e= .returned (.bool true)/\aj w w'
def DI:∀k,Qp k
 |0=>λw Z Z' v v' m h=>h.elim
 |k+1=>λw Z Z' v v' m h h' hO=>by
  have H:=DI k;obtain⟨cs,hr,hv⟩:=h;obtain⟨cs',Q2,Q6⟩:=h';obtain⟨a,c,rfl⟩:=hr.form;obtain⟨a',c',rfl⟩:=Q2.form;obtain⟨ho1,Q7⟩:=hO;obtain⟨B0,KA,KB⟩:=fK w #[.slice a m.fs.length c,ae m.unk] #[.slice a' m.fs.length c',ae m.unk] 49 49;have hxx:(m.unk.toList==m.unk.toList)=true:=QE;obtain⟨k1,k2⟩:=KA.rules;obtain⟨k3,k4⟩:=KB.rules;go_enter func27,ntmps27;go_wp2;generalize(w.alloc (ak #[.slice a m.fs.length c,ae m.unk] 49)).alloc (ak #[.slice a' m.fs.length c',ae m.unk] 49)=w0 at*;go_loopw [5,6,7,8,9] (λiv _ _ _ _ wr=>∃i:Nat,i<=m.fs.length/\iv=aa i/\aj w0 wr) (λiv _ _ _ _ _=>m.fs.length-(intOf iv).toNat)
  case atStart=>exact⟨0,aM _,rfl,Below.refl _ _⟩
  case round=>
   clear k1 k2 k3 k4;obtain⟨i,hi,rfl,B⟩:=hrel;have Q0:=KA.below B KA.lt;have Q1:=KB.below B KB.lt;obtain⟨k1,k2⟩:=Q0.rules;obtain⟨k3,k4⟩:=Q1.rules
   by_cases hlt:i<m.fs.length
   ·obtain⟨x,hx⟩:=gx hlt;obtain⟨vv,p1,p2,p3⟩:=hv.get hx;obtain⟨vv',q1,q2,q3⟩:=Q6.get hx;obtain⟨g,rfl,_,Q3,QQ⟩:=hr.at QD;obtain⟨g',rfl,_,QT,QP⟩:=Q2.at QD;obtain⟨ma,mc,rfl⟩:=p1.form;obtain⟨ma',mc',rfl⟩:=q1.form;have hli:(i:Int)<(m.fs.length:Int):=QD;have Bw:=dG B0 B;have t0:=QQ wr (Bw.block _ Q3) _ _ p2;have t1:=lf (QQ wr (Bw.block _ Q3) _ _ p3);have u0:=QP wr (Bw.block _ QT) _ _ q2;have u1:=lf (QP wr (Bw.block _ QT) _ _ q3);obtain⟨hox1,QX⟩:=Q7 x (aI hx);clear QQ QP p2 p3 q2 q3 hx;obtain⟨vcs,Q8,Q9⟩:=p1;obtain⟨vcs',QY,QZ⟩:=q1
    have HC:Hid (∀(W:an) (y:PV) (mv QU:Value),aj w W->y∈x.2->iy k w Z mv y.2.2->iy k w Z' QU y.2.2->Calls prog 27 #[.agg #[mv,ae y.2.2.unk],.agg #[QU,ae y.2.2.unk]] W λe w'=>e= .returned (.bool true)/\Below W.heap.size W w'):=λW y mv QU hW hy h1 h2=>
     H W Z Z' mv QU y.2.2 (h1.below hW (ay _)) (h2.below hW (ay _)) (QX y hy)
    go_upto_region 8 with fail
    go_quiet (fail)
    go_wp2;clear k1 k2 k3 k4 t0 t1 u0 u1 Q0 Q1 Bw;go_loopw [8,9] (λjv _ wr=>∃j:Nat,j<=x.2.length/\jv=aa j/\aj w0 wr) (λjv _ _=>x.2.length-(intOf jv).toNat)
    case atStart=>exact⟨0,aM _,rfl,iE B _⟩
    case round=>
     obtain⟨j,hj,rfl,Bj⟩:=hrel;have Bw:=dG B0 Bj
     by_cases hlj:j<x.2.length
     ·obtain⟨y,hy⟩:=gx hlj;obtain⟨mv,a1,a2,a3,a4,a5⟩:=Q9.get hy;obtain⟨QU,b1,b2,b3,b4,b5⟩:=QZ.get hy;obtain⟨na,nc,rfl⟩:=a1.form;obtain⟨Q4,Q5,rfl⟩:=b1.form;obtain⟨e,rfl,_,QW,QV⟩:=Q8.at QD;obtain⟨e',rfl,_,QS,QR⟩:=QY.at QD;have hjl:(j:Int)<(x.2.length:Int):=QD;have hyy:(y.2.1.toList==y.2.1.toList)=true:=QE;have HS:Hid (∀W:an,aj w W->(W.cell? (ai ((e.add (j*4)).block) ((e.add (j*4)).off+2))=some (.slice na y.2.2.fs.length nc)/\W.cell? (ai ((e.add (j*4)).block) ((e.add (j*4)).off+3))=some (ae y.2.2.unk))/\(W.cell? (ai ((e'.add (j*4)).block) ((e'.add (j*4)).off+2))=some (.slice Q4 y.2.2.fs.length Q5)/\W.cell? (ai ((e'.add (j*4)).block) ((e'.add (j*4)).off+3))=some (ae y.2.2.unk))):=λW hW=>⟨⟨lf (QV W (hW.block _ QW) _ _ a4),lf (QV W (hW.block _ QW) _ _ a5)⟩,lf (QR W (hW.block _ QS) _ _ b4),lf (QR W (hW.block _ QS) _ _ b5)⟩
      have HN:Hid (∀W:an,aj w W->(W.cell? (e.add (j*4))=some (.int .u64 y.1)/\W.cell? (ai ((e.add (j*4)).block) ((e.add (j*4)).off+1))=some (ae y.2.1))/\(W.cell? (e'.add (j*4))=some (.int .u64 y.1)/\W.cell? (ai ((e'.add (j*4)).block) ((e'.add (j*4)).off+1))=some (ae y.2.1))):=λW hW=>⟨⟨QV W (hW.block _ QW) _ _ a2,lf (QV W (hW.block _ QW) _ _ a3)⟩,QR W (hW.block _ QS) _ _ b2,lf (QR W (hW.block _ QS) _ _ b3)⟩
      have HX:=HC.out _ y _ _ Bw.drew (aI hy) a1 b1;clear QV QR a2 a3 a4 a5 b2 b3 b4 b5 hy;go_upto_region 13 with fail
      go_region_held2 (λW=>(W.cell? (ai ((e.add (j*4)).block) ((e.add (j*4)).off+2))=some (.slice na y.2.2.fs.length nc)/\W.cell? (ai ((e.add (j*4)).block) ((e.add (j*4)).off+3))=some (ae y.2.2.unk))/\(W.cell? (ai ((e'.add (j*4)).block) ((e'.add (j*4)).off+2))=some (.slice Q4 y.2.2.fs.length Q5)/\W.cell? (ai ((e'.add (j*4)).block) ((e'.add (j*4)).off+3))=some (ae y.2.2.unk)))
       (first|exact HS.out _ (dG Bw.drew c2)|exact HS.out _ Bw.drew)
       (first|(go_at_call 27;refine HX.mono ?_;rintro en w2 ⟨rfl,c2⟩))
      obtain⟨⟨r0,r1⟩,r2,r3⟩:=HN.out _ (dG Bw.drew c2);go_upto_region 14 with fail
      go_quiet (fail)
      go_wp2;go_roundw
      case rel=>exact⟨j+1,QD,by go_num,iE (dG Bj.drew c2) _⟩
      case measure=>simp[intOf];omega
     ·obtain rfl:j=x.2.length:=QD;go_wp2;go_roundw
      case rel=>exact⟨i+1,QD,by go_num,Bj⟩
      case measure=>simp[intOf];omega
   ·obtain rfl:i=m.fs.length:=QD;go_wp2;go_ret;exact⟨rfl,dG B0 B⟩
end
end Go.Proofs.YtfebdimolnobaaaGreatDoor
