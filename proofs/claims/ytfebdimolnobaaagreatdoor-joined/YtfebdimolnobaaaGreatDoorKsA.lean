import Derived.Test.YtfebdimolnobaaaGreatDoorFcC
set_option maxRecDepth 100000
set_option maxHeartbeats 8000000
set_option linter.all false
namespace Go.Proofs.YtfebdimolnobaaaGreatDoor
open Go.RowKit Go.Proofs.Tryz
section
open Uq
def Q1:Nat->PM->Prop
 |0,_=>True
 |k+1,m=>m.fs.length<=1099511627776/\∀x∈m.fs,x.2.length<=1099511627776/\∀v∈x.2,Q1 k v.2.2
def TO (k:Nat):Prop:=∀(w:an) (Z Z':ap) (v v':Value) (m:PM),iH k w Z v m->iH k w Z' v' m->Q1 k m->
 Ua 27 #[.agg #[v,ae m.unk],.agg #[v',ae m.unk]] w λe w'=>e= .returned (.bool true)/\aj w w'
def Lt:∀k,TO k
 |0=>λw Z Z' v v' m h=>h.elim
 |k+1=>λw Z Z' v v' m h h' hO=>by
  have H:=Lt k;obtain⟨cs,hr,hv⟩:=h;obtain⟨cs',UD,UH⟩:=h';obtain⟨a,c,rfl⟩:=hr.form;obtain⟨a',c',rfl⟩:=UD.form;obtain⟨ho1,UI⟩:=hO;obtain⟨B0,KA,KB⟩:=gH w #[.slice a m.fs.length c,ae m.unk] #[.slice a' m.fs.length c',ae m.unk] 49 49;have hxx:(m.unk.toList==m.unk.toList)=true:=Uf;obtain⟨k1,k2⟩:=KA.rules;obtain⟨k3,k4⟩:=KB.rules;go_enter func27,ntmps27;go_wp2;generalize(w.alloc (ak #[.slice a m.fs.length c,ae m.unk] 49)).alloc (ak #[.slice a' m.fs.length c',ae m.unk] 49)=w0 at*;go_loopw [5,6,7,8,9] (λiv _ _ _ _ wr=>∃i:Nat,i<=m.fs.length/\iv=aa i/\aj w0 wr) (λiv _ _ _ _ _=>m.fs.length-(intOf iv).toNat)
  case atStart=>exact⟨0,aL _,rfl,Below.refl _ _⟩
  case round=>
   clear k1 k2 k3 k4;obtain⟨i,hi,rfl,B⟩:=hrel;have UB:=KA.below B KA.lt;have UC:=KB.below B KB.lt;obtain⟨k1,k2⟩:=UB.rules;obtain⟨k3,k4⟩:=UC.rules
   by_cases hlt:i<m.fs.length
   ·obtain⟨x,hx⟩:=gx hlt;obtain⟨vv,p1,p2,p3⟩:=hv.get hx;obtain⟨vv',q1,q2,q3⟩:=UH.get hx;obtain⟨g,rfl,_,UE,Ur⟩:=hr.at Ue;obtain⟨g',rfl,_,Uu,Uq⟩:=UD.at Ue;obtain⟨ma,mc,rfl⟩:=p1.form;obtain⟨ma',mc',rfl⟩:=q1.form;have hli:(i:Int)<(m.fs.length:Int):=Ue;have Bw:=dI B0 B;have t0:=Ur wr (Bw.block _ UE) _ _ p2;have t1:=kX (Ur wr (Bw.block _ UE) _ _ p3);have u0:=Uq wr (Bw.block _ Uu) _ _ q2;have u1:=kX (Uq wr (Bw.block _ Uu) _ _ q3);obtain⟨hox1,Uy⟩:=UI x (aI hx);clear Ur Uq p2 p3 q2 q3 hx;obtain⟨vcs,UJ,UK⟩:=p1;obtain⟨vcs',Uz,UA⟩:=q1
    have HC:Hid (∀(W:an) (y:PV) (mv Uv:Value),aj w W->y∈x.2->iH k w Z mv y.2.2->iH k w Z' Uv y.2.2->Ua 27 #[.agg #[mv,ae y.2.2.unk],.agg #[Uv,ae y.2.2.unk]] W λe w'=>e= .returned (.bool true)/\Below W.heap.size W w'):=λW y mv Uv hW hy h1 h2=>
     H W Z Z' mv Uv y.2.2 (h1.below hW (ay _)) (h2.below hW (ay _)) (Uy y hy)
    go_upto_region 8 with fail
    go_quiet (fail)
    go_wp2;clear k1 k2 k3 k4 t0 t1 u0 u1 UB UC Bw;go_loopw [8,9] (λjv _ wr=>∃j:Nat,j<=x.2.length/\jv=aa j/\aj w0 wr) (λjv _ _=>x.2.length-(intOf jv).toNat)
    case atStart=>exact⟨0,aL _,rfl,ie B _⟩
    case round=>
     obtain⟨j,hj,rfl,Bj⟩:=hrel;have Bw:=dI B0 Bj
     by_cases hlj:j<x.2.length
     ·obtain⟨y,hy⟩:=gx hlj;obtain⟨mv,a1,a2,a3,a4,a5⟩:=UK.get hy;obtain⟨Uv,b1,b2,b3,b4,b5⟩:=UA.get hy;obtain⟨na,nc,rfl⟩:=a1.form;obtain⟨UF,UG,rfl⟩:=b1.form;obtain⟨e,rfl,_,Ux,Uw⟩:=UJ.at Ue;obtain⟨e',rfl,_,Ut,Us⟩:=Uz.at Ue;have hjl:(j:Int)<(x.2.length:Int):=Ue;have hyy:(y.2.1.toList==y.2.1.toList)=true:=Uf;have HS:Hid (∀W:an,aj w W->(W.cell? (ai ((e.add (j*4)).block) ((e.add (j*4)).off+2))=some (.slice na y.2.2.fs.length nc)/\W.cell? (ai ((e.add (j*4)).block) ((e.add (j*4)).off+3))=some (ae y.2.2.unk))/\(W.cell? (ai ((e'.add (j*4)).block) ((e'.add (j*4)).off+2))=some (.slice UF y.2.2.fs.length UG)/\W.cell? (ai ((e'.add (j*4)).block) ((e'.add (j*4)).off+3))=some (ae y.2.2.unk))):=λW hW=>⟨⟨kX (Uw W (hW.block _ Ux) _ _ a4),kX (Uw W (hW.block _ Ux) _ _ a5)⟩,kX (Us W (hW.block _ Ut) _ _ b4),kX (Us W (hW.block _ Ut) _ _ b5)⟩
      have HN:Hid (∀W:an,aj w W->(W.cell? (e.add (j*4))=some (.int .u64 y.1)/\W.cell? (ai ((e.add (j*4)).block) ((e.add (j*4)).off+1))=some (ae y.2.1))/\(W.cell? (e'.add (j*4))=some (.int .u64 y.1)/\W.cell? (ai ((e'.add (j*4)).block) ((e'.add (j*4)).off+1))=some (ae y.2.1))):=λW hW=>⟨⟨Uw W (hW.block _ Ux) _ _ a2,kX (Uw W (hW.block _ Ux) _ _ a3)⟩,Us W (hW.block _ Ut) _ _ b2,kX (Us W (hW.block _ Ut) _ _ b3)⟩
      have HX:=HC.out _ y _ _ Bw.drew (aI hy) a1 b1;clear Uw Us a2 a3 a4 a5 b2 b3 b4 b5 hy;go_upto_region 13 with fail
      go_region_held2 (λW=>(W.cell? (ai ((e.add (j*4)).block) ((e.add (j*4)).off+2))=some (.slice na y.2.2.fs.length nc)/\W.cell? (ai ((e.add (j*4)).block) ((e.add (j*4)).off+3))=some (ae y.2.2.unk))/\(W.cell? (ai ((e'.add (j*4)).block) ((e'.add (j*4)).off+2))=some (.slice UF y.2.2.fs.length UG)/\W.cell? (ai ((e'.add (j*4)).block) ((e'.add (j*4)).off+3))=some (ae y.2.2.unk)))
       (first|exact HS.out _ (dI Bw.drew c2)|exact HS.out _ Bw.drew)
       (first|(go_at_call 27;refine HX.mono ?_;rintro en w2 ⟨rfl,c2⟩))
      obtain⟨⟨r0,r1⟩,r2,r3⟩:=HN.out _ (dI Bw.drew c2);go_upto_region 14 with fail
      go_quiet (fail)
      go_wp2;go_roundw
      case rel=>exact⟨j+1,Ue,by go_num,ie (dI Bj.drew c2) _⟩
      case measure=>simp[intOf];omega
     ·obtain rfl:j=x.2.length:=Ue;go_wp2;go_roundw
      case rel=>exact⟨i+1,Ue,by go_num,Bj⟩
      case measure=>simp[intOf];omega
   ·obtain rfl:i=m.fs.length:=Ue;go_wp2;go_ret;exact⟨rfl,dI B0 B⟩
end
end Go.Proofs.YtfebdimolnobaaaGreatDoor
