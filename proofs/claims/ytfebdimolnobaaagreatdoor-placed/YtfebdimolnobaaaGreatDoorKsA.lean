import Derived.Test.YtfebdimolnobaaaGreatDoorEnD
set_option maxRecDepth 100000
set_option maxHeartbeats 8000000
set_option linter.all false
namespace Go.Proofs.YtfebdimolnobaaaGreatDoor
open Go.RowKit
section
attribute [local go_sem↓] Go.wp_at_zero Go.wp_at_succ
def Me:Nat->PM->Prop
 |0,_=>True
 |k+1,m=>m.fs.length<=1099511627776/\∀x∈m.fs,x.2.length<=1099511627776/\∀v∈x.2,Me k v.2.2
def NV (k:Nat):Prop:=∀(w:an) (Z Z':ap) (v v':Value) (m:PM),fR k w Z v m->fR k w Z' v' m->Me k m->
 Calls Tryz.prog 27 #[.agg #[v,ae m.unk],.agg #[v',ae m.unk]] w fun e w'=>e= .returned (.bool true)/\aj w w'
theorem BD:∀k,NV k
 |0=>fun w Z Z' v v' m h=>h.elim
 |k+1=>fun w Z Z' v v' m h h' hO=>by
  have H:=BD k;obtain⟨cs,hr,hv⟩:=h;obtain⟨cs',Oj,Oo⟩:=h';obtain⟨a,c,rfl⟩:=hr.form;obtain⟨a',c',rfl⟩:=Oj.form;obtain⟨ho1,Oq⟩:=hO;obtain⟨B0,KA,KB⟩:=eD w #[.slice a m.fs.length c,ae m.unk] #[.slice a' m.fs.length c',ae m.unk] 49 49;have hxx:(m.unk.toList==m.unk.toList)=true:=by simp
  obtain⟨k1,k2⟩:=KA.rules;obtain⟨k3,k4⟩:=KB.rules;go_enter Tryz.func27,Tryz.ntmps27
  go_wp2;generalize(w.alloc (ak #[.slice a m.fs.length c,ae m.unk] 49)).alloc (ak #[.slice a' m.fs.length c',ae m.unk] 49)=w0 at*;go_loopw [5,6,7,8,9] (fun iv _ _ _ _ wr=>∃i:Nat,i<=m.fs.length/\iv=aa i/\aj w0 wr) (fun iv _ _ _ _ _=>m.fs.length-(intOf iv).toNat)
  case atStart=>exact⟨0,aM _,rfl,Below.refl _ _⟩
  case round=>
   clear k1 k2 k3 k4;obtain⟨i,hi,rfl,B⟩:=hrel;have Oh:=KA.below B KA.lt;have Oi:=KB.below B KB.lt;obtain⟨k1,k2⟩:=Oh.rules;obtain⟨k3,k4⟩:=Oi.rules
   by_cases hlt:i<m.fs.length
   ·obtain⟨x,hx⟩:=gx hlt;obtain⟨vv,p1,p2,p3⟩:=hv.get hx;obtain⟨vv',q1,q2,q3⟩:=Oo.get hx;obtain⟨g,rfl,_,Ok,N3⟩:=hr.at (by omega);obtain⟨g',rfl,_,Oa,N2⟩:=Oj.at (by omega);obtain⟨ma,mc,rfl⟩:=p1.form;obtain⟨ma',mc',rfl⟩:=q1.form;have hli:(i:Int)<(m.fs.length:Int):=by omega
    have Bw:=cY B0 B;have t0:=N3 wr (Bw.block _ Ok) _ _ p2;have t1:=jI (N3 wr (Bw.block _ Ok) _ _ p3);have u0:=N2 wr (Bw.block _ Oa) _ _ q2;have u1:=jI (N2 wr (Bw.block _ Oa) _ _ q3);obtain⟨hox1,Oe⟩:=Oq x (aI hx);clear N3 N2 p2 p3 q2 q3 hx;obtain⟨vcs,Ot,Ou⟩:=p1;obtain⟨vcs',Of,Og⟩:=q1
    have HC:Hid (∀(W:an) (y:PV) (mv Ob:Value),aj w W->y∈x.2->fR k w Z mv y.2.2->fR k w Z' Ob y.2.2->Calls Tryz.prog 27 #[.agg #[mv,ae y.2.2.unk],.agg #[Ob,ae y.2.2.unk]] W fun e w'=>e= .returned (.bool true)/\Below W.heap.size W w'):=fun W y mv Ob hW hy h1 h2=>
     H W Z Z' mv Ob y.2.2 (h1.below hW (ay _)) (h2.below hW (ay _)) (Oe y hy)
    go_upto_region 8 with fail
    go_quiet (fail)
    go_wp2;clear k1 k2 k3 k4 t0 t1 u0 u1 Oh Oi Bw;go_loopw [8,9] (fun jv _ wr=>∃j:Nat,j<=x.2.length/\jv=aa j/\aj w0 wr) (fun jv _ _=>x.2.length-(intOf jv).toNat)
    case atStart=>exact⟨0,aM _,rfl,gC B _⟩
    case round=>
     obtain⟨j,hj,rfl,Bj⟩:=hrel;have Bw:=cY B0 Bj
     by_cases hlj:j<x.2.length
     ·obtain⟨y,hy⟩:=gx hlj;obtain⟨mv,a1,a2,a3,a4,a5⟩:=Ou.get hy;obtain⟨Ob,b1,b2,b3,b4,b5⟩:=Og.get hy;obtain⟨na,nc,rfl⟩:=a1.form;obtain⟨Ol,Om,rfl⟩:=b1.form;obtain⟨e,rfl,_,Od,Oc⟩:=Ot.at (by omega);obtain⟨e',rfl,_,N8,N7⟩:=Of.at (by omega);have hjl:(j:Int)<(x.2.length:Int):=by omega
      have hyy:(y.2.1.toList==y.2.1.toList)=true:=by simp
      have HS:Hid (∀W:an,aj w W->(W.cell? (ai ((e.add (j*4)).block) ((e.add (j*4)).off+2))=some (.slice na y.2.2.fs.length nc)/\W.cell? (ai ((e.add (j*4)).block) ((e.add (j*4)).off+3))=some (ae y.2.2.unk))/\(W.cell? (ai ((e'.add (j*4)).block) ((e'.add (j*4)).off+2))=some (.slice Ol y.2.2.fs.length Om)/\W.cell? (ai ((e'.add (j*4)).block) ((e'.add (j*4)).off+3))=some (ae y.2.2.unk))):=fun W hW=>⟨⟨jI (Oc W (hW.block _ Od) _ _ a4),jI (Oc W (hW.block _ Od) _ _ a5)⟩,jI (N7 W (hW.block _ N8) _ _ b4),jI (N7 W (hW.block _ N8) _ _ b5)⟩
      have HN:Hid (∀W:an,aj w W->(W.cell? (e.add (j*4))=some (.int .u64 y.1)/\W.cell? (ai ((e.add (j*4)).block) ((e.add (j*4)).off+1))=some (ae y.2.1))/\(W.cell? (e'.add (j*4))=some (.int .u64 y.1)/\W.cell? (ai ((e'.add (j*4)).block) ((e'.add (j*4)).off+1))=some (ae y.2.1))):=fun W hW=>⟨⟨Oc W (hW.block _ Od) _ _ a2,jI (Oc W (hW.block _ Od) _ _ a3)⟩,N7 W (hW.block _ N8) _ _ b2,jI (N7 W (hW.block _ N8) _ _ b3)⟩
      have HX:=HC.out _ y _ _ Bw.drew (aI hy) a1 b1;clear Oc N7 a2 a3 a4 a5 b2 b3 b4 b5 hy;go_upto_region 13 with fail
      go_region_held2 (fun W=>(W.cell? (ai ((e.add (j*4)).block) ((e.add (j*4)).off+2))=some (.slice na y.2.2.fs.length nc)/\W.cell? (ai ((e.add (j*4)).block) ((e.add (j*4)).off+3))=some (ae y.2.2.unk))/\(W.cell? (ai ((e'.add (j*4)).block) ((e'.add (j*4)).off+2))=some (.slice Ol y.2.2.fs.length Om)/\W.cell? (ai ((e'.add (j*4)).block) ((e'.add (j*4)).off+3))=some (ae y.2.2.unk)))
       (first|exact HS.out _ (cY Bw.drew c2)|exact HS.out _ Bw.drew)
       (first|(go_at_call 27;refine HX.mono ?_;rintro en w2 ⟨rfl,c2⟩))
      obtain⟨⟨r0,r1⟩,r2,r3⟩:=HN.out _ (cY Bw.drew c2);go_upto_region 14 with fail
      go_quiet (fail)
      go_wp2;go_roundw
      case rel=>exact⟨j+1,by omega,by go_num,gC (cY Bj.drew c2) _⟩
      case measure=>simp[intOf];omega
     ·obtain rfl:j=x.2.length:=by omega
      go_wp2;go_roundw
      case rel=>exact⟨i+1,by omega,by go_num,Bj⟩
      case measure=>simp[intOf];omega
   ·obtain rfl:i=m.fs.length:=by omega
    go_wp2;go_ret;exact⟨rfl,cY B0 B⟩
end
end Go.Proofs.YtfebdimolnobaaaGreatDoor
