import Derived.Test.YtfebdimolnobaaaGreatDoorDfR
set_option maxRecDepth 100000
set_option maxHeartbeats 8000000
set_option linter.all false
namespace Go.Proofs.YtfebdimolnobaaaGreatDoor
open Go.RowKit Go.Proofs.Tryz
section
open VH
section
variable {S:eF} {d sub:MT} {f:fw} {deep:Nat} {num:Int}
structure D5 (S:eF)(d:MT)(f:fw)(sub:MT):Prop where
 hs:fC S f=some sub
 hm:f.isMap=false
theorem D5.kind (h:D5 S d f sub)(a:ed d.fs f.num=some f):oO S (some d) f.num .msgs/\(∀kd,oO S (some d) f.num kd->kd= .msgs)/\ou S (some d) f.num=some sub:=by
 have c:pQ S f= .msgs:=by unfold pQ;rw[h.hm,h.hs];rfl
 exact⟨λg i e b=>by cases e;rw[a]at b;cases b;exact c.sy,λkd q=>by rw[q d f rfl a,c],by unfold ou;simp[a,h.hs]⟩
def vX (g:GF)(m:PM)(n:Int)(sm:PM):PM:=if g.form=2 then m.put n (m.get n++ [mV sm])else(m.without g.riv).put n [mV sm]
theorem Hv {mp:an}{b:au}{F a z e:Nat}{g:GF}{m:PM}(c:FG S mp d f g)(n:Fj S)(h:D5 S d f sub)(r:deep<=8)(t:ed d.fs f.num=some f)(u:WM S a d m):
  kz S b F d f m deep (fN (b.extract 0 e) a num 2 z)=yq S b F sub (if g.form=2 then PM.none else((m.get f.num).headD PV.none).2.2) deep (vX g m f.num) (oo (b.extract 0 e) z deep (ly mp g)):=by
 rw[Hu c n h.hs r];have⟨⟨l,o⟩,_⟩:=mY u t h.hs
 have j:(λsm=>ie S d f m ((fh f m).1,(fh f m).2.1,sm))=vX g m f.num:=funext λsm=>by
  rw[l,o];unfold ie vX;rw[h.hm,c.rep,h.hs];simp only[aU,if_false,dS,Option.isNone_some,cW,cV];rw[yi,c.riv];rfl
 rw[j]
 have i:(fh f m).2.2=if g.form=2 then PM.none else((m.get f.num).headD PV.none).2.2:=by
  unfold fh;rw[h.hm,c.rep];by_cases q:g.form=2;.simp only[q,decide_true,dt,if_true];rfl
  .simp[q]
 rw[i]
theorem iE.part {k:Nat}{w:aw}{Z:ax}{rb db:Nat}{s:au}{e:Nat}{P:Fx PM}{en:Ending}{w':aw}(h:iE S k d w Z rb db s deep (pR e P) en w'):
  (∃x,P= .error x/\en=d5 x.1 x.2/\∃Z',eU w Z rb w' Z')\/∃sm,P= .ok sm/\en= .returned (.tuple #[])/\∃Z',eU w Z rb w' Z'/\eQ S (k+1) (some d) w' Z' db sm:=by
 cases P with
 |error x=>exact .inl ⟨x,rfl,h.1,h.2⟩
 |ok sm=>
  obtain⟨a,Z',b,c,_⟩:=h;exact .inr ⟨sm,rfl,a,Z',b,c⟩
section
variable {S:eF} {k:Nat} {T T':Option MT} {w w3 w4 w5:aw} {Z Z3 Z4 Z5 C:ax} {rb nb db p y deep:Nat} {s:au} {M:PM->PM} {sm:PM}
theorem tD (VJ:eU w Z rb w3 Z3)(hn:w.heap.size<=nb)(VI:fP w3 Z3 w4 Z4)(hC:∀b,C b->Z4 b)(VK:eU w4 C nb w5 Z5):eU w Z rb w5 (λb=>Z4 b\/Z5 b):=by
 have d:∀i,Z4 i->Z i\/w.heap.size<=i:=λi q=>(VI.grow i q).elim (VJ.grow i) (λe=> .inr (aM VJ.size e))
 refine⟨VK.os.J (VI.os.J VJ.os),VK.tape.J (VI.tape.J VJ.tape),VK.output.J (VI.output.J VJ.output),aM VJ.size (aM VI.size VK.size),λi c g j=> ?_,λi q=> ?_⟩;.have a:i<w3.heap.size:=aI c VJ.size;have f:=VJ.not c g;have h:=VI.not a f;exact((VK.block i (aI a VI.size) (λe=>h (hC i e)) Vv).J (VI.block i a f)).J (VJ.block i c g j)
 .rcases q with q|q;.exact d i q
  .exact(VK.grow i q).elim (λe=>d i (hC i e)) (λe=> .inr (aM (aM VJ.size VI.size) e))
theorem D6 (VJ:eU w Z rb w3 Z3)(VQ:rb<w.heap.size)(hrZ:¬Z rb)(hn3:nb<w3.heap.size)(VT:¬Z3 nb)(Wv:nb≠rb)(hrr:ei w3 rb s y deep)(VI:fP w3 Z3 w4 Z4)(hH:OC S k T w4 Z4 db p C T' M)(VK:eU w4 C nb w5 Z5)(Wx:eQ S k T' w5 Z5 p sm):
  eQ S (k+1) T w5 (λb=>Z4 b\/Z5 b) db (M sm)/\ei w5 rb s y deep:=by
 have d:¬Z4 nb:=VI.not hn3 VT;have c:¬Z3 rb:=VJ.not VQ hrZ;have a:rb<w3.heap.size:=aI VQ VJ.size;have f:¬Z4 rb:=VI.not a c;refine⟨hH.2 w5 Z5 sm (λb i g h=>VK.block b h g (λe=>d (e▸i))) VK.size VK.grow Wx,?_⟩;exact((VK.block rb (aI a VI.size) (λe=>f (hH.1 rb e)) (λe=>Wv e.sy)).J (VI.block rb a c)).J hrr
end
theorem LA (w:aw)(B:Nat)(S:eF)(mp:an)(k:Nat)(d:MT)(f:fw)(g:GF)(fb:Nat)(Z:ax)(rb db:Nat)(b:au)(e a z deep F:Nat)(num:Int)(m:PM)(sub:MT)
  (I:pE w B S mp k d Z rb db b e a z deep m) (Q:fi w (λb=>b<B) mp g fb) (n:FG S mp d f g) (r:ed d.fs f.num=some f) (hS:Fj S) (t:D5 S d f sub) (hkd:k+deep=8) (hRd:OG S mp B b F) (hF:e-z<=F):
  Calls prog 133 #[ah fb,aa 2,ah rb,ah db] w (iE S k d w Z rb db (b.extract 0 e) deep (kz S b F d f m deep (fN (b.extract 0 e) a num 2 z))):=by
 have h4:g.form≠4:=λq=>by have:=t.hm;rw[n.map,q]at this;cases this
 have⟨Wp,WE,WF,WG⟩:=tC (deep:=deep) n hS t.hs Vv;rw[Hv n hS t Vv r I.wm];have⟨U,V,WH⟩:=t.kind r;have⟨pv,rv,P,hfB,VM,Wq⟩:=Q.blk;rw[dQ h4,n.eq]at Wq;have Wb:S.msg f.ty=some sub:=by have:=t.hs;unfold fC at this;rw[t.hm]at this;exact this
 have⟨L,gs,WZ,W5,W6⟩:=I.cx.md f.ty sub Wb;rw[WZ]at Wq;subst Wq;rw[WG,n.eq]at P;have hD:=ri S k (some d) w Z db m rv g.riv I.hd VM.1 n.rlen (λx hx q=>by have:=VM.2 x hx;have:=(I.hZ x q).1;omega);have WQ:(b.extract 0 e).size=e:=gK I.eb;have hab:=I.az;have hze:=I.ze;have WR:=I.eb;have hbs:=I.bs;have WA:=I.rB;have Wd:=I.rZ;have X:=I.hZ;have We:=I.cx.le;have VQ:rb<w.heap.size:=dZ.lt I.hr;have hfl:=P.lt;have hL:=λw1 (h:fi w1 (λb=>b<B) mp g fb)=>td w1 (λb=>b<B) mp g fb h
 have Wf:=λw1 (h:ei w1 rb (b.extract 0 e) z deep)=>qV w1 rb (b.extract 0 e) z deep (ly mp g) h Vv Vv Vv WE WF
 obtain⟨N,VN⟩:=Vu (ly mp g);rw[VN]at hL Wf⊢
 have WB:Hid (∀y:Nat×Nat,oo (b.extract 0 e) z deep N= .ok y->z<y.1/\y.1<=y.2/\y.2<=e/\1<=k/\(b.extract 0 e).extract 0 y.2=b.extract 0 y.2):=λy hy=>by
  have⟨q1,q2⟩:=wX hy;have⟨v0,W,H⟩:=jw (z:=y.1) (e:=y.2) q1;rw[WQ]at H;have hlv:1<=N:=(by rw[<-VN];unfold ly;rw[dQ (λq=>h4 q.1),dR WG];exact dj _);exact⟨v0,W,H,Vv,kL WR H⟩
 clear VN WE WF Wp;obtain⟨R,hR⟩:=Vu (oo (b.extract 0 e) z deep N);rw[hR]at Wf WB⊢;clear hR;have WS:¬Z fb:=λq=>by have:=(X fb q).1;omega
 obtain⟨u,fn,WJ,WK,HP⟩:∃u fn,(if g.form=2 then PM.none else((m.get f.num).headD PV.none).2.2)=u/\((g.form=2/\fn=190\/(g.form==2)=false/\fn=191)/\WM S a sub u)/\Hid (∀c,k=c+1->∀(w3:aw) (Z3:ax),eQ S (k+1) (some d) w3 Z3 db (m.without g.riv)->(∀x,Z3 x->x<w3.heap.size)->Vq fn #[ah db,aa f.num] w3 (tt S k (some d) w3 Z3 db (some sub) u (vX g m f.num))):=by
  by_cases l:g.form=2
  .refine⟨_,_,rfl,⟨.inl ⟨l,rfl⟩,?_⟩,?_⟩<;>rw[dR l]
   .exact WM.none S a sub
   .rintro c rfl w3 Z3 D Ws;have hlen:=I.wm.len;rw[n.lone Vv,jr]at D;have:=ow S c (some d) w3 Z3 db m f.num (D.slot Vv) U V (λ⟨d',f',e1,e2,e3⟩=>by cases e1;rw[r]at e2;cases e2;rw[n.rep,l]at e3;cases e3) (by have:=hlen.2.2 f.num;omega) (λq=>by have:=Ws _ q;omega);rw[WH]at this;have Wh:vX g m f.num=λm'=>m.put f.num (m.get f.num++ [mV m']):=funext λsm=>by unfold vX;rw[dR l]
    rw[Wh];exact this
  .refine⟨_,_,rfl,⟨.inr ⟨by simpa using l,rfl⟩,?_⟩,?_⟩<;>rw[dQ l]
   .have:=(mY I.wm r t.hs).2;unfold fh at this;rw[t.hm,n.rep]at this;simpa [l]using this
   .rintro c rfl w3 Z3 D Ws;have WT:(m.without g.riv).get f.num=m.get f.num:=vG (by rw[n.riv];exact Hm d f);have hlen:(m.without g.riv).fs.length<=a:=aM (bZ _ _) I.wm.len.1;have Wk:vA (some d) f.num:=⟨d,f,rfl,r,by rw[n.rep];simp[l]⟩;have:=xY S c (some d) w3 Z3 db (m.without g.riv) f.num D U V Wk Vv Ws;rw[WH,WT]at this;have Wh:vX g m f.num=λm'=>(m.without g.riv).put f.num [mV m']:=funext λsm=>by unfold vX;rw[dQ l]
    rw[Wh];exact this
 rw[WJ]
 have WU:Hid (∀c,k=c+1->∀(w4:aw) (C:ax) (y:Nat×Nat) (nb p:Nat),Below B w w4->z<y.1->y.1<=y.2->y.2<=e->ei w4 nb (b.extract 0 y.2) y.1 ((deep:Int)+1)->eQ S k (some sub) w4 C p u->(∀x,C x->B<=x/\x<w4.heap.size)->B<=nb->¬C nb->
   Vq 83 #[ah L,ah nb,ah p] w4 (iE S c sub w4 C nb p (b.extract 0 y.2) (deep+1) (pR y.2 (eY S b F sub u y.1 y.2 (deep+1))))):=by
  rintro c rfl w4 C y nb p V9 v0 W H W7 Wu hC W8 Wo;exact hRd w4 C sub _ y.1 y.2 (deep+1) c L gs sub.name nb p (I.cx.on V9) (W5.O (λx q _=>V9.block x q)) W6 (hS.good.sub t.hs) (by rw[Int.natCast_succ];exact W7) Wu hC W8 Wo W Vv Vv Vv (WK.2.V Vv)
 have WV:∀w1,Below B w w1->fi w1 (λb=>b<B) mp g fb:=λw1 Wl=>Q.O (λx q _=>Wl.block x q)
 have hr0:=I.hr;clear WJ;obtain⟨m1,WL⟩:=Vu (m.without g.riv);rw[WL]at hD HP;clear WL;obtain⟨ra,rn,rc,rfl⟩:=d7 VM.1;have hf4:(g.form==4)=false:=by simpa using h4
 unfold ii at P;have⟨k1,k2⟩:=P.I;go_in
 go_wp2_with fail;refine hD.V ?_;rintro en w1 ⟨rfl,Z1',K,VX⟩;obtain⟨A,o,W9,O⟩:∃A,eU w Z rb w1.drew A/\eQ S (k+1) (some d) w1.drew A db m1/\∀x,A x->B<=x/\x<w1.heap.size:=⟨_,.oS K.clip.drew,VX.clip.O (λ_ _ _=>rfl),λx q=>⟨(K.grow x q.1).elim (λe=>(X x e).1) (λe=>aM We e),q.2⟩⟩;have WC:=P.step K WS;have WW:ei w1.drew rb (b.extract 0 e) z deep:=dZ.step hr0 K.drew Wd;clear K VX k1 k2 hD;have Y:dZ w1.drew fb #[aa f.num,aa g.form,aa 16,ah L,.slice ra rn rc] 220:=WC;have Wl:Below B w w1.drew:=o.G We (λx q=>(X x q).1) WA;have Wm:¬A rb:=o.not VQ Wd;have⟨k1,k2⟩:=WC.I;have⟨k3,k4⟩:=Y.I;have VR:Hid (∀y:Nat×Nat,yq S b F sub u deep (vX g m f.num) (.ok y)=Lx (vX g m f.num) y.2 (eY S b F sub u y.1 y.2 (deep+1))):=λ_=>rfl
 rcases WK.1 with⟨l,rfl⟩|⟨WX,rfl⟩;have WX:(g.form==2)=true:=by simpa using l
 clear l
 focus go_upto_region 7 with fail
 rotate_left
 focus go_upto_region 9 with fail
 all_goals
  go_region_held2 (λw'=>w'.cell? (aj fb 0)=some (aa f.num)/\w'.cell? (aj fb 3)=some (ah L))
   (first|exact⟨h5.cell 0,h5.cell 3⟩|exact⟨V8.cell 0,V8.cell 3⟩|exact⟨h3.cell 0,h3.cell 3⟩|exact⟨Y.cell 0,Y.cell 3⟩)
   (first
    |(
      go_at_call 186;refine(hL w1.drew (WV w1.drew Wl)).V ?_
      rintro en w2 ⟨rfl,rfl⟩)
    |(
      go_at_call 185;refine(Wf w1.drew WW).V ?_;intro en w3 hq;rcases hq.part with⟨x,rfl,rfl,E⟩|⟨y,nb,rfl,rfl,E,Xa,Wv,VZ,Ww⟩;.unfold d5;go_wp2;exact⟨rfl,rfl,A,o.J (.oK E)⟩
      have⟨v0,W,H,v3,v4⟩:=WB.o y rfl;obtain⟨c,rfl⟩:∃c,k=c+1:=⟨k-1,Vv⟩;have h3:=Y.kept E Vx;have v:=o.J (.oK E);have D:=eU.dr W9 E Wm;have hw1:w.heap.size<=w1.heap.size:=o.size;have hw3:w1.heap.size<=w3.heap.size:=E.size;have hnb1:w1.heap.size<=nb:=Xa;have VS:nb<w3.heap.size:=dZ.lt VZ;have VT:¬A nb:=λq=>by have:=(O nb q).2;omega
      have VU:ei w3 nb (b.extract 0 y.2) y.1 ((deep:Int)+1):=by rw[<-v4];exact VZ)
    |(
      first|go_at_call 191|go_at_call 190
      refine(HP.o c rfl w3 A D (λx q=>by have:=(O x q).2;omega)).V ?_;rintro en w4 ⟨p,Z4,C,rfl,j,Wu,G,Xb⟩;have WD:∀x,Z4 x->B<=x:=λx q=>(j.grow x q).elim (λe=>(O x e).1) (λe=>Vv)
      have V8:=h3.step j (λq=>by have:=(O fb q).1;omega);have Wn:ei w4 nb (b.extract 0 y.2) y.1 ((deep:Int)+1):=dZ.step VU j VT;have V9:Below B w w4:=⟨j.os.J v.os,j.tape.J v.tape,j.output.J v.output,aM v.size j.size,λi hi=>(j.block i Vv (λq=>by have:=(O i q).1;omega)).J ((v.G We (λx q=>(X x q).1) WA).block i hi)⟩
      have Wo:¬C nb:=λq=>j.not VS VT (G.1 nb q))
    |(
      go_at_call 83;refine(WU.o c rfl w4 C y nb p V9 v0 W H Wn Wu (λx q=>⟨WD x (G.1 x q),Xb x q⟩) Vv Wo).V ?_;intro en w5 Xc;rcases Xc.part with⟨x,hP,rfl,Z5,J⟩|⟨sm,hP,rfl,Z5,J,Wx⟩;.unfold d5;go_wp2;rw[VR.o y,hP];exact⟨rfl,rfl,_,tD v Vv j G.1 J⟩
      have h5:dZ w5 fb #[aa f.num,aa g.form,aa 16,ah L,.slice ra rn rc] 220:=(J.block fb V8.lt (λq=>by have:=WD fb (G.1 fb q);omega) Vv).J V8;have WY:Hid (eY S b F sub u y.1 y.2 (deep+1)= .ok sm):=hP
      clear hP))
  all_goals
   go_wp2;go_end0;rw[VR.o y,WY.o];exact⟨rfl,_,tD v Vv j G.1 J,D6 v VQ Wd VS VT Wv Ww j G J Wx⟩
end
section
variable {S:eF} {mp:an} {d:MT} {f:fw} {g:GF} {num:Int}
theorem OI:gQ lM xD=false/\gQ lM Dx=false/\gQ lM eS=false/\i9 lM=false:=Vz
theorem LB {s t:au}{n:Int}(a:jC mp t=S.base t)(b:S.base t=16<->(S.msg t).isSome=true):FG S mp d ⟨s,t,eS,lM,n⟩ (lN s t n):=by
 obtain⟨e,f,g,c⟩:=OI;refine⟨rfl,.inr (.inl rfl),by unfold fw.isMap lN;grind,by unfold fw.isRep lN;grind,by unfold lN;grind,?_,λ_=>rfl,by simp[lN],a,b,λq=>by simp[lN]at q⟩;unfold lx lN;simp only
 have:∀o:fw,(gQ o.how lM&&i9 o.how&&decide (o.num≠n))=false:=λo=>by
  cases h:gQ o.how lM with
  |false=>rfl
  |true=>
   have:i9 o.how=false:=(by rw[show o.how=lM from jJ (gR.1 h),c]);grind
 rw[List.filter_eq_nil_iff.2 (λo _=>by grind)];rfl
theorem Ch (b:FG S mp d f g)(j:g.form=4):lJ S mp (eR f) [lN oh f.key 1,lN qe f.ty 2]:=by
 have⟨k,m,o,_⟩:=b.key j;refine⟨uz _ _,Vw,λn a=> ?_,λn l a=> ?_⟩
 .unfold eR at a;simp only[ed]at a;split at a;.cases a
  .split at a;.cases a
   .rename_i h i
    exact pz λx c=>by
     simp only[aR,bW,or_false]at c;rcases c with rfl|rfl;.exact h
     .exact i
 .unfold eR at a;simp only[ed]at a;split at a;.rename_i e;cases a;subst e;exact⟨_,DM _ _,LB k ⟨λq=>Vv,λq=>by grind⟩⟩
  .split at a;.rename_i e;cases a;subst e;exact⟨_,DN _ _,LB b.base b.nest⟩
   grind
def zX (f:fw)(m:PM)(sm:PM):PM:=m.put f.num (jX f.key (m.get f.num) (mV (gD sm)))
theorem Hw {b:au}{F deep a z e:Nat}{m:PM}(c:FG S mp d f g)(n:Fj S)(k:g.form=4)(p:deep<=8):
  kz S b F d f m deep (fN (b.extract 0 e) a num 2 z)=yq S b F (eR f) PM.none deep (zX f m) (oo (b.extract 0 e) z deep (ly mp g)):=by
 have h:f.isMap=true:=by rw[c.map,k];rfl
 rw[Hu c n (sub:=eR f) (by unfold fC;rw[dR h]) p];have j:fh f m=PV.none:=by unfold fh;grind
 rw[j]
 have l:(λi=>ie S d f m (PV.none.1,PV.none.2.1,i))=zX f m:=funext λi=>by
  unfold ie zX;rw[dR h];rfl
 rw[l];rfl
theorem tE {w w3 w5:aw}{Z Z3 Z5:ax}{rb nb eb:Nat}(a:eU w Z rb w3 Z3)(j:w.heap.size<=nb)(h:w.heap.size<=eb)(c:eU w3 (λx=>x=eb) nb w5 Z5):eU w Z rb w5 (λb=>Z3 b\/Z5 b):=
 ⟨c.os.J a.os,c.tape.J a.tape,c.output.J a.output,aM a.size c.size,λi d f g=>(c.block i (aI d a.size) Vv Vv).J (a.block i d f g),
  λi q=>q.elim (a.grow i) (λq=>(c.grow i q).elim (λe=> .inr Vv) (λe=> .inr (aM a.size e)))⟩
theorem LC (w:aw)(B:Nat)(S:eF)(mp:an)(k:Nat)(d:MT)(f:fw)(g:GF)(fb:Nat)(Z:ax)(rb db:Nat)(b:au)(e a z deep F:Nat)(num:Int)(m:PM)
  (I:pE w B S mp k d Z rb db b e a z deep m) (hfa:fi w (λb=>b<B) mp g fb) (s:FG S mp d f g) (hff:ed d.fs f.num=some f) (hS:Fj S) (M:g.form=4) (hkd:k+deep=8) (hgd:mj S d) (hRd:OG S mp B b F) (hF:e-z<=F):
  Calls prog 133 #[ah fb,aa 2,ah rb,ah db] w (iE S k d w Z rb db (b.extract 0 e) deep (kz S b F d f m deep (fN (b.extract 0 e) a num 2 z))):=by
 have hm:f.isMap=true:=by rw[s.map,M];rfl
 have VN:fC S f=some (eR f):=by unfold fC;rw[dR hm]
 have⟨Wp,WK,WL,WN⟩:=tC (deep:=deep) s hS VN Vv;rw[Hw s hS M Vv];have⟨Xd,kq2,Xe,Xf⟩:=s.key M;have WS:pQ S f= .ents f.key:=by unfold pQ;rw[dR hm]
 have ok1:oO S (some d) f.num (.ents f.key):=λd' f' e1 e2=>by grind
 have ok2:∀kd,oO S (some d) f.num kd->kd= .ents f.key:=λkd q=>by rw[q d f rfl hff,WS]
 have⟨pv,rv,L,hfB,VL,WO⟩:=hfa.blk;rw[dR M]at WO;obtain⟨P,rfl,WP⟩:=WO;rw[s.eq]at WP;rw[WN,s.eq,M]at L;have V8:=s.lone Vv;rw[V8]at VL;have hD:=ri S k (some d) w Z db m rv [] I.hd VL.1 Vw (λx hx q=>by have:=VL.2 x hx;have:=(I.hZ x q).1;omega);rw[jr]at hD;have WT:(b.extract 0 e).size=e:=gK I.eb;have hab:=I.az;have hze:=I.ze;have WU:=I.eb;have WV:=I.bs;have V9:=I.rB;have Wu:=I.rZ;have VZ:=I.hZ;have V0:=I.cx.le;have WW:rb<w.heap.size:=dZ.lt I.hr;have hfl:=L.lt;have hL:=λw1 (h:fi w1 (λb=>b<B) mp g fb)=>td w1 (λb=>b<B) mp g fb h
 have Wb:=λw1 (h:ei w1 rb (b.extract 0 e) z deep)=>qV w1 rb (b.extract 0 e) z deep (ly mp g) h Vv Vv Vv WK WL
 have Wv:=λw1 (h:fi w1 (λb=>b<B) mp g fb)=>Hp w1 (λb=>b<B) mp g fb h M
 have Ww:=λw1 pv=>py w1 (S.base f.key) pv Vv
 rw[s.eq,Xd]at Wv;rw[Xf]at Ww;obtain⟨X,VO⟩:=Vu (ly mp g);rw[VO]at hL Wb⊢
 have Wx:Hid (∀y:Nat×Nat,oo (b.extract 0 e) z deep X= .ok y->z<y.1/\y.1<=y.2/\y.2<=e/\1<=k/\(b.extract 0 e).extract 0 y.2=b.extract 0 y.2):=λy hy=>by
  have⟨q1,q2⟩:=wX hy;have⟨V,G,H⟩:=jw (z:=y.1) (e:=y.2) q1;rw[WT]at H;have hlv:1<=X:=(by rw[<-VO];unfold ly;rw[WN];split<;>simp);exact⟨V,G,H,Vv,kL WU H⟩
 clear VO WK WL Wp;obtain⟨R,hR⟩:=Vu (oo (b.extract 0 e) z deep X);rw[hR]at Wb Wx⊢;clear hR;have Wd:¬Z fb:=λq=>by grind
 have hlen:=I.wm.len
 have WX:Hid (∀c,k=c+1->∀(J:aw) (C:ax) (y:Nat×Nat) (n p:Nat),Below B w J->z<y.1->y.1<=y.2->y.2<=e->ei J n (b.extract 0 y.2) y.1 ((deep:Int)+1)->eQ S k (some (eR f)) J C p PM.none->(∀x,C x->B<=x/\x<J.heap.size)->B<=n->¬C n->
   Vq 83 #[ah P,ah n,ah p] J (iE S c (eR f) J C n p (b.extract 0 y.2) (deep+1) (pR y.2 (eY S b F (eR f) PM.none y.1 y.2 (deep+1))))):=by
  rintro c rfl J C y n p WQ V G H hrn Xg hC Xh Xi;exact hRd J C (eR f) _ y.1 y.2 (deep+1) c P _ eS n p (I.cx.on WQ) (WP.msg.O (λx q _=>WQ.block x q)) (Ch s M) (hS.good.sub VN) (by grind) Xg hC Xh Xi G Vv Vv Vv (WM.none _ _ _)
 have We:Hid (∀c,k=c+1->∀(w6:aw) (Q E:ax) (l:Nat) (y:Nat×Nat) (t:PM),z<y.1->y.1<=y.2->y.2<=e->eY S b F (eR f) PM.none y.1 y.2 (deep+1)= .ok t->eQ S (k+1) (some d) w6 Q db m->eQ S k (some (eR f)) w6 E l t->(∀x,E x->¬Q x)->(∀x,Q x->x<w6.heap.size)->(∀x,E x->x<w6.heap.size)->
   Vq 187 #[ah db,aa f.num,.bool (fk jp f.key),ah l] w6 λD w'=>D= .returned (.tuple #[])/\∃Z',fP w6 (λb=>Q b\/E b) w' Z'/\eQ S (k+1) (some d) w' Z' db (zX f m t)):=by
  rintro c rfl w6 Q E l y t V G H Xj Wn Xk Wq Xl Xm;have Wy:=lz hS.good WV F (eR f) PM.none y.1 y.2 (deep+1) t Xj (hS.good.sub VN) G Vv (WM.none _ _ _);have Wz:=BU (hgd f (fD hff).2 hm) Wy;have hel:=Wy.len.1;exact vF S c (some d) w6 Q E db l m t f.num f.key _ Wn Xk.toKey Xe Wq Xl Xm ok1 ok2 rfl Wz.ky (by have⟨r,hr⟩:=Wz.key;grind) Vv (by grind) Vv
 have WA:∀w1,Below B w w1->fi w1 (λb=>b<B) mp g fb:=λw1 Wf=>hfa.O (λx q _=>Wf.block x q)
 have hr0:=I.hr;obtain⟨ra,rn,rc,rfl⟩:=d7 VL.1;unfold ii at L;have⟨T,U⟩:=L.I;go_in
 go_wp2_with fail;refine hD.V ?_;rintro D w1 ⟨rfl,Z1',u,VX⟩;have⟨W,KE⟩:=ec w1 #[ai,ai] 183;have WB:w.heap.size<=w1.heap.size:=u.size
 obtain⟨j,N,Xn,Xo⟩:∃j,eU w Z rb (w1.alloc (am #[ai,ai] 183)) j/\eQ S (k+1) (some d) (w1.alloc (am #[ai,ai] 183)) j db m/\∀x,j x->B<=x/\x<w1.heap.size:=
  ⟨_,.oS (u.clip.G W),VX.clip.O (λx _ q=>W.block x q),λx q=>⟨(u.grow x q.1).elim (λe=>(VZ x e).1) (λe=>aM V0 e),q.2⟩⟩
 have WC:=(L.step u Wd).G W (L.step u Wd).lt;have WD:ei (w1.alloc (am #[ai,ai] 183)) rb (b.extract 0 e) z deep:=dZ.step hr0 (u.G W) Wu;have WE:=L.step u Wd;clear u VX T U hD;have⟨T,U⟩:=WE.I;go_upto_region 4 with fail
 have hew:w1.heap.size<(w1.alloc (am #[ai,ai] 183)).heap.size:=KE.lt;generalize w1.alloc (am #[ai,ai] 183)=wa at*;generalize w1.heap.size=l at*;clear T U WE W;have V7:dZ wa.drew fb #[aa f.num,aa 4,aa 16,ah P,.slice ra rn rc] 220:=WC;have Wf:Below B w wa:=N.G V0 (λx q=>(VZ x q).1) V9;have Wh:Below B w wa.drew:=Wf.drew;have Wk:ei wa.drew rb (b.extract 0 e) z deep:=WD;have VS:¬j rb:=N.not WW Wu;have Wl:eQ S (k+1) (some d) wa.drew j db m:=Xn.O (λ_ _ _=>rfl);have WY:dZ wa.drew l #[ai,ai] 183:=KE;have VT:eU w Z rb wa.drew j:=N.J (.oB (Below.refl _ _).drew);have⟨T,U⟩:=WC.I;have VU:Hid (∀y:Nat×Nat,yq S b F (eR f) PM.none deep (zX f m) (.ok y)=Lx (zX f m) y.2 (eY S b F (eR f) PM.none y.1 y.2 (deep+1))):=λ_=>rfl
 go_region_held2 (λw'=>w'.cell? (aj fb 0)=some (aa f.num)/\w'.cell? (aj fb 3)=some (ah P))
  (first|exact⟨h5.cell 0,h5.cell 3⟩|exact⟨h3.cell 0,h3.cell 3⟩|exact⟨V7.cell 0,V7.cell 3⟩)
  (first
   |(
     go_at_call 186;refine(hL wa.drew (WA wa.drew Wh)).V ?_
     rintro D w2 ⟨rfl,rfl⟩)
   |(
     go_at_call 185;refine(Wb wa.drew Wk).V ?_;intro D w3 hq;rcases hq.part with⟨x,rfl,rfl,K⟩|⟨y,n,rfl,rfl,K,Xp,Xq,Ws,VY⟩;.unfold d5;go_wp2;exact⟨rfl,rfl,j,VT.J (.oK K)⟩
     have⟨V,G,H,v3,v4⟩:=Wx.o y rfl;obtain⟨c,rfl⟩:∃c,k=c+1:=⟨k-1,Vv⟩;have h3:=V7.kept K (by grind);have VK:=VT.J (.oK K);have WZ:=eU.dr Wl K VS;have hw3:wa.heap.size<=w3.heap.size:=K.size;have hnb1:wa.heap.size<=n:=Xp;have hnl3:n<w3.heap.size:=dZ.lt Ws;have W5:¬j n:=λq=>by grind
     have W6:=WY.kept K (by grind);have W7:eQ S (c+1) (some (eR f)) w3 (λx=>x=l) l PM.none:=eQ.fresh W6;have W8:Below B w w3:=VK.G V0 (λx q=>(VZ x q).1) V9
     have VV:ei w3 n (b.extract 0 y.2) y.1 ((deep:Int)+1):=by grind)
   |(
     go_at_call 83;refine(WX.o c rfl w3 (λx=>x=l) y n l W8 V G H VV W7 (λx q=>Vv) Vv Vv).V ?_;intro D o Xr;rcases Xr.part with⟨x,hP,rfl,Y,v⟩|⟨t,hP,rfl,Y,v,Xs⟩;.unfold d5;go_wp2;rw[VU.o y,hP];exact⟨rfl,rfl,_,tE VK Vv WB v⟩
     have h5:dZ o fb #[aa f.num,aa 4,aa 16,ah P,.slice ra rn rc] 220:=(v.block fb h3.lt Vv Vv).J h3;have WF:Hid (eY S b F (eR f) PM.none y.1 y.2 (deep+1)= .ok t):=hP
     clear hP))
 have W9:∀x,Y x->x=l\/w3.heap.size<=x:=v.grow;have Wm:=Xs.clip;have Wn:eQ S (c+1+1) (some d) o j db m:=WZ.O λx q hl=>v.block x hl (λe=>by grind) (λe=>W5 (e▸q))
 have WG:ei o rb (b.extract 0 e) y.2 deep:=(v.block rb (dZ.lt VY) Vv (λe=>Xq e.sy)).J VY;have WH:=tE VK Vv WB v;have Xa:Below B w o:=WH.G V0 (λx q=>(VZ x q).1) V9;have Wo:dZ o.drew fb #[aa f.num,aa 4,aa 16,ah P,.slice ra rn rc] 220:=h5;have hw5:w3.heap.size<=o.heap.size:=v.size;clear T U;have⟨T,U⟩:=h5.I;go_upto_region 5 with fail
 go_region_held2 (λw'=>w'.cell? (aj fb 0)=some (aa f.num))
  (first|exact h9.cell 0|exact h8.cell 0|exact h7.cell 0|exact Wo.cell 0)
  (first
   |(
     go_at_call 188;refine(Wv o.drew (WA o.drew Xa.drew)).V ?_;rintro D w7 ⟨Xt,rfl,B7⟩
     have h7:=Wo.G B7 Wo.lt)
   |(
     go_at_call 189;refine(Ww w7 Xt).V ?_;rintro D w8 ⟨rfl,B8⟩;have h8:=h7.G B8 h7.lt
     have O:ak o w8:=dW (Vs o).drew (dW B7 B8))
   |(
     go_at_call 187;refine(We.o c rfl w8 j (λx=>Y x/\x<o.heap.size) l y t V G H WF.o (Wn.O (λx _ q=>O.block x q)) (Wm.O (λx _ q=>O.block x q)) (λx q1 q2=>by grind) (λx q=>by have:=(Xo x q).2;have:=O.size;omega) (λx q=>aI q.2 O.size)).V ?_;rintro D w9 ⟨rfl,Z9,A,Xu⟩;have WJ:∀x,x<wa.heap.size->x≠l->¬j x->¬(j x\/(Y x/\x<o.heap.size)):=λx q1 q2 q3 q=>q.elim q3 (λq=>(W9 x q.1).elim q2 (λe=>Vv))
     have h9:=h8.step A (WJ fb V7.lt Vv (λq=>by grind))))
 all_goals
  go_wp2;go_end0;rw[VU.o y,WF.o];have Xb:ei w8 rb (b.extract 0 e) y.2 deep:=dZ.G WG O (dZ.lt WG);have Xc:eU w Z rb w8 (λx=>j x\/Y x):=WH.J (.oB O);refine⟨rfl,Z9,Xc.J ⟨A.os,A.tape,A.output,A.size,λi hi q _=>A.block i hi (λe=>q (e.imp id (λe=>e.1))),λi q=>(A.grow i q).imp (λe=>e.imp id (λe=>e.1)) id⟩,Xu,?_⟩;exact dZ.step Xb A (WJ rb (dZ.lt WD) Vv VS)
end
end
end Go.Proofs.YtfebdimolnobaaaGreatDoor
