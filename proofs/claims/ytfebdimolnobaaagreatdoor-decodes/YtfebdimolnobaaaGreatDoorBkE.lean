import Derived.Test.YtfebdimolnobaaaGreatDoorArA
set_option maxRecDepth 100000
set_option maxHeartbeats 8000000
set_option linter.all false
namespace Go.Proofs.YtfebdimolnobaaaGreatDoor
open Go.RowKit Go.Proofs.Tryz
section
variable {K:Fl} {D:ax} {v:Value} {xs:ay} {ns:aB}
def Rq (k:Nat):Prop:=∀(w:aw) (bb N:Nat) (D Z:ax) (v:Value) (m:PM),vF w bb N D->lR k w v m Z->(∀b,Z b->¬D b/\b<w.heap.size)->N+mZ k m<=68719476736->
 S9 144 #[ag bb,.agg #[v,ae m.unk]] w λe w'=>e= .returned (.tuple #[])/\vF w' bb (N+mZ k m) (λb=>D b\/Z b\/w.heap.size<=b)/\nJ w (λb=>D b\/Z b) w'
theorem pK.O {w w':aw}{j y:Nat}(h:pK K w D v j y xs ns)(a:∀b,D b->b<w.heap.size->w'.heap[b]?=w.heap[b]?):pK K w' D v j y xs ns:=⟨h.row.O a,h.sh⟩
theorem pK.G {w w':aw}{j y:Nat}(h:pK K w D v j y xs ns)(a:aj w w'):pK K w' D v j y xs ns:=h.O λb _ c=>a.block b c
theorem L6 {k:Nat}(H:Rq k)(w:aw)(bb N:Nat)(D A:ax)(vv:Value)(l:List PV)(f:vF w bb N D)(c:iw (lR k w) w A vv l)(d:∀b,A b->¬D b/\b<w.heap.size)(a:N+(1+m8 k l)<=68719476736):
  Calls prog 216 #[ag bb,vv] w λe w'=>e= .returned (.tuple #[])/\vF w' bb (N+(1+m8 k l)) (λb=>D b\/A b\/w.heap.size<=b)/\nJ w (λb=>D b\/A b) w':=by
 obtain⟨a,R,rfl⟩:=c.form;obtain⟨I,Y,i,m,h,g⟩:=c;have hlen:=GY g;have c:=g.len
 have j:L1 55 4 (λw c (v:PV) C=>lR k w c v.2.2 C) (kU I l) w w bb (N+m8 k (l.take 0)) D A D Y (.slice a l.length R) I l 0:=
  ⟨f,λb q=> .inl q,g,λb q=>⟨h b q,(d b (h b q)).1⟩,i,λb q=>⟨m b q,(d b (i.2 b q)).1⟩,nJ.refl _ _⟩
 clear f i m h g;go_in
 go_wp2;go_loopw [4] (λi wr=>∃(i':Nat) (S f:ax),i'<=l.length/\i=aa i'/\L1 55 4 (λw c (v:PV) C=>lR k w c v.2.2 C) (kU I l) w wr bb (N+m8 k (l.take i')) D A S f (.slice a l.length R) I l i') (λi _=>l.length-(intOf i).toNat)
 case atStart=>exact⟨0,D,Y,aM _,rfl,j⟩
 case round=>
  obtain⟨i,S,f,hi,rfl,L⟩:=hrel;clear j;by_cases hlt:i<l.length
  .have⟨x,O⟩:=gx hlt;have⟨c,C,B,n,h,r,f,o,p⟩:=DO L.sp O;obtain⟨g,rfl,_,Ur,J⟩:=dV L.ro.1 Te;have⟨s,u,j,m⟩:=DP n O;obtain⟨n,t,rfl⟩:=h.form;have n:=J wr rfl _ _ j;have n:=J wr rfl _ _ m;have Y:(i:Int)<(l.length:Int):=Te;have t:=L4 (k:=k) O;have n:=Qd (k:=k) (l:=l) (i+1);clear J s u j m;go_wp2_with fail;refine(H wr bb (N+m8 k (l.take i)) S C _ x.2.2 L.bk h (λb q=>⟨(L.yi b (f b q)).2,aI (d b (L.yi b (f b q)).1).2 L.ch.size⟩) Te).V ?_;rintro e w1 ⟨rfl,m,n⟩;have j:=L1.step (P:=λw c (v:PV) C=>lR k w c v.2.2 C) (λw w' x y C h s=>lR.O h s) L (λb q=>(d b q).2) r f o p m n;rw[Nat.add_assoc,<-t]at j;go_wp2;go_roundw
   case rel=>exact⟨i+1,_,_,Te,by go_num,j⟩
   case measure=>simp[intOf];omega
  .have Y:¬(i:Int)<(l.length:Int):=Te;obtain rfl:i=l.length:=Te;rw[bX]at L;have⟨n,h,f,P,K,vs,t,fs,U,j,Uu,Uv,HZ,m,o,c⟩:=L.bk;have r:=L.ro;have V:(kU I l).length=l.length*4:=r.1.1;have M:=λb q=>(L.rn b q).2
   have Q:=L.di;have s:=L.ch;clear L;obtain⟨y,T⟩:=Td (n+1);have c:y<=68719476737:=Te;have m:((n:Int)+1)=(y:Int):=Te;have p:lL (wr.setCell (ai bb 0) (aa ((n:Int)+1))) bb y S h f P K vs t fs U:=by rw[m];exact j.count y
   have E:d5 (wr.setCell (ai bb 0) (aa ((n:Int)+1))) A 55 4 (.slice a l.length R) l.length (kU I l):=r.setT j.blk Th _ _;have u:=s.set (c:=bb) (Q bb j.dbb|>.elim (λq=> .inl (.inl q)) (λq=>q.elim (λq=> .inl (.inr q)) (λq=> .inr q))) 0 (aa ((n:Int)+1));have o:(wr.setCell (ai bb 0) (aa ((n:Int)+1))).heap.size=wr.heap.size:=by simp[World.setCell]
   have L:∀W,S9 43 #[aa (y:Int)] W λe w'=>e= .returned (ae (Ao y))/\Below W.heap.size W w':=λW=>LZ W y Te
   have⟨X,Z⟩:=j.blk.I;have⟨k3,k4⟩:=p.blk.I;clear m o;go_wp2_with fail;refine(L _).V ?_;rintro e w2 ⟨rfl,o⟩;obtain⟨mk,m⟩:=Td (Ao y);rw[m];have W:Hid (uw.mar y= [.int .u64 0,ae mk,ah,S8]):=by show _=_;rw[<-m];rfl
   clear m;have z:=(p.G o).G ((Below.refl _ w2).alloc (aD _) (ak #[.int .u64 0,ae mk,ah,S8] 55));have F:=(E.O λb _ m=>o.block b m).O (λb _ m=>((Below.refl _ w2).alloc (aD _) (ak #[.int .u64 0,ae mk,ah,S8] 55)).block b m);have G:=(u.G o).G ((Below.refl _ w2).alloc (aD _) (ak #[.int .u64 0,ae mk,ah,S8] 55));have m:=dP.new w2 #[.int .u64 0,ae mk,ah,S8] 55;have Ul:w.heap.size<=w2.heap.size:=aL u.size o.size;clear L X Z k3 k4 j p r E s u o;obtain⟨r,j⟩:=Td w2.heap.size;rw[j]at m Ul;go_wp2;generalize w2.alloc (ak #[.int .u64 0,ae mk,ah,S8] 55)=w3 at*;clear j;go_loopw [6] (λi wr=>∃i':Nat,i'<=l.length/\i=aa i'/\d5 wr A 55 4 (.slice a l.length R) l.length (iV uw i' y++(kU I l).drop (i'*4))/\lL wr bb y S h f P K vs t fs U/\dP wr r #[.int .u64 0,ae mk,ah,S8] 55/\nJ w (λb=>D b\/A b) wr) (λi _=>l.length-(intOf i).toNat)
   case atStart=>exact⟨0,aM _,rfl,by simpa [iV]using F,z,m,G⟩
   case round=>
    obtain⟨i,hi,rfl,u,p,m,s⟩:=hrel;clear z F G;have⟨X,Z⟩:=m.I;by_cases hlt:i<l.length
    .have Y:(i:Int)<(l.length:Int):=Te;obtain⟨g,rfl,_,Ur,J⟩:=dV u.1 Te;have o:A g:=u.2 g rfl;have Um:¬S g:=M g rfl;have F:g≠r:=by have:=(d g o).2;omega
     have G:(kU I l).length=l.length*4:=V;have z:(iV uw i y).length=i*4:=tF uw i y rfl;have⟨j,L,V,pd,E⟩:=OJ (kU I l) i l.length G hlt;have c0:=J wr rfl (i*4) j (by rw[E];simp[z]);have j:=J wr rfl (i*4+1) L (by rw[E];simp[z]);have j:=J wr rfl (i*4+2) V (by rw[E];simp[z]);have j:=J wr rfl (i*4+3) pd (by rw[E];simp[z]);have L:=λj=>u.1.frozenAt j
     have L:Hid (d5 ((((wr.setCell (ai g (i*4)) (.int .u64 0)).setCell (ai g (i*4+1)) (ae mk)).setCell (ai g (i*4+2)) (ah)).setCell (ai g (i*4+3)) (S8)) A 55 4 (Ta g l.length R) l.length (iV uw (i+1) y++(kU I l).drop ((i+1)*4))):=(by have q:=((((u.1.stored (i*4) (.int .u64 0)).1.stored (i*4+1) (ae mk)).1.stored (i*4+2) (ah)).1.stored (i*4+3) (S8)).1;rw[N7 W.o G hlt]at q;exact⟨q,u.2⟩)
     have I:Hid (lL ((((wr.setCell (ai g (i*4)) (.int .u64 0)).setCell (ai g (i*4+1)) (ae mk)).setCell (ai g (i*4+2)) (ah)).setCell (ai g (i*4+3)) (S8)) bb y S h f P K vs t fs U):=
      p.O λb V _=>by
       have G:b≠g:=λe=>Um (e▸V)
       exact(Below.heap_setCell _ _ _ _ G).J ((Below.heap_setCell _ _ _ _ G).J ((Below.heap_setCell _ _ _ _ G).J (Below.heap_setCell _ _ _ _ G)))
     have G:=(((m.other (c:=g) (i*4) (.int .u64 0) F).other (c:=g) (i*4+1) (ae mk) F).other (c:=g) (i*4+2) (ah) F).other (c:=g) (i*4+3) (S8) F;have F:=(((s.set (c:=g) (.inl (.inr o)) (i*4) (.int .u64 0)).set (c:=g) (.inl (.inr o)) (i*4+1) (ae mk)).set (c:=g) (.inl (.inr o)) (i*4+2) (ah)).set (c:=g) (.inl (.inr o)) (i*4+3) (S8);clear J u p E z;go_wp2;go_roundw
     case rel=>exact⟨i+1,Te,by go_num,L.o,I.o,G,F⟩
     case measure=>simp[intOf];omega
    .have Y:¬(i:Int)<(l.length:Int):=Te;obtain rfl:i=l.length:=Te;have g:d5 wr A 55 4 (.slice a l.length R) l.length (iV uw l.length y):=(by rw[cU Te,bH]at u;exact u);have TW:∀b,(Value.slice a l.length R).ownBlock=some b->b≠r:=λb q=>by have:=(d b (u.2 b q)).2;omega
     obtain⟨o,d⟩:∃o:ax,(λb=>D b\/A b\/w.heap.size<=b)=o:=⟨_,rfl⟩;have Un:Hid ((λb=>D b\/A b\/w.heap.size<=b)=o):=d;have E:lL wr bb y o h f P K vs t fs U:=p.wide (λb q=>by rw[<-d];exact Q b q);have F:pK uw wr o (.slice a l.length R) (l.length+0) y vs t:=⟨g.wide (λb q=>by rw[<-d];exact .inr (.inl q)),λi x I O T b z G=>absurd ((p.hv.en i x I O T).2 b z) (M b G)⟩;have TX:∀b,w.heap.size<=b->o b:=λb q=>by rw[<-d];exact .inr (.inr q)
     have I:∀b,o b->(D b\/A b)\/w.heap.size<=b:=λb q=>by rw[<-d]at q;rcases q with q|q|q;exact .inl (.inl q);exact .inl (.inr q);exact .inr q
     clear u g p Q M d X Z;have⟨i1,Uw,T6,T7,T8⟩:=info_parts Tryz.infoB1;have⟨i3,Ux,T9,Ua,Ub⟩:=info_parts Tryz.infoB3;have⟨i5,Uy,Uc,Ud,Ue⟩:=info_parts Tryz.infoB5;go_wp2;go_loopw [1,7] (λv i wr=>∃(p:Nat) (h f:Value) (a:ay) (d:aB),p<=4/\i=aa p/\lL wr bb y o h f P K a d fs U/\Hid (d.length=a.length)/\Hid (a.length=vs.length+p)/\Hid (∀z∈d,z<=y)/\pK uw wr o v (l.length+p) y a d/\dP wr r #[.int .u64 0,ae mk,ah,S8] 55/\(∀b,v.ownBlock=some b->b≠r)/\nJ w (λb=>D b\/A b) wr) (λ_ i _=>4-(intOf i).toNat)
     case atStart=>exact⟨0,h,f,vs,t,Te,rfl,E,Uu,rfl,λz hz=>by have:=HZ.o.1 z hz;omega,F,m,TW,s⟩
     case round=>
      obtain⟨p,i,h,a,d,f,rfl,B,g,S,HY,C,m,TW,s⟩:=hrel;clear E F;by_cases hlt:p<4
      .have Y:(p:Int)<4:=Te;obtain⟨E,G,F,rfl⟩:=dO C.row.1;obtain⟨ta,f,tc,rfl⟩:=dO B.hv.xr.1;obtain⟨na,f,nc,rfl⟩:=dO B.hv.nr.1;obtain rfl:=d9 B.hv.xr.1;obtain rfl:=d9 B.hv.nr.1;have f:a.length<=274877906960:=by have:=S.o;omega
       have f:d.length<=274877906960:=by have:=g.o;omega
       have TJ:r≠bb:=λe=>absurd ((e▸m:dP wr bb _ 55).tyE B.blk) Th
       have TY:some r≠(Value.slice ta a.length tc).ownBlock:=λe=>by have⟨c,q⟩:=iU B.hv.xr.1 e.sy;exact absurd (m.tyE q) Th
       have TZ:some r≠(Value.slice na d.length nc).ownBlock:=λe=>by have⟨c,q⟩:=iU B.hv.nr.1 e.sy;exact absurd (m.tyE q) Th
       have R:=(Below.refl _ wr).alloc (aD _) (ak #[.slice E G F] 56);have f:=B.G R;have Q:=C.G R;have i:=s.G R;have h:=m.alloc (ak #[.slice E G F] 56);have z0:=s.size;have⟨X,Z⟩:=B.blk.I;go_upto_region 14 with(at_builtin;refine wpList_append_lies _ rfl _ _ 34 rfl 0 56 i3 _ 1 24 underlying34 Ux T9 Ua Ub rfl Th (.slice ta a.length tc) a.length a rfl f.hv.xr.1 (ai wr.heap.size 0) 1 1 [.slice E G F] rfl rfl (aY (t:=56) (fr:=(0,0)) (heap_alloc_new wr _)) Tm Te Tl Te (aM _) (wr.heap.size+1) Tf ?_;intro u M w5 Ty L TL Uf;have⟨T,J,C5⟩:=f.pushV Q g.o L Ty (λb V=>by cases V;exact TL.elim (λq=>f.hv.xr.2 _ q) (λq=>TX u Te));have⟨o1,o2⟩:=T.I)
       have c5:=(i.grown L (λx O=>I x (f.hv.xr.2 x O))).set (I bb B.dbb) 1 (Ta u (a.length+1) M);have M5:=(h.grown L TY).other (c:=bb) 1 (Ta u (a.length+1) M) TJ.sy;clear B C f Q R i h T o1 o2 X Z Ty L TL Uf m s z0;generalize w5.setCell (ai bb 1) (Ta u (a.length+1) M)=wA at*;go_cut []from 58 to 70 (λm=>∃x',lL m bb y o (Ta u (a.length+1) M) x' P K (a++ [.slice E G F]) (d++ [y]) fs U/\pK uw m o (.slice E G F) (l.length+p) y (a++ [.slice E G F]) (d++ [y])/\dP m r #[.int .u64 0,ae mk,ah,S8] 55/\nJ w (λb=>D b\/A b) m)
       case first=>
        have T:=((Tb wA).drew).alloc (aD _) (ak #[aa (y:Int)] 3);have f:=J.G T;have Q:=C5.G T;have i:=c5.G T;have h:=M5.drew.alloc (ak #[aa (y:Int)] 3);have z0:=c5.size;have u:Hid ((a++ [Value.slice E G F]).length=d.length+1/\(a++ [Value.slice E G F])[d.length]?=some (.slice E G F)):=⟨by simp[g.o],by rw[g.o];simp⟩;have⟨X,Z⟩:=J.blk.I;have⟨k3,k4⟩:=(J.blk.alloc (ak #[aa (y:Int)] 3)).I;go_region_law (first|(refine step_append_lies _ Tk _ _ _ Tk 0 3 i5 _ 1 8 underlying35 Uy Uc Ud Ue rfl Th (.slice na d.length nc) d.length (d.map λn:Nat=>Value.int .i64 n) Tk f.hv.nr.1 (ai wA.heap.size 0) 1 1 [aa (y:Int)] Tk Tk (aY (t:=3) (fr:=(0,0)) (heap_alloc_new wA.drew _)) Tm Te Tl Te (aM _) (wA.heap.size+1) Tf ?_;intro L K w6 R r C M;have⟨P,m,o⟩:=f.pushVn Q u.o.1 u.o.2 r R (λb V=>by cases V;exact C.elim (λq=>f.hv.nr.2 _ q) (λq=>TX L Te)) (λb V=>by cases V;exact C.imp id (λq=>by show _<=L;simp;omega));have⟨o1,o2⟩:=P.I))
        all_goals
         go_wp2;go_meet
         case rel=>exact⟨_,m,o,(h.grown r TZ).other (c:=bb) 2 _ TJ.sy,(i.grown r (λx O=>I x (f.hv.nr.2 x O))).set (I bb f.dbb) 2 _⟩
       case rest=>
        obtain⟨x',m,o,c,c6⟩:=hcut;clear J C5 M5 c5;have T:=(Tb wc).alloc (aD _) (ak #[.int .u64 0,ae mk,ah,S8] 55);have f:=m.G T;have Q:=o.G T;have i:=c6.G T;have h:=c.alloc (ak #[.int .u64 0,ae mk,ah,S8] 55);have z0:=c6.size;have⟨X,Z⟩:=c.I;go_wp2_with (at_builtin;refine yC (K:=uw) (y:=y) (v:= .slice E G F) (j:=l.length+p) rfl Th 56 underlying56 i1 _ 64 Uw T6 T7 T8 rfl rfl _ _ rfl Q.row.1 rfl wc.heap.size rfl (by rw[W.o];exact aY (t:=55) (fr:=(0,0)) (heap_alloc_new wc _)) (by rw[W.o];simp[Value.oneCell']) Tl Te ?_;intro v' L m;have⟨n,c⟩:=f.appV Q m (λb q=>TX b (by simp at q;omega));have⟨o,r,u⟩:=m.rest h TW i (λb q=>I b (Q.row.2 b q));obtain⟨x,J,C,rfl⟩:=dO c.row.1)
        go_roundw
        case rel=>exact⟨p+1,_,_,_,_,Te,by go_num,n,by simp[Hid,g.o],by have:=S.o;simp[Hid];omega,GX HY.o (aD _),c,o,r,u⟩
        case measure=>simp[intOf];omega
      .have Y:decide ((p:Int)<4)=false:=Tg;go_wp2;go_end0;exact⟨rfl,⟨y,_,_,_,_,a,d,fs,U,by rw[Un.o];exact B,g,Uv,⟨HY.o,λz hz=>by have:=HZ.o.2 z hz;omega⟩,Te,by have:=S.o;omega,Te⟩,s⟩
end
def L7 (k:Nat):∀fs:List PF,fs.length<=sr k fs
 | []=>aD _
 |y::ys=>by have:=L7 k ys;rw[oI,bF];omega
def IA {k:Nat}(H:Rq k):Rq (k+1):=by
 intro c a N D A v m s b e d;rw[lz]at d⊢;obtain⟨u,d⟩:=Td m.unk;rw[d];clear d;obtain⟨r,p,rfl⟩:=b.form;obtain⟨T,Y,w,z,g,x⟩:=b;generalize m.fs=l at*;have⟨d,o⟩:=eY c #[.slice r l.length p,.string u] 49;have i:=w.O (λb _ G=>d.block b G);have m:i8 (λj (f:PF) A=>iw (lR k (c.alloc (Obj.cells #[.slice r l.length p,.string u] 49))) (c.alloc (Obj.cells #[.slice r l.length p,.string u] 49)) A j f.2) Y T l:=x.imp λ_ _ _ _ _ _ h=>h.O (λb _ G=>d.block b G) (λ_ _ _ _ n=>n.O λb _ G=>d.block b G)
 have y:=s.O (λb _ G=>d.block b G);have t:∀b,A b->¬D b/\b<(c.alloc (Obj.cells #[.slice r l.length p,.string u] 49)).heap.size:=λb q=>⟨(e b q).1,by have:=(e b q).2;simp;omega⟩
 have HF:Hid (∀w6,vF w6 a (N+(1+sr k l)) (λb=>D b\/A b\/(c.alloc (Obj.cells #[.slice r l.length p,.string u] 49)).heap.size<=b)->nJ (c.alloc (Obj.cells #[.slice r l.length p,.string u] 49)) (λb=>D b\/A b) w6->vF w6 a (N+(1+sr k l)) (λb=>D b\/A b\/c.heap.size<=b)/\nJ c (λb=>D b\/A b) w6):=λw6 Q I=>⟨Q.less (λb q _=>q.imp id (λq=>q.imp id λq=>by have:=d.size;omega)) (aD _),(nJ.oB d).J I λ_ _ q=>q⟩
 have hlen:=L7 k l;have B:=m.len;have⟨X,Z⟩:=o.I;go_enter func144,ntmps144;go_wp2;clear s w x e X Z o d;generalize c.alloc (Obj.cells #[.slice r l.length p,.string u] 49)=w at*
 have c:L1 58 2 (λw j (f:PF) A=>iw (lR k w) w A j f.2) (lW T l) w w a (N+sr k (l.take 0)) D A D Y (.slice r l.length p) T l 0:=
  ⟨y,λb q=> .inl q,m,λb q=>⟨g b q,(t b (g b q)).1⟩,i,λb q=>⟨z b q,(t b (i.2 b q)).1⟩,nJ.refl _ _⟩
 clear y i z g m;go_loopw [5] (λi wr=>∃(i':Nat) (d e:Nat->Prop),i'<=l.length/\i= .int .i64 i'/\L1 58 2 (λw j (f:PF) A=>iw (lR k w) w A j f.2) (lW T l) w wr a (N+sr k (l.take i')) D A d e (.slice r l.length p) T l i') (λi _=>l.length-(intOf i).toNat)
 case atStart=>exact⟨0,D,Y,aM _,rfl,c⟩
 case round=>
  obtain⟨i,d,e,hi,rfl,L⟩:=hrel;clear c;by_cases hlt:i<l.length
  .have⟨x,W⟩:=gx hlt;have⟨e,C,B,s,c,K,m,z,E⟩:=DO L.sp W;obtain⟨g,rfl,_,Uv,o⟩:=dV L.ro.1 Te;have⟨u,e⟩:=DQ s W;obtain⟨s,y,rfl⟩:=c.form;have I:=o wr rfl _ _ e;have Y:(i:Int)<(l.length:Int):=Te;have M:=L5 (k:=k) W;have s:=Qe (k:=k) (l:=l) (i+1);clear o u e;go_wp2_with fail;refine(L6 H wr a (N+sr k (l.take i)) d C _ x.2 L.bk c (λb q=>⟨(L.yi b (m b q)).2,aI (t b (L.yi b (m b q)).1).2 L.ch.size⟩) Te).V ?_;rintro e w1 ⟨rfl,F,J⟩;have s:=L1.step (P:=λw j (f:PF) A=>iw (lR k w) w A j f.2) (λw w' x y C h u=>iw.O h u (λ_ _ _ c n=>n.O λb V G=>u b (c b V) G)) L (λb q=>(t b q).2) K m z E F J;rw[Nat.add_assoc,<-M]at s;go_wp2;go_roundw
   case rel=>exact⟨i+1,_,_,Te,by go_num,s⟩
   case measure=>simp[intOf];omega
  .have Y:¬(i:Int)<(l.length:Int):=Te;obtain rfl:i=l.length:=Te;rw[bX]at L;have⟨n,K,u,h,f,vs,m,fs,s,j,Uy,Uz,HZ,z,E,c⟩:=L.bk;have J:=L.ro;have S:(lW T l).length=l.length*2:=J.1.1;have N:=λb q=>(L.rn b q).2
   have P:=L.di;have M:=L.ch;clear L;obtain⟨y,hy⟩:=Td (n+1);have c:y<=68719476737:=Te;have Uo:((n:Int)+1)=(y:Int):=Te;have z:lL (wr.setCell ⟨a,0,none⟩ (.int .i64 (y:Int))) a y d K u h f vs m fs s:=j.count y;have O:d5 (wr.setCell ⟨a,0,none⟩ (.int .i64 (y:Int))) A 58 2 (.slice r l.length p) l.length (lW T l):=J.setT j.blk Th _ _;have F:=M.set (c:=a) (P a j.dbb|>.elim (λq=> .inl (.inl q)) (λq=>q.elim (λq=> .inl (.inr q)) (λq=> .inr q))) 0 (.int .i64 (y:Int));have L:(wr.setCell ⟨a,0,none⟩ (.int .i64 (y:Int))).heap.size=wr.heap.size:=by simp[World.setCell]
   have⟨X,Z⟩:=j.blk.I;have⟨k3,k4⟩:=z.blk.I;have R:=z.G ((Below.refl _ (wr.setCell ⟨a,0,none⟩ (.int .i64 (y:Int)))).alloc (aD _) (Obj.cells #[.int .i64 (-(y:Int)),.slice none 0 0] 58));have U:=O.O (λb _ G=>((Below.refl _ (wr.setCell ⟨a,0,none⟩ (.int .i64 (y:Int)))).alloc (aD _) (Obj.cells #[.int .i64 (-(y:Int)),.slice none 0 0] 58)).block b G);have G:=F.G ((Below.refl _ (wr.setCell ⟨a,0,none⟩ (.int .i64 (y:Int)))).alloc (aD _) (Obj.cells #[.int .i64 (-(y:Int)),.slice none 0 0] 58));have E:=dP.new (wr.setCell ⟨a,0,none⟩ (.int .i64 (y:Int))) #[.int .i64 (-(y:Int)),.slice none 0 0] 58;have Up:w.heap.size<=wr.heap.size:=by rw[<-L];exact F.size
   clear j z J O M F;obtain⟨J,j⟩:=Td wr.heap.size;rw[L,j]at E;rw[j]at Up;have TU:Hid (uZ.mar y= [.int .i64 (-(y:Int)),.slice none 0 0]):=rfl;clear L;go_wp2;clear X Z k3 k4 Uo;generalize(wr.setCell ⟨a,0,none⟩ (.int .i64 (y:Int))).alloc (Obj.cells #[.int .i64 (-(y:Int)),.slice none 0 0] 58)=w3 at*;clear j;go_loopw [7] (λi wr=>∃i':Nat,i'<=l.length/\i= .int .i64 i'/\d5 wr A 58 2 (.slice r l.length p) l.length (iV uZ i' y++(lW T l).drop (i'*2))/\lL wr a y d K u h f vs m fs s/\dP wr J #[.int .i64 (-(y:Int)),.slice none 0 0] 58/\nJ w (λb=>D b\/A b) wr) (λi _=>l.length-(intOf i).toNat)
   case atStart=>exact⟨0,aM _,rfl,by simpa [iV]using U,R,E,G⟩
   case round=>
    obtain⟨i,hi,rfl,O,z,E,M⟩:=hrel;clear R U G;have⟨X,Z⟩:=E.I;by_cases hlt:i<l.length
    .have Y:(i:Int)<(l.length:Int):=Te;obtain⟨g,rfl,_,Uv,o⟩:=dV O.1 Te;have F:A g:=O.2 g rfl;have Uq:¬d g:=N g rfl;have R:g≠J:=by have:=(t g F).2;omega
     have G:(iV uZ i y).length=i*2:=tF uZ i y rfl;have⟨j,U,L⟩:=OL (lW T l) i l.length S hlt;have c0:=o wr rfl (i*2) j (by rw[L];simp[G]);have j:=o wr rfl (i*2+1) U (by rw[L];simp[G]);have U:=λj=>O.1.frozenAt j
     have U:Hid (d5 ((wr.setCell ⟨g,i*2,none⟩ (.int .i64 (-(y:Int)))).setCell ⟨g,i*2+1,none⟩ (.slice none 0 0)) A 58 2 (.slice (some ⟨g,0,none⟩) l.length p) l.length (iV uZ (i+1) y++(lW T l).drop ((i+1)*2))):=(by have q:=((O.1.stored (i*2) (.int .i64 (-(y:Int)))).1.stored (i*2+1) (.slice none 0 0)).1;rw[N8 TU.o S hlt]at q;exact⟨q,O.2⟩)
     have S:Hid (lL ((wr.setCell ⟨g,i*2,none⟩ (.int .i64 (-(y:Int)))).setCell ⟨g,i*2+1,none⟩ (.slice none 0 0)) a y d K u h f vs m fs s):=
      z.O λb V _=>by
       have d:b≠g:=λe=>Uq (e▸V)
       exact(Below.heap_setCell _ _ _ _ d).J (Below.heap_setCell _ _ _ _ d)
     have T:=(E.other (c:=g) (i*2) (.int .i64 (-(y:Int))) R).other (c:=g) (i*2+1) (.slice none 0 0) R;have d:=(M.set (c:=g) (.inl (.inr F)) (i*2) (.int .i64 (-(y:Int)))).set (c:=g) (.inl (.inr F)) (i*2+1) (.slice none 0 0);clear o O z L G;go_wp2;go_roundw
     case rel=>exact⟨i+1,Te,by go_num,U.o,S.o,T,d⟩
     case measure=>simp[intOf];omega
    .have Y:¬(i:Int)<(l.length:Int):=Te;obtain rfl:i=l.length:=Te;have g:d5 wr A 58 2 (.slice r l.length p) l.length (iV uZ l.length y):=(by rw[cU Te,bH]at O;exact O);have T:∀b,(Value.slice r l.length p).ownBlock=some b->b≠J:=λb q=>by have:=(t b (O.2 b q)).2;omega
     obtain⟨F,d⟩:∃F:Nat->Prop,(λb=>D b\/A b\/w.heap.size<=b)=F:=⟨_,rfl⟩;have Ur:Hid ((λb=>D b\/A b\/w.heap.size<=b)=F):=d;have t:lL wr a y F K u h f vs m fs s:=z.wide (λb q=>by rw[<-d];exact P b q);have G:pK uZ wr F (.slice r l.length p) (l.length+0) y fs s:=⟨g.wide (λb q=>by rw[<-d];exact .inr (.inl q)),λi x o W hy b Q I=>absurd ((z.hf.en i x o W hy).2 b Q) (N b I)⟩;have TY:∀b,w.heap.size<=b->F b:=λb q=>by rw[<-d];exact .inr (.inr q)
     have p:∀b,F b->(D b\/A b)\/w.heap.size<=b:=λb q=>by rw[<-d]at q;rcases q with q|q|q;exact .inl (.inl q);exact .inl (.inr q);exact .inr q
     clear O g z P N d X Z;have⟨i1,UA,T7,T8,T9⟩:=info_parts Tryz.infoB2;have⟨i3,UB,Ua,Ub,Uc⟩:=info_parts Tryz.infoB4;have⟨i5,UC,Ud,Ue,Uf⟩:=info_parts Tryz.infoB5;go_wp2;go_loopw [4,8] (λv i wr=>∃(I:Nat) (h f:Value) (d:List Value) (o:List Nat),I<=4/\i= .int .i64 I/\lL wr a y F K u h f vs m d o/\Hid (o.length=d.length)/\Hid (d.length=fs.length+I)/\Hid (∀z∈o,z<=y)/\pK uZ wr F v (l.length+I) y d o/\dP wr J #[.int .i64 (-(y:Int)),.slice none 0 0] 58/\(∀b,v.ownBlock=some b->b≠J)/\nJ w (λb=>D b\/A b) wr) (λ_ i _=>4-(intOf i).toNat)
     case atStart=>exact⟨0,h,f,fs,s,Te,rfl,t,Uz,rfl,λz O=>by have:=HZ.o.2 z O;omega,G,E,T,M⟩
     case round=>
      obtain⟨I,i,h,d,o,f,rfl,B,g,N,HY,C,E,T,M⟩:=hrel;clear t G;by_cases hlt:I<4
      .have Y:(I:Int)<4:=Te;obtain⟨Q,S,R,rfl⟩:=dO C.row.1;obtain⟨ta,f,tc,rfl⟩:=dO B.hf.xr.1;obtain⟨na,f,nc,rfl⟩:=dO B.hf.nr.1;obtain rfl:=d9 B.hf.xr.1;obtain rfl:=d9 B.hf.nr.1;have f:d.length<=274877906960:=by have:=N.o;omega
       have f:o.length<=274877906960:=by have:=g.o;omega
       have TM:J≠a:=λe=>absurd ((e▸E:dP wr a _ 58).tyE B.blk) Th
       have TZ:some J≠(Value.slice ta d.length tc).ownBlock:=λe=>by have⟨c,q⟩:=iU B.hf.xr.1 e.sy;exact absurd (E.tyE q) Th
       have T0:some J≠(Value.slice na o.length nc).ownBlock:=λe=>by have⟨c,q⟩:=iU B.hf.nr.1 e.sy;exact absurd (E.tyE q) Th
       have L:=(Below.refl _ wr).alloc (aD _) (Obj.cells #[.slice Q S R] 47);have s:=B.G L;have e:=C.G L;have i:=M.G L;have h:=E.alloc (Obj.cells #[.slice Q S R] 47);have P:=M.size;have⟨X,Z⟩:=B.blk.I;go_upto_region 16 with(at_builtin;refine wpList_append_lies _ rfl _ _ 36 rfl 0 47 i3 _ 1 24 underlying36 UB Ua Ub Uc rfl Th (.slice ta d.length tc) d.length d rfl s.hf.xr.1 ⟨wr.heap.size,0,none⟩ 1 1 [.slice Q S R] rfl rfl (aY (t:=47) (fr:=(0,0)) (heap_alloc_new wr _)) Tm Te Tl Te (aM _) (wr.heap.size+1) Tf ?_;intro f U w5 Tz G TO Ug;have⟨K5,r,C5⟩:=s.pushF e g.o G Tz (λb V=>by cases V;exact TO.elim (λq=>s.hf.xr.2 _ q) (λq=>TY f Te));have⟨o1,o2⟩:=K5.I)
       have c5:=(i.grown G (λx W=>p x (s.hf.xr.2 x W))).set (p a B.dbb) 3 (.slice (some ⟨f,0,none⟩) (d.length+1) U);have M5:=(h.grown G TZ).other (c:=a) 3 (.slice (some ⟨f,0,none⟩) (d.length+1) U) TM.sy;clear B C s e L i h K5 o1 o2 X Z Tz G TO Ug E M P;generalize w5.setCell ⟨a,3,none⟩ (.slice (some ⟨f,0,none⟩) (d.length+1) U)=wA at*;go_cut []from 61 to 73 (λC=>∃x',lL C a y F K u (.slice (some ⟨f,0,none⟩) (d.length+1) U) x' vs m (d++ [.slice Q S R]) (o++ [y])/\pK uZ C F (.slice Q S R) (l.length+I) y (d++ [.slice Q S R]) (o++ [y])/\dP C J #[.int .i64 (-(y:Int)),.slice none 0 0] 58/\nJ w (λb=>D b\/A b) C)
       case first=>
        have f:=((Tb wA).drew).alloc (aD _) (Obj.cells #[.int .i64 (y:Int)] 3);have s:=r.G f;have e:=C5.G f;have i:=c5.G f;have h:=M5.drew.alloc (Obj.cells #[.int .i64 (y:Int)] 3);have P:=c5.size;have C:Hid ((d++ [Value.slice Q S R]).length=o.length+1/\(d++ [Value.slice Q S R])[o.length]?=some (.slice Q S R)):=⟨by simp[g.o],by rw[g.o];simp⟩;have⟨X,Z⟩:=r.blk.I;have⟨k3,k4⟩:=(r.blk.alloc (Obj.cells #[.int .i64 (y:Int)] 3)).I;go_region_law (first|(refine step_append_lies _ Tk _ _ _ Tk 0 3 i5 _ 1 8 underlying35 UC Ud Ue Uf rfl Th (.slice na o.length nc) o.length (o.map λn:Nat=>Value.int .i64 n) Tk s.hf.nr.1 ⟨wA.heap.size,0,none⟩ 1 1 [.int .i64 (y:Int)] Tk Tk (aY (t:=3) (fr:=(0,0)) (heap_alloc_new wA.drew _)) Tm Te Tl Te (aM _) (wA.heap.size+1) Tf ?_;intro F E w6 K A D G;have⟨J,u,w⟩:=s.pushFn e C.o.1 C.o.2 A K (λb V=>by cases V;exact D.elim (λq=>s.hf.nr.2 _ q) (λq=>TY F Te)) (λb V=>by cases V;exact D.imp id (λq=>by show _<=F;simp;omega));have⟨o1,o2⟩:=J.I))
        all_goals
         go_wp2;go_meet
         case rel=>exact⟨_,u,w,(h.grown A T0).other (c:=a) 4 _ TM.sy,(i.grown A (λx W=>p x (s.hf.nr.2 x W))).set (p a s.dbb) 4 _⟩
       case rest=>
        obtain⟨x',u,w,a,c6⟩:=hcut;clear r C5 M5 c5;have f:=(Tb wc).alloc (aD _) (Obj.cells #[.int .i64 (-(y:Int)),.slice none 0 0] 58);have s:=u.G f;have e:=w.G f;have i:=c6.G f;have h:=a.alloc (Obj.cells #[.int .i64 (-(y:Int)),.slice none 0 0] 58);have P:=c6.size;have⟨X,Z⟩:=a.I;go_wp2_with (at_builtin;refine yC (K:=uZ) (y:=y) (v:= .slice Q S R) (j:=l.length+I) rfl Th 47 underlying47 i1 _ 32 UA T7 T8 T9 rfl rfl _ _ rfl e.row.1 rfl wc.heap.size rfl (by rw[TU.o];exact aY (t:=58) (fr:=(0,0)) (heap_alloc_new wc _)) (by rw[TU.o];simp[Value.oneCell']) Tl Te ?_;intro v' C c;have⟨f,a⟩:=s.appF e c (λb q=>TY b (by simp at q;omega));have⟨n,r,u⟩:=c.rest h T i (λb q=>p b (e.row.2 b q));obtain⟨w,A,x,rfl⟩:=dO a.row.1)
        go_roundw
        case rel=>exact⟨I+1,_,_,_,_,Te,by go_num,f,by simp[Hid,g.o],by have:=N.o;simp[Hid];omega,GX HY.o (aD _),a,n,r,u⟩
        case measure=>simp[intOf];omega
      .have Y:decide ((I:Int)<4)=false:=Tg;go_wp2;go_end0;exact⟨rfl,HF.o _ ⟨y,_,_,_,_,vs,m,d,o,by rw[Ur.o];exact B,Uy,g,⟨λz O=>by have:=HZ.o.1 z O;omega,HY.o⟩,Te,Te,by have:=N.o;omega⟩ M⟩
def ON:∀k,Rq k
 |0=>λ_ _ _ _ _ _ _ _ h=>h.elim
 |k+1=>IA (ON k)
end Go.Proofs.YtfebdimolnobaaaGreatDoor
