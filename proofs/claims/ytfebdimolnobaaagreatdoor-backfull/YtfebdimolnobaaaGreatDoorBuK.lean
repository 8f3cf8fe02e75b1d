import Derived.Test.YtfebdimolnobaaaGreatDoorBuI
set_option maxRecDepth 100000
set_option maxHeartbeats 8000000
set_option linter.all false
namespace Go.Proofs.YtfebdimolnobaaaGreatDoor
open Go.RowKit Go.Proofs.Tryz
section
open Go.Maps
def gF (bs:List d9):List d9:=bs.filter λb=> !b.enum
def jq (bs:List d9):el bs=(gF bs).map λb=>b.name.1:=rfl
def Tx (b:d9)(gs:List GF):Prop:=gs.Perm (vx b)/\gs.Pairwise (λx y=>x.f.num<=y.f.num)
def Qz (w0:aw)(z:List (au×Nat))(v:Value):ax:=λb=>w0.heap.size<=b/\b∉z.map (·.2)/\v.ownBlock≠some b
abbrev YM:=(au×Nat)×List GF
def MI (w0 wr:aw)(z:List (au×Nat))(v:Value)(m:YM):Prop:=
 ∃fv VJ,dZ wr m.1.2 #[ag m.1.1,fv] 108/\eP wr (Qz w0 z v) 212 1 fv VJ.length (fA VJ)/\gq wr (Qz w0 z v) (mR z) m.2 VJ
structure sW (w0 wr:aw)(kb:Nat)(v:Value)(z:List (au×Nat))(done:List d9)(y:List YM):Prop where
 row:wr.ownsRow w0.heap.size 105 1 v z.length (fA (z.map (·.2)))
 map:gr wr kb z.length (mR z)
 zy:y.map (·.1)=z
 mi:∀m∈y,MI w0 wr z v m
 at_:∀x∈z,w0.heap.size<=x.2/\v.ownBlock≠some x.2
 nd:(z.map (·.2)).Nodup
 g:∀(i:Nat) (b:d9),(gF done)[i]?=some b->∃m:YM,y[i]?=some m/\Tx b m.2
 kept:ee [kb] w0 wr
def sW.start {w0 wr:aw}{kb:Nat}{v:Value}{z:List (au×Nat)}(h:IZ w0 wr kb v z):sW w0 wr kb v z [] (z.map λx=>(x,[]))where
 row:=h.row
 map:=h.map
 zy:=by rw[bM];exact List.map_id z
 mi:=by
  intro m d;obtain⟨x,a,rfl⟩:=aS.1 d;exact⟨_,[],(h.msg x a).1,eP.nil0 _ _ _ _,rfl⟩
 at_:=λx a=>⟨(h.msg x a).2.1,(h.msg x a).2.2⟩
 nd:=h.nd
 g:=by intro i b c;simp[gF]at c
 kept:=h.kept
def sW.on {w0 wr w2:aw}{kb:Nat}{v:Value}{z:List (au×Nat)}{done:List d9}{y:List YM}(h:sW w0 wr kb v z done y)(a:ak wr w2):sW w0 w2 kb v z done y where
 row:=eZ a h.row
 map:=h.map.O (a.block _ h.map.lt)
 zy:=h.zy
 mi:=λm k=>by
  have⟨f,e,d,i,j⟩:=h.mi m k;exact⟨f,e,d.G a d.lt,i.O (λb _ c=>a.block b c),j.O (λb _ c=>a.block b c)⟩
 at_:=h.at_
 nd:=h.nd
 g:=h.g
 kept:=h.kept.J (ee.oB a)
def sW.enum {w0 wr:aw}{kb:Nat}{v:Value}{z:List (au×Nat)}{done:List d9}{y:List YM}{b:d9}(h:sW w0 wr kb v z done y)(a:b.enum=true):sW w0 wr kb v z (done++ [b]) y where
 row:=h.row
 map:=h.map
 zy:=h.zy
 mi:=h.mi
 at_:=h.at_
 nd:=h.nd
 g:=by
  have:gF (done++ [b])=gF done:=by simp[gF,a]
  rw[this];exact h.g
 kept:=h.kept
def sW.message {w0 w2:aw}{kb:Nat}{v fv2:Value}{z:List (au×Nat)}{done:List d9}{y:List YM}{b:d9}{gs:List GF}{VJ:aB}{nm:au}{mbi lo:Nat}(h:sW w0 w2 kb v z done y)(R:b.enum=false)(U:kb<w0.heap.size)
  (n:z[(gF done).length]?=some (nm,mbi)) (P:Tx b gs) (q:∀x,lo<=x->Qz w0 z v x) (W:eP w2 (λx=>lo<=x) 212 1 fv2 VJ.length (fA VJ)) (S:gq w2 (λx=>lo<=x) (mR z) gs VJ):
  ∃y',sW w0 (w2.setCell (aj mbi 1) fv2) kb v z (done++ [b]) y':=by
 have w:(nm,mbi)∈z:=aL n;have t:=h.at_ _ w;have s:∀x,Qz w0 z v x->x≠mbi:=λx a e=>a.2.1 (by rw[e];exact aS.2 ⟨_,w,rfl⟩)
 have d:∀x,x≠mbi->(w2.setCell (aj mbi 1) fv2).heap[x]?=w2.heap[x]?:=λx a=>by rw[dY,dQ (λe=>a e.sy)]
 have hlen:y.length=z.length:=by rw[<-h.zy];simp
 have A:(gF done).length<y.length:=by
  rw[hlen];by_cases hq:(gF done).length<z.length;.exact hq
  .rw[bg Vv]at n;cases n
 refine⟨y.set (gF done).length ((nm,mbi),gs),?_⟩;have D:gF (done++ [b])=gF done++ [b]:=by simp[gF,R]
 refine⟨?_,?_,?_,?_,h.at_,h.nd,?_,?_⟩;.exact eD h.row (λx a=>d x (λe=>t.2 (by rw[a,e])))
 .exact h.map.O (d kb (by show kb≠mbi;have:=t.1;simp only at this;omega))
 .rw[List.map_set,h.zy];apply List.ext_getElem?;intro j;rw[dN];split;.rename_i e;subst e;rw[dR Vv,n]
  .rfl
 .intro m V;have⟨j,o⟩:=du V;rw[dN]at o;split at o
  .obtain rfl:=Option.some.inj o;obtain⟨r,B⟩:∃r,y[(gF done).length]?=some r:=⟨_,aO A⟩;have⟨C,l,g,_,_⟩:=h.mi r (aL B)
   have L:r.1=(nm,mbi):=by
    have:z[(gF done).length]?=some r.1:=by rw[<-h.zy,aT,B];rfl
    rw[n]at this;exact(Option.some.inj this).sy
   rw[L]at g;refine⟨fv2,VJ,g.set 1 fv2,?_,?_⟩;.exact(W.V (S':=Qz w0 z v) (λx a _=>q x a)).O (λx a _=>d x (s x a))
   .exact(S.V (Q:=Qz w0 z v) (λx a _=>q x a)).O (λx a _=>d x (s x a))
  .rename_i I;have E:m∈y:=aL o;have F:z[j]?=some m.1:=by rw[<-h.zy,aT,o];rfl
   have G:m.1.2≠mbi:=by
    intro e;apply I;have M:(z.map (·.2))[(gF done).length]?=some mbi:=by rw[aT,n];rfl
    have N:(z.map (·.2))[j]?=some mbi:=by rw[aT,F,<-e];rfl
    exact(List.getElem?_inj (by rw[bO];omega) h.nd).1 (M.J N.sy)
   have⟨C,l,g,u,O⟩:=h.mi m E;exact⟨C,l,(d _ G).J g,u.O (λx a _=>d x (s x a)),O.O (λx a _=>d x (s x a))⟩
 .intro i c f;rw[D,List.getElem?_append]at f;split at f;.rename_i T;have⟨m,g,u⟩:=h.g i c f;exact⟨m,by rw[dN,dQ Vv];exact g,u⟩
  .rename_i T
   have H:i=(gF done).length:=by
    by_cases hq:i-(gF done).length=0;.omega
    .rw[bg Vx]at f;cases f
   subst H;simp at f;subst f;exact⟨_,by rw[dN,dR rfl,dR A],P⟩
 .have p:=h.kept;refine⟨p.os,p.tape,p.output,by simpa using p.size,λk J K=> ?_⟩;rw[d k (by have:=t.1;simp only at this;omega)];exact p.block k J K
def An {z:List (au×Nat)}{s:au}:∀{r:List (au×Nat)} {mp:an},(∀x∈r,x.1.toList≠s.toList)->r.foldl (λmp x=>jF mp x.1 x.2) mp s=mp s
 | [],_,_=>rfl
 |x::r,mp,h=>by
  rw[List.foldl_cons,An (z:=z) (λy a=>h y (aY _ a))];unfold jF;rw[dQ];unfold gQ;simp;exact λe=>h x aZ e.sy
def GX:∀{r:List (au×Nat)} {mp:an} {s:au} {b:Nat},(r.map (·.1)).Pairwise (λx y=>x.toList≠y.toList)->(s,b)∈r->r.foldl (λmp x=>jF mp x.1 x.2) mp s=some b
 | [],_,_,_,_,h=>by simp at h
 |x::r,mp,s,b,hp,h=>by
  rw[List.foldl_cons];rw[bC,bu]at hp;rcases aR.1 h with rfl|h;.rw[An (z:=r) (λy a e=>hp.1 y.1 (aS.2 ⟨y,a,rfl⟩) e.sy)];unfold jF;rw[dR (by unfold gQ;simp)]
  .exact GX hp.2 h
def qT {z:List (au×Nat)}{s:au}{b:Nat}(a:(z.map (·.1)).Pairwise (λx y=>x.toList≠y.toList))(h:(s,b)∈z):mR z s=some b:=GX a h
end
section
open Go.Maps Go.ChangeMaps Go.WideMaps Go.WideElems
open VH
structure fW (w:aw)(P:ax)(v:Value)(bs:List d9)(y:List YM):Prop where
 row:eP w P 105 1 v y.length (fA (y.map (·.1.2)))
 names:y.map (·.1.1)=el bs
 msg:∀m∈y,jk w P (mR (y.map (·.1))) m.1.2 m.1.1 m.2
 g:∀(i:Nat) (b:d9),(gF bs)[i]?=some b->∃m:YM,y[i]?=some m/\Tx b m.2
def Kq (w:aw)(bs:List d9)(e:Ending)(w':aw):Prop:=∃v y,e= .returned v/\fW w' (λb=>w.heap.size<=b) v bs y/\ak w w'
def Ot (w:aw)(ta:aC)(tc:Nat)(bs:List d9)(cs:ay)(S:ax)(n:eP w S 152 6 (.slice ta bs.length tc) bs.length cs)(M:fx w S cs bs)(a:DH bs)(r:GOK w)(q:BOK w):
  Calls prog 35 #[.agg #[.slice ta bs.length tc]] w (Kq w bs):=by
 have⟨O,E,F,G,J⟩:=info_parts Tryz.info105;have b:= @run_makeMap prog;have c:=a.few;have Q:ak w ((w.alloc (am #[.slice ta bs.length tc] 87)).alloc (Obj.map #[] 0)):=(Vt w _).alloc Vw _;have g:=(dZ.new w #[.slice ta bs.length tc] 87).alloc (Obj.map #[] 0);have U:gr ((w.alloc (am #[.slice ta bs.length tc] 87)).alloc (Obj.map #[] 0)) (w.heap.size+1) 0 (λ_=>none):=(by have:=gr.made (w.alloc (am #[.slice ta bs.length tc] 87));simpa using this);go_in
 go_wp2_with fail;generalize((w.alloc (am #[.slice ta bs.length tc] 87)).alloc (Obj.map #[] 0))=w1 at*;have b:w.heap.size+1<w1.heap.size:=U.lt;refine(U3 w1 ta bs.length tc bs cs S (n.O (λb _ t=>Q.block b t)) (M.O (λb _ t=>Q.block b t)) c a.ok).V ?_;rintro e j ⟨d,rfl,W,I⟩;obtain⟨h,d,i,rfl⟩:=d7 W;obtain rfl:d=(el bs).length:=fj W;have u:=eT Q I;have L:=g.G I Vv;have d:=U.O (I.block _ U.lt);have f:w.heap.size+1<j.heap.size:=by have:=I.size;omega
 have f:(el bs).length<=2001:=(by rw[jq,bO];exact aM (bZ _ _) c)
 have l:∀s∈el bs,s.size<=2000:=λs N=>by
  obtain⟨b,o,rfl⟩:=aS.1 N;exact(a.ok b (bA.1 o).1).name
 have f:eP j (λx=>w1.heap.size<=x) 9 1 (.slice h (el bs).length i) (el bs).length (fU (el bs)):=eP.of W;have c:IZ j j (w.heap.size+1) (ai) []:=⟨br _ _ _ _,d,Vw,List.nodup_nil,ee.refl _ _⟩;clear W I U d g Q;go_wp2;go_loopw [4,14] (λv i wr=>∃(k:Nat) (z:List (au×Nat)),k<=(el bs).length/\i=aa k/\z.map (·.1)=(el bs).take k/\IZ j wr (w.heap.size+1) v z) (λ_ i _=>(el bs).length-(intOf i).toNat)
 case atStart=>exact⟨0,[],aP _,rfl,rfl,c⟩
 case round=>
  clear c;obtain⟨k,z,c,rfl,P,d⟩:=hrel;by_cases hlt:k<(el bs).length
  .obtain⟨s,N⟩:∃s,(el bs)[k]?=some s:=⟨_,aO hlt⟩;have c:=l s (aL N);have I:(el bs).take (k+1)=(el bs).take k++ [s]:=by rw[bT,N];rfl
   have c:z.length=k:=by have:=dV List.length P;grind
   obtain⟨g,rfl,_,h,H⟩:=eJ f.1 Vv;have c:w1.heap.size<=g:=f.2 g rfl;have v:=H wr (d.kept.block g h (by grind)) k (ag s) (by simp[fU,N]);have A:=d.row.alloc (am #[ag s,ai] 108);have⟨D,c,K⟩:=d.map;have m:=c.alloc (am #[ag s,ai] 108);have N:z.length<maxLen:=VC;have c:=d.row.lt;clear H;go_wp2_with (first|(at_mapUpdate;refine wpList_mapUpdate_own _ rfl _ _ _ 145 rfl 9 105 IR underlying145 _ (w.heap.size+1) _ _ rfl m N _ _ _ rfl rfl (IS s VC) _ [] (lO (some wr.heap.size)) ?_;intro w2 B c)|(at_builtin;refine wpList_append_own_at _ rfl _ _ 83 rfl j.heap.size 105 O _ 1 8 underlying83 E F G J rfl Vy u4 _ _ rfl ((A.kept c (.inr (λe=>by grind))).alloc _) _ 1 1 [_] rfl rfl (cell_one_new _ _ _) ?h1 ?h63 ?hby ?hba ?_;rotate_right;intro v' Q C y p D))
   case h1=>rfl
   case h63=>omega
   case hby=>omega
   case hba=>have:=c.size;have:=d.kept.size;simp at*;omega
   have p:=d.snoc Vv c (gr.put m K B) y C D;exact⟨⟨k+1,z++ [(s,wr.heap.size)],Vv,by go_num,by grind,p⟩,by simp[intOf];omega⟩
  .have c:decide ((k:Int)<((el bs).length:Int))=false:=by grind
   obtain rfl:k=(el bs).length:=Vv;rw[bB]at P;have c:=sW.start d;have D:(z.map (·.1)).Pairwise (λx y=>x.toList≠y.toList):=(by rw[P,jq];exact List.Pairwise.sublist (List.Sublist.map _ dE) a.names);have⟨m,p⟩:=((show dZ wr w.heap.size #[.slice ta bs.length tc] 87 from(d.kept.block _ Vv Vw).J L)).I;clear d f l;go_wp2_with fail;clear m p;go_loopw [32] (λi wr=>∃(k:Nat) (y:List YM),k<=bs.length/\i=aa k/\sW j wr (w.heap.size+1) u4 z (bs.take k) y) (λi _=>bs.length-(intOf i).toNat)
   case atStart=>exact⟨0,_,aP _,rfl,by rw[List.take_zero];omega⟩
   case round=>
    clear c;obtain⟨k,y,d,rfl,c⟩:=hrel;have R:ak w wr:=u.J (c.kept.to_below Vv Vw);by_cases hlt2:k<bs.length
    .have⟨b,o⟩:=gx hlt2;have d:=aL o;have I:bs.take (k+1)=bs.take k++ [b]:=by rw[bT,o];rfl
     obtain⟨g,rfl,_,h,H⟩:=eJ n.1 Vv;have⟨B,l,C,E,G,F,f,i,p,s,u,A,K,m,L,_⟩:=M.get o;obtain rfl:l=b.parts.length:=fj m.1;have l:=H wr (R.block g h);rw[Nat.add_zero]at f;have n:=l _ _ f;have g:=l _ _ i;have h:=l _ _ p;have M:=l _ _ s;have N:=l _ _ u;have O:=l _ _ A;have T:=dZ.new wr #[.bool b.enum,aa (dX b.name.1),ag b.name.1,aa b.name.2,.slice B b.parts.length C,.slice E G F] 152;have X:=c.on ((Vs wr).alloc (aE _) (am #[.bool b.enum,aa (dX b.name.1),ag b.name.1,aa b.name.2,.slice B b.parts.length C,.slice E G F] 152));clear H l f i p s u A c;cases hen:b.enum
     .rw[hen]at n T X
      have f:(gF bs)[(gF (bs.take k)).length]?=some b:=by
       have J:bs=bs.take k++b::bs.drop (k+1):=by
        conv=>lhs;rw[<-bY k bs]
        rw[be hlt2];rw[aO hlt2]at o;rw[Option.some.inj o]
       have i:gF bs=gF (bs.take k)++b::gF (bs.drop (k+1)):=by
        conv=>lhs;rw[J]
        simp[gF,hen]
       grind
      obtain⟨u,i⟩:∃u,z[(gF (bs.take k)).length]?=some (b.name.1,u):=by
       have l:(z.map (·.1))[(gF (bs.take k)).length]?=some b.name.1:=by rw[P,jq,aT,f];rfl
       grind
      have l:mR z b.name.1=some u:=qT D (aL i);have f:=(a.ok b d).name;go_upto_region 14 with fail
      clear n g h M N O;have f:ak w (wr.alloc (am #[.bool false,aa (dX b.name.1),ag b.name.1,aa b.name.2,.slice B b.parts.length C,.slice E G F] 152)):=R.alloc R.size _;generalize hw1:wr.alloc (am #[.bool false,aa (dX b.name.1),ag b.name.1,aa b.name.2,.slice B b.parts.length C,.slice E G F] 152)=W1 at*;have g:wr.heap.size<W1.heap.size:=T.lt;clear hw1;generalize wr.heap.size=c9 at*;have V:ak w W1.drew:=f.drew;have g:=T.drew;have h:sW j W1.drew (w.heap.size+1) u4 z (bs.take k) y:=X.on (Below.refl _ _).drew;have o:Hid (Vq 67 #[.map (some (w.heap.size+1)),.agg #[.bool false,aa (dX b.name.1),ag b.name.1,aa b.name.2,.slice B b.parts.length C,.slice E G F]] W1.drew (Am W1.drew (mR z) b)):=(by have:=Km W1.drew (w.heap.size+1) z.length (mR z) b B E C G F K S (m.O (λx _ t=>V.block x t)) (L.O (λx _ t=>V.block x t)) h.map (a.ok b d).parts (λp A f s=>a.field d hen A s) (r.O (V.block _ r.lt)) (q.O (V.block _ q.lt));rw[hen]at this;exact this);have a:=h.map.look b.name.1 VC;rw[l]at a;unfold ii at a
      have d:Hid (∀w2:aw,Below W1.drew.heap.size W1.drew w2->(Instr.lookup 145 (.map (some (w.heap.size+1))) (ag b.name.1) false).run prog w2= .ok (ah u) w2):=λw2 L=>by
       have r:=((h.on L).map.look b.name.1 VC);rw[l]at r;exact r
      have f:Hid (∀w2:aw,Below W1.drew.heap.size W1.drew w2->∃K,dZ w2 u #[ag b.name.1,K] 108):=λw2 L=>by
       have r:=h.on L;have l:(b.name.1,u)∈z:=aL i;rw[<-r.zy]at l;have⟨m,A,p⟩:=aS.1 l;have⟨K,b,Z,_,_⟩:=r.mi m A;rw[p]at Z;exact⟨K,Z⟩
      have⟨G,H⟩:=g.I;go_region_with (first|(go_at_call 67;refine o.o.V ?_;rintro e w2 ⟨E,O,b,rfl,t,u,p,B,Y⟩;obtain⟨q,D,C,rfl⟩:=d7 p.1;have s:=d.o w2 Y;have⟨F,l⟩:=f.o w2 Y;have⟨M,N⟩:=(g.G Y g.lt).I;have⟨Q,U⟩:=l.I))
      all_goals
       have g:=h.on Y
       have l:∀x,W1.drew.heap.size<=x->Qz j z u4 x:=λx O=>by
        refine⟨?_,?_,?_⟩;.have:=h.kept.size;omega
        .intro j;obtain⟨q,v,rfl⟩:=aS.1 j;rw[<-h.zy]at v;obtain⟨m,A,rfl⟩:=aS.1 v;have⟨_,_,Z,_,_⟩:=h.mi m A;have:=Z.lt;omega
        .intro e;have:=(h.row.lt _ e).2;omega
       have⟨h,e⟩:=g.message hen Vv i ⟨t,u⟩ l p B;clear g l o d f a s G H M N Q U;go_wp2;go_roundw
       case rel=>grind
       case measure=>simp[intOf];omega
     .rw[hen]at n T X;go_wp2;go_roundw
      case rel=>exact⟨k+1,y,Vv,rfl,by rw[I];exact X.enum hen⟩
      case measure=>simp[intOf];omega
    .have a:decide ((k:Int)<(bs.length:Int))=false:=by grind
     obtain rfl:k=bs.length:=Vv;rw[bB]at c;go_wp2;go_ret;have a:y.length=z.length:=by rw[<-c.zy];simp
     refine⟨u4,y,rfl,⟨?_,?_,?_,c.g⟩,R⟩
     .have h1:=eP.of c.row;have J:y.map (·.1.2)=z.map (·.2):=by rw[<-c.zy,bM];rfl
      rw[J,a];exact h1.V (λx O _=>Vv)
     .have J:y.map (·.1.1)=z.map (·.1):=by rw[<-c.zy,bM];rfl
      rw[J,P]
     .intro m A;have⟨K,b,h1,L,r⟩:=c.mi m A;have a:m.1∈z:=by rw[<-c.zy];exact aS.2 ⟨m,A,rfl⟩
      rw[c.zy];exact⟨K,b,h1,by have:=(c.at_ _ a).1;omega,L.V (λx O _=>by have:=O.1;omega),r.V (λx O _=>by have:=O.1;omega)⟩
end
end Go.Proofs.YtfebdimolnobaaaGreatDoor
