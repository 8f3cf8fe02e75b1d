import Derived.Test.YtfebdimolnobaaaGreatDoorMdV
import Derived.Shelf.SlSortCmp.WholeK
import Derived.Defers
import Derived.Recover
set_option maxRecDepth 100000
set_option maxHeartbeats 8000000
set_option linter.all false
namespace Go.Proofs.YtfebdimolnobaaaGreatDoor
open Go.RowKit Go.Proofs.Tryz
section
open Go.Maps
def gm (bs:List dS):List dS:=bs.filter λb=> !b.enum
def iM (bs:List dS):dZ bs=(gm bs).map λb=>b.name.1:=rfl
def Rm (b:dS)(gs:List GF):Prop:=gs.Perm (uA b)/\gs.Pairwise (λx y=>x.f.num<=y.f.num)
def Qz (w0:aw)(z:List (au×Nat))(v:Value):ax:=λb=>w0.heap.size<=b/\b∉z.map (·.2)/\v.ownBlock≠some b
abbrev YM:=(au×Nat)×List GF
def MI (w0 wr:aw)(z:List (au×Nat))(v:Value)(m:YM):Prop:=
 ∃fv Ts,dP wr m.1.2 #[ae m.1.1,fv] 108/\d5 wr (Qz w0 z v) 212 1 fv Ts.length (fh Ts)/\gj wr (Qz w0 z v) (nM z) m.2 Ts
structure sL (w0 wr:aw)(kb:Nat)(v:Value)(z:List (au×Nat))(done:List dS)(y:List YM):Prop where
 row:wr.ownsRow w0.heap.size 105 1 v z.length (fh (z.map (·.2)))
 map:gk wr kb z.length (nM z)
 zy:y.map (·.1)=z
 mi:∀m∈y,MI w0 wr z v m
 at_:∀x∈z,w0.heap.size<=x.2/\v.ownBlock≠some x.2
 nd:(z.map (·.2)).Nodup
 g:∀(i:Nat) (b:dS),(gm done)[i]?=some b->∃m:YM,y[i]?=some m/\Rm b m.2
 kept:dY [kb] w0 wr
def sL.start {w0 wr:aw}{kb:Nat}{v:Value}{z:List (au×Nat)}(h:Hh w0 wr kb v z):sL w0 wr kb v z [] (z.map λx=>(x,[]))where
 row:=h.row
 map:=h.map
 zy:=by rw[bI];exact List.map_id z
 mi:=by
  intro m d;obtain⟨x,a,rfl⟩:=aV.1 d;exact⟨_,[],(h.msg x a).1,d5.nil0 _ _ _ _,rfl⟩
 at_:=λx a=>⟨(h.msg x a).2.1,(h.msg x a).2.2⟩
 nd:=h.nd
 g:=by intro i b c;simp[gm]at c
 kept:=h.kept
def sL.on {w0 wr w2:aw}{kb:Nat}{v:Value}{z:List (au×Nat)}{done:List dS}{y:List YM}(h:sL w0 wr kb v z done y)(a:aj wr w2):sL w0 w2 kb v z done y where
 row:=eL a h.row
 map:=h.map.O (a.block _ h.map.lt)
 zy:=h.zy
 mi:=λm k=>by
  have⟨f,e,d,i,j⟩:=h.mi m k;exact⟨f,e,d.G a d.lt,i.O (λb _ c=>a.block b c),j.O (λb _ c=>a.block b c)⟩
 at_:=h.at_
 nd:=h.nd
 g:=h.g
 kept:=h.kept.J (dY.oB a)
def sL.enum {w0 wr:aw}{kb:Nat}{v:Value}{z:List (au×Nat)}{done:List dS}{y:List YM}{b:dS}(h:sL w0 wr kb v z done y)(a:b.enum=true):sL w0 wr kb v z (done++ [b]) y where
 row:=h.row
 map:=h.map
 zy:=h.zy
 mi:=h.mi
 at_:=h.at_
 nd:=h.nd
 g:=by
  have:gm (done++ [b])=gm done:=by simp[gm,a]
  rw[this];exact h.g
 kept:=h.kept
def sL.message {w0 w2:aw}{kb:Nat}{v fv2:Value}{z:List (au×Nat)}{done:List dS}{y:List YM}{b:dS}{gs:List GF}{Ts:aB}{nm:au}{mbi lo:Nat}(h:sL w0 w2 kb v z done y)(R:b.enum=false)(U:kb<w0.heap.size)
  (n:z[(gm done).length]?=some (nm,mbi)) (P:Rm b gs) (q:∀x,lo<=x->Qz w0 z v x) (W:d5 w2 (λx=>lo<=x) 212 1 fv2 Ts.length (fh Ts)) (S:gj w2 (λx=>lo<=x) (nM z) gs Ts):
  ∃y',sL w0 (w2.setCell (ai mbi 1) fv2) kb v z (done++ [b]) y':=by
 have w:(nm,mbi)∈z:=aO n;have t:=h.at_ _ w;have s:∀x,Qz w0 z v x->x≠mbi:=λx a e=>a.2.1 (by rw[e];exact aV.2 ⟨_,w,rfl⟩)
 have d:∀x,x≠mbi->(w2.setCell (ai mbi 1) fv2).heap[x]?=w2.heap[x]?:=λx a=>by rw[dM,dG (λe=>a e.sy)]
 have hlen:y.length=z.length:=by rw[<-h.zy];simp
 have A:(gm done).length<y.length:=by
  rw[hlen];by_cases hq:(gm done).length<z.length;.exact hq
  .rw[bi Te]at n;cases n
 refine⟨y.set (gm done).length ((nm,mbi),gs),?_⟩;have J:gm (done++ [b])=gm done++ [b]:=by simp[gm,R]
 refine⟨?_,?_,?_,?_,h.at_,h.nd,?_,?_⟩;.exact dR h.row (λx a=>d x (λe=>t.2 (by rw[a,e])))
 .exact h.map.O (d kb (by show kb≠mbi;have:=t.1;simp only at this;omega))
 .rw[List.map_set,h.zy];apply List.ext_getElem?;intro j;rw[dC];split;.rename_i e;subst e;rw[dH Te,n]
  .rfl
 .intro m V;have⟨j,o⟩:=dm V;rw[dC]at o;split at o
  .obtain rfl:=Option.some.inj o;obtain⟨r,B⟩:∃r,y[(gm done).length]?=some r:=⟨_,aP A⟩;have⟨C,l,g,_,_⟩:=h.mi r (aO B)
   have L:r.1=(nm,mbi):=by
    have:z[(gm done).length]?=some r.1:=by rw[<-h.zy,aT,B];rfl
    rw[n]at this;exact(Option.some.inj this).sy
   rw[L]at g;refine⟨fv2,Ts,g.set 1 fv2,?_,?_⟩;.exact(W.V (S':=Qz w0 z v) (λx a _=>q x a)).O (λx a _=>d x (s x a))
   .exact(S.V (Q:=Qz w0 z v) (λx a _=>q x a)).O (λx a _=>d x (s x a))
  .rename_i G;have K:m∈y:=aO o;have D:z[j]?=some m.1:=by rw[<-h.zy,aT,o];rfl
   have E:m.1.2≠mbi:=by
    intro e;apply G;have M:(z.map (·.2))[(gm done).length]?=some mbi:=by rw[aT,n];rfl
    have N:(z.map (·.2))[j]?=some mbi:=by rw[aT,D,<-e];rfl
    exact(List.getElem?_inj (by rw[bm];omega) h.nd).1 (M.J N.sy)
   have⟨C,l,g,u,O⟩:=h.mi m K;exact⟨C,l,(d _ E).J g,u.O (λx a _=>d x (s x a)),O.O (λx a _=>d x (s x a))⟩
 .intro i c f;rw[J,List.getElem?_append]at f;split at f;.rename_i T;have⟨m,g,u⟩:=h.g i c f;exact⟨m,by rw[dC,dG Te];exact g,u⟩
  .rename_i T
   have F:i=(gm done).length:=by
    by_cases hq:i-(gm done).length=0;.omega
    .rw[bi Tg]at f;cases f
   subst F;simp at f;subst f;exact⟨_,by rw[dC,dH rfl,dH A],P⟩
 .have p:=h.kept;refine⟨p.os,p.tape,p.output,by simpa using p.size,λk H I=> ?_⟩;rw[d k (by have:=t.1;simp only at this;omega)];exact p.block k H I
def zA {z:List (au×Nat)}{s:au}:∀{r:List (au×Nat)} {mp:am},(∀x∈r,x.1.toList≠s.toList)->r.foldl (λmp x=>iZ mp x.1 x.2) mp s=mp s
 | [],_,_=>rfl
 |x::r,mp,h=>by
  rw[List.foldl_cons,zA (z:=z) (λy a=>h y (cv _ a))];unfold iZ;rw[dG];unfold gP;simp;exact λe=>h x co e.sy
def FA:∀{r:List (au×Nat)} {mp:am} {s:au} {b:Nat},(r.map (·.1)).Pairwise (λx y=>x.toList≠y.toList)->(s,b)∈r->r.foldl (λmp x=>iZ mp x.1 x.2) mp s=some b
 | [],_,_,_,_,h=>by simp at h
 |x::r,mp,s,b,hp,h=>by
  rw[List.foldl_cons];rw[cu,bU]at hp;rcases aR.1 h with rfl|h;.rw[zA (z:=r) (λy a e=>hp.1 y.1 (aV.2 ⟨y,a,rfl⟩) e.sy)];unfold iZ;rw[dH (by unfold gP;simp)]
  .exact FA hp.2 h
def qB {z:List (au×Nat)}{s:au}{b:Nat}(a:(z.map (·.1)).Pairwise (λx y=>x.toList≠y.toList))(h:(s,b)∈z):nM z s=some b:=FA a h
end
section
open Go.Maps Go.ChangeMaps Go.WideMaps Go.WideElems
open Tq
structure gH (w:aw)(P:ax)(v:Value)(bs:List dS)(y:List YM):Prop where
 row:d5 w P 105 1 v y.length (fh (y.map (·.1.2)))
 names:y.map (·.1.1)=dZ bs
 msg:∀m∈y,jX w P (nM (y.map (·.1))) m.1.2 m.1.1 m.2
 g:∀(i:Nat) (b:dS),(gm bs)[i]?=some b->∃m:YM,y[i]?=some m/\Rm b m.2
def Ja (w:aw)(bs:List dS)(e:Ending)(w':aw):Prop:=∃v y,e= .returned v/\gH w' (λb=>w.heap.size<=b) v bs y/\aj w w'
def MM (w:aw)(ta:aC)(tc:Nat)(bs:List dS)(cs:ay)(S:ax)(n:d5 w S 152 6 (.slice ta bs.length tc) bs.length cs)(M:eQ w S cs bs)(a:Cv bs)(r:GOK w)(q:BOK w):
  Calls prog 35 #[.agg #[.slice ta bs.length tc]] w (Ja w bs):=by
 have⟨O,G,J,K,L⟩:=info_parts Tryz.info105;have b:= @run_makeMap prog;have c:=a.few;have Q:aj w ((w.alloc (ak #[.slice ta bs.length tc] 87)).alloc (Obj.map #[] 0)):=(Tc w _).alloc Tf _;have f:=(dP.new w #[.slice ta bs.length tc] 87).alloc (Obj.map #[] 0);have U:gk ((w.alloc (ak #[.slice ta bs.length tc] 87)).alloc (Obj.map #[] 0)) (w.heap.size+1) 0 (λ_=>none):=(by have:=gk.made (w.alloc (ak #[.slice ta bs.length tc] 87));simpa using this);go_in
 go_wp2_with fail;generalize((w.alloc (ak #[.slice ta bs.length tc] 87)).alloc (Obj.map #[] 0))=w1 at*;have b:w.heap.size+1<w1.heap.size:=U.lt;refine(kK w1 ta bs.length tc bs cs S (n.O (λb _ t=>Q.block b t)) (M.O (λb _ t=>Q.block b t)) c a.ok).V ?_;rintro e j ⟨d,rfl,X,H⟩;obtain⟨i,d,k,rfl⟩:=dO X;obtain rfl:d=(dZ bs).length:=d9 X;have u:=eD Q H;have A:=f.G H Te;have d:=U.O (H.block _ U.lt);have g:w.heap.size+1<j.heap.size:=by have:=H.size;omega
 have g:(dZ bs).length<=2001:=(by rw[iM,bm];exact aL (bZ _ _) c)
 have l:∀s∈dZ bs,s.size<=2000:=λs N=>by
  obtain⟨b,o,rfl⟩:=aV.1 N;exact(a.ok b (cl.1 o).1).name
 have h:d5 j (λx=>w1.heap.size<=x) 9 1 (.slice i (dZ bs).length k) (dZ bs).length (eh (dZ bs)):=d5.of X;have c:Hh j j (w.heap.size+1) (ah) []:=⟨aX _ _ _ _,d,Tf,List.nodup_nil,dY.refl _ _⟩;clear X H U d f Q;go_wp2;go_loopw [4,14] (λv i wr=>∃(k:Nat) (z:List (au×Nat)),k<=(dZ bs).length/\i=aa k/\z.map (·.1)=(dZ bs).take k/\Hh j wr (w.heap.size+1) v z) (λ_ i _=>(dZ bs).length-(intOf i).toNat)
 case atStart=>exact⟨0,[],aM _,rfl,rfl,c⟩
 case round=>
  clear c;obtain⟨k,z,c,rfl,P,d⟩:=hrel;by_cases hlt:k<(dZ bs).length
  .obtain⟨s,N⟩:∃s,(dZ bs)[k]?=some s:=⟨_,aP hlt⟩;have c:=l s (aO N);have H:(dZ bs).take (k+1)=(dZ bs).take k++ [s]:=by rw[bu,N];rfl
   have c:z.length=k:=by have:=dK List.length P;grind
   obtain⟨g,rfl,_,f,I⟩:=dV h.1 Te;have c:w1.heap.size<=g:=h.2 g rfl;have v:=I wr (d.kept.block g f (by grind)) k (ae s) (by simp[eh,N]);have C:=d.row.alloc (ak #[ae s,ah] 108);have⟨D,c,N⟩:=d.map;have m:=c.alloc (ak #[ae s,ah] 108);have y:z.length<maxLen:=Tl;have c:=d.row.lt;clear I;go_wp2_with (first|(at_mapUpdate;refine wpList_mapUpdate_own _ rfl _ _ _ 145 rfl 9 105 G6 underlying145 _ (w.heap.size+1) _ _ rfl m y _ _ _ rfl rfl (G7 s Tl) _ [] (kS (some wr.heap.size)) ?_;intro w2 D c)|(at_builtin;refine wpList_append_own_at _ rfl _ _ 83 rfl j.heap.size 105 O _ 1 8 underlying83 G J K L rfl Th u4 _ _ rfl ((C.kept c (.inr (λe=>by grind))).alloc _) _ 1 1 [_] rfl rfl (cell_one_new _ _ _) ?h1 ?h63 ?hby ?hba ?_;rotate_right;intro v' Q E B p F))
   case h1=>rfl
   case h63=>omega
   case hby=>omega
   case hba=>have:=c.size;have:=d.kept.size;simp at*;omega
   have p:=d.snoc Te c (gk.put m N D) B E F;exact⟨⟨k+1,z++ [(s,wr.heap.size)],Te,by go_num,by grind,p⟩,by simp[intOf];omega⟩
  .have c:decide ((k:Int)<((dZ bs).length:Int))=false:=by grind
   obtain rfl:k=(dZ bs).length:=Te;rw[bX]at P;have c:=sL.start d;have D:(z.map (·.1)).Pairwise (λx y=>x.toList≠y.toList):=(by rw[P,iM];exact List.Pairwise.sublist (List.Sublist.map _ dw) a.names);have⟨m,p⟩:=((show dP wr w.heap.size #[.slice ta bs.length tc] 87 from(d.kept.block _ Te Tf).J A)).I;clear d h l;go_wp2_with fail;clear m p;go_loopw [32] (λi wr=>∃(k:Nat) (y:List YM),k<=bs.length/\i=aa k/\sL j wr (w.heap.size+1) u4 z (bs.take k) y) (λi _=>bs.length-(intOf i).toNat)
   case atStart=>exact⟨0,_,aM _,rfl,by rw[List.take_zero];omega⟩
   case round=>
    clear c;obtain⟨k,y,d,rfl,c⟩:=hrel;have R:aj w wr:=u.J (c.kept.to_below Te Tf);by_cases hlt2:k<bs.length
    .have⟨b,o⟩:=gx hlt2;have d:=aO o;have H:bs.take (k+1)=bs.take k++ [b]:=by rw[bu,o];rfl
     obtain⟨g,rfl,_,f,I⟩:=dV n.1 Te;have⟨B,l,C,E,G,F,h,i,p,s,u,A,K,m,L,_⟩:=M.get o;obtain rfl:l=b.parts.length:=d9 m.1;have l:=I wr (R.block g f);rw[Nat.add_zero]at h;have n:=l _ _ h;have g:=l _ _ i;have M:=l _ _ p;have N:=l _ _ s;have O:=l _ _ u;have Q:=l _ _ A;have T:=dP.new wr #[.bool b.enum,aa (dN b.name.1),ae b.name.1,aa b.name.2,.slice B b.parts.length C,.slice E G F] 152;have V:=c.on ((Tb wr).alloc (aD _) (ak #[.bool b.enum,aa (dN b.name.1),ae b.name.1,aa b.name.2,.slice B b.parts.length C,.slice E G F] 152));clear I l h i p s u A c;cases hen:b.enum
     .rw[hen]at n T V
      have f:(gm bs)[(gm (bs.take k)).length]?=some b:=by
       have J:bs=bs.take k++b::bs.drop (k+1):=by
        conv=>lhs;rw[<-b8 k bs]
        rw[aS hlt2];rw[aP hlt2]at o;rw[Option.some.inj o]
       have h:gm bs=gm (bs.take k)++b::gm (bs.drop (k+1)):=by
        conv=>lhs;rw[J]
        simp[gm,hen]
       grind
      obtain⟨u,i⟩:∃u,z[(gm (bs.take k)).length]?=some (b.name.1,u):=by
       have h:(z.map (·.1))[(gm (bs.take k)).length]?=some b.name.1:=by rw[P,iM,aT,f];rfl
       grind
      have l:nM z b.name.1=some u:=qB D (aO i);have f:=(a.ok b d).name;go_upto_region 14 with fail
      clear n g M N O Q;have f:aj w (wr.alloc (ak #[.bool false,aa (dN b.name.1),ae b.name.1,aa b.name.2,.slice B b.parts.length C,.slice E G F] 152)):=R.alloc R.size _;generalize hw1:wr.alloc (ak #[.bool false,aa (dN b.name.1),ae b.name.1,aa b.name.2,.slice B b.parts.length C,.slice E G F] 152)=W1 at*;have g:wr.heap.size<W1.heap.size:=T.lt;clear hw1;generalize wr.heap.size=c9 at*;have W:aj w W1.drew:=f.drew;have g:=T.drew;have h:sL j W1.drew (w.heap.size+1) u4 z (bs.take k) y:=V.on (Below.refl _ _).drew;have o:Hid (S9 67 #[.map (some (w.heap.size+1)),.agg #[.bool false,aa (dN b.name.1),ae b.name.1,aa b.name.2,.slice B b.parts.length C,.slice E G F]] W1.drew (zx W1.drew (nM z) b)):=(by have:=I8 W1.drew (w.heap.size+1) z.length (nM z) b B E C G F K S (m.O (λx _ t=>W.block x t)) (L.O (λx _ t=>W.block x t)) h.map (a.ok b d).parts (λp A f s=>a.field d hen A s) (r.O (W.block _ r.lt)) (q.O (W.block _ q.lt));rw[hen]at this;exact this);have d:=h.map.look b.name.1 Tl;rw[l]at d;unfold gR at d
      have f:Hid (∀w2:aw,Below W1.drew.heap.size W1.drew w2->(Instr.lookup 145 (.map (some (w.heap.size+1))) (ae b.name.1) false).run prog w2= .ok (ag u) w2):=λw2 L=>by
       have r:=((h.on L).map.look b.name.1 Tl);rw[l]at r;exact r
      have l:Hid (∀w2:aw,Below W1.drew.heap.size W1.drew w2->∃K,dP w2 u #[ae b.name.1,K] 108):=λw2 L=>by
       have r:=h.on L;have a:(b.name.1,u)∈z:=aO i;rw[<-r.zy]at a;have⟨m,A,b⟩:=aV.1 a;have⟨K,a,Z,_,_⟩:=r.mi m A;rw[b]at Z;exact⟨K,Z⟩
      have⟨G,I⟩:=g.I;go_region_with (first|(go_at_call 67;refine o.o.V ?_;rintro e w2 ⟨E,O,a,rfl,t,u,b,B,Y⟩;obtain⟨q,D,C,rfl⟩:=dO b.1;have s:=f.o w2 Y;have⟨F,p⟩:=l.o w2 Y;have⟨M,N⟩:=(g.G Y g.lt).I;have⟨Q,U⟩:=p.I))
      all_goals
       have g:=h.on Y
       have p:∀x,W1.drew.heap.size<=x->Qz j z u4 x:=λx O=>by
        refine⟨?_,?_,?_⟩;.have:=h.kept.size;omega
        .intro j;obtain⟨q,v,rfl⟩:=aV.1 j;rw[<-h.zy]at v;obtain⟨m,A,rfl⟩:=aV.1 v;have⟨_,_,Z,_,_⟩:=h.mi m A;have:=Z.lt;omega
        .intro e;have:=(h.row.lt _ e).2;omega
       have⟨h,e⟩:=g.message hen Te i ⟨t,u⟩ p b B;clear g p o f l d s G I M N Q U;go_wp2;go_roundw
       case rel=>grind
       case measure=>simp[intOf];omega
     .rw[hen]at n T V;go_wp2;go_roundw
      case rel=>exact⟨k+1,y,Te,rfl,by rw[H];exact V.enum hen⟩
      case measure=>simp[intOf];omega
    .have b:decide ((k:Int)<(bs.length:Int))=false:=by grind
     obtain rfl:k=bs.length:=Te;rw[bX]at c;go_wp2;go_ret;have b:y.length=z.length:=by rw[<-c.zy];simp
     refine⟨u4,y,rfl,⟨?_,?_,?_,c.g⟩,R⟩
     .have h1:=d5.of c.row;have J:y.map (·.1.2)=z.map (·.2):=by rw[<-c.zy,bI];rfl
      rw[J,b];exact h1.V (λx O _=>Te)
     .have J:y.map (·.1.1)=z.map (·.1):=by rw[<-c.zy,bI];rfl
      rw[J,P]
     .intro m A;have⟨K,a,h1,L,r⟩:=c.mi m A;have b:m.1∈z:=by rw[<-c.zy];exact aV.2 ⟨m,A,rfl⟩
      rw[c.zy];exact⟨K,a,h1,by have:=(c.at_ _ b).1;omega,L.V (λx O _=>by have:=O.1;omega),r.V (λx O _=>by have:=O.1;omega)⟩
end
section
open Tq
def xI (S:eE)(k:Nat)(T:Option MT)(w:aw)(Z:ax)(db:Nat)(m:PM)(n:Int)(v:LV)(h:el S (k+1) T w Z db m)(M:ot S T n .vals)(L:(∀kd,ot S T n kd->kd= .vals)\/∀f∈m.fs,f.1≠n)(c:m.fs.length<1073741824)(p:(m.get n).length<1073741824):
  Calls prog 268 #[ag db,aa n,vR v] w (jN S k T w Z db (m.put n (m.get n++ [qF v]))):=by
 have⟨i0,U,V,W,X⟩:=info_parts Tryz.infoV;obtain⟨sv,uv,l,Y,s,o⟩:=h;have⟨z,i⟩:=eY w #[.int .u64 v.1,ae v.2,ah,S8] 55;have a:=s.c.blk.lt;have j:=s.c.row.lt;have E:=s.O (λb _ G=>z.block b G);have P:=mF o (λb _ G=>z.block b G);have d:=tU _ db sv uv l n E.c (by rw[o.len];exact c);have a:∀b,Y b->b<w.heap.size:=s.yl;clear o s;unfold vR;go_in
 go_wp2_with fail;generalize w.alloc (ak #[.int .u64 v.1,ae v.2,ah,S8] 55)=w0 at*;refine d.V ?_;rintro e w1 a;obtain⟨g,c,pre,x,post,A,B,q,r,rfl,O,D,l,K⟩:=pZ E P a;clear a E P d
 have Q:=i.kept K (by
  simp only[aR,df,not_or]
  exact⟨Te,λe=>by have:=(j _ e).2;omega⟩)
 have⟨a,c⟩:=Q.I;have⟨⟨E,F⟩,C⟩:=O.ofVals L;have⟨l,s,x,B,a⟩:=O.cells rfl;have R:=(O.y.c.row.lt g rfl).2;have a:w.heap.size<w1.heap.size:=Q.lt
 have c:∀(w' d:aw) (a:Option Nat),aj w1 w'->w'.grownBy d a->(∀b,a=some b->A b)->d.heap[g]?=w1.heap[g]?:=λw' d a y H o=>
  (H.block g (aI R y.size) (λe=>O.y.ys g rfl (.inl (o g e.sy)))).J (y.block g R)
 have I:Hid (∀(w' d:aw) (a:Option Nat),aj w1 w'->w'.grownBy d a->(∀b,a=some b->A b)->d.heap[g]?=w1.heap[g]?):=c;clear c
 have J:Hid (∀(w' d:aw) (a:Option Nat) (j i N:Nat) (cs:ay) (lv:List LV),aj w1 w'->w'.grownBy d a->(∀b,a=some b->A b)->d.ownsRow 0 55 4 (Ta j N i) N cs->N=lv.length+1->cs=lv.flatMap lV++lV v->m.get n=lv.map qF->(a=some j\/j=w1.heap.size+1)->
   jN S k T w Z db (m.put n (m.get n++ [qF v])) (.returned (.tuple #[])) (d.setCell (ai g (pre.length*4+1)) (Ta j N i))):=by
  intro w' d a j i N cs lv y H o r A c g q;have⟨a,t,u⟩:=O.vals (lv:=lv++ [v]) o Tf y H r (by rw[A];simp) (by rw[c];simp) (q.imp id (λe=>Te)) M E F;rw[g];refine⟨rfl,a,?_,by simpa using u⟩;have a:et w Z w0 Z:=(et.refl w Z).G z;exact(a.J D).J t
 rcases C with⟨u,a⟩|⟨o,A,lv,q,u,c,F,g⟩
 .rw[u]at s;have q:aj w1 (w1.drew.alloc (ak #[.int .u64 v.1,ae v.2,ah,S8] 55)):=((Below.refl _ _).drew).alloc (aD _) _;have y:Hid (m.get n= []):=a;clear l x B u a;go_upto_region 2 with fail
  go_region_law (first|(refine step_append_lies _ Tk _ _ _ Tk 0 55 i0 _ 4 64 underlying56 U V W X rfl Te (ah) 0 [] Tk (aX _ _ _ _) (ai w1.heap.size 0) 1 1 [_,_,_,_] Tk Tk (aY (t:=55) (fr:=(0,0)) (heap_alloc_new w1.drew _)) Tm Te Tl Te Te (w1.heap.size+1) Tf ?_;intro j i d C r D z;have⟨E,G,H,K,L⟩:=O.cells (I.o _ d _ q r (λb e=>by cases e))))
  all_goals
   go_end0;exact J.o _ d _ j i _ _ [] q r (λb e=>by cases e) C rfl rfl y.o D
 .rw[u]at s;have q:aj w1 (w1.drew.alloc (ak #[.int .u64 v.1,ae v.2,ah,S8] 55)):=((Below.refl _ _).drew).alloc (aD _) _;have a:=(g.lt o rfl).2;have a:lv.length<1073741824:=by rw[F]at p;simpa using p
  have a:Hid (m.get n=lv.map qF):=F;clear l x B u F p;go_upto_region 2 with fail
  go_region_law (first|(refine step_append_lies _ Tk _ _ _ Tk 0 55 i0 _ 4 64 underlying56 U V W X rfl Te (Ta o lv.length A) lv.length (lv.flatMap lV) Tk (g.drew.alloc _) (ai w1.heap.size 0) 1 1 [_,_,_,_] Tk Tk (aY (t:=55) (fr:=(0,0)) (heap_alloc_new w1.drew _)) Tm Te Tl Te Te (w1.heap.size+1) Tf ?_;intro j i d C r D z;have⟨E,G,H,K,L⟩:=O.cells (I.o _ d _ q r (λb e=>by cases e;exact c))))
  all_goals
   go_end0;exact J.o _ d _ j i _ _ lv q r (λb e=>by cases e;exact c) C rfl rfl a.o D
end
end Go.Proofs.YtfebdimolnobaaaGreatDoor
namespace Go.Proofs
open Go.Shelf
theorem Tryz.bShelfKy {f:FuncId}{B:Func}(h:((prog.funcs[f]?).elim "" Func.name== "runtime.NumGoroutine")=false)(k:prog.funcs[f]?=some {B with name:=(prog.funcs[f]?).elim "" Func.name}):Bears prog f B:=⟨_,h,k⟩
def Tryz.sortK_ren:Go.Shelf.Ren:=⟨fun|6=>355|15=>169|14=>408|28=>254|29=>255|20=>427|21=>428|22=>429|23=>430|24=>431|25=>432|26=>433|27=>434|46=>441|47=>332|48=>333|49=>442|50=>443|57=>446|n=>n,fun|22=>389|24=>386|25=>394|3=>3|39=>295|0=>0|53=>164|55=>53|4=>4|46=>367|45=>366|50=>331|5=>5|9=>9|66=>428|70=>431|76=>468|77=>469|n=>n,fun|n=>n⟩
theorem Tryz.sortK:Go.Proofs.SlLaysF0.n6 Tryz.prog Tryz.sortK_ren:=by constructor<;>first|kernel_rfl|(intro w;kernel_rfl)|(apply Tryz.bShelfKy<;>kernel_rfl)
end Go.Proofs
namespace Go.Proofs.YtfebdimolnobaaaGreatDoor
open Go.RowKit Go.Proofs.Tryz
section
open Go.Maps
open Tq
def Kq (w:aw)(kp mk n:Nat)(pm:am):Prop:=dP w kp #[.int .i32 0,.int .u32 0,.map (some mk)] 170/\gk w mk n pm
def Hw (w:aw):Calls prog 37 #[] w λe w'=>∃kp mk,e= .returned (ag kp)/\Kq w' kp mk 0 (λ_=>none)/\w.heap.size<=kp/\w.heap.size<=mk/\mk≠kp/\aj w w':=by
 have a:= @run_makeMap prog;go_in
 go_wp2;go_ret;refine⟨_,_,rfl,⟨dP.newAt Tf _ _,?_⟩,bC _,aD _,Te,(Tc w _).alloc Tf _⟩;exact(gk.made w).O (Below.l _ _ _ Tf)
end
section
variable {w:aw} {P:ax} {v:Value} {bs:List dS} {y:List YM}
def _root_.Go.CallsD.V:=@Go.CallsD.mono
open Go.Maps
def qg (w:aw)(sb:Nat)(l:aA)(lo:Nat):Prop:=
 ∃v kv bs y,dP w sb #[v,kv] 92/\lo<=sb/\gH w (λb=>lo<=b/\b≠sb) v bs y/\dZ bs=l
theorem gH.O {w':aw}(a:∀b,P b->b<w.heap.size->w'.heap[b]?=w.heap[b]?)(h:gH w P v bs y):gH w' P v bs y:=
 ⟨h.row.O a,h.names,λm c=>(h.msg m c).O a,h.g⟩
theorem gH.V {Q:ax}(a:∀b,P b->b<w.heap.size->Q b)(h:gH w P v bs y):gH w Q v bs y:=
 ⟨h.row.V a,h.names,λm c=>(h.msg m c).V a,h.g⟩
def EP (w:aw)(sb kp mk:Nat)(bs:List dS)(lo:Nat):Prop:=
 ∃v y,dP w sb #[v,ag kp] 92/\(lo<=sb/\lo<=kp/\lo<=mk/\sb≠kp/\sb≠mk/\mk≠kp)/\gH w (λb=>lo<=b/\b≠sb/\b≠kp/\b≠mk) v bs y/\Kq w kp mk 0 (λ_=>none)
theorem EP.toAt {sb kp mk:Nat}{lo:Nat}(h:EP w sb kp mk bs lo):qg w sb (dZ bs) lo:=by
 obtain⟨v,y,a,b,c,_⟩:=h;exact⟨v,_,bs,y,a,b.1,c.V λx q _=>⟨q.1,q.2.1⟩,rfl⟩
def Np (w:aw)(r:Except (Int×Nat) (List dS))(e:Ending)(w':aw):Prop:=
 (match r with
 | .error (k,p)=>e=dX k p
 | .ok bs=>∃sb kp mk,e= .returned (ag sb)/\EP w' sb kp mk bs w.heap.size)/\aj w w'
theorem QB (w:aw)(tb:Nat)(t:au)(i:t.size<=2^47)(P:w.cell? (ai tb 0)=some (ae t))(s:GOK w)(g:BOK w):
  Calls prog 34 #[ag tb] w (Np w (gI t)):=by
 generalize hr:gI t=r;have u:Hid (gI t=r):=hr;clear hr;go_in
 go_wp2_with fail;refine(SH _ t i s).V ?_
 cases h:gI t with
 |error q=>
  obtain⟨k,p⟩:=q;rintro e w2 ⟨L,d⟩;obtain rfl:e=dX k p:=L;obtain rfl:r= .error (k,p):=u.o.sy.J h;unfold dX;go_wp2
  exact⟨rfl,rfl,d⟩
 |ok bs=>
  rintro e w2 ⟨⟨a,n,c,cs,rfl,z,F⟩,d⟩;have E:=mr h;obtain rfl:n=bs.length:=d9 z.1;obtain rfl:r= .ok bs:=u.o.sy.J h;go_wp2_with fail;refine(MM w2 a c bs cs _ z F E (s.O (d.block _ s.lt)) (g.O (d.block _ g.lt))).V ?_;rintro e w3 ⟨v,y,rfl,B,G⟩;obtain⟨R,T,S,rfl⟩:=dO B.row.1;have o:=eD d G;go_wp2_with fail;refine(Hw w3).V ?_;rintro e l ⟨D,mk,rfl,j,M,N,H,A⟩;have m:=eD o A;have V:=o.size;have U:=d.size;have W:=j.1.lt;have O:=j.2.lt;go_wp2;go_ret;refine⟨⟨l.heap.size,D,mk,rfl,_,y,dP.new l _ _,⟨m.size,Te,Te,Te,Te,H⟩,?_,(j.1.alloc _),j.2.O (Below.l _ _ _ O)⟩,m.alloc m.size _⟩;have I:=B.V (Q:=λb=>w.heap.size<=b/\b<w3.heap.size) (λx C f=>⟨Te,f⟩);have J:=I.O (w':=l) (λx _ f=>A.block x f);have K:=J.V (Q:=λb=>w.heap.size<=b/\b≠l.heap.size/\b≠D/\b≠mk) (λx C f=>⟨C.1,Te,Te,Te⟩);exact K.O (λx _ f=>Below.l _ _ _ f)
theorem QY (k p:Int)(w:aw):(Instr.typeAssert (.iface 142 (.agg #[aa k,aa p])) 20 142 true).run prog w= .ok (.tuple #[.agg #[aa k,aa p],.bool true]) w:=Tj
theorem Gn (x y v:Value): #[x,y]++(((Array.replicate 18 undef).setIfInBounds 3 v).setIfInBounds 0 v)= #[x,y,v,undef,undef,v,undef,undef,undef,undef,undef,undef,undef,undef,undef,undef,undef,undef,undef,undef]:=Tj
theorem Kr (a b:Addr)(w:aw):
  CallsD prog 65 #[.pointer (some a),.pointer (some b)] .returning w λe u' w'=>e= .returned (.tuple #[])/\u'= .returning/\w'=w:=by
 refine callsD_of_wpS func65 rfl λc cs d=> ?_
 apply wpS_seq;apply wpS_region;simp[wpOpsS,go_sem,recoverD,d,ntmps65,Exit.thenS];refine wpS_of_wp ?_;rw[Gn];go_wp2;cases c;simp_all [bodyPostS,results,results65]
theorem EQ (ab bb:Nat)(k p:Int)(older:List PanicEntry)(w:aw)(x y:Value)(f:w.cell? (ai ab 0)=some x)(g:w.cell? (ai bb 0)=some y)(m:w.frozen? (ai ab 0)=false)(n:w.frozen? (ai bb 0)=false)(a:¬ab=bb):
  CallsD prog 65 #[ag ab,ag bb] (.panicking ({v:= .iface 142 (.agg #[aa k,aa p]),recovered:=false}::older)) w λe u' w'=>
   e= .returned (.tuple #[])/\u'= .panicking ({v:= .iface 142 (.agg #[aa k,aa p]),recovered:=true}::older)/\
    w'=(((w.setCell (ai ab 0) (aa k)).setCell (ai bb 0) (aa p)).alloc (ak #[aa k,aa p] 142)).drew:=by
 have i:=QY k p;have c:=aZ _ _ f;have d:=aZ _ _ g;simp only at c d;have⟨o,q,r,s⟩:=gW (w:=w) (b:=ab) c;have⟨t,u,z,A⟩:=gW (w:=w) (b:=bb) d;have h:¬bb=ab:=λe=>a e.sy
 refine callsD_of_wpS func65 rfl λl cs j=> ?_
 apply wpS_seq;apply wpS_region;simp[wpOpsS,go_sem,recoverD,j,ntmps65,Exit.thenS];refine wpS_of_wp ?_;rw[Gn];go_wp2;go_region
 exact⟨rfl,_,rfl,.tuple #[],by simp[results,results65],rfl,rfl,rfl⟩
def Dh (w:aw)(r:Except (Int×Nat) (List dS))(e:Ending)(w':aw):Prop:=
 (match r with
 | .error (k,p)=>e= .returned (.tuple #[.pointer none,aa k,aa p])
 | .ok bs=>∃sb kp mk,e= .returned (.tuple #[ag sb,aa 0,aa 0])/\EP w' sb kp mk bs w.heap.size)/\aj w w'
theorem QC (w:aw)(tb:Nat)(t:au)(m:t.size<=2^47)(H:w.cell? (ai tb 0)=some (ae t))(K:GOK w)(j:BOK w):
  S9 33 #[.func (Fn.func 34) #[] #[ag tb]] w (Dh w (gI t)):=by
 have a:= @yG;generalize hr:gI t=r;have E:Hid (gI t=r):=hr;clear hr;have X:=aZ _ _ H;have a:=((Tb w).alloc (aD _) (ak #[aa 0] 24)).alloc Tf (ak #[aa 0] 3);go_enter_defers func33,ntmps33
 have Y:((w.S6 #[aa 0] 24).S6 #[aa 0] 3).cell? (ai tb 0)=some (ae t):=(a.cell (p:=(ai tb 0)) X).J H;have M:GOK ((w.S6 #[aa 0] 24).S6 #[aa 0] 3):=K.O (a.block _ K.lt);have V:BOK ((w.S6 #[aa 0] 24).S6 #[aa 0] 3):=j.O (a.block _ j.lt);have z:=(dP.new w #[aa 0] 24).alloc (ak #[aa 0] 3);have A:dP ((w.S6 #[aa 0] 24).S6 #[aa 0] 3) (w.heap.size+1) #[aa 0] 3:=(by have:=dP.new (w.S6 #[aa 0] 24) #[aa 0] 3;simpa using this);go_wp2_with fail;refine(QB _ tb t m Y M V).V ?_
 cases h:gI t with
 |error q=>
  obtain⟨k,p⟩:=q;rintro e w2 ⟨b,g⟩;obtain rfl:e=dX k p:=b;obtain rfl:r= .error (k,p):=E.o.sy.J h;have i:=z.G g z.lt;have d:=A.G g A.lt;have C:=a.J (g.V a.size);have⟨G,I⟩:=i.I;have⟨J,L⟩:=d.I;have j:=d.lt;unfold dX;refine leaves_cons (f:=65) (args:= #[ag w.heap.size,ag (w.heap.size+1)]) Tf (by simp[go_sem]) ?_;refine(EQ w.heap.size (w.heap.size+1) k p [] w2 _ _ (G 0) (J 0) (I 0) (L 0) Te).V ?_;rintro e b U ⟨rfl,rfl,rfl⟩;have o:=(((i.set 0 (aa k)).other (c:=w.heap.size+1) 0 (aa p) Te).alloc (ak #[aa k,aa p] 142)).cell 0;have s:=(((d.other (c:=w.heap.size) 0 (aa k) Te).set 0 (aa p)).alloc (ak #[aa k,aa p] 142)).cell 0;have D:aj w (((w2.setCell (ai w.heap.size 0) (aa k)).setCell (ai (w.heap.size+1) 0) (aa p)).alloc (ak #[aa k,aa p] 142)).drew:=(((C.setCell (p:=(ai w.heap.size 0)) (aD _) (aa k)).setCell (p:=(ai (w.heap.size+1) 0)) (bC _) (aa p)).alloc (by simp[World.setCell];omega) _).drew;simp at o s;simp[Leaves,settle,results,results33,go_sem,o,s]
  exact⟨rfl,D⟩
 |ok bs=>
  rintro e w2 ⟨⟨u,n,mk,rfl,W⟩,g⟩;obtain rfl:r= .ok bs:=E.o.sy.J h;have i:=z.G g z.lt;have d:=A.G g A.lt;have C:=a.J (g.V a.size);have⟨G,I⟩:=i.I;have⟨J,L⟩:=d.I;have j:=d.lt;go_wp2;refine leaves_cons (f:=65) (args:= #[ag w.heap.size,ag (w.heap.size+1)]) Tf (by simp[go_sem]) ?_;refine(Kr (ai w.heap.size 0) (ai (w.heap.size+1) 0) _).V ?_;rintro e b U ⟨rfl,rfl,rfl⟩;have o:=((i.set 0 (aa 0)).other (c:=w.heap.size+1) 0 (aa 0) Te).cell 0;have s:=((d.other (c:=w.heap.size) 0 (aa 0) Te).set 0 (aa 0)).cell 0;have D:aj w ((w2.setCell (ai w.heap.size 0) (aa 0)).setCell (ai (w.heap.size+1) 0) (aa 0)):=(C.setCell (p:=(ai w.heap.size 0)) (aD _) (aa 0)).setCell (p:=(ai (w.heap.size+1) 0)) (bC _) (aa 0)
  have N:EP ((w2.setCell (ai w.heap.size 0) (aa 0)).setCell (ai (w.heap.size+1) 0) (aa 0)) u n mk bs w.heap.size:=by
   obtain⟨v,y,Z,⟨a,b,c,d,e,f⟩,g,F⟩:=W;have O:w.heap.size+2<=u:=by simpa using a
   have P:w.heap.size+2<=n:=by simpa using b
   have R:w.heap.size+2<=mk:=by simpa using c
   have B:∀x,w.heap.size+2<=x->((w2.setCell (ai w.heap.size 0) (aa 0)).setCell (ai (w.heap.size+1) 0) (aa 0)).heap[x]?=w2.heap[x]?:=λx l=>by rw[dM,dG Te,dM,dG Te]
   have S:=g.O (w':=((w2.setCell (ai w.heap.size 0) (aa 0)).setCell (ai (w.heap.size+1) 0) (aa 0))) (λx l _=>B x (by simpa using l.1))
   have T:=S.V (Q:=λb=>w.heap.size<=b/\b≠u/\b≠n/\b≠mk) (λx l _=>by
    have a:w.heap.size+2<=x:=by simpa using l.1
    exact⟨Te,l.2⟩)
   exact⟨v,y,(B u O).J Z,⟨Te,Te,Te,d,e,f⟩,T,(B n P).J F.1,F.2.O (B mk R)⟩
  simp at o s;simp[Leaves,settle,results,results33,go_sem,o,s];exact⟨⟨u,n,mk,rfl,N⟩,D⟩
end
section
open Go.Maps
def c5 (w:aw)(t:au)(c:t.size<=2^47)(f:GOK w)(b:BOK w):
  Calls prog 13 #[ae t] w (Dh w (gI t)):=by
 have z:= @yG;have a:=(Tb w).alloc (aD _) (ak #[ae t] 9);generalize hr:gI t=r;have h:Hid (gI t=r):=hr;clear hr;go_in
 go_wp2_with fail;refine(QC _ w.heap.size t c ((dP.new w #[ae t] 9).cell 0) (f.O (a.block _ f.lt)) (b.O (a.block _ b.lt))).V ?_;rw[h.o]
 cases r with
 |error q=>
  obtain⟨k,p⟩:=q;rintro e w2 ⟨u,d⟩;obtain rfl:e= .returned (.tuple #[.pointer none,aa k,aa p]):=u;go_wp2;go_ret3
  exact⟨rfl,a.J (d.V a.size)⟩
 |ok bs=>
  rintro e w2 ⟨⟨B,A,mk,rfl,v,y,i,⟨j,l,m,n⟩,s,o⟩,d⟩;go_wp2;go_ret3
  exact⟨⟨B,A,mk,rfl,v,y,i,⟨aL a.size j,aL a.size l,aL a.size m,n⟩,s.V (λx g _=>⟨aL a.size g.1,g.2⟩),o⟩,a.J (d.V a.size)⟩
def c7 (w:aw)(sb lo:Nat)(l:aA)(hlen:l.length<=2001)(K:qg w sb l lo):
  Calls prog 15 #[ag sb] w λe w'=>∃v',e= .returned (.tuple #[v',aa 0])/\w'.ownsRow w.heap.size 9 1 v' l.length (eh l)/\aj w w':=by
 have⟨J,s,t,u,x⟩:=info_parts Tryz.info9;obtain⟨v,O,bs,y,h1,M,b,rfl⟩:=K;obtain⟨P,Q,rfl⟩:=ig b.row.1;have E:y.length=(dZ bs).length:=by rw[<-b.names];simp
 have⟨p,r⟩:=h1.I;go_in
 go_wp2;clear p r;go_loopw [4,14] (λv' i wr=>∃(k:Nat),k<=y.length/\i=aa k/\wr.ownsRow w.heap.size 9 1 v' k (eh ((dZ bs).take k))/\aj w wr) (λ_ i _=>y.length-(intOf i).toNat)
 case atStart=>exact⟨0,aM _,rfl,aX _ _ _ _,Below.refl _ _⟩
 case round=>
  obtain⟨k,N,rfl,c,a⟩:=hrel;by_cases hlt:k<y.length
  .have⟨m,d⟩:=gx hlt;have A:(dZ bs)[k]?=some m.1.1:=by rw[<-b.names,aT,d];rfl
   have B:(dZ bs).take (k+1)=(dZ bs).take k++ [m.1.1]:=by rw[bu,A];rfl
   obtain⟨g,rfl,_,z,f⟩:=dV b.row.1 Te;have q:=f wr (a.block g z) k (gR (some m.1.2)) (by simp[fh,d]);unfold gR at q;have⟨L,F,h,_,_,_⟩:=b.msg m (aO d);have⟨p,r⟩:=(h.G a h.lt).I;have H:k+1<=2001:=Te;clear f;go_wp2_with (first|(at_builtin;refine wpList_append_own_at _ rfl _ _ 30 rfl w.heap.size 9 J _ 1 16 underlying30 s t u x rfl Th u4 _ _ rfl (c.alloc _) _ 1 1 [_] rfl rfl (cell_one_new _ _ _) ?h1 ?h63 ?hby ?hba ?_;rotate_right;intro v' R C D o n))
   case h1=>rfl
   case h63=>unfold maxLen;omega
   case hby=>omega
   case hba=>have:=a.size;simp;omega
   refine⟨⟨k+1,Te,by go_num,?_,?_⟩,by simp[intOf];omega⟩;.rw[B];simpa [eh]using C
   .exact(a.alloc a.size _).grown D (by have:=a.size;simp;omega) (λj G=>(c.lt j G).1)
  .have I:decide ((k:Int)<(y.length:Int))=false:=Tg;obtain rfl:k=y.length:=Te;rw[E,bX]at c;go_wp2;go_ret2;exact⟨u4,rfl,c,a⟩
end
def yy (k:Nat)(s:au):au:=if 0<k then yy (k/10) (s++strOfNums [((48+k%10:Nat):Int)])else s
termination_by k
def Ao (n:Nat):au:=yy n ⟨#[109,97,114,107]⟩
def LZ (w:aw)(n:Nat)(p:n<=1099511627776):
  Calls prog 43 #[aa n] w λe w'=>e= .returned (ae (Ao n))/\aj w w':=by
 obtain⟨R,b⟩:=Td (Ao n);have f:Hid (yy n ⟨#[109,97,114,107]⟩=R):=b;rw[b];clear b;go_in
 go_wp2;go_loopw [0,3] (λi s wr=>∃(k:Nat) (m:au),k<=n/\i=aa k/\s=ae m/\m.size+k<=n+4/\Hid (yy k m=R)/\aj w wr) (λi _ _=>(intOf i).toNat)
 case atStart=>exact⟨n,⟨#[109,97,114,107]⟩,aD _,rfl,rfl,by show 4+n<=n+4;omega,f,Below.refl _ _⟩
 case round=>
  obtain⟨k,m,l,rfl,rfl,o,d,c⟩:=hrel;by_cases hlt:0<k
  .have g:(0:Int)<(k:Int):=Te
   have q:∀z:Int,(convert 140 9 (Ta wr.heap.size 1 1)).run prog (wr.S6 #[.int .u8 z] 5)= .ok (ae (strOfNums [z])) (wr.S6 #[.int .u8 z] 5):=λz=>
    run_convert_bytes_arg _ 140 5 underlying140 underlying5 wr.heap.size 0 1 1 [z] rfl (λi j=>by
     obtain rfl:i=0:=Te
     exact(dP.new wr #[.int .u8 z] 5).cell 0) 9 underlying9
   have h:∀z:Int,(strOfNums [z]).size=1:=λ_=>rfl
   have a:Hid (yy (k/10) (m++strOfNums [((48+k%10:Nat):Int)])=R):=(by have:=d.o;rw[yy,dH hlt]at this;exact this);go_wp2;go_roundw
   case rel=>exact⟨k/10,_,Te,Tf,rfl,by rw[ByteArray.size_append,h];omega,a,c.alloc c.size _⟩
   case measure=>simp[intOf];omega
  .have g:decide ((0:Int)<(k:Int))=false:=Tg;have a:Hid (m=R):=(by have:=d.o;rw[yy,dG hlt]at this;exact this);go_wp2;go_ret;exact⟨by rw[a.o];rfl,c⟩
end Go.Proofs.YtfebdimolnobaaaGreatDoor
