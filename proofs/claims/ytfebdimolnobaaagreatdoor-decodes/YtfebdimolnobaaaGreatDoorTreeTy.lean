import Derived.Test.YtfebdimolnobaaaGreatDoorReadA
import Derived.Test.YtfebdimolnobaaaGreatDoorDfB
import Derived.Lib.ValidLaws
set_option maxRecDepth 100000
set_option maxHeartbeats 8000000
set_option linter.all false
namespace Go.Proofs.YtfebdimolnobaaaGreatDoor
open Go.RowKit Go.Proofs.Tryz
section
variable {stop:Nat->Bool} {ws:List W} {form:Int} {i j:Nat} {f:ek} {p:ft}
structure tK (f:ek):Prop where
 size:f.type.1.size<=2000
 kind:dN f.type.1=3\/dN f.type.1=1
 key:f.form=4<->f.key.isSome=true
def tL (p:ft):Prop:=
 (∀f∈p.fields,tK f)/\((∃o,p.oneof=some o/\dN o.1=1/\∀f∈p.fields,f.form=3)\/(p.oneof=none/\∃f,p.fields= [f]/\(f.form=0\/f.form=1\/f.form=2\/f.form=4)))
def Ay (b:dS):Prop:=∀p∈b.parts,tL p
theorem od {α:Type}{p:Nat->mX α}{Q:α->Prop}(d:∀i a j,p i= .ok (a,j)->Q a):∀(n i:Nat) (l:List α) (j:Nat),fC stop p n i= .ok (l,j)->∀a∈l,Q a
 |0,i,l,j,h=>by
  simp[fC]at h
  simp_all
 |n+1,i,l,j,h=>by
  unfold fC at h;split at h;.simp_all
  .have⟨a,k,f,h⟩:=dQ h;have⟨r,e,c,h⟩:=dQ h;simp at h;obtain⟨rfl,_⟩:=h;intro x b;rcases aR.1 b with rfl|b;.grind
   .exact od d n k r e c x b
theorem kj (H:tI ws)(e:form≠4)(h:fF ws form i= .ok (f,j)):tK f/\f.form=form:=by
 unfold fF at h;have⟨t,g,a,h⟩:=dQ h;have⟨nm,k,d,h⟩:=dQ h;simp at h;obtain⟨rfl,_⟩:=h;have⟨_,b,c⟩:=ke _ _ _ _ a;exact⟨⟨H.size _ _ b,c,by grind⟩,rfl⟩
theorem Ed (H:tI ws)(h:lS ws i= .ok (f,j)):tK f/\f.form=4:=by
 unfold lS at h;have⟨_,d,_,h⟩:=dQ h;have⟨_,e,_,h⟩:=dQ h;have⟨k,g,_,h⟩:=dQ h;have⟨_,l,_,h⟩:=dQ h;have⟨t,m,c,h⟩:=dQ h;have⟨_,n,_,h⟩:=dQ h;have⟨nm,o,_,h⟩:=dQ h;simp at h;obtain⟨rfl,_⟩:=h;have⟨_,a,b⟩:=ke _ _ _ _ c;exact⟨⟨H.size _ _ a,b,Tf⟩,rfl⟩
theorem Az (H:tI ws)(h:ie ws i= .ok (p,j)):tL p:=by
 unfold ie at h;have⟨_,t,_,h⟩:=dQ h;have⟨o,u,e,h⟩:=dQ h;have⟨_,v,_,h⟩:=dQ h;have⟨f,w,g,h⟩:=dQ h;have⟨l,y,k,h⟩:=dQ h;have⟨_,z,_,h⟩:=dQ h;have⟨q,A,m,d⟩:=dQ k;simp at h;obtain⟨rfl,_⟩:=h;simp at d;obtain⟨rfl,_⟩:=d;have r:=kj H Th g;have s:=od (Q:=λf=>tK f/\f.form=3) (λi a j h=>kj H Th h) _ _ _ _ m;have n:=(gJ _ _ _ _ _ e).2.2;have b:∀x∈f::q,tK x/\x.form=3:=(by simp_all);exact⟨λx c=>(b x c).1,.inl ⟨o,rfl,n,λx c=>(b x c).2⟩⟩
theorem lT {r:mX ek}(b:∀f j,r= .ok (f,j)->tK f/\(f.form=0\/f.form=1\/f.form=2\/f.form=4))(h:kN r= .ok (p,j)):tL p:=by
 have⟨f,c,a,h⟩:=dQ h;simp at h;obtain⟨rfl,_⟩:=h;have:=b _ _ a;exact⟨by simp_all,.inr ⟨rfl,f,rfl,this.2⟩⟩
theorem Cm (H:tI ws)(h:jg ws i= .ok (p,j)):tL p:=by
 unfold jg at h;split at h;.exact Az H h
 .split at h;.exact lT (λf j a=>by have:=Ed H a;simp_all) h
  .split at h;.exact lT (λf j a=>by have:=kj H Th a;simp_all) h
   .split at h;.exact lT (λf j a=>by have:=kj H Th a;simp_all) h
    .exact lT (λf j a=>by have:=kj H Th a;simp_all) h
theorem Cn (H:tI ws){bs:List dS}(h:nY ws= .ok (bs,j)):∀b∈bs,Ay b:=by
 refine od (Q:=Ay) (λi b j a=> ?_) _ _ _ _ h;unfold ir at a;split at a;.unfold j9 at a;have⟨_,e,_,a⟩:=dQ a;have⟨n,f,_,a⟩:=dQ a;have⟨_,g,_,a⟩:=dQ a;have⟨l,k,_,a⟩:=dQ a;have⟨_,m,_,a⟩:=dQ a;simp at a;obtain⟨rfl,_⟩:=a;intro p c;simp at c
 .unfold gz at a;have⟨_,e,_,a⟩:=dQ a;have⟨n,f,_,a⟩:=dQ a;have⟨_,g,_,a⟩:=dQ a;have⟨l,k,d,a⟩:=dQ a;have⟨_,m,_,a⟩:=dQ a;simp at a;obtain⟨rfl,_⟩:=a;exact od (Q:=tL) (λi p j c=>Cm H c) _ _ _ _ d
end
section
def _root_.List.Perm.J:=@List.Perm.trans
open Go.Maps
open Tq
def Tryz.info212:(prog.info? 212).map (λi=>(i.zero,i.size,i.bytes))=some (some (.pointer none),1,8):=Tj
structure Ov (f:ek):Prop where
 num:AE f
 ty:Eg f
def wQ (w wr:aw)(mp:am)(v:Value)(gs:List GF):Prop:=
 ∃Ts:aB,wr.ownsRow w.heap.size 212 1 v gs.length (fh Ts)/\gj wr (λb=>w.heap.size<=b/\v.ownBlock≠some b) mp gs Ts/\aj w wr
def wQ.on {w wr w2:aw}{mp:am}{v:Value}{gs:List GF}(h:wQ w wr mp v gs)(a:aj wr w2):wQ w w2 mp v gs:=by
 obtain⟨c,d,e,f⟩:=h;exact⟨c,eL a d,e.O (λb _ g=>a.block b g),eD f a⟩
def wQ.start (w wr:aw)(mp:am)(h:aj w wr):wQ w wr mp (ah) []:=⟨[],aX _ _ _ _,rfl,h⟩
def rt (l:aB)(b:Nat):fh (l++ [b])=fh l++ [gR (some b)]:=by simp[fh]
def wQ.snoc {w W w5:aw}{mp:am}{v v':Value}{gs:List GF}{g:GF}{Ts:aB}{fb:Nat}(i:gj W (λb=>w.heap.size<=b/\v.ownBlock≠some b) mp gs Ts)(f:aj w W)(a:∀k,v.ownBlock=some k->w.heap.size<=k)
  (m:eR W (λb=>w.heap.size<=b/\v.ownBlock≠some b) mp g fb) (p:w5.ownsRow w.heap.size 212 1 v' (gs.length+1) (fh Ts++ [gR (some fb)])) (d:W.grownBy w5 v.ownBlock) (h:v.ownBlock=v'.ownBlock\/v'.ownBlock=some W.heap.size):wQ w w5 mp v' (gs++ [g]):=by
 have j:=i.snoc m;have o:∀b,(w.heap.size<=b/\v.ownBlock≠some b)->b<W.heap.size->(w.heap.size<=b/\v.ownBlock≠some b)/\v'.ownBlock≠some b:=(by grind);have l:=(j.V o).O (w':=w5) (λb c n=>d.block b n (λe=>c.1.2 e.sy));refine⟨Ts++ [fb],?_,l.V (λb c _=>⟨c.1.1,c.2⟩),f.grown d f.size a⟩;rw[rt,bf];omega
def yK (ps:List ft):List GF:=ps.flatMap λp=>p.fields.map (sF p)
def sI:∀ps:List ft,(yK ps).length<=lk ps
 | []=>aD _
 |p::ps=>by
  have:=sI ps;unfold yK at this⊢;rw[aW,bf,bm,lk];omega
def zv:∀(ps:List ft) (k:Nat),lk (ps.take k)<=lk ps
 | [],k=>by grind
 |p::ps,0=>by simp[lk]
 |p::ps,k+1=>by have:=zv ps k;rw[List.take_succ_cons,lk,lk];omega
def Hf {α β:Type}{h:α->β}{l' l:List β}(p:l'.Perm l):∀z:List α,z.map h=l->∃z':List α,z'.Perm z/\z'.map h=l':=by
 induction p with
 |nil=>intro z b;exact⟨z,List.Perm.refl _,b⟩
 |cons x _ ih=>
  intro z b
  cases z with
  |nil=>grind
  |cons a z=>
   simp at b;have⟨z',d,e⟩:=ih z b.2
   exact⟨a::z',d.cons a,by grind⟩
 |swap x y l=>
  intro z b
  match z,b with
  | [],b=>grind
  | [_],b=>grind
  |a::c::z,b=>
   simp at b
   exact⟨c::a::z,List.Perm.swap _ _ _,by grind⟩
 |trans _ _ ih1 ih2=>
  intro z b;have⟨i,d,e⟩:=ih2 z b;have⟨j,f,g⟩:=ih1 i e;exact⟨j,f.J d,g⟩
def zx (w:aw)(mp:am)(b:dS)(e:Ending)(w':aw):Prop:=
 ∃(v:Value) (gs:List GF) (Ts:aB),e= .returned v/\gs.Perm (uA b)/\gs.Pairwise (λx y=>x.f.num<=y.f.num)/\
  d5 w' (λx=>w.heap.size<=x) 212 1 v Ts.length (fh Ts)/\gj w' (λx=>w.heap.size<=x) mp gs Ts/\aj w w'
def I8 (w:aw)(mb n:Nat)(mp:am)(b:dS)(pa va:aC)(pc vn vc:Nat)(pcs:ay)(S:ax)(P:d5 w S 208 4 (.slice pa b.parts.length pc) b.parts.length pcs)(hps:fK w S pcs b.parts)
  (H:gk w mb n mp) (hlen:lk b.parts<=2001) (q:∀p∈b.parts,∀f∈p.fields,Ov f) (hg:GOK w) (hb:BOK w):
  Calls prog 67 #[.map (some mb),.agg #[.bool b.enum,aa (dN b.name.1),ae b.name.1,aa b.name.2,.slice pa b.parts.length pc,.slice va vn vc]] w (zx w mp b):=by
 have⟨i0,UB,UC,UD,T8⟩:=info_parts Tryz.info212;have hpl:b.parts.length<=2001:=aL (wG b.parts) hlen;have C0:=(Tb w).alloc (aD _) (ak #[.bool b.enum,aa (dN b.name.1),ae b.name.1,aa b.name.2,.slice pa b.parts.length pc,.slice va vn vc] 152);go_in
 go_wp2;go_loopw [5,13] (λv i wr=>∃(k:Nat),k<=b.parts.length/\i=aa k/\wQ w wr mp v (yK (b.parts.take k))) (λ_ i _=>b.parts.length-(intOf i).toNat)
 case atStart=>exact⟨0,aM _,rfl,wQ.start _ _ _ C0⟩
 case round=>
  clear C0;obtain⟨k,hk,rfl,D⟩:=hrel;by_cases hlt:k<b.parts.length
  .have⟨p,hp⟩:=gx hlt;have Ud:p∈b.parts:=aO hp;have Tt:b.parts.take (k+1)=b.parts.take k++ [p]:=by rw[bu,hp];rfl
   have Ue:yK (b.parts.take (k+1))=yK (b.parts.take k)++p.fields.map (sF p):=by rw[Tt];simp[yK]
   have TS:(yK (b.parts.take k)).length+p.fields.length<=2001:=(by have h1:=sI (b.parts.take (k+1));have O:=zv b.parts (k+1);grind);have C:aj w wr:=by obtain⟨_,_,_,h⟩:=D;exact h
   have Up:∀j,u5.ownBlock=some j->w.heap.size<=j/\j<wr.heap.size:=by obtain⟨_,h,_,_⟩:=D;exact h.lt
   obtain⟨g,rfl,_,T5,TB⟩:=dV P.1 Te;have⟨fa,fn,B,p0,p1,p2,p3,T9⟩:=hps.get hp;have Uq:=d9 T9.1;subst Uq;have K:=TB wr (C.block g T5);have q0:=K _ _ p0;have q1:=K _ _ p1;have q2:=K _ _ p2;have q3:=K _ _ p3;have F:=dP.new wr #[aa (lO p.oneof),ae (jp p.oneof),aa (mY p.oneof),.slice fa p.fields.length B] 208;have Uf:=D.on ((Tb wr).alloc (aD _) (ak #[aa (lO p.oneof),ae (jp p.oneof),aa (mY p.oneof),.slice fa p.fields.length B] 208));have L:u5.ownBlock≠some wr.heap.size:=λe=>by grind
   have Tv:=q p Ud;have hpb:w.heap.size<=wr.heap.size:=C.size;generalize yK (b.parts.take k)=G at Uf Ue TS;clear TB K p0 p1 p2 p3 hp Ud Tt D Up q;go_wp2_with fail;generalize wr.alloc (ak #[aa (lO p.oneof),ae (jp p.oneof),aa (mY p.oneof),.slice fa p.fields.length B] 208)=w1 at*;generalize wr.heap.size=pb at*;clear q0 q1 q2 q3;go_loopw [5,20] (λv i wr=>∃(j:Nat),j<=p.fields.length/\i=aa j/\wQ w wr mp v (G++(p.fields.take j).map (sF p))/\dP wr pb #[aa (lO p.oneof),ae (jp p.oneof),aa (mY p.oneof),.slice fa p.fields.length B] 208/\v.ownBlock≠some pb) (λ_ i _=>p.fields.length-(intOf i).toNat)
   case atStart=>exact⟨0,aM _,rfl,by grind,F,L⟩
   case round=>
    clear Uf F L C;obtain⟨j,hj,rfl,E,F,L⟩:=hrel;by_cases hlt2:j<p.fields.length
    .have⟨f,hf⟩:=gx hlt2;have Ug:f∈p.fields:=aO hf;have Tt:G++(p.fields.take (j+1)).map (sF p)=(G++(p.fields.take j).map (sF p))++ [sF p f]:=by rw[bu,hf];simp
     obtain⟨gf,rfl,_,Ua,Tw⟩:=dV T9.1 Te;have Ur:aj w wr:=by obtain⟨_,_,_,h⟩:=E;exact h
     have TD:∀x,u5.ownBlock=some x->w.heap.size<=x/\x<wr.heap.size:=by obtain⟨_,h,_,_⟩:=E;exact h.lt
     have Uh:=Tw wr (Ur.block gf Ua);have⟨t0,t1,t2,t3,t4,t5,t6,t7,t8,t9,UE,UF,UG⟩:=wF hf Uh;have V:=Tv f Ug;have KF:=dP.new wr (FC f) 211;have Ui:=F.alloc (FO f);have Uj:=E.on ((Tb wr).alloc (aD _) (FO f));have TT:u5.ownBlock≠some wr.heap.size:=λe=>by have:=(TD _ e).2;omega
     have TU:Hid (∀x,u5.ownBlock=some x->x<wr.heap.size):=λx a=>(TD x a).2
     have Us:(G++(p.fields.take j).map (sF p)).length<=2001:=by rw[bf,bm,bG];omega
     generalize(G++(p.fields.take j).map (sF p))=G2 at Uj Tt Us;have hzz:pb<wr.heap.size:=F.lt;clear Tw Uh hf Ug E F TD;go_upto_region 8 with fail
     clear t0 t1 t2 t3 t4 t5 t6 t7 t8 t9 UE UF UG;generalize hw1:wr.alloc (FO f)=W1 at*;have zc:wr.heap.size<W1.heap.size:=KF.lt;clear hw1;generalize wr.heap.size=c9 at*;obtain⟨Z,Tx,Tu,CA⟩:=Uj;have I:aj w W1.drew:=CA.drew;have TV:=KF.drew;have TW:=Ui.drew;have Tz:W1.drew.ownsRow w.heap.size 212 1 u5 G2.length (fh Z):=Tx;have TE:gj W1.drew (λb=>w.heap.size<=b/\u5.ownBlock≠some b) mp G2 Z:=gj.O (w:=W1) (w':=W1.drew) (λ_ _ _=>rfl) Tu;have a0:=RS.of TV TW;have Ut:Hid (S9 109 #[.agg (FC f)] W1.drew (λe w'=>e= .returned (aa (iY f))/\Below W1.drew.heap.size W1.drew w')):=sG _ f V.num.1 V.num.2 (hg.O (I.block _ hg.lt))
     have Uu:Hid (∀w2:aw,Below W1.drew.heap.size W1.drew w2->S9 110 #[.map (some mb),.agg (FC f)] w2 (λe w'=>∃l m,e= .returned (.agg #[aa l,m])/\ri w' (λb=>w2.heap.size<=b) mp f l m/\aj w2 w')):=
      λw2 O=>AG w2 mb n mp f V.ty (H.O ((eD I O).block _ H.lt)) (hb.O ((eD I O).block _ hb.lt))
     have Uv:Hid (∀w3:aw,Below W1.drew.heap.size W1.drew w3->S9 111 #[.agg #[aa (lO p.oneof),ae (jp p.oneof),aa (mY p.oneof),Ta gf p.fields.length B],.agg (FC f)] w3 (λe w'=>∃v,e= .returned v/\w'.ownsRow w3.heap.size 3 1 v (pQ p f).length (gA (pQ p f))/\aj w3 w')):=
      λw3 h3=>I6 w3 p f _ B S (T9.O (λx _ r=>(eD I h3).block x r)) Te V.num (λo ho=>(Tv o ho).num) (hg.O ((eD I h3).block _ hg.lt))
     have Uw:Hid (∀(W:aw) (N:Nat) (l:Int) (m rv:Value),dP W N #[aa (iY f),aa f.form,aa l,m,rv] 220->(w.heap.size<=N/\u5.ownBlock≠some N)->d5 W (λb=>w.heap.size<=b/\u5.ownBlock≠some b) 3 1 rv (pQ p f).length (gA (pQ p f))->ri W (λb=>w.heap.size<=b/\u5.ownBlock≠some b) mp f l m->eR W (λb=>w.heap.size<=b/\u5.ownBlock≠some b) mp (sF p f) N):=λW N l m rv h1 O h3 h4=>I7 h1 O h3 h4
     have Ux:Hid (some c9≠u5.ownBlock):=λe=>TT e.sy
     have Uy:Hid (some pb≠u5.ownBlock):=λe=>L e.sy
     clear Tx Tu CA KF Ui
     go_region_held3 (λw'=>w'.cell? (ai c9 0)=some (aa f.form)/\w'.cell? (ai c9 1)=some (aa (lO f.key))/\w'.cell? (ai c9 2)=some (ae (jp f.key))/\w'.cell? (ai c9 3)=some (aa (mY f.key))/\w'.cell? (ai c9 4)=some (aa (dN f.type.1))/\w'.cell? (ai c9 5)=some (ae f.type.1)/\w'.cell? (ai c9 6)=some (aa f.type.2)/\w'.cell? (ai c9 7)=some (aa (dN f.name.1))/\w'.cell? (ai c9 8)=some (ae f.name.1)/\w'.cell? (ai c9 9)=some (aa f.name.2)/\w'.cell? (ai c9 10)=some (aa (dN f.num.1))/\w'.cell? (ai c9 11)=some (ae f.num.1)/\w'.cell? (ai c9 12)=some (aa f.num.2)/\w'.cell? (ai pb 0)=some (aa (lO p.oneof))/\w'.cell? (ai pb 1)=some (ae (jp p.oneof))/\w'.cell? (ai pb 2)=some (aa (mY p.oneof))/\w'.cell? (ai pb 3)=some (Ta gf p.fields.length B))
      (first|exact a5|exact RS.of ((X.alloc _).alloc _) ((Y.alloc _).alloc _)|exact RS.of (X.alloc _) (Y.alloc _)|exact RS.of X Y|exact RS.of TZ T0|exact RS.of TX TY|exact a0)
      (first|(refine step_append_lies _ Tk _ _ _ Tk w.heap.size 212 i0 _ 1 8 underlying106 UB UC UD T8 rfl Te u5 G2.length (fh Z) Tk ((TI.alloc _).alloc _) (ai (d.heap.size+1) 0) 1 1 [_] Tk Tk (aY (dP.newAt Tf _ _)) Tm Te Tl Te (by have:=C4.size;simp;omega) (d.heap.size+1+1) Tf ?_;intro gg M w5 TC t Un hlt5;have Uz:=((X.alloc _).alloc _).grown t Ux.o;have Uk:=((Y.alloc _).alloc _).grown t Uy.o;have a5:=RS.of Uz Uk)|(go_at_call 109;refine Ut.o.V ?_;rintro e w2 ⟨rfl,s⟩;have TX:=TV.G s TV.lt;have TY:=TW.G s TW.lt)|(go_at_call 110;refine(Uu.o w2 s).V ?_;rintro e w3 ⟨l,m,rfl,UH,u⟩;have TZ:=TX.G u TX.lt;have T0:=TY.G u TY.lt)|(go_at_call 111;refine(Uv.o w3 (eD s u)).V ?_;rintro e d ⟨rv,rfl,Uo,A⟩;obtain⟨R,U,T,rfl⟩:=dO Uo;have X:=TZ.G A TZ.lt;have Y:=T0.G A T0.lt;have C4:=eD (eD (eD I s) u) A;have TI:=eL (eD (eD s u) A) Tz))
     have Z2:=s.size;have Z3:=u.size;have Z4:=A.size;have zc2:c9<W1.drew.heap.size:=zc;have Ty:∀x,W1.drew.heap.size<=x->u5.ownBlock≠some x:=λx a e=>by have:=TU.o x e;omega
     have Ul:∀x,w3.heap.size<=x->w.heap.size<=x/\u5.ownBlock≠some x:=λx a=>⟨Te,Ty x Te⟩
     have J:aj d ((d.alloc (ak #[aa (iY f),aa f.form,aa l,m,.slice R U T] 220)).alloc (ak #[ag d.heap.size] 212)):=(Tc d _).alloc Tf _;have Um:=gj.O (w:=W1.drew) (w':=((d.S6 #[aa (iY f),aa f.form,aa l,m,.slice R U T] 220).S6 #[ag d.heap.size] 212)) (λx _ r=>(eD (eD (eD s u) A) J).block x r) TE;have TA:=((d5.of Uo).V (S':=λb=>w.heap.size<=b/\u5.ownBlock≠some b) (λx a _=>Ul x a)).O (w':=((d.S6 #[aa (iY f),aa f.form,aa l,m,.slice R U T] 220).S6 #[ag d.heap.size] 212)) (λx _ r=>J.block x r);have TJ:=(ri.V (Q:=λb=>w.heap.size<=b/\u5.ownBlock≠some b) (λx a _=>⟨Te,Ty x Te⟩) UH).O (w':=((d.S6 #[aa (iY f),aa f.form,aa l,m,.slice R U T] 220).S6 #[ag d.heap.size] 212)) (λx _ r=>(eD A J).block x r);have TK:=Uw.o _ d.heap.size l m (.slice R U T) ((dP.new d _ _).alloc _) ⟨C4.size,Ty _ Te⟩ TA TJ;have HI6:=wQ.snoc (v':= Ta gg (G2.length+1) M) Um (eD C4 J) (λx a=>(Tz.lt x a).1) TK TC t (Un.imp (λh=>h) (λh=>by rw[h];simp[Value.ownBlock]))
     have T4:(Value.slice (some (ai gg 0)) (G2.length+1) M).ownBlock≠some pb:=λe=>by
      rcases Un with h|h;.exact L (h.J e)
      .have e2:=Option.some.inj e;simp only at e2;omega
     clear a5 Um TA TJ TK TC t J Ty Ul;go_wp2;go_roundw
     case rel=>exact⟨j+1,Te,rfl,by grind,Uk,T4⟩
     case measure=>simp[intOf];omega
    .have hli2:decide ((j:Int)<(p.fields.length:Int))=false:=by grind
     obtain rfl:j=p.fields.length:=Te;rw[bX]at E;go_wp2;go_roundw
     case rel=>exact⟨k+1,Te,rfl,by rw[Ue];exact E⟩
     case measure=>simp[intOf];omega
  .have hli:decide ((k:Int)<(b.parts.length:Int))=false:=by grind
   obtain rfl:k=b.parts.length:=Te;rw[bX]at D;go_wp2_with fail;obtain⟨Z,Tx,Tu,C⟩:=D;have⟨z,TL,T8,Ub⟩:=Tu.zip;have T5:z.length=(yK b.parts).length:=by rw[<-TL];simp
   have T6:z.length<=2001:=by have:=sI b.parts;omega
   have T7:=O4 wr w.heap.size u5 (z.map λx=>(x.1.f.num,x.2)) (by rw[bm,T5,bI,show((λx:Int×Nat=>x.2)∘λx:GF×Nat=>(x.1.f.num,x.2))=(λx=>x.2)from rfl,T8];omega)
    (λx a=>by obtain⟨y,hy,rfl⟩:=aV.1 a;exact(Ub y hy).cell0.1) (λx a=>by obtain⟨y,hy,rfl⟩:=aV.1 a;exact(Ub y hy).cell0.2.2) (by simpa using T6)
   refine T7.V ?_;rintro e w' ⟨rfl,l',TM,TN,TO,t⟩;obtain⟨z',Uc,rfl⟩:=Hf TM z rfl;go_wp2;go_ret;refine⟨u5,z'.map (·.1),z'.map (·.2),rfl,?_,?_,?_,?_,?_⟩;.rw[show uA b=yK b.parts from rfl,<-TL];exact Uc.map _
   .rw[cn]at TN⊢;omega
   .have UA:(z'.map (·.2)).length=(z.map λx:GF×Nat=>(x.1.f.num,x.2)).length:=by simp[Uc.length_eq]
    rw[UA];have:=d5.of TO;rw[bI]at this;exact this
   .have h5:∀x∈z',eR w' (λx=>w.heap.size<=x) mp x.1 x.2:=λx a=>by
     have h6:=Ub x (Uc.mem_iff.1 a);exact(h6.O (w':=w') (λc hc r=>t.block c r (λe=>hc.2 e.sy))).V (λc hc _=>hc.1)
    exact gj.of_zip h5
   .exact C.grown t C.size (λx a=>(Tx.lt x a).1)
end
section
open Go.Lib
def sP (s:au)(k:Nat):fR s k=((s.data.toList.getD k 0).toNat:Int):=by
 have a:s.data.size=s.size:=rfl;unfold fR;by_cases h:k<s.size;.rw[dif_pos h,cD,bT,cr (show k<s.data.size from h)];rfl
 .rw[dif_neg h,cD,bT,cS Te];rfl
def rR (n:Nat)(b0 b1 b2 b3:Int):Option Nat:=
 if 240<=b0 then
  (if n<4 then none else if b1<128\/191<b1 then none else if b2<128\/191<b2 then none else if b3<128\/191<b3 then none else
   if 64*(64*(64*(b0-240)+b1-128)+b2-128)+b3-128<65536\/1114111<64*(64*(64*(b0-240)+b1-128)+b2-128)+b3-128\/(55296<=64*(64*(64*(b0-240)+b1-128)+b2-128)+b3-128/\64*(64*(64*(b0-240)+b1-128)+b2-128)+b3-128<=57343)then none else some 4)
 else if 224<=b0 then
  (if n<3 then none else if b1<128\/191<b1 then none else if b2<128\/191<b2 then none else
   if 64*(64*(b0-224)+b1-128)+b2-128<2048\/1114111<64*(64*(b0-224)+b1-128)+b2-128\/(55296<=64*(64*(b0-224)+b1-128)+b2-128/\64*(64*(b0-224)+b1-128)+b2-128<=57343)then none else some 3)
 else if 192<=b0 then
  (if n<2 then none else if b1<128\/191<b1 then none else
   if 64*(b0-192)+b1-128<128\/1114111<64*(b0-192)+b1-128\/(55296<=64*(b0-192)+b1-128/\64*(b0-192)+b1-128<=57343)then none else some 2)
 else if 128<=b0 then none
 else(if n<1 then none else if b0<0\/1114111<b0\/(55296<=b0/\b0<=57343)then none else some 1)
def QP (s:au):Ee s=rR s.size (fR s 0) (fR s 1) (fR s 2) (fR s 3):=by
 unfold Ee rR wM;by_cases h1:240<=fR s 0
 .rw[dH h1,dH h1];by_cases h2:s.size<4;.rw[dH h2,dH h2]
  .rw[dG h2,dG h2];show(match pP s 3 1 (fR s 0-240)with|none=>none|some c=>_)=_;unfold pP;by_cases g1:fR s 1<128\/191<fR s 1;.rw[dH g1,dH g1]
   .rw[dG g1,dG g1];unfold pP;by_cases g2:fR s 2<128\/191<fR s 2;.rw[dH g2,dH g2]
    .rw[dG g2,dG g2];unfold pP;by_cases g3:fR s 3<128\/191<fR s 3;.rw[dH g3,dH g3]
     .rw[dG g3,dG g3];rfl
 .rw[dG h1,dG h1];by_cases h3:224<=fR s 0
  .rw[dH h3,dH h3];by_cases h2:s.size<3;.rw[dH h2,dH h2]
   .rw[dG h2,dG h2];show(match pP s 2 1 (fR s 0-224)with|none=>none|some c=>_)=_;unfold pP;by_cases g1:fR s 1<128\/191<fR s 1;.rw[dH g1,dH g1]
    .rw[dG g1,dG g1];unfold pP;by_cases g2:fR s 2<128\/191<fR s 2;.rw[dH g2,dH g2]
     .rw[dG g2,dG g2];rfl
  .rw[dG h3,dG h3];by_cases h4:192<=fR s 0
   .rw[dH h4,dH h4];by_cases h2:s.size<2;.rw[dH h2,dH h2]
    .rw[dG h2,dG h2];show(match pP s 1 1 (fR s 0-192)with|none=>none|some c=>_)=_;unfold pP;by_cases g1:fR s 1<128\/191<fR s 1;.rw[dH g1,dH g1]
     .rw[dG g1,dG g1];rfl
   .rw[dG h4,dG h4];rfl
def wW {n b0 b1 b2 b3:Nat}(a:decodeN n b0 b1 b2 b3=(65533,1))(b:rR n b0 b1 b2 b3=none):
  rR n b0 b1 b2 b3=if(decodeN n b0 b1 b2 b3).1=65533/\(decodeN n b0 b1 b2 b3).2=1 then none else some (decodeN n b0 b1 b2 b3).2:=by grind
def FR {n b0 b1 b2 b3 c k:Nat}(b:decodeN n b0 b1 b2 b3=(c,k))(d:rR n b0 b1 b2 b3=some k)(a:¬(c=65533/\k=1)):
  rR n b0 b1 b2 b3=if(decodeN n b0 b1 b2 b3).1=65533/\(decodeN n b0 b1 b2 b3).2=1 then none else some (decodeN n b0 b1 b2 b3).2:=by
 rw[d,b,dG a]
def Jr (n b0 b1 b2 b3:Nat)(r:0<n)(j:b0<256)(h1:b1<256)(m:b2<256)(p:b3<256):
  rR n b0 b1 b2 b3=if(decodeN n b0 b1 b2 b3).1=65533/\(decodeN n b0 b1 b2 b3).2=1 then none else some (decodeN n b0 b1 b2 b3).2:=by
 by_cases c0:b0<128
 .refine FR (c:=b0) (k:=1) ?_ ?_ Te;.unfold decodeN;rw[dH c0]
  .unfold rR;rw[dG Te,dG Te,dG Te,dG Te,dG Te,dG Te]
 .by_cases c1:b0<192
  .refine wW ?_ ?_;.unfold decodeN;rw[dG c0,dG (λq=>Te),dG (λq=>Te),dG (λq=>Te)]
   .unfold rR;rw[dG Te,dG Te,dG Te,dH Te]
  .by_cases c2:b0<224
   .have a:b0/32=6:=Te
    have b:rR n b0 b1 b2 b3=if n<2 then none else if(b1:Int)<128\/191<(b1:Int)then none else
      if 64*((b0:Int)-192)+b1-128<128\/1114111<64*((b0:Int)-192)+b1-128\/(55296<=64*((b0:Int)-192)+b1-128/\64*((b0:Int)-192)+b1-128<=57343)then none else some 2:=by
     unfold rR;rw[dG Te,dG Te,dH Te]
    by_cases g:1<n/\b1/64=2
    .by_cases q:b0%32*64+b1%64>=128
     .refine FR (c:=b0%32*64+b1%64) (k:=2) ?_ ?_ Te;.unfold decodeN;rw[dG c0,dH ⟨a,g⟩,dH q]
      grind
     .refine wW ?_ ?_;.unfold decodeN;rw[dG c0,dH ⟨a,g⟩,dG q]
      grind
    .refine wW ?_ ?_;.unfold decodeN;rw[dG c0,dG (λq=>g q.2),dG (λq=>Te),dG (λq=>Te)]
     grind
   .by_cases c3:b0<240
    .have a:b0/16=14:=Te
     have b:rR n b0 b1 b2 b3=if n<3 then none else if(b1:Int)<128\/191<(b1:Int)then none else if(b2:Int)<128\/191<(b2:Int)then none else
       if 64*(64*((b0:Int)-224)+b1-128)+b2-128<2048\/1114111<64*(64*((b0:Int)-224)+b1-128)+b2-128\/(55296<=64*(64*((b0:Int)-224)+b1-128)+b2-128/\64*(64*((b0:Int)-224)+b1-128)+b2-128<=57343)then none else some 3:=by
      unfold rR;rw[dG Te,dH Te]
     by_cases g:(1<n/\b1/64=2)/\(2<n/\b2/64=2);.obtain⟨⟨d,e⟩,f,h⟩:=g;have i:decodeN n b0 b1 b2 b3=if b0%16*4096+b1%64*64+b2%64>=2048/\(b0%16*4096+b1%64*64+b2%64<55296\/(57344<=b0%16*4096+b1%64*64+b2%64/\b0%16*4096+b1%64*64+b2%64<=1114111))then(b0%16*4096+b1%64*64+b2%64,3)else(65533,1):=(by unfold decodeN;rw[dG c0,dG (λq=>Te),dH ⟨a,⟨d,e⟩,f,h⟩]);grind
     .refine wW ?_ ?_;.unfold decodeN;rw[dG c0,dG (λq=>Te),dG (λq=>g q.2),dG (λq=>Te)]
      grind
    .have b:rR n b0 b1 b2 b3=if n<4 then none else if(b1:Int)<128\/191<(b1:Int)then none else if(b2:Int)<128\/191<(b2:Int)then none else if(b3:Int)<128\/191<(b3:Int)then none else
       if 64*(64*(64*((b0:Int)-240)+b1-128)+b2-128)+b3-128<65536\/1114111<64*(64*(64*((b0:Int)-240)+b1-128)+b2-128)+b3-128\/(55296<=64*(64*(64*((b0:Int)-240)+b1-128)+b2-128)+b3-128/\64*(64*(64*((b0:Int)-240)+b1-128)+b2-128)+b3-128<=57343)then none else some 4:=by
      unfold rR;rw[dH Te]
     by_cases g:b0/8=30/\(1<n/\b1/64=2)/\(2<n/\b2/64=2)/\(3<n/\b3/64=2);.have i:decodeN n b0 b1 b2 b3=if b0%8*262144+b1%64*4096+b2%64*64+b3%64>=65536/\(b0%8*262144+b1%64*4096+b2%64*64+b3%64<55296\/(57344<=b0%8*262144+b1%64*4096+b2%64*64+b3%64/\b0%8*262144+b1%64*4096+b2%64*64+b3%64<=1114111))then(b0%8*262144+b1%64*4096+b2%64*64+b3%64,4)else(65533,1):=(by unfold decodeN;rw[dG c0,dG (λq=>Te),dG (λq=>Te),dH g]);grind
     .refine wW ?_ ?_;.unfold decodeN;rw[dG c0,dG (λq=>Te),dG (λq=>Te),dG g]
      .rw[b];by_cases q:n<4;.rw[dH q]
       .rw[dG q];by_cases q1:(b1:Int)<128\/191<(b1:Int);.rw[dH q1]
        .rw[dG q1];by_cases q2:(b2:Int)<128\/191<(b2:Int);.rw[dH q2]
         .rw[dG q2];by_cases q3:(b3:Int)<128\/191<(b3:Int);.rw[dH q3]
          .rw[dG q3,dH Te]
def zI:∀(f:Nat) (s:au),s.size<=f->BX f s=validD s.data.toList
 |0,s,h=>by
  have e:s.data.toList= []:=br (by rw[da];exact Nat.le_zero.1 h);rw[e]
  rfl
 |f+1,s,h=>by
  unfold BX;by_cases h0:s.size=0;.rw[dH h0];have e:s.data.toList= []:=br (by rw[da];exact h0);rw[e];rfl
  .rw[dG h0];have a:s.data.toList.length=s.size:=Tk;have b:s.data.toList≠ []:=λe=>by grind
   rw[validD_step _ b,QP,sP,sP,sP,sP,decodeL_N,a];rw[Jr s.size _ _ _ _ Te (UInt8.toNat_lt _) (UInt8.toNat_lt _) (UInt8.toNat_lt _) (UInt8.toNat_lt _)];have c:=decodeL_width s.data.toList;rw[decodeL_N,a]at c;generalize decodeN s.size (s.data.toList.getD 0 0).toNat (s.data.toList.getD 1 0).toNat (s.data.toList.getD 2 0).toNat (s.data.toList.getD 3 0).toNat=D at*;by_cases hD:D.1=65533/\D.2=1;.rw[dH hD,dH hD]
   .rw[dG hD,dG hD];show BX f (s.extract D.2 s.size)=_;rw[zI f _ (by rw[aU];omega)];congr 1;rw[cT,Array.toList_extract];simp[List.extract];rw[ck (by grind)]
def Hl (s:au):Qx s=validD s.data.toList:=zI s.size s (aD _)
end
section
open Tq
def M7 (w:aw)(v:Value)(ns:ar)(t:Int)(b:w.ownsRow 0 3 1 v ns.length (gA ns))(E:ns.length<=1073741824):
  Calls prog 322 #[v,aa t] w λe w'=>(∃r:Int,e= .returned (aa r)/\decide (0<=r)=decide (t∈ns))/\w'=w:=by
 obtain⟨a,c,rfl⟩:=ig b
 have f:Hid (∀(i:Nat) (x:Int),ns[i]?=some x->∃g,a=some (ai g 0)/\w.cell? (ai g i)=some (aa x)):=λi x d=>by
  have D:=gl d;obtain⟨g,rfl,_,z,p⟩:=dV b Te;exact⟨g,rfl,p w rfl i _ (by unfold gA;rw[aT,d];rfl)⟩
 clear b;go_in
 go_wp2;go_loopw [8] (λm wr=>∃(i:Nat),i<=ns.length/\m=aa i/\Hid (∀(k:Nat) (x:Int),ns[k]?=some x->k<i->x≠t)/\wr=w) (λm _=>((ns.length:Int)-(intOf m)).toNat)
 case atStart=>exact⟨0,aM _,rfl,(λk x _ h=>Te),rfl⟩
 case round=>
  obtain⟨i,A,rfl,n,rfl⟩:=hrel;by_cases hlt:i<ns.length
  .have⟨x,d⟩:=gx hlt;obtain⟨g,rfl,u⟩:=f.o i x d;have o:Hid (ns[i]?=some x):=d;have B:IntKind.i64.wrap ((i:Int)+1)=(i:Int)+1:=by rw[IntKind.wrap_i64];omega
   by_cases hxt:t=x;.subst hxt;clear d f;go_wp2;go_ret;refine⟨⟨i,rfl,?_⟩,rfl⟩;have:t∈ns:=aO o.o;simp[this]
   .have C:(t==x)=false:=by simpa using hxt
    have q:Hid (t≠x):=hxt;clear d f hxt;go_wp2;go_roundw
    case rel=>exact⟨i+1,Te,rfl,(λk y l j=>by
     by_cases e:k=i;.subst e;rw[o.o]at l;obtain rfl:=Option.some.inj l;exact λe=>q.o e.sy
     .exact n.o k y l Te),trivial⟩
    case measure=>simp[intOf];omega
  .obtain rfl:i=ns.length:=Te;clear f;go_wp2;go_ret;refine⟨⟨-1,rfl,?_⟩,rfl⟩
   have:t∉ns:=λh=>by
    have⟨k,j⟩:=bY.1 h;have s:=gl j;exact n.o k t j s rfl
   simp[this]
def Ew (w:aw)(v:Value)(ns:ar)(t:Int)(a:w.ownsRow 0 3 1 v ns.length (gA ns))(c:ns.length<=1073741824):
  Calls prog 238 #[v,aa t] w λe w'=>e= .returned (.bool (decide (t∈ns)))/\w'=w:=by
 have b:=M7 w v ns t a c;generalize decide (t∈ns)=q at b⊢;go_in
 go_wp2_with fail;refine b.V ?_;rintro e w' ⟨⟨r,rfl,rfl⟩,rfl⟩;go_wp2;go_ret;exact⟨rfl,rfl⟩
def xz (nb:Nat):Value:= .func (.func 264) #[] #[ag nb]
def JH (w:aw)(nb:Nat)(nv:Value)(ns:ar)(x:gw)(i:dP w nb #[nv] 35)(b:w.ownsRow 0 3 1 nv ns.length (gA ns))(j:ns.length<=1073741824):
  Calls prog 264 #[.agg #[aa x.1,x.2.1,x.2.2.1,x.2.2.2],ag nb] w λe w'=>e= .returned (.bool (decide (x.1∈ns)))/\aj w w':=by
 have h:=i.alloc (ak #[aa x.1,x.2.1,x.2.2.1,x.2.2.2] 249);have g:=b.alloc (ak #[aa x.1,x.2.1,x.2.2.1,x.2.2.2] 249);have d:=Ew _ nv ns x.1 g j;have⟨k,l⟩:=h.I;obtain⟨a,n,c,rfl⟩:=dO b;have f:aj w (w.S6 #[aa x.1,x.2.1,x.2.2.1,x.2.2.2] 249):=(Tb w).alloc (aD _) _;generalize decide (x.1∈ns)=q at d⊢;go_in
 go_wp2_with fail;refine d.V ?_;rintro e w' ⟨rfl,rfl⟩;go_wp2;go_ret;exact⟨rfl,f⟩
end
end Go.Proofs.YtfebdimolnobaaaGreatDoor
