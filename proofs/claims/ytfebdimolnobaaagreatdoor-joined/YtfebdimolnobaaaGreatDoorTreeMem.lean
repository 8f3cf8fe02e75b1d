import Derived.Test.YtfebdimolnobaaaGreatDoorAl
import Derived.Deep.Draws
import Derived.Maps.OwnSet
import Derived.Maps.OwnOps
import Derived.Shelf.Pu.ParseUintPublic10
set_option maxRecDepth 100000
set_option maxHeartbeats 8000000
set_option linter.all false
namespace Go.Proofs.YtfebdimolnobaaaGreatDoor
open Go.RowKit Go.Proofs.Tryz
section
variable {w w':an} {base k n:Nat} {T:TypeId} {v:Value} {xs:aq} {S S':ap} {b:dQ} {a:aw}
def El (x:W×W):aq:=wA x.1++wA x.2
def eD (w:an)(S:ap)(T:TypeId)(k:Nat)(v:Value)(n:Nat)(xs:aq):Prop:=
 w.ownsRow 0 T k v n xs/\∀b,v.ownBlock=some b->S b
theorem d6 (h:w.ownsRow base T k v n xs)(hk:∀b,v.ownBlock=some b->w'.heap[b]?=w.heap[b]?):w'.ownsRow base T k v n xs:=by
 refine⟨h.1,?_⟩
 rcases h.2 with h2|⟨g,cap,Uq,rfl,h3,h4,h5⟩
 ·exact .inl h2
 ·exact .inr ⟨g,cap,Uq,rfl,h3,(hk g rfl).trans h4,h5⟩
theorem eD.keep (h:eD w S T k v n xs)(hk:∀b,S b->b<w.heap.size->w'.heap[b]?=w.heap[b]?):eD w' S T k v n xs:=
 ⟨d6 h.1 λb hb=>hk b (h.2 b hb) (h.1.lt b hb).2,h.2⟩
theorem eD.mono (h:eD w S T k v n xs)(hs:∀b,S b->b<w.heap.size->S' b):eD w S' T k v n xs:=
 ⟨h.1,λb hb=>hs b (h.2 b hb) (h.1.lt b hb).2⟩
theorem eD.of (h:w.ownsRow base T k v n xs):eD w (λb=>base<=b) T k v n xs:=
 ⟨ou h (aL _),λb hb=>(h.lt b hb).1⟩
def ft (w:an)(S:ap):aq->List fo->Prop
 |cs,[]=>cs= []
 |cs,p::ps=>∃fa fn fc rest,cs=aa (lW p.oneof)::ae (jg p.oneof)::aa (mW p.oneof):: .slice fa fn fc::rest/\
   eD w S 211 13 (.slice fa fn fc) p.fields.length (p.fields.flatMap rL)/\ft w S rest ps
theorem ft.keep (hk:∀b,S b->b<w.heap.size->w'.heap[b]?=w.heap[b]?):∀{ps:List fo} {cs:aq},ft w S cs ps->ft w' S cs ps
 | [],_,h=>h
 |_::_,_,⟨fa,fn,fc,rest,h1,h2,h3⟩=>⟨fa,fn,fc,rest,h1,h2.keep hk,ft.keep hk h3⟩
theorem ft.mono (hs:∀b,S b->b<w.heap.size->S' b):∀{ps:List fo} {cs:aq},ft w S cs ps->ft w S' cs ps
 | [],_,h=>h
 |_::_,_,⟨fa,fn,fc,rest,h1,h2,h3⟩=>⟨fa,fn,fc,rest,h1,h2.mono hs,ft.mono hs h3⟩
theorem ft.snoc {p:fo}{fa:aw}{fn fc:Nat}(h2:eD w S 211 13 (.slice fa fn fc) p.fields.length (p.fields.flatMap rL)):∀{ps:List fo} {cs:aq},ft w S cs ps->
   ft w S (cs++ [aa (lW p.oneof),ae (jg p.oneof),aa (mW p.oneof),.slice fa fn fc]) (ps++ [p])
 | [],cs,h=>by
  obtain rfl:cs= []:=h;exact⟨fa,fn,fc,[],rfl,h2,rfl⟩
 |_::_,cs,⟨ga,gn,gc,rest,h1,h3,h4⟩=>by
  subst h1;exact⟨ga,gn,gc,_,rfl,h3,ft.snoc h2 h4⟩
def jD (w:an)(S:ap)(b:dQ)(pv vv:Value):Prop:=
 ∃pcs,eD w S 208 4 pv b.parts.length pcs/\ft w S pcs b.parts/\eD w S 302 6 vv b.values.length (b.values.flatMap El)
theorem jD.keep {pv vv:Value}(hk:∀b,S b->b<w.heap.size->w'.heap[b]?=w.heap[b]?):jD w S b pv vv->jD w' S b pv vv
 |⟨pcs,h1,h2,h3⟩=>⟨pcs,h1.keep hk,h2.keep hk,h3.keep hk⟩
theorem jD.mono {pv vv:Value}(hs:∀b,S b->b<w.heap.size->S' b):jD w S b pv vv->jD w S' b pv vv
 |⟨pcs,h1,h2,h3⟩=>⟨pcs,h1.mono hs,h2.mono hs,h3.mono hs⟩
def eQ (w:an)(S:ap):aq->List dQ->Prop
 |cs,[]=>cs= []
 |cs,b::bs=>∃pa pn pc va vn vc rest,cs= .bool b.enum::aa (dJ b.name.1)::ae b.name.1::aa b.name.2:: .slice pa pn pc:: .slice va vn vc::rest/\
   jD w S b (.slice pa pn pc) (.slice va vn vc)/\eQ w S rest bs
theorem eQ.keep (hk:∀b,S b->b<w.heap.size->w'.heap[b]?=w.heap[b]?):∀{bs:List dQ} {cs:aq},eQ w S cs bs->eQ w' S cs bs
 | [],_,h=>h
 |_::_,_,⟨pa,pn,pc,va,vn,vc,rest,h1,h2,h3⟩=>⟨pa,pn,pc,va,vn,vc,rest,h1,h2.keep hk,eQ.keep hk h3⟩
theorem eQ.mono (hs:∀b,S b->b<w.heap.size->S' b):∀{bs:List dQ} {cs:aq},eQ w S cs bs->eQ w S' cs bs
 | [],_,h=>h
 |_::_,_,⟨pa,pn,pc,va,vn,vc,rest,h1,h2,h3⟩=>⟨pa,pn,pc,va,vn,vc,rest,h1,h2.mono hs,eQ.mono hs h3⟩
theorem eQ.snoc {pa va:aw}{pn pc vn vc:Nat}(h2:jD w S b (.slice pa pn pc) (.slice va vn vc)):∀{bs:List dQ} {cs:aq},eQ w S cs bs->
   eQ w S (cs++ [.bool b.enum,aa (dJ b.name.1),ae b.name.1,aa b.name.2,.slice pa pn pc,.slice va vn vc]) (bs++ [b])
 | [],cs,h=>by
  obtain rfl:cs= []:=h;exact⟨pa,pn,pc,va,vn,vc,[],rfl,h2,rfl⟩
 |_::_,cs,⟨qa,qn,qc,ra,rn,rc,rest,h1,h3,h4⟩=>by
  subst h1;exact⟨qa,qn,qc,ra,rn,rc,_,rfl,h3,eQ.snoc h2 h4⟩
def ph (w:an)(b:dQ)(w':an)(e:Ending):Prop:=
 ∃pa pn pc va vn vc,e= .returned (.agg #[.bool b.enum,aa (dJ b.name.1),ae b.name.1,aa b.name.2,.slice pa pn pc,.slice va vn vc])/\
  jD w' (λx=>w.heap.size<=x) b (.slice pa pn pc) (.slice va vn vc)
def MM (w:an)(bs:List dQ)(w':an)(e:Ending):Prop:=
 ∃a n c cs,e= .returned (.agg #[.slice a n c])/\eD w' (λx=>w.heap.size<=x) 152 6 (.slice a n c) bs.length cs/\eQ w' (λx=>w.heap.size<=x) cs bs
theorem Tryz.info302:(prog.info? 302).map (λi=>(i.zero,i.size,i.bytes))=some (some (.agg #[aa 0,T9,aa 0,aa 0,T9,aa 0]),6,64):=Uj
theorem Tryz.info208:(prog.info? 208).map (λi=>(i.zero,i.size,i.bytes))=some (some (.agg #[aa 0,T9,aa 0,ah]),4,56):=Uj
theorem Tryz.info152:(prog.info? 152).map (λi=>(i.zero,i.size,i.bytes))=some (some (.agg #[.bool false,aa 0,T9,aa 0,ah,ah]),6,88):=Uj
theorem eK {m:Nat}{c:Nat}(h:w.ownsRow base T k (.slice a n c) m xs):n=m:=by
 rcases h.2 with⟨h1,h2⟩|⟨g,cap,Uq,h1,h2⟩
 ·cases h1;exact h2.symm
 ·cases h1;rfl
theorem iD {m:Nat}(h:w.ownsRow base T k v m xs):∃a c,v= .slice a m c:=by
 obtain⟨a,n,c,rfl⟩:=dN h;rw[eK h];exact⟨a,c,rfl⟩
theorem el {m:Nat}{c:Nat}(h:w.ownsRow base T k (.slice a n c) m xs)(hm:0<m):
  ∃g,a=some (ai g 0)/\base<=g/\g<w.heap.size/\∀w':an,w'.heap[g]?=w.heap[g]?->∀j u,xs[j]?=some u->w'.cell? (ai g j)=some u:=by
 rcases h.2 with⟨h1,h2⟩|⟨g,cap,Uq,h1,h2,h3,h4,h5,h6,h7⟩
 ·omega
 ·cases h1
  refine⟨g,rfl,h2,dM.lt h3,λw' hw j u hj=> ?_⟩;have hb:dM w' g Uq T:=hw.trans h3;rw[hb.cell];rw[<-h7,List.getElem?_take]at hj
  split at hj
  ·rw[<-bz];exact hj
  ·simp at hj
def fF (l:ar):aq:=l.map Value.string
theorem ie {a b:an}(h:Below n a b)(k:Nat):Below n a (b.drewN k):=h.trans ⟨rfl,rfl,rfl,ay _,λ_ _=>rfl⟩
theorem Tryz.info9:(prog.info? 9).map (λi=>(i.zero,i.size,i.bytes))=some (some (T9),1,16):=Uj
theorem fP {α:Type}(f:α->aq)(k:Nat)(hk:∀x,(f x).length=k):∀(l:List α) (i:Nat) (x:α),l[i]?=some x->∀j,j<k->(l.flatMap f)[i*k+j]?=(f x)[j]?
 | [],i,x,h,j,hj=>by simp at h
 |y::l,0,x,h,j,hj=>by
  simp at h;subst h;rw[bi,Nat.zero_mul,Nat.zero_add,cp (by rw[hk];exact hj)]
 |y::l,i+1,x,h,j,hj=>by
  rw[bi,cg (by rw[hk,Nat.succ_mul];omega),hk];have:=fP f k hk l i x (by simpa using h) j hj;rw[<-this]
  congr 1;rw[Nat.succ_mul];omega
def gM (k:Int)(s:am):Bool:=k==3&&(!(s.toList== [102,108,111,97,116])&&(!(s.toList== [100,111,117,98,108,101])&& !(s.toList== [98,121,116,101,115])))
end
section
attribute [local go_sem] jo jp jq
open Uq
def gX (w:an){c:Nat}(b:Nat)(hne:c≠b):∀(vs:aq) (o:Nat),(w.setCells c o vs).heap[b]?=w.heap[b]?
 | [],o=>rfl
 |v::vs,o=>by
  have:=gX (w.setCell (ai c o) v) b hne vs (o+1);rw[dK,dD hne]at this;simpa [World.setCells]using this
def ft.appended {w w5:an}{v:Value}{gg H b1 off:Nat}{u:Value}{cs:aq}{ps:List fo}(hg:w.grownBy w5 v.ownBlock)(UH:v.ownBlock=some gg\/gg=H)(hH:w.heap.size=H)
  (h:ft w (λb=>b1<b/\some b≠v.ownBlock) cs ps) {cap n:Nat}:ft (w5.setCell (ai b1 off) u) (λb=>b1<b/\some b≠(Value.slice (some (ai gg 0)) n cap).ownBlock) cs ps:=by
 have h2:ft w (λb=>b1<b/\some b≠v.ownBlock/\some b≠some gg) cs ps:=h.mono λb hb UD=>⟨hb.1,hb.2,λe=>by
  grind⟩
 have h3:ft (w5.setCell (ai b1 off) u) (λb=>b1<b/\some b≠v.ownBlock/\some b≠some gg) cs ps:=ft.keep (w:=w) (λb hb UD=>by
  rw[dK,dD Ue]
  exact hg.block b UD hb.2.1) h2
 exact h3.mono λb hb _=>⟨hb.1,hb.2.2⟩
def Ty (w:an)(rb wb:Nat)(ws:List W)(i:Nat)(R:Rd w rb wb ws i):
  Calls prog 177 #[ag rb] w (qG w rb wb ws (gJ ws i) (ph w)):=by
 have⟨i0,UK,UL,UM,UN⟩:=info_parts Tryz.info208;have A0:iR w.heap.size rb w (w.alloc (ak #[.bool false,aa 0,T9,aa 0,ah,ah] 152)) i:=iR.of_below R.next (Ud w _);have R0:=R.alloc (ak #[.bool false,aa 0,T9,aa 0,ah,ah] 152);have K0:=dM.new w #[.bool false,aa 0,T9,aa 0,ah,ah] 152;have n1:¬w.heap.size=rb:=by have:=R.blocks;omega
 have n3:¬rb=w.heap.size:=Ue;have z0:w.heap.size<(w.alloc (ak #[.bool false,aa 0,T9,aa 0,ah,ah] 152)).heap.size:=Uf;generalize hr:gJ ws i=r;have HR:Hid (gJ ws i=r):=hr;clear hr;go_in
 go_wp2_with fail;refine(Ep _ rb wb ws i _ [109,101,115,115,97,103,101] R0 Ui Uh).mono ?_
 cases h1:fV ws [109,101,115,115,97,103,101] i with
 |error p=>
  rintro e w1 ⟨rfl,j,A⟩;obtain rfl:r= .error p:=by rw[<-HR.out,gJ,fO h1]
  unfold dL;go_wp2;exact⟨rfl,rfl,j,A0.trans A Ue⟩
 |ok q=>
  obtain⟨_,i1⟩:=q;rintro e w1 ⟨rfl,R1,A⟩;have z1:w.heap.size<w1.heap.size:=aD z0 A.size;have K1:=K0.adv_ A z0 n1;have A1:=A0.trans A Ue;clear A R0 K0 A0 z0;go_wp2_with fail;refine(QV _ rb wb ws i1 1 R1 Uh).mono ?_
  cases h2:jV ws 1 i1 with
  |error p=>
   rintro e w2 ⟨rfl,j,A⟩;obtain rfl:r= .error p:=by rw[<-HR.out,gJ,ei h1,fO h2]
   unfold dL;go_wp2;exact⟨rfl,rfl,j,A1.trans A Ue⟩
  |ok q=>
   obtain⟨x,i2⟩:=q;rintro e w2 ⟨rfl,R2,A⟩;have z2:w.heap.size<w2.heap.size:=aD z1 A.size;have K2:=(K1.adv_ A z1 n1).alloc (ak #[.bool false,aa (dJ x.1),ae x.1,aa x.2,ah,ah] 152);have J2:=dM.new w2 #[.bool false,aa (dJ x.1),ae x.1,aa x.2,ah,ah] 152;have A2:=(A1.trans A Ue).alloc (ay _) (ak #[.bool false,aa (dJ x.1),ae x.1,aa x.2,ah,ah] 152);have R3:=R2.alloc (ak #[.bool false,aa (dJ x.1),ae x.1,aa x.2,ah,ah] 152);have z3:w2.heap.size<(w2.alloc (ak #[.bool false,aa (dJ x.1),ae x.1,aa x.2,ah,ah] 152)).heap.size:=Uf;have n5:¬w2.heap.size=rb:=by have:=R.blocks;omega
   have n6:¬w2.heap.size=w.heap.size:=Ue;have n7:rb<w2.heap.size:=by have:=R.blocks;omega
   clear A R1 K1 A1 z1;go_wp2_with fail;refine(Ep _ rb wb ws i2 _ [123] R3 Ui Uh).mono ?_
   cases h3:fV ws [123] i2 with
   |error p=>
    rintro e w3 ⟨rfl,j,A⟩;obtain rfl:r= .error p:=by rw[<-HR.out,gJ,ei h1,ei h2,fO h3]
    unfold dL;go_wp2;exact⟨rfl,rfl,j,A2.trans A Ue⟩
   |ok q=>
    obtain⟨_,i3⟩:=q;rintro e w3 ⟨rfl,R4,A⟩;have z4:w2.heap.size<w3.heap.size:=aD z3 A.size;have K4:=K2.adv_ A Ue n1;have J4:=J2.adv_ A z3 n5;have A4:=A2.trans A Ue;clear A R2 R3 K2 J2 A2 z3;obtain⟨M,HM⟩:∃M,Hid (gk (fR ws [125]) (jN ws) ws.length i3=M):=⟨_,rfl⟩
    have UF:Hid ((gu M λl i=>gu (fV ws [125] i) λ_ i=> .ok (⟨false,x,l,[]⟩,i))=r):=by
     have:=HR.out;rw[gJ,ei h1,ei h2,ei h3,HM.out]at this;exact this
    clear HR h1 h2 h3;go_wp2;go_loopw [13] (λ_ wr=>∃(n k:Nat) (ps:List fo) (pa:aw) (pn pc:Nat) (Ut:aq),ps.length<=k/\ws.length-k<=n/\Hid (mP ps (gk (fR ws [125]) (jN ws) n k)=M)/\Rd wr rb wb ws k/\iR w.heap.size rb w wr k/\dM wr w.heap.size #[.bool false,aa 0,T9,aa 0,ah,ah] 152/\dM wr w2.heap.size #[.bool false,aa (dJ x.1),ae x.1,aa x.2,.slice pa pn pc,ah] 152/\wr.ownsRow (w2.heap.size+1) 208 4 (.slice pa pn pc) ps.length Ut/\ft wr (λb=>w2.heap.size<b/\some b≠(Value.slice pa pn pc).ownBlock) Ut ps/\w2.heap.size<wr.heap.size) (λ_ wr=>ws.length-iS rb wr)
    case atStart=>
     refine⟨ws.length,i3,[],none,0,0,[],Uf,Ue,?_,R4,A4,K4,J4,bm _ _ _ _,rfl,z4⟩;rw[<-HM.out];unfold Hid mP gu
     cases gk (fR ws [125]) (jN ws) ws.length i3<;>rfl
    case round=>
     clear J4 R4 K4 A4 z4 HM;obtain⟨n,k,ps,pa,pn,pc,Ut,hfl,hn,HP,RR,AA,KK,J,Uu,UA,hz⟩:=hrel;have hk:=RR.lt;have hfew:=RR.few;have HN:Hid (iS rb wr=k):=RR.nextOf;have⟨y,hy⟩:=RR.word
     cases hs:(y.1.toList== [125])
     ·have Uz:fR ws [125] k=false:=by unfold fR;grind
      have HY:Hid (ws[k]?=some y):=hy;clear hy;go_wp2_with fail;refine(My _ rb wb ws k y _ RR HY.out).mono ?_;rintro e w3 ⟨rfl,Us⟩;rw[show(ByteArray.mk #[125]).toList= [125]from by decide+kernel];have R3:=RR.below Us RR.blocks.1 RR.blocks.2;have A3:=AA.below Us AA.size;have K3:=KK.below Us KK.lt;have J3:=J.below Us J.lt;have Uq:w3.ownsRow (w2.heap.size+1) 208 4 (.slice pa pn pc) ps.length Ut:=eH Us Uu;have Uv:=UA.keep (λb _ hb=>Us.block b hb);have UG:w2.heap.size<w3.heap.size:=aD hz Us.size
      have HO:Hid (some w2.heap.size≠(Value.slice pa pn pc).ownBlock):=by
       intro e;have:=(Uq.lt _ e.symm).1;omega
      clear RR AA KK J Uu UA hz Us;go_wp2_with fail;have j3:=J3.cell 4
      cases h4:jN ws k with
      |error p=>
       obtain rfl:r= .error p:=by
        rw[<-UF.out,<-HP.out,p9 Uz Ue h4];rfl
       refine wp_region_held_drew (S:=λw'=>w'.cell? (ai w2.heap.size 4)=some (.slice pa pn pc)) Uk (by simpa using j3) (λhHeld=> ?_);refine gL 0 (.pointer (some (ai w2.heap.size 4))) rfl Uj (λ_ _ _ h=>h) (Or.inl ⟨Uk,λw UE=>Uk⟩) hHeld ?_;refine gL 1 (.slice pa pn pc) rfl Uj (λ_ _ _ h=>h) (Or.inl ⟨Uk,λw UE=>by dsimp only at UE;go_simp⟩) hHeld ?_;refine gL 2 (ag rb) rfl Uj (λ_ _ _ h=>h) (Or.inl ⟨Uk,λw UE=>Uk⟩) hHeld ?_;simp only[Act.put,T8];refine wpAnyH_ready (rs:= [3]) Uj Uf (AllReadyH.cons rfl (λK hK=> ?_) AllReadyH.nil);clear hK;go_simp;refine(Td _ rb wb ws k R3.drew).mono ?_;rw[h4];rintro e w4 ⟨rfl,j,A⟩;exact⟨rfl,rfl,j,A3.drew.trans A (by have:=A3.size;simp;omega)⟩
      |ok q=>
       obtain⟨p,k1⟩:=q;have hk1:k<k1:=Cw _ _ _ _ h4
       have UI:Hid (mP (ps++ [p]) (gk (fR ws [125]) (jN ws) (n-1) k1)=M):=by
        rw[<-HP.out,rQ ps Uz Ue h4];rfl
       have J:=J3;have RR:=R3;go_region_law (first|(refine step_append_lies _ Uk _ _ _ Uk (w2.heap.size+1) 208 i0 _ 4 56 underlying149 UK UL UM UN rfl Ue (.slice pa pn pc) ps.length Ut Uk ((js A (ay _) Ue (ot Uq)).alloc _) (ai w4.heap.size 0) 1 1 [_,_,_,_] Uk Uk (br (t:=208) (fr:=(0,0)) (heap_alloc_new w4 _)) Um Ue Ul Ue (by have:=A.size;simp at this⊢;omega) (w4.heap.size+1) Uf ?_;intro gg cap w5 Ux Ur UH UD;have⟨x1,x2⟩:=(((J.drew.adv_ A Ug n5).alloc _).grown Ur HO.out).rules)|(go_simp;go_at_call 259;refine(Td _ rb wb ws k RR.drew).mono ?_;rw[h4];rintro e w4 ⟨⟨fa,fn,fc,rfl,Uy⟩,R5,A⟩;have⟨y1,y2⟩:=(J.drew.adv_ A Ug n5).rules;have⟨y3,y4,y5,y6⟩:=gA (w:=w4) (b:=w2.heap.size) (by have:=A.size;simp at this;omega)))
       all_goals
        go_wp2;go_roundw
        case rel=>
         go_light;have hz4:w3.heap.size<=w4.heap.size:=by have:=A.size;simpa using this
         have UJ:=Ur.size;have A6:=((((A3.drew.trans A (by have:=A3.size;simp;omega)).alloc (ay _) _).grown Ur (ay _) (λj hj=>by have:=(Uq.lt j hj).1;omega))).setCell (a:=(ai w2.heap.size 4)) (by grind) (Ub gg (ps.length+1) cap);refine⟨n-1,k1,ps++ [p],some (ai gg 0),ps.length+1,cap,Ut++ [aa (lW p.oneof),ae (jg p.oneof),aa (mW p.oneof),.slice fa fn fc],by grind,Ue,UI,A6.rd R R.blocks.1 R.blocks.2 R5.lt,A6,?_,?_,?_,?_,?_⟩;rotate_left 2
         ·have:=ownsRow_setCell_below Ux (a:=(ai w2.heap.size 4)) Uf (Ub gg (ps.length+1) cap)
          grind
         rotate_left 2
         ·exact(((K3.drew.adv_ A Ug n1).alloc _).grown Ur (λe=>by have:=(Uq.lt _ e.symm).1;omega)).other 4 _ n6
         ·exact(((J3.drew.adv_ A Ug n5).alloc _).grown Ur HO.out).set 4 _
         ·refine ft.appended Ur UH Uf ?_;refine ft.snoc ?_ ?_
          ·refine((eD.of (Uy.alloc _)).mono λb hb UB=>⟨aD UG (by simpa using hb),λe=> ?_⟩);have:=(Uq.lt b e.symm).2;have:w3.heap.size<=b:=by simpa using hb
           omega
          ·refine ft.keep (w:=w3) (λb hb UB=> ?_) Uv;rw[Below.heap_alloc _ _ _ Ue,Below.block A b (by simpa using UB),Cn,dK,dD Ue];rfl
         ·simp[World.setCell]at UJ⊢;omega
        case measure=>
         go_light;have A6:=((((A3.drew.trans A (by have:=A3.size;simp;omega)).alloc (ay _) _).grown Ur (ay _) (λj hj=>by have:=(Uq.lt j hj).1;omega))).setCell (a:=(ai w2.heap.size 4)) (by grind) (Ub gg (ps.length+1) cap);have R6:=A6.rd R R.blocks.1 R.blocks.2 R5.lt;have h6:=R6.lt;rw[R6.nextOf,HN.out];omega
     ·have Uz:fR ws [125] k=true:=by unfold fR;grind
      have h5:fV ws [125] k= .ok ((),k+1):=by unfold fV;grind
      have HY:Hid (ws[k]?=some y):=hy;clear hy
      obtain rfl:r= .ok (⟨false,x,ps,[]⟩,k+1):=by
       rw[<-UF.out,<-HP.out,oq Uz];simp only[mP,gu,h5,bN]
      go_wp2_with fail;refine(My _ rb wb ws k y _ RR HY.out).mono ?_;rintro e w3 ⟨rfl,Us⟩;rw[show(ByteArray.mk #[125]).toList= [125]from by decide+kernel];have R3:=RR.below Us RR.blocks.1 RR.blocks.2;have A3:=AA.below Us AA.size;have K3:=KK.below Us KK.lt;have J3:=J.below Us J.lt;have Uq:w3.ownsRow (w2.heap.size+1) 208 4 (.slice pa pn pc) ps.length Ut:=eH Us Uu;have Uv:=UA.keep (λb _ hb=>Us.block b hb);have UG:w2.heap.size<w3.heap.size:=aD hz Us.size;clear RR AA KK J Uu UA hz Us;go_wp2_with fail;refine(Ep _ rb wb ws k _ [125] R3 Ui Uh).mono ?_;rw[h5];rintro e w4 ⟨rfl,R4,A⟩;have K4:=K3.adv_ A Ue n1;have J4:=J3.adv_ A Ue n5;have A4:=A3.trans A A3.size;have Uw:w4.ownsRow (w2.heap.size+1) 208 4 (.slice pa pn pc) ps.length Ut:=js A (ay _) Ue Uq
      have UC:ft w4 (λb=>w2.heap.size<b/\some b≠(Value.slice pa pn pc).ownBlock) Ut ps:=ft.keep (w:=w3) (λb hb UB=>by
       rw[Below.block A b UB,Cn,dK,dD Ue]) Uv
      have⟨k1,k2⟩:=K4.rules;have⟨j1,j2⟩:=J4.rules;go_wp2;have A9:=A4.sets (b:=w.heap.size) (ay _) [.bool false,aa (dJ x.1),ae x.1,aa x.2,.slice pa pn pc,ah] 0;have K9:=K4.sets_all [.bool false,aa (dJ x.1),ae x.1,aa x.2,.slice pa pn pc,ah] rfl;refine dG (ec results177 _ _ rfl K9 underlying152 Uk) rfl ⟨⟨pa,pn,pc,none,0,0,rfl,Ut,?_,?_,?_⟩,?_,A9⟩
      ·exact(eD.of (jC (lo:=w.heap.size) Uw (b:=w.heap.size) (Nat.lt_succ_of_lt z2) (Nat.le_succ_of_le (ck z2)) [.bool false,aa (dJ x.1),ae x.1,aa x.2,.slice pa pn pc,ah] 0))
      ·have h9:=(ft.keep (w:=w4) (w':=w4.setCells w.heap.size 0 [.bool false,aa (dJ x.1),ae x.1,aa x.2,.slice pa pn pc,ah]) (λb hb _=>gX _ _ Ue _ _) UC);exact h9.mono (λb hb _=>ck (Nat.lt_trans z2 hb.1))
      ·exact⟨bm _ _ _ _,λb hb=>by cases hb⟩
      ·exact A9.rd R R.blocks.1 R.blocks.2 R4.lt
def Tz (w:an)(rb wb:Nat)(ws:List W)(i:Nat)(R:Rd w rb wb ws i):
  Calls prog 176 #[ag rb] w (qG w rb wb ws (ld ws i) (ph w)):=by
 have⟨i0,UB,UC,UD,UE⟩:=info_parts Tryz.info302;have A0:iR w.heap.size rb w (w.alloc (ak #[.bool false,aa 0,T9,aa 0,ah,ah] 152)) i:=iR.of_below R.next (Ud w _);have R0:=R.alloc (ak #[.bool false,aa 0,T9,aa 0,ah,ah] 152);have K0:=dM.new w #[.bool false,aa 0,T9,aa 0,ah,ah] 152;have n1:¬w.heap.size=rb:=by have:=R.blocks;omega
 have n3:¬rb=w.heap.size:=Ue;have z0:w.heap.size<(w.alloc (ak #[.bool false,aa 0,T9,aa 0,ah,ah] 152)).heap.size:=Uf;generalize hr:ld ws i=r;have HR:Hid (ld ws i=r):=hr;clear hr;go_in
 go_wp2_with fail;refine(Ep _ rb wb ws i _ [101,110,117,109] R0 Ui Uh).mono ?_
 cases h1:fV ws [101,110,117,109] i with
 |error p=>
  rintro e w1 ⟨rfl,j,A⟩;obtain rfl:r= .error p:=by rw[<-HR.out,ld,fO h1]
  unfold dL;go_wp2;exact⟨rfl,rfl,j,A0.trans A Ue⟩
 |ok q=>
  obtain⟨_,i1⟩:=q;rintro e w1 ⟨rfl,R1,A⟩;have z1:w.heap.size<w1.heap.size:=aD z0 A.size;have K1:=K0.adv_ A z0 n1;have A1:=A0.trans A Ue;clear A R0 K0 A0 z0;go_wp2_with fail;refine(QV _ rb wb ws i1 1 R1 Uh).mono ?_
  cases h2:jV ws 1 i1 with
  |error p=>
   rintro e w2 ⟨rfl,j,A⟩;obtain rfl:r= .error p:=by rw[<-HR.out,ld,ei h1,fO h2]
   unfold dL;go_wp2;exact⟨rfl,rfl,j,A1.trans A Ue⟩
  |ok q=>
   obtain⟨x,i2⟩:=q;rintro e w2 ⟨rfl,R2,A⟩;have z2:w.heap.size<w2.heap.size:=aD z1 A.size;have K2:=(K1.adv_ A z1 n1).alloc (ak #[.bool true,aa (dJ x.1),ae x.1,aa x.2,ah,ah] 152);have J2:=dM.new w2 #[.bool true,aa (dJ x.1),ae x.1,aa x.2,ah,ah] 152;have A2:=(A1.trans A Ue).alloc (ay _) (ak #[.bool true,aa (dJ x.1),ae x.1,aa x.2,ah,ah] 152);have R3:=R2.alloc (ak #[.bool true,aa (dJ x.1),ae x.1,aa x.2,ah,ah] 152);have z3:w2.heap.size<(w2.alloc (ak #[.bool true,aa (dJ x.1),ae x.1,aa x.2,ah,ah] 152)).heap.size:=Uf;have n5:¬w2.heap.size=rb:=by have:=R.blocks;omega
   have n6:¬w2.heap.size=w.heap.size:=Ue;have n7:rb<w2.heap.size:=by have:=R.blocks;omega
   clear A R1 K1 A1 z1;go_wp2_with fail;refine(Ep _ rb wb ws i2 _ [123] R3 Ui Uh).mono ?_
   cases h3:fV ws [123] i2 with
   |error p=>
    rintro e w3 ⟨rfl,j,A⟩;obtain rfl:r= .error p:=by rw[<-HR.out,ld,ei h1,ei h2,fO h3]
    unfold dL;go_wp2;exact⟨rfl,rfl,j,A2.trans A Ue⟩
   |ok q=>
    obtain⟨_,i3⟩:=q;rintro e w3 ⟨rfl,R4,A⟩;have z4:w2.heap.size<w3.heap.size:=aD z3 A.size;have K4:=K2.adv_ A Ue n1;have J4:=J2.adv_ A z3 n5;have A4:=A2.trans A Ue;clear A R2 R3 K2 J2 A2 z3;obtain⟨M,HM⟩:∃M,Hid (gk (fR ws [125]) (j8 ws) ws.length i3=M):=⟨_,rfl⟩
    have Ux:Hid ((gu M λl i=>gu (fV ws [125] i) λ_ i=> .ok (⟨true,x,[],l⟩,i))=r):=by
     have:=HR.out;rw[ld,ei h1,ei h2,ei h3,HM.out]at this;exact this
    clear HR h1 h2 h3;go_wp2;go_loopw [15] (λ_ wr=>∃(n k:Nat) (vs:List (W×W)) (va:aw) (vn vc:Nat),vs.length<=k/\ws.length-k<=n/\Hid (mP vs (gk (fR ws [125]) (j8 ws) n k)=M)/\Rd wr rb wb ws k/\iR w.heap.size rb w wr k/\dM wr w.heap.size #[.bool false,aa 0,T9,aa 0,ah,ah] 152/\dM wr w2.heap.size #[.bool true,aa (dJ x.1),ae x.1,aa x.2,ah,.slice va vn vc] 152/\wr.ownsRow (w2.heap.size+1) 302 6 (.slice va vn vc) vs.length (vs.flatMap El)/\w2.heap.size<wr.heap.size) (λ_ wr=>ws.length-iS rb wr)
    case atStart=>
     refine⟨ws.length,i3,[],none,0,0,Uf,Ue,?_,R4,A4,K4,J4,bm _ _ _ _,z4⟩;rw[<-HM.out];unfold Hid mP gu
     cases gk (fR ws [125]) (j8 ws) ws.length i3<;>rfl
    case round=>
     clear J4 R4 K4 A4 z4 HM;obtain⟨n,k,vs,va,vn,vc,hfl,hn,HP,RR,AA,KK,J,Uu,hz⟩:=hrel;have hk:=RR.lt;have hfew:=RR.few;have HN:Hid (iS rb wr=k):=RR.nextOf;have⟨y,hy⟩:=RR.word
     cases hs:(y.1.toList== [125])
     ·have Uw:fR ws [125] k=false:=by unfold fR;grind
      have HY:Hid (ws[k]?=some y):=hy;clear hy;go_wp2_with fail;refine(My _ rb wb ws k y _ RR HY.out).mono ?_;rintro e w3 ⟨rfl,Us⟩;rw[show(ByteArray.mk #[125]).toList= [125]from by decide+kernel];have R3:=RR.below Us RR.blocks.1 RR.blocks.2;have A3:=AA.below Us AA.size;have K3:=KK.below Us KK.lt;have J3:=J.below Us J.lt;have Uq:w3.ownsRow (w2.heap.size+1) 302 6 (.slice va vn vc) vs.length (vs.flatMap El):=eH Us Uu;have Uy:w2.heap.size<w3.heap.size:=aD hz Us.size
      have HO:Hid (some w2.heap.size≠(Value.slice va vn vc).ownBlock):=by
       intro e;have:=(Uq.lt _ e.symm).1;omega
      clear RR AA KK J Uu hz Us;go_wp2_with fail;refine(Si _ rb wb ws k R3).mono ?_
      cases h4:j8 ws k with
      |error p=>
       rintro e w4 ⟨rfl,j,A⟩
       obtain rfl:r= .error p:=by
        rw[<-Ux.out,<-HP.out,p9 Uw Ue h4];rfl
       unfold dL;go_wp2;exact⟨rfl,rfl,j,A3.trans A A3.size⟩
      |ok q=>
       obtain⟨q,k1⟩:=q;rintro e w4 ⟨rfl,R5,A⟩;have hk1:k<k1:=vF _ _ _ _ h4
       have Uz:Hid (mP (vs++ [q]) (gk (fR ws [125]) (j8 ws) (n-1) k1)=M):=by
        rw[<-HP.out,rQ vs Uw Ue h4];rfl
       have hz4:w3.heap.size<=w4.heap.size:=A.size;have A4:=(((A3.trans A A3.size).alloc (ay _) (ak #[aa (dJ q.1.1),ae q.1.1,aa q.1.2] 148)).alloc (ay _) (ak #[aa (dJ q.2.1),ae q.2.1,aa q.2.2] 148));have K4:=((K3.adv_ A Ue n1).alloc (ak #[aa (dJ q.1.1),ae q.1.1,aa q.1.2] 148)).alloc (ak #[aa (dJ q.2.1),ae q.2.1,aa q.2.2] 148);have J4:=((J3.adv_ A Ue n5).alloc (ak #[aa (dJ q.1.1),ae q.1.1,aa q.1.2] 148)).alloc (ak #[aa (dJ q.2.1),ae q.2.1,aa q.2.2] 148);have Ut:((w4.alloc (ak #[aa (dJ q.1.1),ae q.1.1,aa q.1.2] 148)).alloc (ak #[aa (dJ q.2.1),ae q.2.1,aa q.2.2] 148)).ownsRow (w2.heap.size+1) 302 6 (.slice va vn vc) vs.length (vs.flatMap El):=((js A (ay _) Ue Uq).alloc _).alloc _
       have HW:Hid (∀j u,[aa (dJ q.1.1),ae q.1.1,aa q.1.2,aa (dJ q.2.1),ae q.2.1,aa q.2.2][j]?=some u->(((w4.alloc (ak #[aa (dJ q.1.1),ae q.1.1,aa q.1.2] 148)).alloc (ak #[aa (dJ q.2.1),ae q.2.1,aa q.2.2] 148)).alloc (ak #[aa (dJ q.1.1),ae q.1.1,aa q.1.2,aa (dJ q.2.1),ae q.2.1,aa q.2.2] 302)).cell? (((ai (w4.heap.size+1+1) 0):Addr).add j)=some u):=by
        have:=br (cs:= #[aa (dJ q.1.1),ae q.1.1,aa q.1.2,aa (dJ q.2.1),ae q.2.1,aa q.2.2]) (t:=302) (fr:=(0,0)) (heap_alloc_new ((w4.alloc (ak #[aa (dJ q.1.1),ae q.1.1,aa q.1.2] 148)).alloc (ak #[aa (dJ q.2.1),ae q.2.1,aa q.2.2] 148)) (ak #[aa (dJ q.1.1),ae q.1.1,aa q.1.2,aa (dJ q.2.1),ae q.2.1,aa q.2.2] 302));simp only[cj]at this;exact this
       have⟨j1,j2⟩:=J4.rules;have⟨m1,m2⟩:=(J4.alloc (ak #[aa (dJ q.1.1),ae q.1.1,aa q.1.2,aa (dJ q.2.1),ae q.2.1,aa q.2.2] 302)).rules;go_wp2_with (first|(at_builtin;refine wpList_append_lies _ rfl _ _ _ rfl (w2.heap.size+1) 302 i0 _ 6 64 underlying150 UB UC UD UE rfl Ue (.slice va vn vc) vs.length (vs.flatMap El) rfl (Ut.alloc _) (ai (w4.heap.size+1+1) 0) 1 1 [aa (dJ q.1.1),ae q.1.1,aa q.1.2,aa (dJ q.2.1),ae q.2.1,aa q.2.2] rfl rfl HW.out ?h1 ?hm ?h63 ?hby ?hba (w4.heap.size+1+1+1) ?hH ?_;rotate_right;intro gg cap w5 Uv Ur hat hlt;have⟨x1,x2⟩:=((J4.alloc _).grown Ur HO.out).rules))
       case h1=>intro u hu;simp at hu;rcases hu with rfl|rfl|rfl|rfl|rfl|rfl<;>rfl
       case hm=>omega
       case h63=>unfold maxLen;omega
       case hby=>omega
       case hba=>simp;omega
       case hH=>simp
       have UA:=Ur.size;have A6:=((A4.alloc (ay _) _).grown Ur (ay _) (λj hj=>by have:=(Uq.lt j hj).1;omega)).setCell (a:=(ai w2.heap.size 5)) (by grind) (Ub gg (vs.length+1) cap);have R6:=A6.rd R R.blocks.1 R.blocks.2 R5.lt;refine⟨⟨n-1,k1,vs++ [q],some (ai gg 0),vs.length+1,cap,by grind,Ue,Uz,R6,A6,?_,?_,?_,?_⟩,?_⟩
       ·exact((K4.alloc _).grown Ur (λe=>by have:=(Uq.lt _ e.symm).1;omega)).other 5 _ n6
       ·exact((J4.alloc _).grown Ur HO.out).set 5 _
       ·have:=ownsRow_setCell_below Uv (a:=(ai w2.heap.size 5)) Uf (Ub gg (vs.length+1) cap);simpa [El,wA]using this
       ·simp[World.setCell]at UA⊢;omega
       ·have h6:=R6.lt;rw[R6.nextOf,HN.out];omega
     ·have Uw:fR ws [125] k=true:=by unfold fR;grind
      have h5:fV ws [125] k= .ok ((),k+1):=by unfold fV;grind
      have HY:Hid (ws[k]?=some y):=hy;clear hy
      obtain rfl:r= .ok (⟨true,x,[],vs⟩,k+1):=by
       rw[<-Ux.out,<-HP.out,oq Uw];simp only[mP,gu,h5,bN]
      go_wp2_with fail;refine(My _ rb wb ws k y _ RR HY.out).mono ?_;rintro e w3 ⟨rfl,Us⟩;rw[show(ByteArray.mk #[125]).toList= [125]from by decide+kernel];have R3:=RR.below Us RR.blocks.1 RR.blocks.2;have A3:=AA.below Us AA.size;have K3:=KK.below Us KK.lt;have J3:=J.below Us J.lt;have Uq:w3.ownsRow (w2.heap.size+1) 302 6 (.slice va vn vc) vs.length (vs.flatMap El):=eH Us Uu;have Uy:w2.heap.size<w3.heap.size:=aD hz Us.size;clear RR AA KK J Uu hz Us;go_wp2_with fail;refine(Ep _ rb wb ws k _ [125] R3 Ui Uh).mono ?_;rw[h5];rintro e w4 ⟨rfl,R4,A⟩;have K4:=K3.adv_ A Ue n1;have J4:=J3.adv_ A Ue n5;have A4:=A3.trans A A3.size;have Ut:w4.ownsRow (w2.heap.size+1) 302 6 (.slice va vn vc) vs.length (vs.flatMap El):=js A (ay _) Ue Uq;have⟨k1,k2⟩:=K4.rules;have⟨j1,j2⟩:=J4.rules;go_wp2;have A9:=A4.sets (b:=w.heap.size) (ay _) [.bool true,aa (dJ x.1),ae x.1,aa x.2,ah,.slice va vn vc] 0;have K9:=K4.sets_all [.bool true,aa (dJ x.1),ae x.1,aa x.2,ah,.slice va vn vc] rfl;refine dG (ec results176 _ _ rfl K9 underlying152 Uk) rfl ⟨⟨none,0,0,va,vn,vc,rfl,[],?_,?_,?_⟩,?_,A9⟩
      ·exact⟨bm _ _ _ _,λb hb=>by cases hb⟩
      ·rfl
      ·exact(eD.of (jC (lo:=w.heap.size) Ut (b:=w.heap.size) (Nat.lt_succ_of_lt z2) (Nat.le_succ_of_le (ck z2)) [.bool true,aa (dJ x.1),ae x.1,aa x.2,ah,.slice va vn vc] 0))
      ·exact A9.rd R R.blocks.1 R.blocks.2 R4.lt
def Q4 (w:an)(rb wb:Nat)(ws:List W)(i:Nat)(R:Rd w rb wb ws i)(t0:fR ws [101,110,117,109] i=false):
  Calls prog 119 #[ag rb] w (qG w rb wb ws (gJ ws i) (ph w)):=by
 have⟨x,hx⟩:=R.word;have HX:Hid (ws[i]?=some x):=hx;rw[wD _ hx]at t0;have A0:iR w.heap.size rb w (w.alloc (ak #[.bool false,aa 0,T9,aa 0,ah,ah] 152)) i:=iR.of_below R.next (Ud w _);have R0:=R.alloc (ak #[.bool false,aa 0,T9,aa 0,ah,ah] 152);have K0:=dM.new w #[.bool false,aa 0,T9,aa 0,ah,ah] 152;have n1:¬w.heap.size=rb:=by have:=R.blocks;omega
 have z0:w.heap.size<(w.alloc (ak #[.bool false,aa 0,T9,aa 0,ah,ah] 152)).heap.size:=Uf;generalize hr:gJ ws i=r;have HR:Hid (gJ ws i=r):=hr;clear hr hx;go_in
 go_wp2_with fail;refine(My _ rb wb ws i x _ R0 HX.out).mono ?_;rintro e w1 ⟨rfl,Uq⟩;rw[show(ByteArray.mk #[101,110,117,109]).toList= [101,110,117,109]from by decide+kernel];have R1:=R0.below Uq R0.blocks.1 R0.blocks.2;have A1:=A0.below Uq (ck z0);have K1:=K0.below Uq z0;have z1:w.heap.size<w1.heap.size:=aD z0 Uq.size;clear R0 A0 K0 z0 Uq;go_wp2_with fail;refine(Ty _ rb wb ws i R1).mono ?_
 cases h1:gJ ws i with
 |error p=>
  rintro e w2 ⟨rfl,j,A⟩;obtain rfl:r= .error p:=HR.out.symm.trans h1;unfold dL;go_wp2;exact⟨rfl,rfl,j,A1.trans A Ue⟩
 |ok q=>
  obtain⟨b,i1⟩:=q;rintro e w2 ⟨⟨pa,pn,pc,va,vn,vc,rfl,hb⟩,R2,A⟩;obtain rfl:r= .ok (b,i1):=HR.out.symm.trans h1;have K9:=K1.adv_ A z1 n1;have A9:=A1.trans A Ue;have⟨k1,k2⟩:=K9.rules;go_wp2;have Ur:=A9.sets (b:=w.heap.size) (ay _) [.bool b.enum,aa (dJ b.name.1),ae b.name.1,aa b.name.2,.slice pa pn pc,.slice va vn vc] 0;have Us:=K9.sets_all [.bool b.enum,aa (dJ b.name.1),ae b.name.1,aa b.name.2,.slice pa pn pc,.slice va vn vc] rfl;refine dG (ec results119 _ _ rfl Us underlying152 Uj) rfl ⟨⟨pa,pn,pc,va,vn,vc,rfl,?_⟩,?_,Ur⟩
  ·have h9:=(jD.keep (w:=w2) (w':=w2.setCells w.heap.size 0 [.bool b.enum,aa (dJ b.name.1),ae b.name.1,aa b.name.2,.slice pa pn pc,.slice va vn vc]) (λc hc _=>gX _ _ (by have:w1.heap.size<=c:=hc;omega) _ _) hb);exact h9.mono (λc hc _=>by have:w1.heap.size<=c:=hc;omega)
  ·exact Ur.rd R R.blocks.1 R.blocks.2 R2.lt
def Q5 (w:an)(rb wb:Nat)(ws:List W)(i:Nat)(R:Rd w rb wb ws i)(t0:fR ws [101,110,117,109] i=true):
  Calls prog 119 #[ag rb] w (qG w rb wb ws (ld ws i) (ph w)):=by
 have⟨x,hx⟩:=R.word;have HX:Hid (ws[i]?=some x):=hx;rw[wD _ hx]at t0;have A0:iR w.heap.size rb w (w.alloc (ak #[.bool false,aa 0,T9,aa 0,ah,ah] 152)) i:=iR.of_below R.next (Ud w _);have R0:=R.alloc (ak #[.bool false,aa 0,T9,aa 0,ah,ah] 152);have K0:=dM.new w #[.bool false,aa 0,T9,aa 0,ah,ah] 152;have n1:¬w.heap.size=rb:=by have:=R.blocks;omega
 have z0:w.heap.size<(w.alloc (ak #[.bool false,aa 0,T9,aa 0,ah,ah] 152)).heap.size:=Uf;generalize hr:ld ws i=r;have HR:Hid (ld ws i=r):=hr;clear hr hx;go_in
 go_wp2_with fail;refine(My _ rb wb ws i x _ R0 HX.out).mono ?_;rintro e w1 ⟨rfl,Uq⟩;rw[show(ByteArray.mk #[101,110,117,109]).toList= [101,110,117,109]from by decide+kernel];have R1:=R0.below Uq R0.blocks.1 R0.blocks.2;have A1:=A0.below Uq (ck z0);have K1:=K0.below Uq z0;have z1:w.heap.size<w1.heap.size:=aD z0 Uq.size;clear R0 A0 K0 z0 Uq;go_wp2_with fail;refine(Tz _ rb wb ws i R1).mono ?_
 cases h1:ld ws i with
 |error p=>
  rintro e w2 ⟨rfl,j,A⟩;obtain rfl:r= .error p:=HR.out.symm.trans h1;unfold dL;go_wp2;exact⟨rfl,rfl,j,A1.trans A Ue⟩
 |ok q=>
  obtain⟨b,i1⟩:=q;rintro e w2 ⟨⟨pa,pn,pc,va,vn,vc,rfl,hb⟩,R2,A⟩;obtain rfl:r= .ok (b,i1):=HR.out.symm.trans h1;have K9:=K1.adv_ A z1 n1;have A9:=A1.trans A Ue;have⟨k1,k2⟩:=K9.rules;go_wp2;have Ur:=A9.sets (b:=w.heap.size) (ay _) [.bool b.enum,aa (dJ b.name.1),ae b.name.1,aa b.name.2,.slice pa pn pc,.slice va vn vc] 0;have Us:=K9.sets_all [.bool b.enum,aa (dJ b.name.1),ae b.name.1,aa b.name.2,.slice pa pn pc,.slice va vn vc] rfl;refine dG (ec results119 _ _ rfl Us underlying152 Uj) rfl ⟨⟨pa,pn,pc,va,vn,vc,rfl,?_⟩,?_,Ur⟩
  ·have h9:=(jD.keep (w:=w2) (w':=w2.setCells w.heap.size 0 [.bool b.enum,aa (dJ b.name.1),ae b.name.1,aa b.name.2,.slice pa pn pc,.slice va vn vc]) (λc hc _=>gX _ _ (by have:w1.heap.size<=c:=hc;omega) _ _) hb);exact h9.mono (λc hc _=>by have:w1.heap.size<=c:=hc;omega)
  ·exact Ur.rd R R.blocks.1 R.blocks.2 R2.lt
def Te (w:an)(rb wb:Nat)(ws:List W)(i:Nat)(R:Rd w rb wb ws i):
  Ua 119 #[ag rb] w (qG w rb wb ws (jr ws i) (ph w)):=by
 unfold jr
 cases t0:fR ws [101,110,117,109] i
 ·exact Q4 w rb wb ws i R t0
 ·exact Q5 w rb wb ws i R t0
def Hc (ws:List W)(i:Nat):On i (jr ws i):=by
 intro a j h;unfold jr at h
 split at h
 ·unfold ld at h;have⟨_,i1,h1,h⟩:=dO h;have⟨_,i2,h2,h⟩:=dO h;have⟨_,i3,h3,h⟩:=dO h;have⟨_,i4,h4,h⟩:=dO h;have⟨_,i5,h5,h⟩:=dO h;have:=(eX _ _ _ _ _ h1).1;have:=(ik _ _ _ _ _ h2).1;have:=(eX _ _ _ _ _ h3).1;have:=rP _ _ (vF ws) _ _ _ _ h4;have:=(eX _ _ _ _ _ h5).1;simp at h;omega
 ·unfold gJ at h;have⟨_,i1,h1,h⟩:=dO h;have⟨_,i2,h2,h⟩:=dO h;have⟨_,i3,h3,h⟩:=dO h;have⟨_,i4,h4,h⟩:=dO h;have⟨_,i5,h5,h⟩:=dO h;have:=(eX _ _ _ _ _ h1).1;have:=(ik _ _ _ _ _ h2).1;have:=(eX _ _ _ _ _ h3).1;have:=rP _ _ (Cw ws) _ _ _ _ h4;have:=(eX _ _ _ _ _ h5).1;simp at h;omega
def eQ.appended {w w5:an}{v:Value}{gg H b1 off:Nat}{u:Value}{cs:aq}{ps:List dQ}(hg:w.grownBy w5 v.ownBlock)(Uw:v.ownBlock=some gg\/gg=H)(hH:w.heap.size=H)
  (h:eQ w (λb=>b1<b/\some b≠v.ownBlock) cs ps) {cap n:Nat}:eQ (w5.setCell (ai b1 off) u) (λb=>b1<b/\some b≠(Value.slice (some (ai gg 0)) n cap).ownBlock) cs ps:=by
 have h2:eQ w (λb=>b1<b/\some b≠v.ownBlock/\some b≠some gg) cs ps:=h.mono λb hb UC=>⟨hb.1,hb.2,λe=>by
  rcases Uw with Uw|Uw
  ·exact hb.2 (e.trans Uw.symm)
  ·have:=Option.some.inj e;omega⟩
 have h3:eQ (w5.setCell (ai b1 off) u) (λb=>b1<b/\some b≠v.ownBlock/\some b≠some gg) cs ps:=eQ.keep (w:=w) (λb hb UC=>by
  rw[dK,dD (by have:=hb.1;omega)]
  exact hg.block b UC hb.2.1) h2
 exact h3.mono λb hb _=>⟨hb.1,hb.2.2⟩
def TA (w:an)(rb wb:Nat)(ws:List W)(R:Rd w rb wb ws 0):
  Calls prog 70 #[ag rb] w (qG w rb wb ws (pd ws) (MM w)):=by
 have⟨i0,UH,UI,UJ,UK⟩:=info_parts Tryz.info152;have A0:iR w.heap.size rb w ((w.alloc (ak #[ah] 87)).alloc (ak #[ah] 87)) 0:=iR.of_below R.next ((Ud w _).alloc Uf _);have R0:=(R.alloc (ak #[ah] 87)).alloc (ak #[ah] 87);have K0:=(dM.new w #[ah] 87).alloc (ak #[ah] 87)
 have J0:dM ((w.alloc (ak #[ah] 87)).alloc (ak #[ah] 87)) (w.heap.size+1) #[ah] 87:=by
  have:=dM.new (w.alloc (ak #[ah] 87)) #[ah] 87;simpa using this
 have n1:¬w.heap.size=rb:=by have:=R.blocks;omega
 have n5:¬w.heap.size+1=rb:=by have:=R.blocks;omega
 have n6:¬w.heap.size+1=w.heap.size:=Ue;have n7:rb<w.heap.size:=by have:=R.blocks;omega
 generalize hr:pd ws=r;have HR:Hid (pd ws=r):=hr;clear hr;go_in
 go_wp2;go_loopw [7] (λ_ wr=>∃(n k:Nat) (bs:List dQ) (ta:aw) (tn tc:Nat) (Uu:aq),bs.length<=k/\ws.length-k<=n/\Hid (mP bs (gk (nJ ws) (jr ws) n k)=r)/\Rd wr rb wb ws k/\iR w.heap.size rb w wr k/\dM wr w.heap.size #[ah] 87/\dM wr (w.heap.size+1) #[.slice ta tn tc] 87/\wr.ownsRow (w.heap.size+2) 152 6 (.slice ta tn tc) bs.length Uu/\eQ wr (λb=>w.heap.size+1<b/\some b≠(Value.slice ta tn tc).ownBlock) Uu bs/\w.heap.size+1<wr.heap.size) (λ_ wr=>ws.length-iS rb wr)
 case atStart=>
  refine⟨ws.length,0,[],none,0,0,[],Uf,Ue,?_,R0,A0,K0,J0,bm _ _ _ _,rfl,Uf⟩;rw[<-HR.out];unfold Hid mP gu pd
  cases gk (nJ ws) (jr ws) ws.length 0<;>rfl
 case round=>
  clear R0 A0 K0 J0 HR;obtain⟨n,k,bs,ta,tn,tc,Uu,hfl,hn,HP,RR,AA,KK,J,Ut,UA,hz⟩:=hrel;have hk:=RR.lt;have hfew:=RR.few;have HN:Hid (iS rb wr=k):=RR.nextOf;have⟨y,hy⟩:=RR.word
  cases hs:(dJ y.1==4)
  ·have Uz:nJ ws k=false:=by unfold nJ;simp only[hy,hs]
   have UE:(dJ y.1 !=4)=true:=by simpa [bne]using hs
   have HY:Hid (ws[k]?=some y):=hy;clear hy hs;go_wp2_with fail;refine(Mx _ rb wb ws k y RR HY.out).mono ?_;rintro e w3 ⟨rfl,Us⟩;have R3:=RR.below Us RR.blocks.1 RR.blocks.2;have A3:=AA.below Us AA.size;have K3:=KK.below Us KK.lt;have J3:=J.below Us J.lt;have Uq:w3.ownsRow (w.heap.size+2) 152 6 (.slice ta tn tc) bs.length Uu:=eH Us Ut;have Uv:=UA.keep (λb _ hb=>Us.block b hb);have hz3:w.heap.size+1<w3.heap.size:=aD hz Us.size
   have HO:Hid (some (w.heap.size+1)≠(Value.slice ta tn tc).ownBlock):=by
    intro e;have:=(Uq.lt _ e.symm).1;omega
   clear RR AA KK J Ut UA hz Us;go_wp2_with fail;have j3:=J3.cell 0
   cases h4:jr ws k with
   |error p=>
    obtain rfl:r= .error p:=by
     rw[<-HP.out,p9 Uz Ue h4];rfl
    refine wp_region_held_drew (S:=λw'=>w'.cell? (ai (w.heap.size+1) 0)=some (.slice ta tn tc)) Uj (by simpa using j3) (λhHeld=> ?_);refine gL 0 (ag (w.heap.size+1)) rfl Uj (λ_ _ _ h=>h) (Or.inl ⟨Uk,λw Ux=>by dsimp only at Ux;go_simp⟩) hHeld ?_;refine gL 1 (.slice ta tn tc) rfl Uj (λ_ _ _ h=>h) (Or.inl ⟨Uk,λw Ux=>by dsimp only at Ux;go_simp⟩) hHeld ?_;refine gL 2 (ag rb) rfl Uj (λ_ _ _ h=>h) (Or.inl ⟨Uk,λw Ux=>by dsimp only at Ux;go_simp⟩) hHeld ?_;simp only[Act.put,T8];refine wpAnyH_ready (rs:= [3]) Uj Uf (AllReadyH.cons rfl (λK hK=> ?_) AllReadyH.nil);clear hK;go_simp;refine(Te _ rb wb ws k R3.drew).mono ?_;rw[h4];rintro e w4 ⟨rfl,j,A⟩;exact⟨rfl,rfl,j,A3.drew.trans A (by have:=A3.size;simp;omega)⟩
   |ok q=>
    obtain⟨b,k1⟩:=q;have hk1:k<k1:=Hc _ _ _ _ h4
    have UF:Hid (mP (bs++ [b]) (gk (nJ ws) (jr ws) (n-1) k1)=r):=by
     rw[<-HP.out,rQ bs Uz Ue h4];exact rfl
    have J:=J3;have RR:=R3;go_region_law (first|(refine step_append_lies _ Uk _ _ _ Uk (w.heap.size+2) 152 i0 _ 6 88 underlying85 UH UI UJ UK rfl Ue (.slice ta tn tc) bs.length Uu Uk ((js A (ay _) Ue (ot Uq)).alloc _) (ai w4.heap.size 0) 1 1 [_,_,_,_,_,_] Uk Uk (br (t:=152) (fr:=(0,0)) (heap_alloc_new w4 _)) Um Ue Ul Ue (by have:=A.size;simp at this⊢;omega) (w4.heap.size+1) Uf ?_;intro gg cap w5 Uy Ur Uw UC;have⟨x1,x2⟩:=(((J.drew.adv_ A Ug n5).alloc _).grown Ur HO.out).rules)|(go_simp;go_at_call 119;refine(Te _ rb wb ws k RR.drew).mono ?_;rw[h4];rintro e w4 ⟨⟨pa,pn,pc,va,vn,vc,rfl,UL⟩,R5,A⟩;have⟨y1,y2⟩:=(J.drew.adv_ A Ug n5).rules;have⟨y3,y4,y5,y6⟩:=gA (w:=w4) (b:=w.heap.size+1) (by have:=A.size;simp at this;omega)))
    all_goals
     go_wp2;go_roundw
     case rel=>
      go_light;have hz4:w3.heap.size<=w4.heap.size:=by have:=A.size;simpa using this
      have UG:=Ur.size;have A6:=((((A3.drew.trans A (by have:=A3.size;simp;omega)).alloc (ay _) _).grown Ur (ay _) (λj hj=>by have:=(Uq.lt j hj).1;omega))).setCell (a:=(ai (w.heap.size+1) 0)) Uf (Ub gg (bs.length+1) cap);refine⟨n-1,k1,bs++ [b],some (ai gg 0),bs.length+1,cap,Uu++ [.bool b.enum,aa (dJ b.name.1),ae b.name.1,aa b.name.2,.slice pa pn pc,.slice va vn vc],Ug,Ue,UF,A6.rd R R.blocks.1 R.blocks.2 R5.lt,A6,?_,?_,?_,?_,?_⟩
      ·exact(((K3.drew.adv_ A Ug n1).alloc _).grown Ur (λe=>by have:=(Uq.lt _ e.symm).1;omega)).other 0 _ n6
      ·exact(((J3.drew.adv_ A Ug n5).alloc _).grown Ur HO.out).set 0 _
      ·have:=ownsRow_setCell_below Uy (a:=(ai (w.heap.size+1) 0)) Uf (Ub gg (bs.length+1) cap);simpa using this
      ·refine eQ.appended Ur Uw Uf ?_;refine eQ.snoc ?_ ?_
       ·have UB:jD (w4.alloc (ak #[.bool b.enum,aa (dJ b.name.1),ae b.name.1,aa b.name.2,.slice pa pn pc,.slice va vn vc] 152)) (λx=>w3.drew.heap.size<=x) b (.slice pa pn pc) (.slice va vn vc):=UL.keep (λc _ hc=>Below.heap_alloc _ _ _ hc);refine UB.mono λc hc UD=> ?_
        have hc3:w3.heap.size<=c:=by simpa using hc
        refine⟨Ue,λe=> ?_⟩;have:=(Uq.lt c e.symm).2;omega
       ·refine eQ.keep (w:=w3) (λc hc UD=> ?_) Uv;rw[Below.heap_alloc _ _ _ Ue,Below.block A c (by simpa using UD),Cn,dK,dD (by have:=hc.1;omega)];rfl
      ·simp[World.setCell]at UG⊢;omega
     case measure=>
      go_light;have A6:=((((A3.drew.trans A (by have:=A3.size;simp;omega)).alloc (ay _) _).grown Ur (ay _) (λj hj=>by have:=(Uq.lt j hj).1;omega))).setCell (a:=(ai (w.heap.size+1) 0)) Uf (Ub gg (bs.length+1) cap);have R6:=A6.rd R R.blocks.1 R.blocks.2 R5.lt;have h6:=R6.lt;rw[R6.nextOf,HN.out];omega
  ·have Uz:nJ ws k=true:=by unfold nJ;simp only[hy,hs]
   have UE:(dJ y.1 !=4)=false:=by simpa [bne]using hs
   have HY:Hid (ws[k]?=some y):=hy;clear hy hs
   obtain rfl:r= .ok (bs,k):=by
    rw[<-HP.out,oq Uz];simp only[mP,gu,bN]
   go_wp2_with fail;refine(Mx _ rb wb ws k y RR HY.out).mono ?_;rintro e w3 ⟨rfl,Us⟩;have R3:=RR.below Us RR.blocks.1 RR.blocks.2;have A3:=AA.below Us AA.size;have K3:=KK.below Us KK.lt;have J3:=J.below Us J.lt;have Uq:w3.ownsRow (w.heap.size+2) 152 6 (.slice ta tn tc) bs.length Uu:=eH Us Ut;have Uv:=UA.keep (λb _ hb=>Us.block b hb);clear RR AA KK J Ut UA hz Us;have⟨k1,k2⟩:=K3.rules;have⟨j1,j2⟩:=J3.rules;go_wp2;have A9:=A3.sets (b:=w.heap.size) (ay _) [.slice ta tn tc] 0;have K9:=K3.sets_all [.slice ta tn tc] rfl;refine dG (ec results70 _ _ rfl K9 underlying87 Uj) rfl ⟨⟨ta,tn,tc,Uu,rfl,?_,?_⟩,?_,A9⟩
   ·exact(eD.of (jC (lo:=w.heap.size) Uq (b:=w.heap.size) Ue Ue [.slice ta tn tc] 0))
   ·have h9:=(eQ.keep (w:=w3) (w':=w3.setCells w.heap.size 0 [.slice ta tn tc]) (λb hb _=>gX _ _ (by have:=hb.1;omega) _ _) Uv);exact h9.mono (λb hb _=>by have:=hb.1;omega)
   ·exact A9.rd R R.blocks.1 R.blocks.2 R3.lt
end
section
open Go.Maps Go.ChangeMaps Go.WideMaps Go.WideElems
section
variable (w:an) {n b:Nat} {l:ar} {bs:au} {a w':an}
attribute [local go_sem] jo jp jq
theorem Hd:Keyed prog 9:=string_keyed underlying9
theorem Q6:Keyed prog 53:=int_keyed underlying53
theorem FH:(zeroValue 162).run prog w= .ok (.agg #[]) w:=Uj
def qH (s:am):Lit:= .string s.data.toList
def qI (n:Nat):Lit:= .int .u64 n
def eR (w:an)(b:Nat)(l:ar):Prop:=w.ownsMap prog 9 (unitElem (H:=Unit)) b l.length (setOf (.agg []) (l.map qH))
def gY (w:an)(b:Nat)(l:au):Prop:=w.ownsMap prog 53 (unitElem (H:=Unit)) b l.length (setOf (.agg []) (l.map qI))
def eM (l:ar)(s:am):Bool:=l.any λx=>x.toList==s.toList
def AF (l:au)(n:Nat):Bool:=l.any λx=>x==n
theorem He (s:am)(h:s.size<=maxLen):keyOf prog 9 (ae s)=some (qH s):=keyOf_string_mk underlying9 h
theorem Q7 (n:Nat)(h:n<18446744073709551616):keyOf prog 53 (.int .u64 n)=some (qI n):=keyOf_int_mk underlying53 (WalkArith.wf_u64 Ue)
theorem Q8 (l:ar)(s:am):Maps.has (setOf (H:=Unit) (.agg []) (l.map qH)) (qH s)=eM l s:=by
 rw[has_setOf _ _ _ (by intro x hx;obtain⟨y,_,rfl⟩:=aP.1 hx;exact trivial)];unfold eM;rw[List.any_map]
 congr 1
 funext x;show(x.data.toList==s.data.toList)=_;rw[ByteArray.toList_eq,ByteArray.toList_eq]
theorem Q9 (l:au)(n:Nat):Maps.has (setOf (H:=Unit) (.agg []) (l.map qI)) (qI n)=AF l n:=by
 rw[has_setOf _ _ _ (by intro x hx;obtain⟨y,_,rfl⟩:=aP.1 hx;exact trivial)];unfold AF;rw[List.any_map]
 congr 1
 funext x;show decide (IntKind.u64=IntKind.u64/\(x:Int)=(n:Int))=_;rw[co];simp;omega
structure dX (bs:au)(w w':an):Prop where
 os:w'.os=w.os
 tape:w'.tape=w.tape
 output:w'.output=w.output
 size:w.heap.size<=w'.heap.size
 block:∀k,k<w.heap.size->k∉bs->w'.heap[k]?=w.heap[k]?
theorem dX.refl (bs:au)(w:an):dX bs w w:=⟨rfl,rfl,rfl,ay _,λ_ _ _=>rfl⟩
theorem dX.trans {b c:an}(h:dX bs a b)(k:dX bs b c):dX bs a c:=
 ⟨k.os.trans h.os,k.tape.trans h.tape,k.output.trans h.output,aG h.size k.size,λi hi hn=>(k.block i (aD hi h.size) hn).trans (h.block i hi hn)⟩
theorem dX.mono {cs:au}{b:an}(h:dX bs a b)(hs:∀x∈bs,x∈cs):dX cs a b:=
 ⟨h.os,h.tape,h.output,h.size,λi hi hn=>h.block i hi (λhc=>hn (hs i hc))⟩
theorem dX.of_below {b:an}(h:Below a.heap.size a b):dX bs a b:=⟨h.os,h.tape,h.output,h.size,λi hi _=>h.block i hi⟩
theorem dX.of_grown {b:an}{k:Nat}(h:a.grownBy b (some k)):dX [k] a b:=⟨h.os,h.tape,h.output,h.size,λi hi hn=>h.block i hi (λe=>hn (by simp at e;simp[e]))⟩
theorem dX.to_below {b:an}(h:dX bs a b)(hn:n<=a.heap.size)(hb:∀x∈bs,n<=x):Below n a b:=
 ⟨h.os,h.tape,h.output,h.size,λi hi=>h.block i (aD hi hn) (λhc=>by have:=hb i hc;omega)⟩
theorem dX.alloc {b:an}(h:dX bs a b)(o:Obj):dX bs a (b.alloc o):=h.trans (dX.of_below ((Below.refl _ _).alloc (ay _) o))
theorem dX.drew {b:an}(h:dX bs a b):dX bs a b.drew:=h.trans (dX.of_below (Below.refl _ _).drew)
theorem ka {w:an}{k:TypeId}{R:Value->Option (DataW Unit×List MemPlace)}{D:DataW Unit}(h:w.ownsMap prog k R b n D)(hb:w'.heap[b]?=w.heap[b]?):w'.ownsMap prog k R b n D:=by
 obtain⟨es,clock,h1,h2⟩:=h;exact⟨es,clock,hb.trans h1,h2⟩
theorem eR.lt {w:an}(h:eR w b l):b<w.heap.size:=World.ownsMap.lt h
theorem gY.lt {w:an}{l:au}(h:gY w b l):b<w.heap.size:=World.ownsMap.lt h
theorem eR.keep {w:an}(h:eR w b l)(hb:w'.heap[b]?=w.heap[b]?):eR w' b l:=ka h hb
theorem gY.keep {w:an}{l:au}(h:gY w b l)(hb:w'.heap[b]?=w.heap[b]?):gY w' b l:=ka h hb
theorem Tf (b:Nat)(l:ar)(s:am)(h:eR w b l)(hl:l.length<maxLen)(hs:s.size<=maxLen):
  Calls prog 178 #[.map (some b),ae s] w λe w'=>e= .returned (.tuple #[])/\eR w' b (l++ [s])/\dX [b] w w':=by
 have Uq:w.ownsMap prog 9 (unitElem (H:=Unit)) b l.length (setOf (.agg []) (l.map qH)):=h;go_in
 go_wp2_with (at_mapUpdate;refine wpList_mapUpdate_own _ rfl _ _ _ 229 rfl 9 162 Hd underlying229 _ b _ _ rfl Uq hl _ _ _ rfl rfl (He s hs) _ [] unitElem_mk ?_;intro w1 Us Ur)
 go_end0;refine⟨rfl,?_,dX.of_grown Ur⟩;unfold eR;rw[bI,List.map_singleton,setOf_snoc,aH];exact Us
theorem TB (b:Nat)(l:au)(n:Nat)(h:gY w b l)(hl:l.length<maxLen)(hs:n<18446744073709551616):
  Calls prog 343 #[.map (some b),.int .u64 n] w λe w'=>e= .returned (.tuple #[])/\gY w' b (l++ [n])/\dX [b] w w':=by
 have Uq:w.ownsMap prog 53 (unitElem (H:=Unit)) b l.length (setOf (.agg []) (l.map qI)):=h;go_in
 go_wp2_with (at_mapUpdate;refine wpList_mapUpdate_own _ rfl _ _ _ 304 rfl 53 162 Q6 underlying304 _ b _ _ rfl Uq hl _ _ _ rfl rfl (Q7 n hs) _ [] unitElem_mk ?_;intro w1 Us Ur)
 go_end0;refine⟨rfl,?_,dX.of_grown Ur⟩;unfold gY;rw[bI,List.map_singleton,setOf_snoc,aH];exact Us
theorem RW (b:Nat)(l:ar)(s:am)(h:eR w b l)(hs:s.size<=maxLen):
  Calls prog 179 #[.map (some b),ae s] w λe w'=>e= .returned (.bool (eM l s))/\aj w w':=by
 have Uq:w.ownsMap prog 9 (unitElem (H:=Unit)) b l.length (setOf (.agg []) (l.map qH)):=h;rw[<-Q8];go_in
 go_wp2_with (at_lookup;refine wpList_lookup_own_unit _ rfl _ _ 229 rfl 9 162 Hd underlying229 (FH _) b _ _ rfl Uq _ _ rfl (He s hs) ?_)
 go_ret;exact⟨rfl,(Below.refl _ _).alloc (ay _) _⟩
theorem TC (b:Nat)(l:au)(n:Nat)(h:gY w b l)(hs:n<18446744073709551616):
  Calls prog 342 #[.map (some b),.int .u64 n] w λe w'=>e= .returned (.bool (AF l n))/\aj w w':=by
 have Uq:w.ownsMap prog 53 (unitElem (H:=Unit)) b l.length (setOf (.agg []) (l.map qI)):=h;rw[<-Q9];go_in
 go_wp2_with (at_lookup;refine wpList_lookup_own_unit _ rfl _ _ 304 rfl 53 162 Q6 underlying304 (FH _) b _ _ rfl Uq _ _ rfl (Q7 n hs) ?_)
 go_ret;exact⟨rfl,(Below.refl _ _).alloc (ay _) _⟩
theorem rj (k:Int)(s:am)(p:Nat):
  Calls prog 123 #[.bool false,.agg #[aa k,ae s,aa p]] w λe w'=>e= .returned (.tuple #[])/\aj w w':=by
 go_in
 go_wp2;go_end0;exact⟨rfl,(Below.refl _ _).alloc (ay _) _⟩
theorem kc (k:Int)(s:am)(p:Nat):
  Calls prog 123 #[.bool true,.agg #[aa k,ae s,aa p]] w λe w'=>e=dL 3 p/\aj w w':=by
 go_in
 go_wp2_with fail;refine(IH _ _ _).mono ?_;rintro e w2 ⟨rfl,rfl⟩;go_wp2;exact⟨rfl,rfl,(Below.refl _ _).alloc (ay _) _⟩
end
end
section
open Go.Maps
attribute [local go_sem] jo jp jq
open Uq
def il (l:ar)(s:am):Bool:=decide (20<s.size)||eM l s
def gH (w:an)(c1 c2:Array Value)(T1 T2:TypeId):aj w ((w.alloc (Obj.cells c1 T1)).alloc (Obj.cells c2 T2))/\dM ((w.alloc (Obj.cells c1 T1)).alloc (Obj.cells c2 T2)) w.heap.size c1 T1/\dM ((w.alloc (Obj.cells c1 T1)).alloc (Obj.cells c2 T2)) (w.heap.size+1) c2 T2:=
 ⟨(Ud w _).alloc Uf _,(dM.new w c1 T1).alloc _,by simpa using dM.new (w.alloc (Obj.cells c1 T1)) c2 T2⟩
def IL (w:an)(b:Nat)(k:Int)(s:am)(p:Nat)(hl:20<s.size):
  Calls prog 121 #[.agg #[aa k,ae s,aa p],.map (some b)] w λe w'=>e=dL 3 p/\aj w w':=by
 have⟨B0,K0⟩:=dS w #[aa k,ae s,aa p] 148;have hd:(20:Int)<(s.size:Int):=Ue;go_in
 go_wp2;refine wp_region_held_drew (S:=λw'=>w'.cell? (ai w.heap.size 0)=some (aa k)/\w'.cell? (ai w.heap.size 1)=some (ae s)/\w'.cell? (ai w.heap.size 2)=some (aa p)) Uj ⟨Uf,Uf,Uf⟩ (λhHeld=> ?_);refine T5 0 (.pointer (some (ai w.heap.size 1))) hHeld ?_;simp only[Act.put,T8];refine T5 1 (ae s) hHeld ?_;simp only[Act.put,T8];refine T5 2 (aa s.size) hHeld ?_;simp only[Act.put,T8];refine T5 3 (.bool true) hHeld ?_;simp only[Act.put,T8];refine T5 4 (.bool true) hHeld ?_;simp only[Act.put,T8];refine T7 5 undef hHeld ?_;simp only[Act.put,T8];refine T7 6 undef hHeld ?_;simp only[Act.put,T8];refine T7 7 undef hHeld ?_;simp only[Act.put,T8];refine T7 8 undef hHeld ?_;simp only[Act.put,T8];refine T5 9 (.bool true) hHeld ?_;simp only[Act.put,T8];refine T5 10 (.agg #[aa k,ae s,aa p]) hHeld ?_;simp only[Act.put,T8];refine wpAnyH_ready (rs:= [11]) Uj Uf (AllReadyH.cons rfl (λK hK=> ?_) AllReadyH.nil);clear hK;go_simp;refine(kc _ k s p).mono ?_;rintro e w4 ⟨rfl,hb⟩;exact⟨rfl,rfl,B0.drew.trans (hb.mono Uf)⟩
def MN (w:an)(b:Nat)(l:ar)(k:Int)(s:am)(p:Nat)(H:eR w b l)(hl:s.size<=20)(hm:eM l s=true):
  Calls prog 121 #[.agg #[aa k,ae s,aa p],.map (some b)] w λe w'=>e=dL 3 p/\aj w w':=by
 have B0:=(Uc w).alloc (ay _) (ak #[aa k,ae s,aa p] 148);have H1:eR (w.alloc (ak #[aa k,ae s,aa p] 148)).drew b l:=H.keep (Below.heap_alloc _ _ _ H.lt);have hd:¬(20:Int)<(s.size:Int):=Ue;have Us:decide ((20:Int)<(s.size:Int))=false:=by simpa using hd
 have hx:s.size<=maxLen:=Ul;clear hd;go_in
 go_wp2;refine wp_region_held_drew (S:=λw'=>w'.cell? (ai w.heap.size 0)=some (aa k)/\w'.cell? (ai w.heap.size 1)=some (ae s)/\w'.cell? (ai w.heap.size 2)=some (aa p)) Uj ⟨Uf,Uf,Uf⟩ (λhHeld=> ?_);refine T5 0 (.pointer (some (ai w.heap.size 1))) hHeld ?_;simp only[Act.put,T8];refine T5 1 (ae s) hHeld ?_;simp only[Act.put,T8];refine T5 2 (aa s.size) hHeld ?_;simp only[Act.put,T8];refine T5 3 (.bool false) hHeld ?_;simp only[Act.put,T8];refine T5 4 (.bool false) hHeld ?_;simp only[Act.put,T8];refine T5 5 (.map (some b)) hHeld ?_;simp only[Act.put,T8];refine T5 6 (.pointer (some (ai w.heap.size 1))) hHeld ?_;simp only[Act.put,T8];refine T5 7 (ae s) hHeld ?_;simp only[Act.put,T8];refine T5 10 (.agg #[aa k,ae s,aa p]) hHeld ?_;simp only[Act.put,T8];refine wpAnyH_ready (rs:= [8]) Uj Uf (AllReadyH.cons rfl (λK hK=> ?_) AllReadyH.nil);go_simp;refine(RW _ b l s H1 hx).mono ?_;rw[hm];rintro e w3 ⟨rfl,Uq⟩
 have Ut:w3.cell? (ai w.heap.size 0)=some (aa k)/\w3.cell? (ai w.heap.size 1)=some (ae s)/\w3.cell? (ai w.heap.size 2)=some (aa p):=by
  obtain⟨c0,c1,c2⟩:=hHeld;exact⟨(Uq.cell (p:=(ai w.heap.size 0)) Uf).trans c0,(Uq.cell (p:=(ai w.heap.size 1)) Uf).trans c1,(Uq.cell (p:=(ai w.heap.size 2)) Uf).trans c2⟩
 clear hHeld;refine hK.out _ _ Ut (λhHeld=> ?_);clear hK K;refine T5 9 (.bool true) hHeld ?_;simp only[Act.put,T8];refine wpAnyH_ready (rs:= [11]) Uj Uf (AllReadyH.cons rfl (λK hK=> ?_) AllReadyH.nil);clear hK;go_simp;refine(kc _ k s p).mono ?_;rintro e w4 ⟨rfl,hb⟩;exact⟨rfl,rfl,(B0.drew.trans (Uq.mono Uf)).trans (hb.mono (by have:=Uq.size;simp at this;omega))⟩
def Pm (w:an)(b:Nat)(l:ar)(k:Int)(s:am)(p:Nat)(H:eR w b l)(hn:l.length<5000)(hl:s.size<=20)(hm:eM l s=false):
  Calls prog 121 #[.agg #[aa k,ae s,aa p],.map (some b)] w λe w'=>e= .returned (.tuple #[])/\eR w' b (l++ [s])/\dX [b] w w':=by
 have⟨B0,K0⟩:=dS w #[aa k,ae s,aa p] 148;have H1:eR (w.alloc (ak #[aa k,ae s,aa p] 148)).drew b l:=H.keep (Below.heap_alloc _ _ _ H.lt);have Uu:=H.lt;have Us:decide ((20:Int)<(s.size:Int))=false:=Ug;have hx:s.size<=maxLen:=Ul;go_in
 go_wp2
 go_region_held3 (λw'=>w'.cell? (ai w.heap.size 0)=some (aa k)/\w'.cell? (ai w.heap.size 1)=some (ae s)/\w'.cell? (ai w.heap.size 2)=some (aa p))
  (first|exact⟨K4.cell 0,K4.cell 1,K4.cell 2⟩|exact⟨K3.cell 0,K3.cell 1,K3.cell 2⟩|go_keep)
  (first|(go_at_call 179;refine(RW _ b l s H1 hx).mono ?_;rw[hm];rintro e w3 ⟨rfl,Uq⟩;have K3:=K0.drew.below Uq Uf)|(go_at_call 123;refine(rj _ k s p).mono ?_;rintro e w4 ⟨rfl,Ur⟩;have K4:=K3.below Ur K3.lt))
 have Hk:aj w w4:=(B0.drew.trans (Uq.mono Uf)).trans (Ur.mono (by have:=Uq.size;simp at this;omega));have H4:eR w4 b l:=H.keep (Hk.block b Uu);have⟨k1,k2⟩:=K4.rules;go_wp2_with fail;refine(Tf _ b l s H4 Ul hx).mono ?_;rintro e w5 ⟨rfl,H5,Uv⟩;go_wp2;go_end0;exact⟨rfl,H5,(dX.of_below Hk).trans Uv⟩
def RX (w:an)(b:Nat)(l:ar)(k:Int)(s:am)(p:Nat)(H:eR w b l)(hn:l.length<5000):
  Ua 121 #[.agg #[aa k,ae s,aa p],.map (some b)] w λe w'=>
   if il l s then e=dL 3 p/\aj w w' else e= .returned (.tuple #[])/\eR w' b (l++ [s])/\dX [b] w w':=by
 unfold il
 by_cases hl:20<s.size
 ·simp only[hl,decide_true,cJ,if_true];exact IL w b k s p hl
 ·cases hm:eM l s
  ·simp only[hl,decide_false,dj,aM,if_false];exact Pm w b l k s p H hn Ue hm
  ·simp only[hl,decide_false,dj,if_true];exact MN w b l k s p H Ue hm
end
end Go.Proofs.YtfebdimolnobaaaGreatDoor
namespace Go.Proofs
open Go.Shelf
def Tryz.laysPu14_ren:Go.Shelf.Ren:=⟨fun|14=>244|16=>329|17=>330|19=>394|20=>395|21=>396|22=>397|23=>398|24=>399|25=>164|27=>425|26=>424|28=>439|29=>445|30=>448|31=>449|32=>450|33=>451|35=>255|34=>452|36=>453|37=>454|38=>455|39=>456|40=>457|n=>n,fun|9=>9|3=>3|22=>53|24=>354|25=>362|4=>4|34=>463|5=>5|36=>295|37=>140|0=>0|39=>465|21=>21|44=>482|47=>357|50=>493|48=>491|2=>2|52=>500|55=>502|59=>505|60=>164|20=>20|61=>506|65=>507|66=>508|67=>70|n=>n,fun|0=>4|1=>5|2=>6|3=>7|4=>8|n=>n⟩
theorem Tryz.laysPu14:Go.Proofs.LaysPu.n14 Tryz.prog Tryz.laysPu14_ren:=by constructor<;>first|kernel_rfl|(intro w;kernel_rfl)
def Tryz.laysPu25_ren:Go.Shelf.Ren:=⟨fun|25=>164|n=>n,fun|9=>9|3=>3|4=>4|37=>140|0=>0|47=>357|5=>5|n=>n,fun|n=>n⟩
theorem Tryz.laysPu25:Go.Proofs.LaysPu.n25 Tryz.prog Tryz.laysPu25_ren:=by constructor<;>first|kernel_rfl|(intro w;kernel_rfl)
end Go.Proofs
namespace Go.Proofs.YtfebdimolnobaaaGreatDoor
open Go.RowKit Go.Proofs.Tryz
section
open Go.Maps
attribute [local go_sem] jo jp jq
def GOK (w:an):Prop:=∃ev,w.cell? (ai 5 0)=some ev/\(ev= .nilIface\/∃te pe,ev= .iface te pe)
def GOK.keep {w w':an}(h:GOK w)(hb:w'.heap[5]?=w.heap[5]?):GOK w':=by
 obtain⟨ev,h1,h2⟩:=h;exact⟨ev,(bu (a:=(ai 5 0)) hb).trans h1,h2⟩
def GOK.lt {w:an}(h:GOK w):5<w.heap.size:=by
 obtain⟨ev,h1,h2⟩:=h;exact aQ _ _ h1
def iJ (s:am):Nat:=
 match Lib.parseUintB 64 s.data.toList with
 | .ok u=>u
 |_=>18446744073709551615
def kh (s:am):Prop:=s.size<=2000/\((∃u,Lib.parseUintB 64 s.data.toList= .ok u)\/Lib.parseUintB 64 s.data.toList= .range)
def MO (s:am):iJ s<18446744073709551616:=by
 unfold iJ
 split
 ·rename_i u h
  have:=Lib.parseUintB_le h;omega
 ·omega
def TD (s:am)(w:an)(h:kh s)(hg:GOK w):
  Ua 244 #[ae s,aa 10,aa 64] w λe w'=>∃v,e= .returned (.tuple #[.int .u64 (iJ s),v])/\aj w w':=by
 obtain⟨ev,h1,h2⟩:=hg;unfold iJ
 rcases h.2 with⟨u,hp⟩|hp
 ·rw[hp];refine(Any.strconv_ParseUint_10_at64_ok Tryz.laysPu14 s (by have:=h.1;omega) u hp w).mono ?_;rintro e w' ⟨rfl,hw⟩;refine⟨_,rfl,?_⟩
  rcases hw with rfl|rfl
  ·exact Below.refl _ _
  ·exact Lib.bytesWorld_below _ _ _
 ·rw[hp];refine(Any.strconv_ParseUint_10_at64_range Tryz.laysPu14 s (by have:=h.1;omega) hp ev w h1 h2).mono ?_;rintro e w' ⟨N,rfl,-,-,hb⟩;exact⟨_,rfl,hb⟩
def TE (s:am)(w:an)(h:s.size<=2000):
  Calls prog 108 #[ae s] w λe w'=>e= .returned (ae s)/\aj w w':=by
 go_in
 go_wp2_with fail;refine(AnyPu.stringslite_Clone Tryz.laysPu25 s _ Ue).mono ?_;rintro e w1 ⟨rfl,hb⟩;go_wp2;go_ret;exact⟨rfl,hb⟩
def RY (w:an)(k:Int)(s:am)(p:Nat)(h:kh s)(hg:GOK w):
  Calls prog 165 #[.agg #[aa k,ae s,aa p]] w λe w'=>e= .returned (.int .u64 (iJ s))/\aj w w':=by
 have B0:=(Uc w).alloc (ay _) (ak #[aa k,ae s,aa p] 148);go_in
 go_wp2_with fail;refine(TD s _ h (hg.keep (Below.heap_alloc _ _ _ hg.lt))).mono ?_;rintro e w1 ⟨v,rfl,hb⟩;go_wp2;go_ret;exact⟨rfl,B0.trans (hb.mono Uf)⟩
end
section
open Go.Maps
attribute [local go_sem] jo jp jq
open Uq
def Tg (w:an)(k:Int)(s:am)(p:Nat):
  Calls prog 260 #[.agg #[aa k,ae s,aa p]] w λe w'=>e= .returned (.bool (gM k s))/\aj w w':=by
 have B0:=(Uc w).alloc (ay _) (ak #[aa k,ae s,aa p] 148)
 cases h0:(k==3)
 ·go_in
  go_wp2;go_ret;exact⟨ix (by simp only[gM,h0];simp),B0⟩
 ·cases h1:(s.toList== [102,108,111,97,116])
  ·cases h2:(s.toList== [100,111,117,98,108,101])
   ·cases h3:(s.toList== [98,121,116,101,115])
    ·go_in
     go_wp2;go_ret;exact⟨ix (by simp only[gM,h0,h1,h2,h3];simp),B0⟩
    ·go_in
     go_wp2;go_ret;exact⟨ix (by simp only[gM,h0,h1,h2,h3];simp),B0⟩
   ·go_in
    go_wp2;go_ret;exact⟨ix (by simp only[gM,h0,h1,h2];simp),B0⟩
  ·go_in
   go_wp2;go_ret;exact⟨ix (by simp only[gM,h0,h1];simp),B0⟩
def ow (types:ar)(k:Int)(s:am):Bool:=k==1&&(decide (20<s.size)|| !eM types s)
def Pn (w:an)(tb nb mb:Nat)(k:Int)(s:am)(p:Nat)(hk:(k==1)=false):
  Calls prog 261 #[.agg #[.map (some tb),.map (some nb),.map (some mb)],.agg #[aa k,ae s,aa p]] w λe w'=>e= .returned (.tuple #[])/\aj w w':=by
 have⟨B0,KC,KW⟩:=gH w #[.map (some tb),.map (some nb),.map (some mb)] #[aa k,ae s,aa p] 306 148;have⟨r1,r2⟩:=KC.rules;have⟨r3,r4⟩:=KW.rules;clear r1 r2 r3 r4 KC KW;go_in
 go_wp2;go_end0;exact⟨rfl,B0⟩
def IM (w:an)(tb nb mb:Nat)(k:Int)(s:am)(p:Nat)(hk:(k==1)=true)(hl:20<s.size):
  Calls prog 261 #[.agg #[.map (some tb),.map (some nb),.map (some mb)],.agg #[aa k,ae s,aa p]] w λe w'=>e=dL 3 p/\aj w w':=by
 have⟨B0,KC,KW⟩:=gH w #[.map (some tb),.map (some nb),.map (some mb)] #[aa k,ae s,aa p] 306 148;have⟨r1,r2⟩:=KC.rules;have⟨r3,r4⟩:=KW.rules;have hd:(20:Int)<(s.size:Int):=Ue;go_in
 go_wp2_with fail;clear r1 r2 r3 r4;refine wp_region_held_drew (S:=λw'=>w'.cell? (ai w.heap.size 0)=some (.map (some tb))/\w'.cell? (ai (w.heap.size+1) 0)=some (aa k)/\w'.cell? (ai (w.heap.size+1) 1)=some (ae s)/\w'.cell? (ai (w.heap.size+1) 2)=some (aa p)) Uj ⟨KC.cell 0,KW.cell 0,KW.cell 1,KW.cell 2⟩ (λhHeld=> ?_);refine T6 0 (.pointer (some (ai (w.heap.size+1) 1))) hHeld ?_;simp only[Act.put,T8];refine T6 1 (ae s) hHeld ?_;simp only[Act.put,T8];refine T6 2 (aa s.size) hHeld ?_;simp only[Act.put,T8];refine T6 3 (.bool true) hHeld ?_;simp only[Act.put,T8];refine T6 4 (.bool true) hHeld ?_;simp only[Act.put,T8];refine T7 5 undef hHeld ?_;simp only[Act.put,T8];refine T7 6 undef hHeld ?_;simp only[Act.put,T8];refine T7 7 undef hHeld ?_;simp only[Act.put,T8];refine T7 8 undef hHeld ?_;simp only[Act.put,T8];refine T7 9 undef hHeld ?_;simp only[Act.put,T8];refine T7 10 undef hHeld ?_;simp only[Act.put,T8];refine T6 11 (.bool true) hHeld ?_;simp only[Act.put,T8];refine T6 12 (.agg #[aa k,ae s,aa p]) hHeld ?_;simp only[Act.put,T8];refine wpAnyH_ready (rs:= [13]) Uj Uf (AllReadyH.cons rfl (λK hK=> ?_) AllReadyH.nil);clear hK;go_simp;refine(kc _ k s p).mono ?_;rintro e w4 ⟨rfl,hb⟩;exact⟨rfl,rfl,B0.drew.trans (hb.mono Ug)⟩
def IN (w:an)(tb nb mb:Nat)(types:ar)(k:Int)(s:am)(p:Nat)(H:eR w tb types)(hk:(k==1)=true)(hl:s.size<=20)(hm:eM types s=false):
  Calls prog 261 #[.agg #[.map (some tb),.map (some nb),.map (some mb)],.agg #[aa k,ae s,aa p]] w λe w'=>e=dL 3 p/\aj w w':=by
 have⟨B0,KC,KW⟩:=gH w #[.map (some tb),.map (some nb),.map (some mb)] #[aa k,ae s,aa p] 306 148;have⟨r1,r2⟩:=KC.rules;have⟨r3,r4⟩:=KW.rules;have Us:decide ((20:Int)<(s.size:Int))=false:=Ug;have hx:s.size<=maxLen:=Ul;have H1:eR ((w.alloc (ak #[.map (some tb),.map (some nb),.map (some mb)] 306)).alloc (ak #[aa k,ae s,aa p] 148)).drew tb types:=H.keep (B0.block _ H.lt);go_in
 go_wp2_with fail;clear r1 r2 r3 r4;refine wp_region_held_drew (S:=λw'=>w'.cell? (ai w.heap.size 0)=some (.map (some tb))/\w'.cell? (ai (w.heap.size+1) 0)=some (aa k)/\w'.cell? (ai (w.heap.size+1) 1)=some (ae s)/\w'.cell? (ai (w.heap.size+1) 2)=some (aa p)) Uj ⟨KC.cell 0,KW.cell 0,KW.cell 1,KW.cell 2⟩ (λhHeld=> ?_);refine T6 0 (.pointer (some (ai (w.heap.size+1) 1))) hHeld ?_;simp only[Act.put,T8];refine T6 1 (ae s) hHeld ?_;simp only[Act.put,T8];refine T6 2 (aa s.size) hHeld ?_;simp only[Act.put,T8];refine T6 3 (.bool false) hHeld ?_;simp only[Act.put,T8];refine T6 4 (.bool false) hHeld ?_;simp only[Act.put,T8];refine T6 5 (ag w.heap.size) hHeld ?_;simp only[Act.put,T8];refine T6 6 (.map (some tb)) hHeld ?_;simp only[Act.put,T8];refine T6 7 (.pointer (some (ai (w.heap.size+1) 1))) hHeld ?_;simp only[Act.put,T8];refine T6 8 (ae s) hHeld ?_;simp only[Act.put,T8];refine T6 12 (.agg #[aa k,ae s,aa p]) hHeld ?_;simp only[Act.put,T8];refine wpAnyH_ready (rs:= [9]) Uj Uf (AllReadyH.cons rfl (λK hK=> ?_) AllReadyH.nil);go_simp;refine(RW _ tb types s H1 hx).mono ?_;rw[hm];rintro e w3 ⟨rfl,Uq⟩;have K3:=KC.drew.below Uq Ug;have K4:=KW.drew.below Uq Uf;clear hHeld;refine hK.out _ _ ⟨K3.cell 0,K4.cell 0,K4.cell 1,K4.cell 2⟩ (λhHeld=> ?_);clear hK K;refine T6 10 (.bool true) hHeld ?_;simp only[Act.put,T8];refine T6 11 (.bool true) hHeld ?_;simp only[Act.put,T8];refine wpAnyH_ready (rs:= [13]) Uj Uf (AllReadyH.cons rfl (λK hK=> ?_) AllReadyH.nil);clear hK;go_simp;refine(kc _ k s p).mono ?_;rintro e w4 ⟨rfl,hb⟩;exact⟨rfl,rfl,(B0.drew.trans (Uq.mono Ug)).trans (hb.mono (by have:=Uq.size;simp at this;omega))⟩
def Po (w:an)(tb nb mb:Nat)(types:ar)(k:Int)(s:am)(p:Nat)(H:eR w tb types)(hk:(k==1)=true)(hl:s.size<=20)(hm:eM types s=true):
  Calls prog 261 #[.agg #[.map (some tb),.map (some nb),.map (some mb)],.agg #[aa k,ae s,aa p]] w λe w'=>e= .returned (.tuple #[])/\aj w w':=by
 have⟨B0,KC,KW⟩:=gH w #[.map (some tb),.map (some nb),.map (some mb)] #[aa k,ae s,aa p] 306 148;have⟨r1,r2⟩:=KC.rules;have⟨r3,r4⟩:=KW.rules;have Us:decide ((20:Int)<(s.size:Int))=false:=Ug;have hx:s.size<=maxLen:=Ul;have H1:eR ((w.alloc (ak #[.map (some tb),.map (some nb),.map (some mb)] 306)).alloc (ak #[aa k,ae s,aa p] 148)).drew tb types:=H.keep (B0.block _ H.lt);go_in
 go_wp2
 go_region_held3 (λw'=>w'.cell? (ai w.heap.size 0)=some (.map (some tb))/\w'.cell? (ai (w.heap.size+1) 0)=some (aa k)/\w'.cell? (ai (w.heap.size+1) 1)=some (ae s)/\w'.cell? (ai (w.heap.size+1) 2)=some (aa p))
  (first|exact⟨K5.cell 0,K6.cell 0,K6.cell 1,K6.cell 2⟩|exact⟨K3.cell 0,K4.cell 0,K4.cell 1,K4.cell 2⟩|go_keep)
  (first|(go_at_call 179;refine(RW _ tb types s H1 hx).mono ?_;rw[hm];rintro e w3 ⟨rfl,Uq⟩;have K3:=KC.drew.below Uq Ug;have K4:=KW.drew.below Uq Uf)|(go_at_call 123;refine(rj _ k s p).mono ?_;rintro e w4 ⟨rfl,Ur⟩;have K5:=K3.below Ur K3.lt;have K6:=K4.below Ur K4.lt))
 go_wp2;go_end0;exact⟨rfl,(B0.drew.trans (Uq.mono Ug)).trans (Ur.mono (by have:=Uq.size;simp at this;omega))⟩
def TF (w:an)(tb nb mb:Nat)(types:ar)(k:Int)(s:am)(p:Nat)(H:eR w tb types):
  Ua 261 #[.agg #[.map (some tb),.map (some nb),.map (some mb)],.agg #[aa k,ae s,aa p]] w λe w'=>(if ow types k s then e=dL 3 p else e= .returned (.tuple #[]))/\aj w w':=by
 unfold ow
 cases hk:(k==1)
 ·simp only[cA,aM,if_false];exact Pn w tb nb mb k s p hk
 ·by_cases hl:20<s.size
  ·simp only[hl,decide_true,cJ,dl,if_true];exact IM w tb nb mb k s p hk hl
  ·cases hm:eM types s
   ·simp only[hl,decide_false,cS,cq,dl,if_true];exact IN w tb nb mb types k s p H hk Ue hm
   ·simp only[hl,decide_false,cL,cF,cB,aM,if_false];exact Po w tb nb mb types k s p H hk Ue hm
def ox (nums:au)(n:Nat):Bool:=decide (n<1)||(decide (536870911<n)||AF nums n)
def TG (w:an)(tb nb mb:Nat)(k:Int)(s:am)(p:Nat)(hok:kh s)(hg:GOK w)(nums:au)(H:gY w mb nums)(hl:nums.length<5000):
  Calls prog 262 #[.agg #[.map (some tb),.map (some nb),.map (some mb)],.agg #[aa k,ae s,aa p]] w λe w'=>if ox nums (iJ s)then e=dL 3 p/\aj w w' else e= .returned (.tuple #[])/\gY w' mb (nums++ [iJ s])/\dX [mb] w w':=by
 have⟨B0,Ut,Uu⟩:=gH w #[.map (some tb),.map (some nb),.map (some mb)] #[aa k,ae s,aa p] 306 148;have⟨r1,r2⟩:=Ut.rules;have⟨r3,r4⟩:=Uu.rules;obtain⟨n,HN⟩:∃n,Hid (iJ s=n):=⟨_,rfl⟩;have Uv:Hid (n<18446744073709551616):=by have:=MO s;rw[HN.out]at this;exact this
 rw[HN.out];obtain⟨q,hq⟩:∃q,ox nums n=q:=⟨_,rfl⟩;rw[hq]
 have hc:((n:Int)<1/\q=true)\/(decide ((n:Int)<1)=false/\(536870911:Int)<(n:Int)/\q=true)\/(decide ((n:Int)<1)=false/\decide ((536870911:Int)<(n:Int))=false/\AF nums n=q):=by
  rw[<-hq];unfold ox
  by_cases h1:n<1
  ·exact .inl ⟨Ue,by simp[h1]⟩
  ·by_cases h2:536870911<n
   ·exact .inr (.inl ⟨Ug,Ue,by simp[h2]⟩)
   ·exact .inr (.inr ⟨Ug,Ug,by simp[h1,h2]⟩)
 clear hq;go_in
 go_wp2_with fail;refine(RY _ k s p hok (hg.keep (B0.block _ hg.lt))).mono ?_;rw[HN.out];rintro e w2 ⟨rfl,Us⟩;have KC:=Ut.below Us Ug;have KW:=Uu.below Us Uf;have B2:aj w w2:=B0.trans (Us.mono Ug);have z2:w.heap.size+1<w2.heap.size:=KW.lt;have HS:Hid (∀W,aj w2 W->W.cell? (ai w.heap.size 2)=some (.map (some mb))/\W.cell? (ai (w.heap.size+1) 0)=some (aa k)/\W.cell? (ai (w.heap.size+1) 1)=some (ae s)/\W.cell? (ai (w.heap.size+1) 2)=some (aa p)):=λW hW=>⟨(KC.below hW KC.lt).cell 2,(KW.below hW KW.lt).cell 0,(KW.below hW KW.lt).cell 1,(KW.below hW KW.lt).cell 2⟩
 have D2:=(Uc w2).drew;clear r1 r2 r3 r4 Ut Uu B0 Us;go_wp2_with fail;have H2:gY w2.drew mb nums:=H.keep (B2.block _ H.lt);have Uq:=TC _ mb nums n H2 Uv.out
 rcases hc with⟨hd,rfl⟩|⟨Ux,Uy,rfl⟩|⟨Ux,Uy,hm⟩
 rotate_right;rw[hm]at Uq
 cases q
 ·go_region_held3 (λw'=>w'.cell? (ai w.heap.size 2)=some (.map (some mb))/\w'.cell? (ai (w.heap.size+1) 0)=some (aa k)/\w'.cell? (ai (w.heap.size+1) 1)=some (ae s)/\w'.cell? (ai (w.heap.size+1) 2)=some (aa p))
   (first|exact HS.out _ (dI b3 Uw)|exact HS.out _ b3|exact HS.out _ D2)
   (first|(go_at_call 342;refine Uq.mono ?_;rintro e w3 ⟨rfl,Ur⟩;have b3:=dI D2 Ur)|(go_at_call 123;refine(rj _ k s p).mono ?_;rintro e w4 ⟨rfl,Uw⟩))
  have b4:=dI b3 Uw;have Hk:aj w w4:=dI B2 b4;have H4:gY w4 mb nums:=H.keep (Hk.block _ H.lt);have⟨k1,k2⟩:=(KC.below b4 KC.lt).rules;go_wp2_with fail;refine(TB _ mb nums n H4 Ul Uv.out).mono ?_;rintro e w5 ⟨rfl,H5,Uz⟩;go_wp2;go_end0;exact⟨rfl,H5,(dX.of_below Hk).trans Uz⟩
 all_goals refine wp_region_held_drew (S:=λw'=>w'.cell? (ai w.heap.size 2)=some (.map (some mb))/\w'.cell? (ai (w.heap.size+1) 0)=some (aa k)/\w'.cell? (ai (w.heap.size+1) 1)=some (ae s)/\w'.cell? (ai (w.heap.size+1) 2)=some (aa p)) Uj ⟨KC.cell 2,KW.cell 0,KW.cell 1,KW.cell 2⟩ (λhHeld=> ?_)
 ·refine T6 0 (.int .u64 (n:Int)) hHeld ?_;simp only[Act.put,T8];refine T6 1 (.bool false) hHeld ?_;simp only[Act.put,T8];refine T6 2 (.bool false) hHeld ?_;simp only[Act.put,T8];refine T6 3 (.int .u64 (n:Int)) hHeld ?_;simp only[Act.put,T8];refine T6 4 (.bool false) hHeld ?_;simp only[Act.put,T8];refine T6 5 (.bool false) hHeld ?_;simp only[Act.put,T8];refine T6 6 (.bool false) hHeld ?_;simp only[Act.put,T8];refine T6 7 (.pointer (some (ai w.heap.size 2))) hHeld ?_;simp only[Act.put,T8];refine T6 8 (.map (some mb)) hHeld ?_;simp only[Act.put,T8];refine T6 9 (.int .u64 (n:Int)) hHeld ?_;simp only[Act.put,T8];refine T6 12 (.agg #[aa k,ae s,aa p]) hHeld ?_;simp only[Act.put,T8];refine wpAnyH_ready (rs:= [10]) Uj Uf (AllReadyH.cons rfl (λK hK=> ?_) AllReadyH.nil);go_simp;refine Uq.mono ?_;rintro e w3 ⟨rfl,Ur⟩;have K3:=KC.drew.below Ur KC.lt;have K4:=KW.drew.below Ur KW.lt;clear hHeld;refine hK.out _ _ ⟨K3.cell 2,K4.cell 0,K4.cell 1,K4.cell 2⟩ (λhHeld=> ?_);clear hK K;refine T6 11 (.bool true) hHeld ?_;simp only[Act.put,T8];refine wpAnyH_ready (rs:= [13]) Uj Uf (AllReadyH.cons rfl (λK hK=> ?_) AllReadyH.nil);clear hK;go_simp;refine(kc _ k s p).mono ?_;rintro e w4 ⟨rfl,hb⟩;exact⟨rfl,rfl,(B2.drew.trans (Ur.mono Ug)).trans (hb.mono (by have:=Ur.size;simp at this;omega))⟩
 ·refine T6 0 (.int .u64 (n:Int)) hHeld ?_;simp only[Act.put,T8];refine T6 1 (.bool true) hHeld ?_;simp only[Act.put,T8];refine T6 2 (.bool true) hHeld ?_;simp only[Act.put,T8];refine T7 3 undef hHeld ?_;simp only[Act.put,T8];refine T7 4 undef hHeld ?_;simp only[Act.put,T8];refine T6 5 (.bool true) hHeld ?_;simp only[Act.put,T8];refine T6 6 (.bool true) hHeld ?_;simp only[Act.put,T8];refine T7 7 undef hHeld ?_;simp only[Act.put,T8];refine T7 8 undef hHeld ?_;simp only[Act.put,T8];refine T7 9 undef hHeld ?_;simp only[Act.put,T8];refine T7 10 undef hHeld ?_;simp only[Act.put,T8];refine T6 11 (.bool true) hHeld ?_;simp only[Act.put,T8];refine T6 12 (.agg #[aa k,ae s,aa p]) hHeld ?_;simp only[Act.put,T8];refine wpAnyH_ready (rs:= [13]) Uj Uf (AllReadyH.cons rfl (λK hK=> ?_) AllReadyH.nil);clear hK;go_simp;refine(kc _ k s p).mono ?_;rintro e w4 ⟨rfl,hb⟩;exact⟨rfl,rfl,B2.drew.trans (hb.mono Ug)⟩
 ·refine T6 0 (.int .u64 (n:Int)) hHeld ?_;simp only[Act.put,T8];refine T6 1 (.bool false) hHeld ?_;simp only[Act.put,T8];refine T6 2 (.bool false) hHeld ?_;simp only[Act.put,T8];refine T6 3 (.int .u64 (n:Int)) hHeld ?_;simp only[Act.put,T8];refine T6 4 (.bool true) hHeld ?_;simp only[Act.put,T8];refine T6 5 (.bool true) hHeld ?_;simp only[Act.put,T8];refine T6 6 (.bool true) hHeld ?_;simp only[Act.put,T8];refine T7 7 undef hHeld ?_;simp only[Act.put,T8];refine T7 8 undef hHeld ?_;simp only[Act.put,T8];refine T7 9 undef hHeld ?_;simp only[Act.put,T8];refine T7 10 undef hHeld ?_;simp only[Act.put,T8];refine T6 11 (.bool true) hHeld ?_;simp only[Act.put,T8];refine T6 12 (.agg #[aa k,ae s,aa p]) hHeld ?_;simp only[Act.put,T8];refine wpAnyH_ready (rs:= [13]) Uj Uf (AllReadyH.cons rfl (λK hK=> ?_) AllReadyH.nil);clear hK;go_simp;refine(kc _ k s p).mono ?_;rintro e w4 ⟨rfl,hb⟩;exact⟨rfl,rfl,B2.drew.trans (hb.mono Ug)⟩
def IP (l:au)(h:l.Nodup):Maps.size (setOf (H:=Unit) (.agg []) (l.map qI))=l.length:=by
 rw[size_setOf _ _ (by intro x hx;obtain⟨y,_,rfl⟩:=aP.1 hx;exact trivial)]
 have key:∀(l acc:au),(acc++l).Nodup->((l.map qI).foldl addKey (acc.map qI))=(acc++l).map qI:=by
  intro l
  induction l with
  |nil=>intro acc _;simp
  |cons x l ih=>
   intro acc Ux
   have hx:(acc.map qI).any (λy=>y.sameKey (qI x))=false:=by
    rw[List.any_map,dy];intro y hy
    have hne:y≠x:=by
     rintro rfl;have:=dz.1 Ux;exact this.2.2 _ hy _ Uf rfl
    show¬decide (IntKind.u64=IntKind.u64/\(y:Int)=(x:Int))=true;simp;omega
   have e:addKey (acc.map qI) (qI x)=(acc++ [x]).map qI:=by
    unfold addKey;simp[hx]
   rw[bO,List.foldl_cons,e,ih (acc++ [x]) (by simpa using Ux)];simp
 have:=key l [] (by simpa using h);simp only[List.map_nil,aS]at this;rw[this];simp
def jQ (types names:ar)(nums:au)(tk:Int)(ts:am)(tp:Nat)(ns:am)(np:Nat)(ms:am)(mp:Nat):Except Nat (ar×au):=
 if ow types tk ts then .error tp
 else if il names ns then .error np
 else if decide (12<=nums.length)then .error np
 else if ox nums (iJ ms)then .error mp
 else .ok (names++ [ns],nums++ [iJ ms])
def uC (types names:ar)(nums:au)(form kk:Int)(ks:am)(kp:Nat)(tk:Int)(ts:am)(tp:Nat)(ns:am)(np:Nat)(ms:am)(mp:Nat):Except Nat (ar×au):=
 if form==4&& !gM kk ks then .error kp else jQ types names nums tk ts tp ns np ms mp
def Ra (nb mb:Nat)(w:an)(r:Except Nat (ar×au))(e:Ending)(w':an):Prop:=
 match r with
 | .error p=>e=dL 3 p/\dX [nb,mb] w w'
 | .ok (names,nums)=>e= .returned (.tuple #[])/\eR w' nb names/\gY w' mb nums/\dX [nb,mb] w w'
def TH (w:an)(tb nb mb:Nat)(types names:ar)(nums:au)(form kk:Int)(ks:am)(kp:Nat)(tk:Int)(ts:am)(tp:Nat)(nk:Int)(ns:am)(np:Nat)(mk:Int)(ms:am)(mp:Nat)(HT:eR w tb types)(HN:eR w nb names)(HM:gY w mb nums)(d3:nb≠mb)(g1:5≠nb)(hln:names.length<5000)(hlm:nums.length<5000)(Ux:nums.Nodup)(hok:kh ms)(hg:GOK w):
  Calls prog 180 #[.agg #[.map (some tb),.map (some nb),.map (some mb)],.agg #[aa form,aa kk,ae ks,aa kp,aa tk,ae ts,aa tp,aa nk,ae ns,aa np,aa mk,ae ms,aa mp]] w (Ra nb mb w (uC types names nums form kk ks kp tk ts tp ns np ms mp)):=by
 obtain⟨r,HQ⟩:∃r,Hid ((if form==4&& !gM kk ks then .error kp else jQ types names nums tk ts tp ns np ms mp)=r):=⟨_,rfl⟩;rw[show uC types names nums form kk ks kp tk ts tp ns np ms mp=r from HQ.out]
 have hf:(form==4)=false\/((form==4)=true/\gM kk ks=true)\/((form==4)=true/\gM kk ks=false):=by
  generalize(form==4)=x;generalize gM kk ks=y
  revert x y;decide
 have⟨B0,Uy,Ur⟩:=gH w #[.map (some tb),.map (some nb),.map (some mb)] #[aa form,aa kk,ae ks,aa kp,aa tk,ae ts,aa tp,aa nk,ae ns,aa np,aa mk,ae ms,aa mp] 306 211;have⟨r1,r2⟩:=Uy.rules;have⟨r3,r4⟩:=Ur.rules;have UM:=HT.lt;have UF:=HN.lt;have UD:=HM.lt;go_in
 rcases hf with hf|⟨hf,Uz⟩|⟨hf,Uz⟩
 have HR:Hid (jQ types names nums tk ts tp ns np ms mp=r):=by have:=HQ.out;rw[hf]at this;exact this
 have B2:=B0;have KC:=Uy;have KF:=Ur;clear r1 r2 r3 r4;rotate_left;have HR:Hid (jQ types names nums tk ts tp ns np ms mp=r):=by have:=HQ.out;rw[hf,Uz]at this;exact this
 focus
  go_wp2
  go_region_held3 (λw'=>w'.cell? (ai (w.heap.size+1) 1)=some (aa kk)/\w'.cell? (ai (w.heap.size+1) 2)=some (ae ks)/\w'.cell? (ai (w.heap.size+1) 3)=some (aa kp))
   (first|exact⟨K5.cell 1,K5.cell 2,K5.cell 3⟩|exact⟨K3.cell 1,K3.cell 2,K3.cell 3⟩|exact⟨Ur.cell 1,Ur.cell 2,Ur.cell 3⟩)
   (first|(go_at_call 260;refine(Tg _ kk ks kp).mono ?_;rw[Uz];rintro e w3 ⟨rfl,Uq⟩;have K3:=Ur.drew.below Uq Ur.lt)|(go_at_call 123;refine(rj _ kk ks kp).mono ?_;rintro e w2 ⟨rfl,Ut⟩;have K5:=K3.below Ut K3.lt))
  have B2:aj w w2:=(B0.drew.trans (Uq.mono Ug)).trans (Ut.mono (by have:=Uq.size;simp at this;omega));have KC:=(Uy.drew.below Uq Uy.lt).below Ut (by have:=Uq.size;simp at this;omega);have KF:=K5;clear r1 r2 r3 r4 K3 K5 Uq Ut B0 Uy Ur
 rotate_left
 ·obtain rfl:r= .error kp:=by rw[<-HQ.out,hf,Uz];rfl
  go_wp2;refine wp_region_held_drew (S:=λw'=>w'.cell? (ai (w.heap.size+1) 1)=some (aa kk)/\w'.cell? (ai (w.heap.size+1) 2)=some (ae ks)/\w'.cell? (ai (w.heap.size+1) 3)=some (aa kp)) Uj ⟨Ur.cell 1,Ur.cell 2,Ur.cell 3⟩ (λhHeld=> ?_);refine T5 0 (.pointer (some (ai (w.heap.size+1) 1))) hHeld ?_;simp only[Act.put,T8];refine T5 1 (.agg #[aa kk,ae ks,aa kp]) hHeld ?_;simp only[Act.put,T8];refine T5 4 (.pointer (some (ai (w.heap.size+1) 1))) hHeld ?_;simp only[Act.put,T8];refine T5 5 (.agg #[aa kk,ae ks,aa kp]) hHeld ?_;simp only[Act.put,T8];refine wpAnyH_ready (rs:= [2]) Uj Uf (AllReadyH.cons rfl (λK hK=> ?_) AllReadyH.nil);clear r1 r2 r3 r4;go_simp;refine(Tg _ kk ks kp).mono ?_;rw[Uz];rintro e w3 ⟨rfl,Uq⟩;have K3:=Ur.drew.below Uq Ur.lt;clear hHeld;refine hK.out _ _ ⟨K3.cell 1,K3.cell 2,K3.cell 3⟩ (λhHeld=> ?_);clear hK K;refine T5 3 (.bool true) hHeld ?_;simp only[Act.put,T8];refine wpAnyH_ready (rs:= [6]) Uj Uf (AllReadyH.cons rfl (λK hK=> ?_) AllReadyH.nil);clear hK;go_simp;refine(kc _ kk ks kp).mono ?_;rintro e w4 ⟨rfl,hb⟩;exact⟨rfl,rfl,dX.of_below ((B0.drew.trans (Uq.mono Ug)).trans (hb.mono (by have:=Uq.size;simp at this;omega)))⟩
 all_goals
  have UG:=HT.keep (B2.block _ UM);have UN:=HN.keep (B2.block _ UF);have UO:=HM.keep (B2.block _ UD);have UP:=hg.keep (B2.block _ hg.lt);have z2:=KF.lt;have⟨r1,r2⟩:=KC.rules;have⟨r3,r4⟩:=KF.rules;go_wp2_with fail;clear r1 r2 r3 r4;refine(TF _ tb nb mb types tk ts tp UG).mono ?_
  cases h1:ow types tk ts
  rotate_left
  ·rintro e w3 ⟨he,Uq⟩;obtain rfl:e=dL 3 tp:=by simpa using he
   obtain rfl:r= .error tp:=by rw[<-HR.out,jQ];simp only[h1,if_true]
   unfold dL;go_wp2;exact⟨rfl,rfl,dX.of_below (B2.trans (Uq.mono B2.size))⟩
  rintro e w3 ⟨he,Uq⟩;obtain rfl:e= .returned (.tuple #[]):=by simpa using he
  have B3:=B2.trans (Uq.mono B2.size);have UB:=KC.below Uq KC.lt;have Uu:=KF.below Uq KF.lt;have UH:eR w3 nb names:=HN.keep (B3.block _ UF);have z3:=Uu.lt;clear KC KF Uq UG UN UO UP;have⟨r1,r2⟩:=UB.rules;have⟨r3,r4⟩:=Uu.rules;go_wp2_with fail;clear r1 r2 r3 r4;refine(RX _ nb names nk ns np UH hln).mono ?_
  cases h2:il names ns
  rotate_left
  ·rintro e w4 ⟨rfl,Ut⟩;obtain rfl:r= .error np:=by rw[<-HR.out,jQ];simp only[h1,h2,if_true,aM,if_false]
   unfold dL;go_wp2;exact⟨rfl,rfl,dX.of_below (B3.trans (Ut.mono B3.size))⟩
  rintro e w4 ⟨rfl,UK,UA⟩;have e1:w.heap.size≠nb:=Ue;have e2:w.heap.size+1≠nb:=Ue;have C4:dX [nb,mb] w w4:=(dX.of_below B3).trans (UA.mono Uf);have UC:dM w4 w.heap.size #[.map (some tb),.map (some nb),.map (some mb)] 306:=(UA.block _ UB.lt (by simpa using e1)).trans UB;have Uv:dM w4 (w.heap.size+1) #[aa form,aa kk,ae ks,aa kp,aa tk,ae ts,aa tp,aa nk,ae ns,aa np,aa mk,ae ms,aa mp] 211:=(UA.block _ Uu.lt (by simpa using e2)).trans Uu;have UE:gY w4 mb nums:=HM.keep ((UA.block _ (aD UD B3.size) (by simpa using λe=>d3 e.symm)).trans (B3.block _ UD));have UI:GOK w4:=hg.keep ((UA.block _ (aD hg.lt B3.size) (by simpa using g1)).trans (B3.block _ hg.lt));have Uw:w4.ownsMap prog 53 (unitElem (H:=Unit)) mb nums.length (setOf (.agg []) (nums.map qI)):=UE;have z4:=Uv.lt;clear UB Uu UH;have⟨r1,r2⟩:=UC.rules;have⟨r3,r4⟩:=Uv.rules
  cases h3:decide (12<=nums.length)
  rotate_left
  ·have hd:(12:Int)<=(nums.length:Int):=by have:=of_decide_eq_true h3;omega
   obtain rfl:r= .error np:=by rw[<-HR.out,jQ];simp only[h1,h2,h3,if_true,aM,if_false]
   go_wp2_with (at_len;refine wpList_len_own _ rfl _ 304 rfl 53 162 underlying304 _ mb _ _ rfl Uw ?_;rw[IP nums Ux])
   refine(kc _ nk ns np).mono ?_;rintro e w5 ⟨rfl,Us⟩;unfold dL;go_wp2;exact⟨rfl,rfl,C4.trans (dX.of_below Us)⟩
  have hd:decide ((12:Int)<=(nums.length:Int))=false:=by have:=of_decide_eq_false h3;simp;omega
  go_wp2_with (at_len;refine wpList_len_own _ rfl _ 304 rfl 53 162 underlying304 _ mb _ _ rfl Uw ?_;rw[IP nums Ux])
  refine(rj _ nk ns np).mono ?_;rintro e w5 ⟨rfl,Us⟩;have C5:=C4.trans (dX.of_below Us);have UQ:=UC.below Us UC.lt;have UR:=Uv.below Us Uv.lt;have UJ:=UK.keep (Us.block _ UK.lt);have US:=UE.keep (Us.block _ UE.lt);have UT:=UI.keep (Us.block _ UI.lt);clear UC Uv r1 r2 r3 r4 hd;have⟨r1,r2⟩:=UQ.rules;have⟨r3,r4⟩:=UR.rules;go_wp2_with fail;clear r1 r2 r3 r4;refine(TG _ tb nb mb mk ms mp hok UT nums US hlm).mono ?_
  cases h4:ox nums (iJ ms)
  rotate_left
  ·rintro e w6 ⟨rfl,UU⟩;obtain rfl:r= .error mp:=by rw[<-HR.out,jQ];simp only[h1,h2,h3,h4,if_true,aM,if_false]
   unfold dL;go_wp2;exact⟨rfl,rfl,C5.trans (dX.of_below UU)⟩
  rintro e w6 ⟨rfl,UV,UL⟩;obtain rfl:r= .ok (names++ [ns],nums++ [iJ ms]):=by rw[<-HR.out,jQ];simp only[h1,h2,h3,h4,aM,if_false]
  go_wp2;go_end0;exact⟨rfl,UJ.keep (UL.block _ UJ.lt (by simpa using d3)),UV,C5.trans (UL.mono Uf)⟩
def qb (x:W×W):(El x).length=6:=rfl
def ki:List ByteArray->List (W×W)->Except Nat (List ByteArray)
 |names,[]=> .ok names
 |names,v::vs=>if il names v.1.1 then .error v.1.2 else if decide (2147483647<iJ v.2.1)then .error v.2.2 else ki (names++ [v.1.1]) vs
def AG {α:Type}(r:Except Nat α)(e:Ending):Prop:=
 match r with
 | .error p=>e=dL 3 p
 | .ok _=>e= .returned (.tuple #[])
def TI (w:World)(eb:Bool)(bk:Int)(bs:ByteArray)(bp:Nat)(pa:Option Addr)(pn pc:Nat)(va:Option Addr)(vn vc:Nat)(vs:List (W×W))(hrow:w.ownsRow 0 302 6 (.slice va vn vc) vs.length (vs.flatMap El))(hlen:vs.length<=2001)(hnum:∀v∈vs,kh v.2.1)(hg:GOK w):
  Calls prog 122 #[.agg #[.bool eb,.int .i64 bk,.string bs,.int .i64 bp,.slice pa pn pc,.slice va vn vc]] w λe w'=>AG (ki [] vs) e/\Below w.heap.size w w':=by
 have UG:=eK hrow;subst UG;have hmm:= @run_makeMap prog;have C0:Below w.heap.size w ((w.alloc (Obj.cells #[.bool eb,.int .i64 bk,.string bs,.int .i64 bp,.slice pa pn pc,.slice va vs.length vc] 152)).alloc (Obj.map #[] 0)):=(Ud w _).alloc Uf _
 have M0:eR ((w.alloc (Obj.cells #[.bool eb,.int .i64 bk,.string bs,.int .i64 bp,.slice pa pn pc,.slice va vs.length vc] 152)).alloc (Obj.map #[] 0)) (w.heap.size+1) []:=by
  have:=World.ownsMap_made (w.alloc (Obj.cells #[.bool eb,.int .i64 bk,.string bs,.int .i64 bp,.slice pa pn pc,.slice va vs.length vc] 152)) prog 9 (unitElem (H:=Unit));simpa [eR,setOf]using this
 have zz:((w.alloc (Obj.cells #[.bool eb,.int .i64 bk,.string bs,.int .i64 bp,.slice pa pn pc,.slice va vs.length vc] 152)).alloc (Obj.map #[] 0)).heap.size=w.heap.size+2:=Uf;generalize hr:ki [] vs=r;have HR:Hid (ki [] vs=r):=hr;clear hr;go_in
 go_wp2;go_loopw [9] (λi wr=>∃(k:Nat) (names:List ByteArray),k<=vs.length/\i= .int .i64 k/\names.length<=k/\Hid (ki names (vs.drop k)=r)/\eR wr (w.heap.size+1) names/\Below w.heap.size w wr/\w.heap.size+1<wr.heap.size) (λi _=>vs.length-(intOf i).toNat)
 case atStart=>exact⟨0,[],aL _,rfl,Uf,HR,M0,C0,Ue⟩
 case round=>
  clear M0 C0 zz;obtain⟨k,names,hk,rfl,hnl,HP,HS,CC,hz⟩:=hrel
  by_cases hlt:k<vs.length
  ·have⟨v,hv⟩:=gx hlt;have Uz:v∈vs:=aI hv
   have Ur:vs.drop k=v::vs.drop (k+1):=by
    rw[aX hlt];rw[aK hlt]at hv;rw[Option.some.inj hv]
   have Uy:Hid (ki names (v::vs.drop (k+1))=r):=by rw[<-Ur];exact HP
   obtain⟨g,rfl,_,UI,Ut⟩:=el hrow Ue;have Uu:=Ut wr (CC.block g UI);have q0:=Uu (k*6) _ ((fP El 6 qb vs k v hv 0 Ue).trans rfl);have q1:=Uu (k*6+1) _ ((fP El 6 qb vs k v hv 1 Ue).trans rfl);have q2:=Uu (k*6+2) _ ((fP El 6 qb vs k v hv 2 Ue).trans rfl);have q3:=Uu (k*6+3) _ ((fP El 6 qb vs k v hv 3 Ue).trans rfl);have q4:=Uu (k*6+4) _ ((fP El 6 qb vs k v hv 4 Ue).trans rfl);have q5:=Uu (k*6+5) _ ((fP El 6 qb vs k v hv 5 Ue).trans rfl);have UA:=hnum v Uz;have KV:=dM.new wr #[.int .i64 (dJ v.1.1),.string v.1.1,.int .i64 v.1.2,.int .i64 (dJ v.2.1),.string v.2.1,.int .i64 v.2.2] 302;have CA:=CC.alloc CC.size (Obj.cells #[.int .i64 (dJ v.1.1),.string v.1.1,.int .i64 v.1.2,.int .i64 (dJ v.2.1),.string v.2.1,.int .i64 v.2.2] 302);have UB:eR (wr.alloc (Obj.cells #[.int .i64 (dJ v.1.1),.string v.1.1,.int .i64 v.1.2,.int .i64 (dJ v.2.1),.string v.2.1,.int .i64 v.2.2] 302)) (w.heap.size+1) names:=HS.keep (Below.heap_alloc _ _ _ HS.lt);clear Ut Uu hv Ur HP Uz;go_wp2_with fail;clear q0 q1 q2 q3 q4 q5;refine(RX _ (w.heap.size+1) names _ v.1.1 v.1.2 UB Ue).mono ?_
   cases h1:il names v.1.1
   rotate_left
   ·rintro e w4 ⟨rfl,UJ⟩;obtain rfl:r= .error v.1.2:=by rw[<-Uy.out,ki];simp only[h1,if_true]
    unfold dL;go_wp2;exact⟨rfl,rfl,CA.trans (UJ.mono CA.size)⟩
   rintro e w4 ⟨rfl,UD,UE⟩;have C4:Below w.heap.size w w4:=CA.trans (UE.to_below CA.size (by intro x hx;simp at hx;omega));have Uq:dM w4 wr.heap.size #[.int .i64 (dJ v.1.1),.string v.1.1,.int .i64 v.1.2,.int .i64 (dJ v.2.1),.string v.2.1,.int .i64 v.2.2] 302:=(UE.block _ KV.lt Ug).trans KV;have UC:GOK w4:=hg.keep (C4.block _ hg.lt);have z4:=Uq.lt;clear KV CA UB;go_wp2_with fail
   cases h2:decide (2147483647<iJ v.2.1)
   rotate_left
   ·have hd:(2147483647:Int)<((iJ v.2.1:Nat):Int):=by have:=of_decide_eq_true h2;omega
    obtain rfl:r= .error v.2.2:=by rw[<-Uy.out,ki];simp only[h1,h2,if_true,aM,if_false]
    refine wp_region_held_drew (S:=λw'=>w'.cell? ⟨wr.heap.size,3,none⟩=some (.int .i64 (dJ v.2.1))/\w'.cell? ⟨wr.heap.size,4,none⟩=some (.string v.2.1)/\w'.cell? ⟨wr.heap.size,5,none⟩=some (.int .i64 v.2.2)) Uj ⟨Uq.cell 3,Uq.cell 4,Uq.cell 5⟩ (λhHeld=> ?_);refine T5 0 (.pointer (some ⟨wr.heap.size,3,none⟩)) hHeld ?_;simp only[Act.put,T8];refine T5 1 (.agg #[.int .i64 (dJ v.2.1),.string v.2.1,.int .i64 v.2.2]) hHeld ?_;simp only[Act.put,T8];refine T5 4 (.pointer (some ⟨wr.heap.size,3,none⟩)) hHeld ?_;simp only[Act.put,T8];refine T5 5 (.agg #[.int .i64 (dJ v.2.1),.string v.2.1,.int .i64 v.2.2]) hHeld ?_;simp only[Act.put,T8];refine wpAnyH_ready (rs:= [2]) Uj Uf (AllReadyH.cons rfl (λK hK=> ?_) AllReadyH.nil);go_simp;refine(RY _ _ v.2.1 v.2.2 UA (UC.keep (w':=w4.drew) rfl)).mono ?_;rintro e w5 ⟨rfl,Uw⟩;have K5:=Uq.drew.below Uw Uq.lt;clear hHeld;refine hK.out _ _ ⟨K5.cell 3,K5.cell 4,K5.cell 5⟩ (λhHeld=> ?_);clear hK K;refine T5 3 (.bool true) hHeld ?_;simp only[Act.put,T8];refine wpAnyH_ready (rs:= [6]) Uj Uf (AllReadyH.cons rfl (λK hK=> ?_) AllReadyH.nil);clear hK;go_simp;refine(kc _ _ v.2.1 v.2.2).mono ?_;rintro e w6 ⟨rfl,hb⟩;exact⟨rfl,rfl,(C4.drew.trans (Uw.mono C4.size)).trans (hb.mono (aG C4.size Uw.size))⟩
   have hd:decide ((2147483647:Int)<((iJ v.2.1:Nat):Int))=false:=by have:=of_decide_eq_false h2;simp;omega
   have UH:Hid (ki (names++ [v.1.1]) (vs.drop (k+1))=r):=by
    have:=Uy.out;rw[ki]at this;simp only[h1,h2,aM,if_false]at this;exact this
   go_region_held3 (λw'=>w'.cell? ⟨wr.heap.size,3,none⟩=some (.int .i64 (dJ v.2.1))/\w'.cell? ⟨wr.heap.size,4,none⟩=some (.string v.2.1)/\w'.cell? ⟨wr.heap.size,5,none⟩=some (.int .i64 v.2.2))
    (first|exact⟨K6.cell 3,K6.cell 4,K6.cell 5⟩|exact⟨K5.cell 3,K5.cell 4,K5.cell 5⟩|exact⟨Uq.cell 3,Uq.cell 4,Uq.cell 5⟩)
    (first|(go_at_call 165;refine(RY _ _ v.2.1 v.2.2 UA (UC.keep (w':=w4.drew) rfl)).mono ?_;rintro e w5 ⟨rfl,Uw⟩;have K5:=Uq.drew.below Uw Uq.lt)|(go_at_call 123;refine(rj _ _ v.2.1 v.2.2).mono ?_;rintro e w6 ⟨rfl,UF⟩;have K6:=K5.below UF K5.lt))
   go_wp2;go_roundw
   case rel=>
    go_light;have Ux:Below w4.heap.size w4 w5:=(Uc w4).drew.trans Uw;have Uv:Below w4.heap.size w4 w6:=Ux.trans (UF.mono Ux.size);refine⟨k+1,names++ [v.1.1],Ue,by go_num,Ug,UH,UD.keep (Uv.block _ UD.lt),C4.trans (Uv.mono C4.size),?_⟩;have:=Uv.size;omega
   case measure=>go_light;simp[intOf];omega
  ·have Us:vs.drop k= []:=by rw[cO];omega
   obtain rfl:r= .ok names:=by rw[<-HP.out,Us];rfl
   clear Us;go_wp2;go_end0;exact⟨rfl,CC⟩
end
end Go.Proofs.YtfebdimolnobaaaGreatDoor
