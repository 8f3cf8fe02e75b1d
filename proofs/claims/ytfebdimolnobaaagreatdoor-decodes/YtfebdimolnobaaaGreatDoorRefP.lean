import Derived.Test.YtfebdimolnobaaaGreatDoorPxE
set_option maxRecDepth 100000
set_option maxHeartbeats 8000000
set_option linter.all false
namespace Go.Proofs.YtfebdimolnobaaaGreatDoor
open Go.RowKit Go.Proofs.Tryz
structure pJ (w:World)(rb:Nat)(M:lB)(nl:Value)(l:List ByteArray):Prop where
 nr:w.ownsRow 0 9 1 nl l.length (eh l)
 sep:∀b,nl.ownBlock=some b->¬M.D rb b
def Mc (M:lB)(rb:Nat)(nl:Value)(b:Nat):Prop:=M.D rb b\/nl.ownBlock=some b
section
variable {w w':World} {rb:Nat} {M M':lB} {ws:List W} {p:PS} {nl:Value} {l:List ByteArray}
def pJ.step (h:pJ w rb M nl l)(st:et w (M.D rb) w' (M'.D rb)):pJ w' rb M' nl l:=
 ⟨dR h.nr λb a=>st.block b (h.nr.lt b a).2 (h.sep b a),λb a=>st.not (h.nr.lt b a).2 (h.sep b a)⟩
def pJ.G (h:pJ w rb M nl l)(hb:Below w.heap.size w w'):pJ w' rb M nl l:=⟨dR h.nr λb a=>hb.block b (h.nr.lt b a).2,h.sep⟩
def pJ.alloc (h:pJ w rb M nl l)(o:Obj):pJ (w.alloc o) rb M nl l:=h.G ((Below.refl _ _).alloc (aD _) o)
def et.nd (st:et w (M.D rb) w' (M'.D rb))(nl:Value):et w (Mc M rb nl) w' (Mc M' rb nl):=st.more _
def pJ.lt (h:pJ w rb M nl l)(r:fx w rb M ws p){b:Nat}(a:Mc M rb nl b):b<w.heap.size:=a.elim r.lt (λx=>(h.nr.lt b x).2)
def pJ.name (n:pJ w rb M nl l)(h:fx w rb M ws p){v:Value}{x:ByteArray}(hg:w.grownBy w' nl.ownBlock)
  (g:w'.ownsRow 0 9 1 v (l.length+1) (eh l++ [.string x])) (f:∀b,v.ownBlock=some b->nl.ownBlock=some b\/w.heap.size<=b):
  fx w' rb M ws p/\pJ w' rb M v (l++ [x])/\et w (Mc M rb nl) w' (Mc M rb v):=by
 refine⟨h.O λb a c=>hg.block b a λe=> ?_,⟨by simpa [eh]using g,λb a=> ?_⟩,⟨hg.os,hg.tape,hg.output,hg.size,λb a i=>hg.block b a (λe=>i (.inr e.sy)),λb a=> ?_⟩⟩
 .rcases c with c|c;.exact n.sep b e.sy c
  .exact kG n.nr h.hw Th b e.sy c
 .rcases f b a with d|d;.exact n.sep b d
  .intro c;have:=h.lt c;omega
 .rcases a with a|a;.exact .inl (.inl a)
  .rcases f b a with d|d;.exact .inl (.inr d)
   .exact .inr d
end
def SS {w:World}{rb:Nat}{M:lB}{ws:List W}{p:PS}(h:fx w rb M ws p)(H:jY ws)(d:iC ws p)(g:p.names.length<=2001)(q:p.enums.length<=2001):
  Calls prog 40 #[.pointer (some ⟨rb,0,none⟩)] w λe w'=>e= .returned (.tuple #[])/\∃M',fx w' rb M' ws (BD ws p)/\et w (M.D rb) w' (M'.D rb):=by
 obtain⟨V,U,v,G,T⟩:=info_parts Tryz.info9;obtain⟨x,a⟩:=Td (gM ws 1 ⟨#[]⟩ p);have n:Hid (gM ws 1 ⟨#[]⟩ p=x):=a;clear a;go_in
 go_wp2_with fail;refine(vo h H d.lt 1 Te ⟨#[]⟩).V ?_;rintro e w1 ⟨rfl,h1,i⟩;rw[n.o];unfold sX;have j:=dP.new w1 #[.string x.1,.int .i64 x.2] 102;have Q:¬M.D rb w1.heap.size:=λd=>by have:=h1.lt d;omega
 replace h1:=h1.alloc (Obj.cells #[.string x.1,.int .i64 x.2] 102);replace i:=i.alloc (Obj.cells #[.string x.1,.int .i64 x.2] 102);clear h;go_wp2_with fail;refine(Qy h1 x).V ?_;rintro e w2 ⟨rfl,c,S⟩;replace j:=j.step S Q;replace i:=i.J S;clear S h1;obtain⟨y,C,z,f⟩:=dO c.hn;have k:=c.hn;rw[f]at k;have o:=c.rd;rw[f]at o;obtain⟨B,a⟩:=Td (eC p.names x.1);have b:Hid (eC p.names x.1=B):=a;clear a;have a:Hid (nX ws p=if B then sY x (xq x (fG ws 1 ⟨#[]⟩ p))else xq x (fG ws 1 ⟨#[]⟩ p)):=(by show nX ws p=_;unfold nX;rw[n.o,b.o]);obtain⟨r,s⟩:=j.I;obtain⟨O,P⟩:=o.I;have u:=(Dz p.names x.1 0 Te).ge;rw[b.o]at u;go_wp2;go_quiet (first|(go_at_call 41;refine Calls.quiet_of_same (Fd _ _ _ p.names x.1 Te k)));replace c:=c.drewN nq;replace i:=i.drewN nq;replace j:dP (w2.drewN nq) _ _ _:=j;clear r s O P k o;generalize w2.drewN nq=w3 at*;go_upto_if 19 with fail
 go_cut []from 20 to 22 (λwr=>fx wr rb M ws (nX ws p)/\et w (M.D rb) wr (M.D rb)/\dP wr w1.heap.size #[.string x.1,.int .i64 x.2] 102)
 case first=>
  cases B
  .go_wp2;go_meet
   case rel=>exact⟨by rw[a.o];exact c,i,j⟩
  .obtain⟨r,s⟩:=j.I;go_wp2_with fail;refine(MY c x).V ?_;rintro e A ⟨rfl,t,m⟩;go_wp2;go_meet
   case rel=>exact⟨by rw[a.o];exact t,i.J m,j.step m Q⟩
 case rest=>
  have J:Hid ((nX ws p).i=(fG ws 1 ⟨#[]⟩ p).i/\(nX ws p).used=p.used/\(nX ws p).names=p.names/\(nX ws p).enums=p.enums):=(by rw[a.o];cases B<;>exact⟨rfl,rfl,rfl,rfl⟩);clear c i j a b u;obtain⟨c,i,j⟩:=hcut;have o:=c.rd;have k:=c.hn;rw[f]at o k;obtain⟨r,s⟩:=j.I;obtain⟨O,P⟩:=o.I;obtain⟨I,N⟩:=(o.alloc (Obj.cells #[.string x.1] 9)).I;have a:Hid (some rb≠(Value.slice y C z).ownBlock):=λe=>eF k c.rd Th rb e.sy rfl
  have b:(nX ws p).names.length<=2001:=by rw[J.o.2.2.1];exact g
  go_upto_region 4 with fail
  go_cut []from 23 to 33 (λwr=>∃M',fx wr rb M' ws {nX ws p with names:=p.names++ [x.1]}/\et w (M.D rb) wr (M'.D rb)/\dP wr w1.heap.size #[.string x.1,.int .i64 x.2] 102/\¬M'.D rb w1.heap.size)
  case first=>
   go_region_law (first|(refine step_append_lies _ Tk _ _ _ Tk 0 9 V _ 1 16 underlying30 U v G T rfl Te (.slice y C z) (nX ws p).names.length (eh (nX ws p).names) Tk (k.alloc _) ⟨wc.heap.size,0,none⟩ 1 1 [_] Tk Tk (aY (t:=9) (fr:=(0,0)) (heap_alloc_new wc _)) Tm Te Tl Te Te (wc.heap.size+1) Tf ?_;intro K A R Z E L Uw;obtain⟨x1,x2⟩:=((o.alloc _).drew.grown E a.o).I))
   all_goals
    go_wp2;go_meet
    case rel=>
     have D:=(c.alloc (Obj.cells #[.string x.1] 9)).drew
     obtain⟨F,g⟩:=D.addN (x:=x.1) (w':=R) (by rw[f];exact E) Z (λb d=>by
      have z:K=b:=by simpa [Value.ownBlock]using d
      subst z;rcases L with h1|h1;.left;rw[f];exact h1
      .right;simp;omega)
     have f:=(j.alloc (Obj.cells #[.string x.1] 9)).drew;refine⟨_,?_,(i.alloc _).drew.J g,f.step g Q,g.not f.lt Q⟩;rw[<-J.o.2.2.1];exact F
  case rest=>
   clear c j o k r s O P I N a i Q;obtain⟨X,c,i,j,Q⟩:=hcut;have o:=c.rd;have k:=c.he;obtain⟨y,C,B,m⟩:=dO c.he;have f:=c.sc;rw[m]at f k;obtain⟨r,s⟩:=j.I;obtain⟨O,P⟩:=o.I;obtain⟨q1,q2⟩:=f.I;obtain⟨I,N⟩:=(o.alloc (Obj.cells #[.string x.1] 9)).I;obtain⟨o3,o4⟩:=(f.alloc (Obj.cells #[.string x.1] 9)).I;have a:Hid (some rb≠(Value.slice y C B).ownBlock):=λe=>eF k c.rd Th rb e.sy rfl
   have S:Hid (some X.sb≠(Value.slice y C B).ownBlock):=λe=>eF k c.sc Th _ e.sy rfl
   have Y:({nX ws p with names:=p.names++ [x.1]}:PS).enums.length<=2001:=by show(nX ws p).enums.length<=2001;rw[J.o.2.2.2];exact q
   obtain⟨X,q⟩:∃X,({nX ws p with names:=p.names++ [x.1]}:PS).enums=X:=⟨_,rfl⟩;rw[q]at k Y;have Y:Hid (X=p.enums):=by rw[<-q];exact J.o.2.2.2
   clear q;go_upto_region 5 with fail
   go_cut []from 34 to 50 (λwr=>∃M',fx wr rb M' ws {nX ws p with names:=p.names++ [x.1],enums:=p.enums++ [x.1]}/\et w (M.D rb) wr (M'.D rb))
   case first=>
    go_region_law (first|(refine step_append_lies _ Tk _ _ _ Tk 0 9 V _ 1 16 underlying30 U v G T rfl Te (.slice y C B) X.length (eh X) Tk (k.alloc _) ⟨wc.heap.size,0,none⟩ 1 1 [_] Tk Tk (aY (t:=9) (fr:=(0,0)) (heap_alloc_new wc _)) Tm Te Tl Te Te (wc.heap.size+1) Tf ?_;intro K A R Z E L Uw;obtain⟨x1,x2⟩:=((o.alloc _).drew.grown E a.o).I;obtain⟨q,x4⟩:=((f.alloc _).drew.grown E S.o).I))
    all_goals
     go_wp2;go_meet
     case rel=>
      have D:=(c.alloc (Obj.cells #[.string x.1] 9)).drew;have q:({nX ws p with names:=p.names++ [x.1]}:PS).enums=X:=J.o.2.2.2.J Y.o.sy
      obtain⟨F,g⟩:=D.addE (x:=x.1) (w':=R) (by rw[m];exact E) (by rw[q];exact Z) (λb d=>by
       have z:K=b:=by simpa [Value.ownBlock]using d
       subst z;rcases L with h1|h1;.left;rw[m];exact h1
       .right;simp;omega)
      refine⟨_,?_,(i.alloc _).drew.J g⟩;have g:({nX ws p with names:=p.names++ [x.1],enums:=p.enums++ [x.1]}:PS)={({nX ws p with names:=p.names++ [x.1]}:PS)with enums:=({nX ws p with names:=p.names++ [x.1]}:PS).enums++ [x.1]}:=(by rw[q,Y.o]);rw[g];exact F
   case rest=>
    clear c j o k r s O P q1 q2 I N o3 o4 a S i Q f m;obtain⟨g,c,i⟩:=hcut
    have a:iC ws ({nX ws p with names:=p.names++ [x.1],enums:=p.enums++ [x.1]}:PS):=by
     have h1:=fQ H d 1 ⟨#[]⟩;refine⟨?_,?_⟩;.show(nX ws p).i<_;rw[J.o.1];exact h1.lt
     .show(nX ws p).used.length<=(nX ws p).i;rw[J.o.1,J.o.2.1];exact h1.used
    go_wp2_with fail;refine(vo c H a.lt 0 Te ⟨#[123]⟩).V ?_;rintro e j ⟨rfl,q,o⟩;have m:fx j rb g ws (rI ws p):=(by unfold rI;rw[n.o];exact q);have k:iC ws (rI ws p):=(by have:=fQ H a 0 ⟨#[123]⟩;unfold rI;rw[n.o];exact this);have a:et w (M.D rb) j (Mc g rb (.slice none 0 0)):=(i.J o).weak λb d=>d.elim (λh=>h) (λh=>by cases h)
    have f:pJ j rb g (.slice none 0 0) []:=⟨aX _ _ _ _,λb d=>by cases d⟩;clear c i q o;unfold sX;obtain⟨R,c⟩:=Td (se ws ws.length (rI ws p) []);have i:Hid (se ws ws.length (rI ws p) []=R):=c;have Q:Hid (BD ws p=fG ws 0 ⟨#[125]⟩ R):=(by show BD ws p=_;unfold BD;rw[c]);clear c;go_wp2;go_loopw [3] (λc wr=>∃(n:Nat) (q:PS) (l:List ByteArray),iC ws q/\(q.bad<0->l.length<=q.i)/\fo ws q<=n/\Hid (se ws n q l=R)/\fx wr rb g ws q/\pJ wr rb g c l/\et w (M.D rb) wr (Mc g rb c)) (λ_ wr=>mQ rb ws.length wr)
    case atStart=>exact⟨ws.length,rI ws p,[],k,λ_=>aM _,by unfold fo;split<;>omega,i,m,f,a⟩
    case round=>
     clear m f a k;obtain⟨n,q,l,C,o,c,k,m,f,a⟩:=hrel;have S:=m.meas;obtain⟨O,P⟩:=m.rd.I;have j:(decide (q.bad<0)&& !tV ws ⟨#[125]⟩ q)=true\/(decide (q.bad<0)&& !tV ws ⟨#[125]⟩ q)=false:=by cases(decide (q.bad<0)&& !tV ws ⟨#[125]⟩ q)<;>simp
     rcases j with i|c
     .have x:decide (q.bad<0)=true:=(bK _ _▸i).1;have L:tV ws ⟨#[125]⟩ q=false:=by have:=(bK _ _▸i).2;simpa using this
      have j:q.bad<0:=dI x;have X:=Dy l C j;have t:q.i<2001:=aI C.lt H.len;have t:=o j;have Ut:Hid (se ws (n-1) (tH ws q l) (l++ [(gM ws 1 ⟨#[]⟩ q).1])=R):=(by have:=k.o;rw[LB i Te]at this;exact this);clear i;obtain⟨y,i⟩:=Td (gM ws 1 ⟨#[]⟩ q);have o:Hid (gM ws 1 ⟨#[]⟩ q=y):=i;clear i;go_wp2_with fail;refine(QR m C.lt ⟨#[125]⟩).V ?_;rintro e w8 ⟨rfl,I⟩;rw[L];replace m:=m.G I;replace f:=f.G I;replace a:=a.G I;clear I O P;go_wp2_with fail;refine(vo m H C.lt 1 Te ⟨#[]⟩).V ?_;rintro e j ⟨rfl,F,N⟩;rw[o.o];unfold sX;replace f:=f.step N;have J:¬Mc g rb u3 j.heap.size:=λd=>by have:=f.lt F d;omega
      replace f:=f.alloc (Obj.cells #[.string y.1,.int .i64 y.2] 102);replace a:=(a.J (N.nd u3)).alloc (Obj.cells #[.string y.1,.int .i64 y.2] 102);have D:=dP.new j #[.string y.1,.int .i64 y.2] 102;replace F:=F.alloc (Obj.cells #[.string y.1,.int .i64 y.2] 102);clear m N;go_wp2_with fail;refine(Qy F y).V ?_;rintro e t ⟨rfl,Y,i⟩;replace f:=f.step i;replace a:=a.J (i.nd u3);replace D:=D.step (i.nd u3) J;clear i F;obtain⟨r,s⟩:=D.I;go_wp2_with fail;refine(Fd _ _ _ l y.1 Te f.nr).V ?_;rintro e _ ⟨rfl,rfl⟩;have u:=(Dz l y.1 0 Te).ge;obtain⟨i,t⟩:=Td (eC l y.1);rw[t]at u;have B:Hid (uU ws q l=if i then sY y (xq y (fG ws 1 ⟨#[]⟩ q))else xq y (fG ws 1 ⟨#[]⟩ q)):=(by show uU ws q l=_;unfold uU;rw[o.o,t]);clear t;go_upto_if 70 with fail
      go_cut []from 71 to 73 (λwr=>fx wr rb g ws (uU ws q l)/\pJ wr rb g u3 l/\et w (M.D rb) wr (Mc g rb u3)/\dP wr j.heap.size #[.string y.1,.int .i64 y.2] 102)
      case first=>
       cases i
       .go_wp2;go_meet
        case rel=>exact⟨by rw[B.o];exact Y,f,a,D⟩
       .go_wp2_with fail;refine(MY Y y).V ?_;rintro e O ⟨rfl,i,t⟩;go_wp2;go_meet
        case rel=>exact⟨by rw[B.o];exact i,f.step t,a.J (t.nd u3),D.step (t.nd u3) J⟩
      case rest=>
       clear Y f a D r s B u;obtain⟨Y,f,a,D⟩:=hcut;obtain⟨r,s⟩:=D.I;obtain⟨t,B,u,rfl⟩:=dO f.nr;go_wp2_with (first|(at_builtin;refine wpList_append_lies _ rfl _ _ 30 rfl 0 9 V _ 1 16 underlying30 U v G T rfl Th _ _ _ rfl (f.nr.alloc _) _ 1 1 [_] rfl rfl (cell_one_new _ _ _) ?h1 Te ?h63 ?hby Te _ rfl ?_;rotate_right;intro K A O Z E t B))
       case h1=>intro u v;simp at v;subst v;rfl
       case h63=>unfold maxLen;omega
       case hby=>omega
       obtain⟨i,v,u⟩:=(f.alloc (Obj.cells #[.string y.1] 9)).name (Y.alloc (Obj.cells #[.string y.1] 9)) E Z (λb d=>by
        have z:K=b:=by simpa [Value.ownBlock]using d
        subst z;rcases t with h1|h1;.exact .inl h1
        .right;omega)
       replace a:=(a.alloc (Obj.cells #[.string y.1] 9)).J u;clear Y f D r s Z E t B u J;have u:=Fa H C l;refine(vo i H u.lt 0 Te ⟨#[61]⟩).V ?_;rintro e z ⟨rfl,f,t⟩;unfold sX;replace v:=v.step t;replace a:=a.J (t.nd _);have B:iC ws (kH ws q l):=fQ H u 0 ⟨#[61]⟩;replace f:fx z rb g ws (kH ws q l):=f;clear i t;obtain⟨z,i⟩:=Td (gM ws 2 ⟨#[]⟩ (kH ws q l));have t:Hid (gM ws 2 ⟨#[]⟩ (kH ws q l)=z):=i;clear i;go_wp2_with fail;refine(vo f H B.lt 2 Te ⟨#[]⟩).V ?_;rintro e u ⟨rfl,G,i⟩;rw[t.o];unfold sX;replace v:=v.step i;have P:¬Mc g rb (.slice (some ⟨K,0,none⟩) (l.length+1) A) u.heap.size:=λd=>by have:=v.lt G d;omega
       replace v:=v.alloc (Obj.cells #[.string z.1,.int .i64 z.2] 102);replace a:=(a.J (i.nd _)).alloc (Obj.cells #[.string z.1,.int .i64 z.2] 102);have D:=dP.new u #[.string z.1,.int .i64 z.2] 102;replace G:=G.alloc (Obj.cells #[.string z.1,.int .i64 z.2] 102);have u:z.1.size<=2000:=by rw[<-t.o];exact yf H B.lt _ _
       clear f i;obtain⟨r,s⟩:=D.I;go_wp2_with fail;refine(Sc _ z.1 u).V ?_;rintro e _ ⟨rfl,rfl⟩;obtain⟨V,f⟩:=Td (iR z.1);rw[f];have O:Hid (iR z.1=V):=f;clear f;obtain⟨T,B⟩:=Td (decide (2147483647<V));have E:=Fb H C l;obtain⟨f,i⟩:=Td ((if 2147483647<iR (gM ws 2 ⟨#[]⟩ (kH ws q l)).1 then sY (gM ws 2 ⟨#[]⟩ (kH ws q l)) (fG ws 2 ⟨#[]⟩ (kH ws q l))else fG ws 2 ⟨#[]⟩ (kH ws q l)));rw[i]at E;have J:Hid (tH ws q l=fG ws 0 ⟨#[59]⟩ f):=(by show tH ws q l=_;unfold tH;rw[i])
       have u:Hid (f=if T then sY z (fG ws 2 ⟨#[]⟩ (kH ws q l))else fG ws 2 ⟨#[]⟩ (kH ws q l)):=by
        rw[t.o,O.o]at i;show f=_;rw[<-i];by_cases hc:2147483647<V
        .have:T=true:=by rw[<-B];simp[hc]
         rw[dH hc,this];rfl
        .have:T=false:=by rw[<-B];simp[hc]
         rw[dG hc,this];rfl
       clear i;go_upto_if 86 with fail
       go_cut []from 87 to 89 (λwr=>fx wr rb g ws f/\pJ wr rb g (.slice (some ⟨K,0,none⟩) (l.length+1) A) (l++ [y.1])/\et w (M.D rb) wr (Mc g rb (.slice (some ⟨K,0,none⟩) (l.length+1) A)))
       case first=>
        cases T
        .go_wp2;go_meet
         case rel=>exact⟨by rw[u.o];exact G,v,a⟩
        .go_wp2_with fail;refine(MY G z).V ?_;rintro e t ⟨rfl,i,f⟩;go_wp2;go_meet
         case rel=>exact⟨by rw[u.o];exact i,v.step f,a.J (f.nd _)⟩
       case rest=>
        clear G v a D r s u B P;obtain⟨G,v,a⟩:=hcut;go_wp2_with fail;refine(vo G H E.lt 0 Te ⟨#[59]⟩).V ?_;rintro e t ⟨rfl,i,f⟩;unfold sX;go_wp2;go_roundw
        case rel=>
         refine⟨n-1,tH ws q l,l++ [y.1],Fc H C l,λr=> ?_,Te,?_,by rw[J.o];exact i,v.step f,a.J (f.nd _)⟩;.have:=(GA r).2;rw[bf,cE];omega
         .rw[<-o.o];exact Ut
        case measure=>
         have f:mQ rb ws.length t=fo ws (tH ws q l):=by rw[J.o];exact i.meas
         rw[f,S];exact X
     .cases x:decide (q.bad<0)
      .obtain rfl:R=q:=by rw[<-k.o,qo c]
       clear c;go_wp2_with fail;refine(vo m H C.lt 0 Te ⟨#[125]⟩).V ?_;rintro e j ⟨rfl,F,N⟩;unfold sX;go_wp2;go_end0;exact⟨rfl,g,by rw[Q.o];exact F,(a.weak (U:=g.D rb) (λb d=> .inl d)).J N⟩
      .have L:tV ws ⟨#[125]⟩ q=true:=by rw[x]at c;simpa using c
       obtain rfl:R=q:=by rw[<-k.o,qo c]
       clear c;go_wp2_with fail;refine(QR m C.lt ⟨#[125]⟩).V ?_;rintro e w8 ⟨rfl,I⟩;rw[L];replace m:=m.G I;replace a:=a.G I;clear I;go_wp2_with fail;refine(vo m H C.lt 0 Te ⟨#[125]⟩).V ?_;rintro e j ⟨rfl,F,N⟩;unfold sX;go_wp2;go_end0;exact⟨rfl,g,by rw[Q.o];exact F,(a.weak (U:=g.D rb) (λb d=> .inl d)).J N⟩
section
variable {w:aw} {rb:Nat} {M:lB} {ws:List W} {p:PS}
theorem fx.inc (h:fx w rb M ws p):
  fx (w.setCell (ai rb 1) (aa ((p.i:Int)+1))) rb M ws (eJ p)/\et w (M.D rb) (w.setCell (ai rb 1) (aa ((p.i:Int)+1))) (M.D rb):=by
 have a:dY [rb] w (w.setCell (ai rb 1) (aa ((p.i:Int)+1))):=(dY.refl _ _).set Tf _ _;exact⟨h.turn a (by have:=h.rd.set 1 (aa ((p.i:Int)+1));simpa using this),et.rb a⟩
theorem fx.setBad (h:fx w rb M ws p)(v:Int):
  fx (w.setCell (ai rb 2) (aa v)) rb M ws {p with bad:=v}/\et w (M.D rb) (w.setCell (ai rb 2) (aa v)) (M.D rb):=by
 have a:dY [rb] w (w.setCell (ai rb 2) (aa v)):=(dY.refl _ _).set Tf _ _;exact⟨h.turn a (by have:=h.rd.set 2 (aa v);simpa using this),et.rb a⟩
theorem c6 (w:aw)(t:au)(hmax:t.size<=2^47):
  Calls prog 14 #[ae t] w (PJ w (Ff t)):=by
 generalize hr:Ff t=r;have HR:Hid (Ff t=r):=hr;clear hr;by_cases hl:2000<t.size
 .have hd:(2000:Int)<(t.size:Int):=Te;obtain rfl:r= .error (2,0):=by rw[<-HR.o,Ff,dH hl]
  go_in
  go_wp2;go_ret3
  exact⟨rfl,Below.refl _ _⟩
 .have ht:t.size<=2000:=Te;have hd:decide ((2000:Int)<(t.size:Int))=false:=Tg;have H:=yq t ht;obtain⟨ws,F⟩:=Td (eB t);have TX:Hid (eB t=ws):=F;have TY:0<ws.length:=by rw[<-F,jA];omega
  rw[F]at H
  have T:Hid (r=if 0<=(tz ws ws.length yo).bad then .error (2,(tz ws ws.length yo).bad)
    else if 0<=qR (tz ws ws.length yo).names (tz ws ws.length yo).used (tz ws ws.length yo).wrong then .error (3,qR (tz ws ws.length yo).names (tz ws ws.length yo).used (tz ws ws.length yo).wrong)
    else .ok ⟨(tz ws ws.length yo).msgs,(tz ws ws.length yo).enums⟩):=by
   show r=_;rw[<-HR.o,Ff,dG hl];unfold pI;rw[F]
  clear hl F;obtain⟨R,P⟩:=Td (tz ws ws.length yo);rw[P]at T;have TZ:Hid (tz ws ws.length yo=R):=P;have TT:PB ws yo:=⟨⟨TY,aD _⟩,aD _,aD _,aD _⟩;have pbR:PB ws R:=by rw[<-P];exact LL H _ _ TT
  clear P;go_in
  go_wp2_with fail;refine(FF t _ ht).V ?_;rintro e w1 ⟨wv,rfl,j,G⟩;rw[TX.o]at j;obtain⟨z,B,A,rfl⟩:=dO j;have c:fx ((w1.alloc (ak #[ah,ah] 98)).alloc (ak #[.slice z B A,aa 0,aa (-1),aa (-1),ag w1.heap.size,ah,ah,ah] 100)) (w1.heap.size+1) ⟨w1.heap.size,.slice z B A,ah,ah,ah,ah,λ_=>False⟩ ws yo:=(by refine⟨dP.new1 _ _ _ _,(dP.new _ _ _).alloc _,iz ((j.alloc _).alloc _) (aM _),aX _ _ _ _,aX _ _ _ _,aX _ _ _ _,⟨[],aX _ _ _ _,rfl⟩,λb _ o=>(by cases o),λb o=>(by cases o),λb o=>o.elim⟩)
  have a:et w (λ_=>False) ((w1.alloc (ak #[ah,ah] 98)).alloc (ak #[.slice z B A,aa 0,aa (-1),aa (-1),ag w1.heap.size,ah,ah,ah] 100)) ((⟨w1.heap.size,.slice z B A,ah,ah,ah,ah,λ_=>False⟩:lB).D (w1.heap.size+1)):=by
   have K:=(G.alloc G.size (ak #[ah,ah] 98)).alloc (by have:=G.size;simp;omega) (ak #[.slice z B A,aa 0,aa (-1),aa (-1),ag w1.heap.size,ah,ah,ah] 100);refine⟨K.os,K.tape,K.output,K.size,λb d _=>K.block b d,λb d=> ?_⟩;have:=G.size;rcases d with d|d|d|d|d|d|d;.right;omega
   .right;simp only at d;omega
   .cases d
   .cases d
   .cases d
   .cases d
   .exact d.elim
  go_wp2_with fail;generalize(w1.alloc (ak #[ah,ah] 98)).alloc (ak #[.slice z B A,aa 0,aa (-1),aa (-1),ag w1.heap.size,ah,ah,ah] 100)=w2 at*;generalize w1.heap.size+1=rb at*;go_loopw [] (λwr=>∃(n:Nat) (M:lB) (p:PS),PB ws p/\fo ws p<=n/\Hid (tz ws n p=R)/\fx wr rb M ws p/\et w (λ_=>False) wr (M.D rb)) (λwr=>mQ rb ws.length wr)
  case atStart=>exact⟨ws.length,_,yo,TT,by unfold fo;split<;>omega,TZ,c,a⟩
  case round=>
   clear c a j G;obtain⟨n,M,p,l,hms,U,c,a⟩:=hrel;have Y:=c.meas;have hln:p.i<2001:=aI l.ok.lt H.len;have j:=c.hw;have f:=c.rd;have⟨z,B,A,T5⟩:=dO j;rw[T5]at j f;obtain rfl:=d9 j;have⟨s,u⟩:=f.I;cases hbad:decide (p.bad<0)
   .have I:(decide (p.bad<0)&&decide (p.i+1<ws.length))=false:=by rw[hbad];rfl
    obtain rfl:R=p:=by rw[<-U.o,tA I]
    clear I;have T0:0<=R.bad:=by have:=of_decide_eq_false hbad;omega
    obtain rfl:r= .error (2,R.bad):=by rw[T.o,dH T0]
    go_wp2;go_quiet (fail);go_wp2;go_quiet (fail);go_wp2;go_ret3
    exact⟨rfl,gN (gN (a.to_below (aD _) (λ_ h=>h.elim)) _) _⟩
   have TE:p.bad<0:=dI hbad;cases hlen:decide (p.i+1<ws.length)
   .have I:(decide (p.bad<0)&&decide (p.i+1<ws.length))=false:=by rw[hlen];simp
    obtain rfl:R=p:=by rw[<-U.o,tA I]
    clear I;have hlen2:decide ((R.i:Int)+1<(ws.length:Int))=false:=by have:=of_decide_eq_false hlen;simp;omega
    have hnb:decide (0<=R.bad)=false:=Tg;have TU:Hid (r=if 0<=qR R.names R.used R.wrong then .error (3,qR R.names R.used R.wrong)else .ok ⟨R.msgs,R.enums⟩):=(by have:=T.o;rw[dG Te]at this;exact this);have hun:R.used.length<=2001:=by have:=l.ok.used;omega
    have hnn:R.names.length<=2001:=by have:=l.names;omega
    have⟨na,nn,nc,TP⟩:=dO c.hn;have⟨ua,un,uc,TQ⟩:=dO c.hu;have C:=c.hn;have D:=c.hu;rw[TP]at C;rw[TQ]at D;obtain rfl:=d9 D;clear hlen;go_wp2;go_quiet (fail);replace c:=c.drewN nq;replace a:=a.drewN nq;clear s u j;generalize wr.drewN nq=w3 at*;have⟨s,u⟩:=c.rd.I;go_wp2;go_loopw [6] (λi wr=>∃(k:Nat) (g:Int),k<=R.used.length/\i=aa k/\Hid (qR R.names (R.used.drop k) g=qR R.names R.used R.wrong)/\fx wr rb M ws {R with wrong:=g}/\et w (λ_=>False) wr (M.D rb)) (λi _=>R.used.length-(intOf i).toNat)
    case atStart=>exact⟨0,R.wrong,aM _,rfl,rfl,c,a⟩
    case round=>
     clear c a s u f C D;obtain⟨k,g,hk,rfl,V,c,a⟩:=hrel;have f:=c.rd;have C:=c.hn;have D:=c.hu;rw[TP]at C;rw[TQ]at D;rw[TP,TQ]at f;have⟨s,u⟩:=f.I;by_cases Q:k<R.used.length
     .have⟨x,o⟩:=gx Q;have Ty:R.used.drop k=x::R.used.drop (k+1):=(by rw[aS Q];rw[aP Q]at o;rw[Option.some.inj o]);have TV:Hid (qR R.names (R.used.drop (k+1)) (if eC R.names x.1 then g else fA g x.2)=qR R.names R.used R.wrong):=(by have:=V.o;rw[Ty,qR]at this;exact this);obtain⟨_,_,gb,rfl,T6,J⟩:=ol D o;have⟨L,N⟩:=J _ rfl;have T4:(k:Int)<(R.used.length:Int):=Te;have TF:=(Dz R.names x.1 0 Te).lt;clear J Ty V;cases hm:eC R.names x.1
      .rw[hm]at TF;go_wp2;go_quiet (first|(go_at_call 41;refine Calls.quiet_of_same (Fd _ _ _ R.names x.1 Te C)));go_wp2_with fail;refine(MY (c.drewN nq) x).V ?_;rintro e S ⟨rfl,m,v⟩;go_wp2;go_roundw
       case rel=>exact⟨k+1,fA g x.2,Te,by go_num,by have:=TV.o;rw[hm]at this;exact this,m,(a.drewN nq).J v⟩
       case measure=>simp[intOf];omega
      .rw[hm]at TF;go_wp2;go_quiet (first|(go_at_call 41;refine Calls.quiet_of_same (Fd _ _ _ R.names x.1 Te C)));go_wp2;go_roundw
       case rel=>exact⟨k+1,g,Te,by go_num,by have:=TV.o;rw[hm]at this;exact this,c.drewN _,a.drewN _⟩
       case measure=>simp[intOf];omega
     .have T4:¬(k:Int)<(R.used.length:Int):=Te;have HG:Hid (qR R.names R.used R.wrong=g):=(by have:=V.o;rw[ci.2 Te]at this;exact this.sy);cases hw:decide (0<=g)
      .have TM:¬0<=g:=of_decide_eq_false hw;obtain rfl:r= .ok ⟨R.msgs,R.enums⟩:=by rw[TU.o,HG.o,dG TM]
       go_wp2;go_ret3
       refine⟨⟨M.sb,rfl,?_,by have:=l.msgs;show R.msgs.length<=2001;omega⟩,a.to_below (aD _) (λ_ h=>h.elim)⟩;have⟨cs,T7,T8⟩:=c.hm;have O:∀b,M.D rb b->w.heap.size<=b:=λb d=>(a.grow b d).elim (λh=>h.elim) (λh=>h)
       exact⟨M.mv,M.ev,cs,c.sc,O _ (.inr (.inl rfl)),⟨T7,λb d=>O b (.inr (.inr (.inr (.inr (.inl d)))))⟩,T8.imp λb d=>O b (.inr (.inr (.inr (.inr (.inr (.inr d)))))),c.he,λb d=>O b (.inr (.inr (.inr (.inr (.inr (.inl d))))))⟩
      .have TM:0<=g:=dI hw;obtain rfl:r= .error (3,g):=by rw[TU.o,HG.o,dH TM]
       go_wp2;go_quiet (fail);go_wp2;go_ret3
       exact⟨rfl,gN (a.to_below (aD _) (λ_ h=>h.elim)) _⟩
   .have Tx:p.i+1<ws.length:=dI hlen;have hlen2:(p.i:Int)+1<(ws.length:Int):=Te;have TW:(decide (p.bad<0)&&decide (p.i+1<ws.length))=true:=by rw[hbad,hlen];rfl
    have Z:=DB (ws:=ws) TE Tx;have TN:Hid (tz ws (n-1) (sf ws p)=R):=(by have:=U.o;rw[LJ TW Te]at this;exact this);have TO:=LK H l Tx;have hi:=nH l.ok Tx;obtain⟨y,hy⟩:=Td (gh ws p);have W:Hid (gh ws p=y):=hy;have TC:=fZ l.ok.lt;rw[hy]at TC;clear hy TW hlen;obtain⟨_,Q,g,rfl,T6,J⟩:=ol j TC;have⟨L,N⟩:=J _ rfl;have hi1:(p.i:Int)<(ws.length:Int):=Te;clear J j TC;go_wp2;go_quiet (fail);replace c:=c.drewN nq;replace a:=a.drewN nq;replace f:dP (wr.drewN nq) _ _ _:=f;replace L:(wr.drewN nq).cell? _=_:=L;replace N:(wr.drewN nq).cell? _=_:=N;clear s u;generalize wr.drewN nq=w3 at*;have⟨s,u⟩:=f.I;go_wp2;go_quiet (fail);replace c:=c.drewN nq;replace a:=a.drewN nq;replace f:dP (w3.drewN nq) _ _ _:=f;replace L:(w3.drewN nq).cell? _=_:=L;replace N:(w3.drewN nq).cell? _=_:=N;clear s u;generalize w3.drewN nq=w4 at*;have⟨s,u⟩:=f.I;cases h1:(y.1.toList== [109,101,115,115,97,103,101]);rotate_left
    .have⟨TR,TS⟩:=c.inc;have q:Hid (sf ws p=BC ws (eJ p)):=(by show sf ws p=_;unfold sf;rw[W.o,h1,dH rfl]);go_wp2_with fail;refine(SR TR H hi (by show p.names.length<=2001;have:=l.names;omega) (by show p.msgs.length<=2001;have:=l.msgs;omega)).V ?_;rintro e S ⟨rfl,X,m,v⟩;go_wp2;go_roundw
     case rel=>exact⟨n-1,X,sf ws p,TO,Te,TN,by rw[q.o];exact m,(a.J TS).J v⟩
     case measure=>
      have E:mQ rb ws.length S=fo ws (sf ws p):=by rw[q.o];exact m.meas
      rw[E,Y];exact Z
    cases h2:(y.1.toList== [101,110,117,109]);rotate_left
    .have⟨TR,TS⟩:=c.inc;have q:Hid (sf ws p=BD ws (eJ p)):=(by show sf ws p=_;unfold sf;rw[W.o,h1,h2,dG Th,dH rfl]);go_wp2_with fail;refine(SS TR H hi (by show p.names.length<=2001;have:=l.names;omega) (by show p.enums.length<=2001;have:=l.enums;omega)).V ?_;rintro e S ⟨rfl,X,m,v⟩;go_wp2;go_roundw
     case rel=>exact⟨n-1,X,sf ws p,TO,Te,TN,by rw[q.o];exact m,(a.J TS).J v⟩
     case measure=>
      have E:mQ rb ws.length S=fo ws (sf ws p):=by rw[q.o];exact m.meas
      rw[E,Y];exact Z
    .have q:Hid (sf ws p={p with bad:=y.2}):=(by show sf ws p=_;unfold sf;rw[W.o,h1,h2,dG Th,dG Th]);have⟨m,v⟩:=c.drew.setBad (y.2:Int);go_wp2;go_region
     go_wp2;go_roundw
     case rel=>exact⟨n-1,M,sf ws p,TO,Te,TN,by rw[q.o];exact m,a.drew.J v⟩
     case measure=>
      have E:mQ rb ws.length (w4.setCell (ai rb 2) (aa y.2)).drew=fo ws (sf ws p):=by rw[q.o];exact m.meas
      rw[E,Y];exact Z
end
end Go.Proofs.YtfebdimolnobaaaGreatDoor
