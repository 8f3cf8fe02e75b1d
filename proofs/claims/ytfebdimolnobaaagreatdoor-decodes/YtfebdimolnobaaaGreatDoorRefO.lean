import Derived.Test.YtfebdimolnobaaaGreatDoorPxB
import Derived.Test.YtfebdimolnobaaaGreatDoorDfM
set_option maxRecDepth 100000
set_option maxHeartbeats 8000000
set_option linter.all false
namespace Go.Proofs.YtfebdimolnobaaaGreatDoor
open Go.RowKit Go.Proofs.Tryz
def GK:aA->au->Int->Int
 | [],_,_=> -1
 |x::l,s,k=>if x.toList==s.toList then k else GK l s (k+1)
def Dz:∀(l:aA) (s:au) (k:Int),0<=k->Hc l s (GK l s k)
 | [],s,k,h=>by unfold Hc;simp[eC,GK]
 |x::l,s,k,h=>by
  have ih:=Dz l s (k+1) Te;unfold Hc at*;rw[zl,GK];cases hx:(x.toList==s.toList);.simpa using ih
  .simpa using h
def Fd (w:aw)(lo:Nat)(v:Value)(l:aA)(s:au)(hlen:l.length<=4000)(c:w.ownsRow lo 9 1 v l.length (eh l)):
  Calls prog 41 #[v,ae s] w λe w'=>e= .returned (aa (GK l s 0))/\w'=w:=by
 obtain⟨p,t,r,rfl⟩:=dO c;have m:=d9 c;subst m;go_in
 go_wp2;go_loop [5] (λi=>∃k:Nat,k<=l.length/\Hid (GK l s 0=GK (l.drop k) s k)/\i=aa k) (λi=>l.length-(intOf i).toNat)
 case atStart=>exact⟨0,aM _,rfl,rfl⟩
 case round=>
  obtain⟨k,o,b,rfl⟩:=hrel;by_cases Uh:k<l.length
  .have⟨x,f⟩:=gx Uh;have j:l.drop k=x::l.drop (k+1):=(by rw[aS Uh];rw[aP Uh]at f;rw[Option.some.inj f]);obtain⟨g,rfl,_,n,h⟩:=dV c Te;have q:=h w rfl k (ae x) (by simp[eh,f]);have d:Hid (GK l s 0=if x.toList==s.toList then(k:Int)else GK (l.drop (k+1)) s (k+1)):=(by have:=b.o;rw[j,GK]at this;exact this);clear h j b f c;cases he:(x.toList==s.toList)
   .have a:Hid (GK l s 0=GK (l.drop (k+1)) s ((k+1:Nat):Int)):=by have:=d.o;rw[he]at this;exact this
    clear d;go_wp2;go_round
    case rel=>exact⟨k+1,Te,a,by go_num⟩
    case measure=>simp[intOf];omega
   .have a:Hid (GK l s 0=k):=by have:=d.o;rw[he]at this;exact this
    clear d;go_wp2;go_ret;exact⟨rJ a.o.sy,rfl⟩
  .have a:Hid (GK l s 0= -1):=(by have:=b.o;rw[ci.2 Te]at this;exact this);clear b;go_wp2;go_ret;exact⟨rJ a.o.sy,rfl⟩
def et.weak {w w':aw}{S T U:ax}(h:et w S w' T)(c:∀b,U b->T b):et w S w' U:=⟨h.os,h.tape,h.output,h.size,h.block,λb a=>h.grow b (c b a)⟩
def jO.inc {w:aw}{rb:Nat}{M:lB}{ws:List W}{mb:Nat}{mn:au}{fv nl:Value}{s:FD}(h:jO w rb M ws mb mn fv nl s){v:Int}(c:v=(s.p.i:Int)+1):
  jO (w.setCell (ai rb 1) (aa v)) rb M ws mb mn fv nl (ew s)/\et w (iA M rb mb fv nl) (w.setCell (ai rb 1) (aa v)) (iA M rb mb fv nl):=by
 subst c;have a:dY [rb] w (w.setCell (ai rb 1) (aa ((s.p.i:Int)+1))):=(dY.refl _ _).set Tf _ _;have b:fx (w.setCell (ai rb 1) (aa ((s.p.i:Int)+1))) rb M ws (eJ s.p):=h.r.turn a (by have:=h.r.rd.set 1 (aa ((s.p.i:Int)+1));simpa using this);exact⟨h.turn b (et.rb a),(et.rb a).bd mb fv nl⟩
def Tryz.info111:(prog.info? 111).map (λi=>(i.zero,i.size,i.bytes))=some (some (.agg #[S8,ah]),2,40):=Tj
def SR {w:aw}{rb:Nat}{M:lB}{ws:List W}{p:PS}(h:fx w rb M ws p)(H:jY ws)(d:iC ws p)(hnn:p.names.length<=2001)(hmm:p.msgs.length<=2001):
  Calls prog 39 #[ag rb] w λe w'=>e= .returned (.tuple #[])/\∃M',fx w' rb M' ws (BC ws p)/\et w (M.D rb) w' (M'.D rb):=by
 have⟨i9,UH,Ur,Us,Ut⟩:=info_parts Tryz.info9;have⟨Uy,Ue,TU,TV,TW⟩:=info_parts Tryz.info111;obtain⟨x,hx⟩:=Td (gM ws 1 ⟨#[]⟩ p);have HX:Hid (gM ws 1 ⟨#[]⟩ p=x):=hx;clear hx;go_in
 go_wp2_with fail;refine(vo h H d.lt 1 Te ⟨#[]⟩).V ?_;rintro e w1 ⟨rfl,l,f⟩;rw[HX.o];unfold sX;have r:=dP.new w1 #[ae x.1,aa x.2] 102;have nw:¬M.D rb w1.heap.size:=λd=>by have:=l.lt d;omega
 replace l:=l.alloc (ak #[ae x.1,aa x.2] 102);replace f:=f.alloc (ak #[ae x.1,aa x.2] 102);clear h;go_wp2_with fail;refine(Qy l x).V ?_;rintro e w2 ⟨rfl,j,z⟩;replace r:=r.step z nw;replace f:=f.J z;clear z l;have⟨na,nn,nc,Uf⟩:=dO j.hn;have K:=j.hn;rw[Uf]at K;have o:=j.rd;rw[Uf]at o;have⟨Um,q,Ug⟩:=j.hm;have⟨ma,mn,mc,I⟩:=dO q;rw[I]at q;obtain rfl:=d9 q;have C:=j.sc;rw[I]at C;obtain⟨B,m⟩:=Td ((eC p.names x.1||decide (6<=p.msgs.length)));have HB:Hid ((eC p.names x.1||decide (6<=p.msgs.length))=B):=m;clear m;have Uk:Hid (rH ws p=if B then sY x (xq x (fG ws 1 ⟨#[]⟩ p))else xq x (fG ws 1 ⟨#[]⟩ p)):=(by show rH ws p=_;unfold rH;rw[HX.o,HB.o]);have⟨Z,m2⟩:=r.I;have⟨P,Q⟩:=o.I;have⟨q1,q2⟩:=C.I;have Up:=(Dz p.names x.1 0 Te).ge;go_wp2_with fail;go_cut [30]from 12 to 30 (λv wr=>v= .bool B/\∃nq,wr=w2.drewN nq)
 case first=>
  cases hm:eC p.names x.1
  .rw[hm]at Up;cases h6:decide (6<=p.msgs.length)
   .have h7:decide ((6:Int)<=((xq x (fG ws 1 ⟨#[]⟩ p)).msgs.length:Int))=false:=by have:=of_decide_eq_false h6;show decide ((6:Int)<=(p.msgs.length:Int))=false;simp;omega
    obtain rfl:B=false:=by rw[<-HB.o,hm,h6];rfl
    go_quiet (first|(go_at_call 41;refine Calls.quiet_of_same (Fd _ _ _ p.names x.1 Te K)));go_wp2;go_meet
    case rel=>exact⟨rfl,_,rfl⟩
   .have h7:(6:Int)<=((xq x (fG ws 1 ⟨#[]⟩ p)).msgs.length:Int):=by have:=dI h6;show(6:Int)<=(p.msgs.length:Int);omega
    obtain rfl:B=true:=by rw[<-HB.o,hm,h6];rfl
    go_quiet (first|(go_at_call 41;refine Calls.quiet_of_same (Fd _ _ _ p.names x.1 Te K)));go_wp2;go_meet
    case rel=>exact⟨rfl,_,rfl⟩
  .rw[hm]at Up;obtain rfl:B=true:=by rw[<-HB.o,hm];rfl
   go_quiet (first|(go_at_call 41;refine Calls.quiet_of_same (Fd _ _ _ p.names x.1 Te K)));go_wp2;go_meet
   case rel=>exact⟨rfl,_,rfl⟩
 case rest=>
  obtain⟨rfl,nq,hq⟩:=hcut;subst wc;replace j:=j.drewN nq;replace f:=f.drewN nq;replace r:dP (w2.drewN nq) _ _ _:=r;clear Z m2 P Q q1 q2 K o q Ug C Up;generalize w2.drewN nq=w3 at*;go_upto_if 30 with fail
  go_cut []from 31 to 33 (λwr=>fx wr rb M ws (rH ws p)/\et w (M.D rb) wr (M.D rb)/\dP wr w1.heap.size #[ae x.1,aa x.2] 102)
  case first=>
   cases B
   .go_wp2;go_meet
    case rel=>exact⟨by rw[Uk.o];exact j,f,r⟩
   .have⟨Z,m2⟩:=r.I;go_wp2_with fail;refine(MY j x).V ?_;rintro e w4 ⟨rfl,h4,Uz⟩;go_wp2;go_meet
    case rel=>exact⟨by rw[Uk.o];exact h4,f.J Uz,r.step Uz nw⟩
  case rest=>
   have T7:Hid ((rH ws p).i=(fG ws 1 ⟨#[]⟩ p).i/\(rH ws p).bad=(fG ws 1 ⟨#[]⟩ p).bad/\(rH ws p).used=p.used/\(rH ws p).names=p.names/\(rH ws p).msgs=p.msgs):=(by rw[Uk.o];cases B<;>exact⟨rfl,rfl,rfl,rfl,rfl⟩);clear j f r Uk HB;obtain⟨j,f,r⟩:=hcut;have o:=j.rd;have K:=j.hn;rw[Uf]at o K;have⟨Z,m2⟩:=r.I;have⟨P,Q⟩:=o.I;have⟨o1,o2⟩:=(o.alloc (ak #[ae x.1] 9)).I;have⟨o3,o4⟩:=(r.alloc (ak #[ae x.1] 9)).I;have HO:Hid (some rb≠(Value.slice na nn nc).ownBlock):=λe=>eF K j.rd Th rb e.sy rfl
   have hnl:(rH ws p).names.length<=2001:=by rw[T7.o.2.2.2.1];exact hnn
   go_upto_region 4 with fail
   go_cut []from 34 to 44 (λwr=>∃M',fx wr rb M' ws (Dx ws p)/\et w (M.D rb) wr (M'.D rb)/\dP wr w1.heap.size #[ae x.1,aa x.2] 102)
   case first=>
    go_region_law (first|(refine step_append_lies _ Tk _ _ _ Tk 0 9 i9 _ 1 16 underlying30 UH Ur Us Ut rfl Te (.slice na nn nc) (rH ws p).names.length (eh (rH ws p).names) Tk (K.alloc _) (ai wc.heap.size 0) 1 1 [_] Tk Tk (aY (t:=9) (fr:=(0,0)) (heap_alloc_new wc _)) Tm Te Tl Te Te (wc.heap.size+1) Tf ?_;intro gg cap w5 TB O Ua Uh;have⟨x1,x2⟩:=((o.alloc _).drew.grown O HO.o).I))
    all_goals
     go_wp2;go_meet
     case rel=>
      have h5:=(j.alloc (ak #[ae x.1] 9)).drew
      have⟨hR,hS⟩:=h5.addN (x:=x.1) (w':=w5) (by rw[Uf];exact O) TB (λb d=>by
       have T8:gg=b:=by simpa [Value.ownBlock]using d
       subst T8;rcases Ua with l|l;.left;rw[Uf];exact l
       .right;simp;omega)
      refine⟨_,?_,(f.alloc _).drew.J hS,(r.alloc _).drew.step hS nw⟩;unfold Dx;rw[HX.o,<-T7.o.2.2.2.1];exact hR
   case rest=>
    clear j r o K Z m2 P Q o1 o2 o3 o4 HO f;obtain⟨M1,j,f,r⟩:=hcut;have⟨Z,m2⟩:=r.I;obtain⟨u,UA⟩:=Td wc.heap.size
    have l2:gC (wc.alloc (ak #[ae x.1,ah] 111)) rb M1 wc.heap.size x.1 (ah) (ah) [] []:=by
     refine⟨dP.new wc _ _,aX _ _ _ _,aX _ _ _ _,λb d=> ?_⟩;rcases d with rfl|d|d;.intro hd;have:=j.lt hd;omega
     .cases d
     .cases d
    have Ul:jO (wc.alloc (ak #[ae x.1,ah] 111)) rb M1 ws wc.heap.size x.1 (ah) (ah) ⟨Dx ws p,[],[]⟩:=⟨j.alloc _,l2⟩
    have z:et w (M.D rb) (wc.alloc (ak #[ae x.1,ah] 111)) (iA M1 rb wc.heap.size (ah) (ah)):=by
     have hs:=f.alloc (ak #[ae x.1,ah] 111);refine⟨hs.os,hs.tape,hs.output,hs.size,hs.block,λb d=> ?_⟩;rcases d with d|d|d|d;.exact hs.grow b d
     .right;rw[d];exact f.size
     .cases d
     .cases d
    have Uw:iC ws (Dx ws p):=by
     have l:=fQ H d 1 ⟨#[]⟩;refine⟨?_,?_⟩;.show(rH ws p).i<_;rw[T7.o.1];exact l.lt
     .show(rH ws p).used.length<=(rH ws p).i;rw[T7.o.1,T7.o.2.2.1];exact l.used
    clear j l2 f;go_wp2_with fail;clear Z m2 r;rw[UA]at Ul z;generalize wc.alloc (ak #[ae x.1,ah] 111)=w6 at*;refine(vo Ul.r H Uw.lt 0 Te ⟨#[123]⟩).V ?_;rintro e w7 ⟨rfl,h7,Uu⟩;have m:jO w7 rb M1 ws u x.1 (ah) (ah) (Ce ws p):=Ul.turn h7 Uu;have f:=z.J (Uu.bd u _ _);have Ux:vB ws (Ce ws p):=⟨fQ H Uw 0 ⟨#[123]⟩,λ_=>aM _,λ_=>aM _⟩;clear Ul z h7 Uu UA;unfold sX;obtain⟨R,Uv⟩:=Td (uo ws p);have HR:Hid (Al ws ws.length (Ce ws p)=R):=Uv;have HP:Hid (BC ws p={fG ws 0 ⟨#[125]⟩ R.p with msgs:=R.p.msgs++ [⟨x.1,R.nums⟩]}):=(by show BC ws p=_;unfold BC;rw[Uv,HX.o]);clear Uv;go_wp2;go_loopw [4] (λUB wr=>∃(n:Nat) (M':lB) (L:Value) (a:FD),vB ws a/\fo ws a.p<=n/\Hid (Al ws n a=R)/\jO wr rb M' ws u x.1 L UB a/\et w (M.D rb) wr (iA M' rb u L UB)) (λ_ wr=>mQ rb ws.length wr)
    case atStart=>exact⟨ws.length,M1,ah,Ce ws p,Ux,by unfold fo;split<;>omega,HR,m,f⟩
    case round=>
     clear m f Ux;obtain⟨n,M',L,a,i,hms,HL,m,f⟩:=hrel;have TI:=m.r.meas;have⟨P,Q⟩:=m.r.rd.I;have T9:(decide (a.p.bad<0)&& !tV ws ⟨#[125]⟩ a.p)=true\/(decide (a.p.bad<0)&& !tV ws ⟨#[125]⟩ a.p)=false:=by cases(decide (a.p.bad<0)&& !tV ws ⟨#[125]⟩ a.p)<;>simp
     rcases T9 with Un|Tx
     .have TX:decide (a.p.bad<0)=true:=(bK _ _▸Un).1;have Ua:tV ws ⟨#[125]⟩ a.p=false:=by have:=(bK _ _▸Un).2;simpa using this
      have N:a.p.bad<0:=dI TX;have TJ:=LA H i N;have hln:a.p.i<2001:=aI i.ok.lt H.len;have Ub:Hid (Al ws (n-1) (nW ws a)=R):=(by have:=HL.o;rw[Ly Un Te]at this;exact this);clear Un;go_wp2_with fail;refine(QR m.r i.ok.lt ⟨#[125]⟩).V ?_;rintro e w8 ⟨rfl,TZ⟩;rw[Ua];replace m:=m.G TZ;replace f:=f.G TZ;clear TZ P Q;obtain⟨y,hy⟩:=Td (gh ws a.p);have T:Hid (gh ws a.p=y):=hy;have TY:=fZ i.ok.lt;rw[hy]at TY;clear hy;have Ty:=m.r.hw;have o:=m.r.rd;have⟨va,vn,vc,UC⟩:=dO Ty;rw[UC]at Ty o;obtain⟨rfl,Uh,g,rfl,UG,TA⟩:=ol Ty TY;have⟨q1,q2⟩:=TA _ rfl;have⟨P,Q⟩:=o.I;have hi1:(a.p.i:Int)<(ws.length:Int):=Te;clear TA Ty UC TY;go_wp2;go_quiet (fail);have T4:=m.G (gN (Below.refl _ w8) nq);have Uc:=f.G (gN (Below.refl _ w8) nq);cases l:(y.1.toList== [111,110,101,111,102]);rotate_left
      .have⟨X,T0⟩:=T4.inc (v:=(a.p.i:Int)+1) rfl;have D:=lx H i (by rw[T.o];exact il l)
       have A:Hid (nW ws a=Cc ws (ew a)):=by
        show nW ws a=_;unfold nW;rw[T.o];simp only[l,if_true]
        try rfl
       go_wp2_with fail;refine(SP X H D (by show a.names.length<=2001;have:=i.names N;omega)).V ?_;rintro e k ⟨U,Y,Uo,rfl,c,s⟩;go_wp2;go_roundw
       case rel=>exact⟨n-1,U,Y,nW ws a,qQ H i,Te,Ub,by rw[A.o];exact c,(Uc.J T0).J s⟩
       case measure=>
        have V:mQ rb ws.length k=fo ws (nW ws a).p:=by rw[A.o];exact c.r.meas
        rw[V,TI];exact TJ
      cases j:(y.1.toList== [109,97,112]);rotate_left
      .have⟨X,T0⟩:=T4.inc (v:=(a.p.i:Int)+1) rfl;have D:=lx H i (by rw[T.o];exact il j)
       have A:Hid (nW ws a=Cd ws (ew a)):=by
        show nW ws a=_;unfold nW;rw[T.o];simp only[l,j,if_true,aN,if_false]
        try rfl
       go_wp2_with fail;refine(SQ X H D.ok (by show a.nums.length<=2001;have:=i.nums N;omega) (by show a.names.length<=2001;have:=i.names N;omega)).V ?_;rintro e k ⟨U,Y,Uo,rfl,c,s⟩;go_wp2;go_roundw
       case rel=>exact⟨n-1,U,Y,nW ws a,qQ H i,Te,Ub,by rw[A.o];exact c,(Uc.J T0).J s⟩
       case measure=>
        have V:mQ rb ws.length k=fo ws (nW ws a).p:=by rw[A.o];exact c.r.meas
        rw[V,TI];exact TJ
      cases h3:(y.1.toList== [114,101,112,101,97,116,101,100]);rotate_left
      .have⟨X,T0⟩:=T4.inc (v:=(a.p.i:Int)+1) rfl;have D:=lx H i (by rw[T.o];exact il h3)
       have A:Hid (nW ws a=oC ws y.1 (ew a)):=by
        show nW ws a=_;unfold nW;rw[T.o];simp only[l,j,h3,cF,if_true,aN,if_false]
        try rfl
       go_wp2_with fail;refine(QD X.r H D.ok.lt (by have:=D.ok.used;have:=D.ok.lt;have:=H.len;omega)).V ?_;rintro e T5 ⟨rfl,U,G,J⟩;have TK:=X.turn G J;have TL:=J.bd u L u4;clear G J;go_wp2_with fail;refine(Ir TK H (lK H D.ok).lt (by show a.nums.length<=2001;have:=i.nums N;omega) (by show a.names.length<=2001;have:=i.names N;omega) _ _ _ _ _).V ?_;rintro e k ⟨Y,Uo,rfl,c,s⟩;go_wp2;go_roundw
       case rel=>exact⟨n-1,U,Y,nW ws a,qQ H i,Te,Ub,by rw[A.o];exact c,((Uc.J T0).J TL).J s⟩
       case measure=>
        have V:mQ rb ws.length k=fo ws (nW ws a).p:=by rw[A.o];exact c.r.meas
        rw[V,TI];exact TJ
      cases h4:(y.1.toList== [111,112,116,105,111,110,97,108]);rotate_left
      .have⟨X,T0⟩:=T4.inc (v:=(a.p.i:Int)+1) rfl;have D:=lx H i (by rw[T.o];exact il h4)
       have A:Hid (nW ws a=oC ws y.1 (ew a)):=by
        show nW ws a=_;unfold nW;rw[T.o];simp only[l,j,h3,h4,cC,if_true,aN,if_false]
        try rfl
       go_wp2_with fail;refine(QD X.r H D.ok.lt (by have:=D.ok.used;have:=D.ok.lt;have:=H.len;omega)).V ?_;rintro e T5 ⟨rfl,U,G,J⟩;have TK:=X.turn G J;have TL:=J.bd u L u4;clear G J;go_wp2_with fail;refine(Ir TK H (lK H D.ok).lt (by show a.nums.length<=2001;have:=i.nums N;omega) (by show a.names.length<=2001;have:=i.names N;omega) _ _ _ _ _).V ?_;rintro e k ⟨Y,Uo,rfl,c,s⟩;go_wp2;go_roundw
       case rel=>exact⟨n-1,U,Y,nW ws a,qQ H i,Te,Ub,by rw[A.o];exact c,((Uc.J T0).J TL).J s⟩
       case measure=>
        have V:mQ rb ws.length k=fo ws (nW ws a).p:=by rw[A.o];exact c.r.meas
        rw[V,TI];exact TJ
      have A:Hid (nW ws a=oC ws eS a):=(by show nW ws a=_;unfold nW;rw[T.o];simp only[l,j,h3,h4,cC,aN,if_false]);go_wp2_with fail;refine(QD T4.r H i.ok.lt (by have:=i.ok.used;have:=i.ok.lt;have:=H.len;omega)).V ?_;rintro e T5 ⟨rfl,U,G,J⟩;have TK:=T4.turn G J;have TL:=J.bd u L u4;clear G J;go_wp2_with fail;refine(Ir TK H (lK H i.ok).lt (by show a.nums.length<=2001;have:=i.nums N;omega) (by show a.names.length<=2001;have:=i.names N;omega) _ _ _ _ _).V ?_;rintro e k ⟨Y,Uo,rfl,c,s⟩;go_wp2;go_roundw
      case rel=>exact⟨n-1,U,Y,nW ws a,qQ H i,Te,Ub,by rw[A.o];exact c,(Uc.J TL).J s⟩
      case measure=>
       have V:mQ rb ws.length k=fo ws (nW ws a).p:=by rw[A.o];exact c.r.meas
       rw[V,TI];exact TJ
     .cases TX:decide (a.p.bad<0)
      .obtain rfl:R=a:=by rw[<-HL.o,qm Tx]
       clear Tx;go_wp2_with fail;refine(vo m.r H i.ok.lt 0 Te ⟨#[125]⟩).V ?_;rintro e k ⟨rfl,h9,s⟩;unfold sX;have c:=m.turn h9 s;replace f:=f.J (s.bd u L u4);clear h9 s m P Q;have Ud:k.ownsRow 0 178 5 L R.nums.length (R.nums.flatMap fI):=c.l.fr;obtain⟨E,fn,F,rfl⟩:=dO Ud;have TM:=c.l.mblk;have UE:=c.l.sep u (.inl rfl);have⟨Um,q,Ug⟩:=c.r.hm;have⟨ma,mn,mc,I⟩:=dO q;rw[I]at q;obtain rfl:=d9 q;have C:=c.r.sc;rw[I]at C;have o:=c.r.rd;have UF:(fG ws 0 ⟨#[125]⟩ R.p).msgs.length<=2001:=(by have e1:=BF ws p;have e2:uo ws p=R:=HR.o;rw[e2]at e1;have e3:R.p.msgs=p.msgs:=dK (λt=>t.2.1) e1;show R.p.msgs.length<=2001;rw[e3];exact hmm);have HO:Hid (some M'.sb≠(Value.slice ma (fG ws 0 ⟨#[125]⟩ R.p).msgs.length mc).ownBlock):=λe=>eF q c.r.sc Th _ e.sy rfl
       have Uq:Hid (some rb≠(Value.slice ma (fG ws 0 ⟨#[125]⟩ R.p).msgs.length mc).ownBlock):=λe=>eF q c.r.rd Th _ e.sy rfl
       have⟨P,Q⟩:=o.I;have⟨q1,q2⟩:=C.I;have⟨Z,m2⟩:=TM.I;have⟨k3,k4⟩:=(o.alloc (ak #[ae x.1,.slice E fn F] 111)).I;have⟨q3,q4⟩:=(C.alloc (ak #[ae x.1,.slice E fn F] 111)).I;go_wp2;go_region_law (first|(refine step_append_lies _ Tk _ _ _ Tk 0 111 Uy _ 2 40 underlying96 Ue TU TV TW rfl Te (.slice ma (fG ws 0 ⟨#[125]⟩ R.p).msgs.length mc) (fG ws 0 ⟨#[125]⟩ R.p).msgs.length Um Tk (q.alloc _) (ai k.heap.size 0) 1 1 [_,_] Tk Tk (aY (t:=111) (fr:=(0,0)) (heap_alloc_new k _)) Tm Te Tl Te Te (k.heap.size+1) Tf ?_;intro gg cap T5 TB O TN Ui;have⟨x1,x2⟩:=((C.alloc _).drew.grown O HO.o).I;have⟨x3,x4⟩:=((o.alloc _).drew.grown O Uq.o).I))
       all_goals
        go_wp2;go_end0;have G:=(c.r.alloc (ak #[ae x.1,.slice E fn F] 111)).drew
        have⟨hR,hS⟩:=G.addM (x:=x.1) (w':=T5) (S:=iA M' rb u (.slice E fn F) u4) (by rw[I];exact O) (Ud.alloc _) (Ug.O (w':=(k.alloc (ak #[ae x.1,.slice E fn F] 111)).drew) λb _ hl=>(((Tb k).alloc (aD _) (ak #[ae x.1,.slice E fn F] 111)).drew).block b hl) TB (λb d=>by
         have T8:gg=b:=by simpa [Value.ownBlock]using d
         subst T8;rcases TN with l|l;.left;rw[I];exact l
         .right;simp;omega) (λb d=> .inl d) (λb d=> .inr (.inr (.inl d)))
        refine⟨rfl,_,?_,(f.alloc _).drew.J hS⟩;rw[HP.o];exact hR
      .have Ua:tV ws ⟨#[125]⟩ a.p=true:=by rw[TX]at Tx;simpa using Tx
       obtain rfl:R=a:=by rw[<-HL.o,qm Tx]
       clear Tx;go_wp2_with fail;refine(QR m.r i.ok.lt ⟨#[125]⟩).V ?_;rintro e w8 ⟨rfl,TZ⟩;rw[Ua];replace m:=m.G TZ;replace f:=f.G TZ;clear TZ;go_wp2_with fail;refine(vo m.r H i.ok.lt 0 Te ⟨#[125]⟩).V ?_;rintro e k ⟨rfl,h9,s⟩;unfold sX;have c:=m.turn h9 s;replace f:=f.J (s.bd u L u4);clear h9 s m P Q;have Ud:k.ownsRow 0 178 5 L R.nums.length (R.nums.flatMap fI):=c.l.fr;obtain⟨E,fn,F,rfl⟩:=dO Ud;have TM:=c.l.mblk;have UE:=c.l.sep u (.inl rfl);have⟨Um,q,Ug⟩:=c.r.hm;have⟨ma,mn,mc,I⟩:=dO q;rw[I]at q;obtain rfl:=d9 q;have C:=c.r.sc;rw[I]at C;have o:=c.r.rd;have UF:(fG ws 0 ⟨#[125]⟩ R.p).msgs.length<=2001:=(by have e1:=BF ws p;have e2:uo ws p=R:=HR.o;rw[e2]at e1;have e3:R.p.msgs=p.msgs:=dK (λt=>t.2.1) e1;show R.p.msgs.length<=2001;rw[e3];exact hmm);have HO:Hid (some M'.sb≠(Value.slice ma (fG ws 0 ⟨#[125]⟩ R.p).msgs.length mc).ownBlock):=λe=>eF q c.r.sc Th _ e.sy rfl
       have Uq:Hid (some rb≠(Value.slice ma (fG ws 0 ⟨#[125]⟩ R.p).msgs.length mc).ownBlock):=λe=>eF q c.r.rd Th _ e.sy rfl
       have⟨P,Q⟩:=o.I;have⟨q1,q2⟩:=C.I;have⟨Z,m2⟩:=TM.I;have⟨k3,k4⟩:=(o.alloc (ak #[ae x.1,.slice E fn F] 111)).I;have⟨q3,q4⟩:=(C.alloc (ak #[ae x.1,.slice E fn F] 111)).I;go_wp2;go_region_law (first|(refine step_append_lies _ Tk _ _ _ Tk 0 111 Uy _ 2 40 underlying96 Ue TU TV TW rfl Te (.slice ma (fG ws 0 ⟨#[125]⟩ R.p).msgs.length mc) (fG ws 0 ⟨#[125]⟩ R.p).msgs.length Um Tk (q.alloc _) (ai k.heap.size 0) 1 1 [_,_] Tk Tk (aY (t:=111) (fr:=(0,0)) (heap_alloc_new k _)) Tm Te Tl Te Te (k.heap.size+1) Tf ?_;intro gg cap T5 TB O TN Ui;have⟨x1,x2⟩:=((C.alloc _).drew.grown O HO.o).I;have⟨x3,x4⟩:=((o.alloc _).drew.grown O Uq.o).I))
       all_goals
        go_wp2;go_end0;have G:=(c.r.alloc (ak #[ae x.1,.slice E fn F] 111)).drew
        have⟨hR,hS⟩:=G.addM (x:=x.1) (w':=T5) (S:=iA M' rb u (.slice E fn F) u4) (by rw[I];exact O) (Ud.alloc _) (Ug.O (w':=(k.alloc (ak #[ae x.1,.slice E fn F] 111)).drew) λb _ hl=>(((Tb k).alloc (aD _) (ak #[ae x.1,.slice E fn F] 111)).drew).block b hl) TB (λb d=>by
         have T8:gg=b:=by simpa [Value.ownBlock]using d
         subst T8;rcases TN with l|l;.left;rw[I];exact l
         .right;simp;omega) (λb d=> .inl d) (λb d=> .inr (.inr (.inl d)))
        refine⟨rfl,_,?_,(f.alloc _).drew.J hS⟩;rw[HP.o];exact hR
section
variable {w a:World} {b k n cap:Nat} {cs:Array Value} {T T':TypeId} {S:Nat->Prop} {t:Option Nat} {xv' nv':Value}
theorem dP.tyE {cs':Array Value}(h:dP w b cs T)(a:dP w b cs' T'):T=T':=by
 unfold dP at h a;rw[h]at a;cases a;rfl
theorem iU {lo:Nat}{v:Value}{xs:List Value}(h:w.ownsRow lo T k v n xs)(a:v.ownBlock=some b):∃cs,dP w b cs T:=by
 rcases h.2 with⟨rfl,_⟩|⟨g,d,c,rfl,_,e,_⟩;.cases a
 .cases a;exact⟨c,e⟩
structure nJ (w:World)(S:Nat->Prop)(w':World):Prop where
 os:w'.os=w.os
 tape:w'.tape=w.tape
 output:w'.output=w.output
 size:w.heap.size<=w'.heap.size
 block:∀b,b<w.heap.size->¬S b->w'.heap[b]?=w.heap[b]?
theorem nJ.refl (w:World)(S:Nat->Prop):nJ w S w:=⟨rfl,rfl,rfl,aD _,λ_ _ _=>rfl⟩
theorem nJ.J {b c:World}{T:Nat->Prop}(h:nJ a S b)(k:nJ b T c)(f:∀x,x<a.heap.size->T x->S x):nJ a S c:=
 ⟨k.os.J h.os,k.tape.J h.tape,k.output.J h.output,aL h.size k.size,λx d e=>(k.block x (aI d h.size) (λq=>e (f x d q))).J (h.block x d e)⟩
theorem nJ.oB {b:World}(h:Below a.heap.size a b):nJ a S b:=⟨h.os,h.tape,h.output,h.size,λx c _=>h.block x c⟩
theorem nJ.G {b c:World}(h:nJ a S b)(k:Below b.heap.size b c):nJ a S c:=h.J (T:=λ_=>False) (nJ.oB k) (λ_ _ q=>q.elim)
theorem nJ.set {b:World}(h:nJ a S b){c:Nat}(d:S c\/a.heap.size<=c)(off:Nat)(u:Value):nJ a S (b.setCell ⟨c,off,none⟩ u):=
 ⟨h.os,h.tape,h.output,by simpa [World.setCell]using h.size,λx g q=>(Below.heap_setCell _ _ _ _ (λe=>by have f:x=c:=e;subst f;rcases d with d|d;exact q d;omega)).J (h.block x g q)⟩
theorem nJ.grown {b c:World}(h:nJ a S b)(k:b.grownBy c t)(f:∀x,t=some x->S x\/a.heap.size<=x):nJ a S c:=
 ⟨k.os.J h.os,k.tape.J h.tape,k.output.J h.output,aL h.size k.size,λx d q=>(k.block x (aI d h.size) (λe=>by rcases f x e.sy with y|y;exact q y;omega)).J (h.block x d q)⟩
theorem nJ.to_below {b:World}(h:nJ a S b)(d:n<=a.heap.size)(c:∀x,S x->n<=x):Below n a b:=⟨h.os,h.tape,h.output,h.size,λx e=>h.block x Te (λq=>by have:=c x q;omega)⟩
section
variable {w w':World} {D:Nat->Prop} {T T':TypeId} {k n:Nat} {v:Value} {xs:List Value}
theorem d5.setT (h:d5 w D T k v n xs)(K:dP w b cs T')(hT:T≠T')(off:Nat)(u:Value):d5 (w.setCell ⟨b,off,none⟩ u) D T k v n xs:=
 ⟨dR h.1 λg d=>Below.heap_setCell _ _ _ _ (λe=>by
  have c:g=b:=e;subst c;have⟨f,a⟩:=iU h.1 d
  exact hT (a.tyE K)),h.2⟩
theorem d5.growT (h:d5 w D T k v n xs)(f:w.grownBy w' t)(i:∀b,t=some b->∃cs,dP w b cs T')(hT:T≠T'):d5 w' D T k v n xs:=
 ⟨dR h.1 λg a=>f.block g (h.1.lt g a).2 (λe=>by
  have⟨l,c⟩:=iU h.1 a;have⟨m,d⟩:=i g e.sy
  exact hT (c.tyE d)),h.2⟩
theorem d5.growN (h:d5 w D T k v n xs)(c:w.grownBy w' t)(d:∀b,v.ownBlock=some b->t≠some b):d5 w' D T k v n xs:=
 ⟨dR h.1 λg a=>c.block g (h.1.lt g a).2 (λe=>d g a e.sy),h.2⟩
theorem d5.wide {D':Nat->Prop}(h:d5 w D T k v n xs)(c:∀b,D b->D' b):d5 w D' T k v n xs:=⟨h.1,λb a=>c b (h.2 b a)⟩
theorem Fk {g j:Nat}(h:w.ownsRow 0 T k (.slice (some ⟨g,0,none⟩) n cap) n xs)(i:j<=n):w.ownsRow 0 T k (.slice (some ⟨g,0,none⟩) j cap) j (xs.take (j*k)):=by
 rcases h.2 with⟨a,_⟩|⟨o,m,b,a,p,c,q,d,e,f⟩;.cases a
 .simp only[Value.slice.injEq,Option.some.injEq,Addr.mk.injEq,and_true,true_and]at a;obtain⟨rfl,rfl⟩:=a;have l:j*k<=n*k:=Nat.mul_le_mul_right k i;refine⟨by rw[bG,h.1];omega,.inr ⟨g,cap,b,rfl,aM _,c,Te,d,e,?_⟩⟩;rw[<-f,List.take_take,Nat.min_eq_left l]
theorem N6 {g cap2 j:Nat}{ys:List Value}(hk:0<k)(h:w.ownsRow 0 T k (.slice (some ⟨g,0,none⟩) n cap) n xs)(f:w.ownsRow 0 T k (.slice (some ⟨g,0,none⟩) j cap2) j ys):cap=cap2:=by
 rcases h.2 with⟨a,_⟩|⟨q,o,m,a,_,i,_,_,l,_⟩;.cases a
 .rcases f.2 with⟨b,_⟩|⟨r,c,p,b,_,d,_,_,e,_⟩;.cases b
  .simp only[Value.slice.injEq,Option.some.injEq,Addr.mk.injEq,and_true,true_and]at a b;obtain⟨rfl,rfl⟩:=a;obtain⟨rfl,rfl⟩:=b;rw[i]at d;cases d;rw[l]at e;exact Nat.eq_of_mul_eq_mul_right hk e
end
structure Fl where
 T:TypeId
 c:Nat
 mar:Nat->List Value
def uw:Fl:=⟨55,4,λy=> [.int .u64 0,.string (Ao y),.slice none 0 0,.string ⟨#[]⟩]⟩
def uZ:Fl:=⟨58,2,λy=> [.int .i64 (-(y:Int)),.slice none 0 0]⟩
def iV (K:Fl)(j y:Nat):List Value:=(List.replicate j (K.mar y)).flatten
def yA:Value->Nat| .slice _ k _=>k|_=>0
def Rp (K:Fl)(w:World)(D:Nat->Prop)(x:Value)(y:Nat):Prop:=d5 w D K.T K.c x (yA x) (iV K (yA x) y)
structure Hb (K:Fl)(R:TypeId)(w:World)(D:Nat->Prop)(xv nv:Value)(xs:List Value)(ns:List Nat):Prop where
 xr:d5 w D R 1 xv xs.length xs
 nr:d5 w D 3 1 nv ns.length (ns.map λn:Nat=> .int .i64 n)
 en:∀(i:Nat) x y,xs[i]?=some x->ns[i]?=some y->Rp K w D x y
structure lL (w:World)(bb n:Nat)(D:Nat->Prop)(vV vN fV fN:Value)(vs:List Value)(ns:List Nat)(fs:List Value)(ms:List Nat):Prop where
 blk:dP w bb #[.int .i64 n,vV,vN,fV,fN,.slice none 0 0,.slice none 0 0] 39
 dbb:D bb
 hv:Hb uw 56 w D vV vN vs ns
 hf:Hb uZ 47 w D fV fN fs ms
 sp:∀b,vN.ownBlock=some b->fN.ownBlock≠some b
section
variable {w w':World} {D D':Nat->Prop} {K:Fl} {R:TypeId} {xv nv:Value} {xs:List Value} {ns:List Nat}
theorem Hb.O (h:Hb K R w D xv nv xs ns)(hk:∀b,D b->b<w.heap.size->w'.heap[b]?=w.heap[b]?):Hb K R w' D xv nv xs ns:=
 ⟨h.xr.O hk,h.nr.O hk,λi x y a c=>d5.O (h.en i x y a c) hk⟩
theorem Hb.wide (h:Hb K R w D xv nv xs ns)(hd:∀b,D b->D' b):Hb K R w D' xv nv xs ns:=⟨h.xr.wide hd,h.nr.wide hd,λi x y a c=>d5.wide (h.en i x y a c) hd⟩
theorem Hb.less (h:Hb K R w D xv nv xs ns)(hd:∀b,D b->b<w.heap.size->D' b):Hb K R w D' xv nv xs ns:=⟨h.xr.V hd,h.nr.V hd,λi x y a c=>d5.V (h.en i x y a c) hd⟩
theorem Hb.setT (h:Hb K R w D xv nv xs ns)(B:dP w b cs T')(h1:R≠T')(a:3≠T')(c:K.T≠T')(off:Nat)(u:Value):Hb K R (w.setCell ⟨b,off,none⟩ u) D xv nv xs ns:=
 ⟨h.xr.setT B h1 off u,h.nr.setT B a off u,λi x y d e=>d5.setT (h.en i x y d e) B c off u⟩
theorem Hb.growT (h:Hb K R w D xv nv xs ns)(a:w.grownBy w' t)(c:∀b,t=some b->∃cs,dP w b cs T')(h1:R≠T')(d:3≠T')(e:K.T≠T'):Hb K R w' D xv nv xs ns:=
 ⟨h.xr.growT a c h1,h.nr.growT a c d,λi x y f g=>d5.growT (h.en i x y f g) a c e⟩
structure pK (K:Fl)(w:World)(D:Nat->Prop)(v:Value)(j y:Nat)(xs:List Value)(ns:List Nat):Prop where
 row:d5 w D K.T K.c v j (iV K j y)
 sh:∀(i:Nat) x y',xs[i]?=some x->ns[i]?=some y'->∀b,x.ownBlock=some b->v.ownBlock=some b->y'=y/\yA x<=j
variable {v:Value} {j y:Nat}
theorem yB {zs:List Value}(h:w.ownsRow 0 T k v n zs):yA v=n:=by
 rcases h.2 with⟨rfl,rfl⟩|⟨_,_,_,rfl,_⟩<;>rfl
theorem pK.setT (h:pK K w D v j y xs ns)(B:dP w b cs T')(a:K.T≠T')(off:Nat)(u:Value):pK K (w.setCell ⟨b,off,none⟩ u) D v j y xs ns:=⟨h.row.setT B a off u,h.sh⟩
theorem Hb.pushX (h:Hb K R w D xv nv xs ns)(C:pK K w D v j y xs ns)(hl:ns.length=xs.length)(hg:w.grownBy w' xv.ownBlock)(d:w'.ownsRow 0 R 1 xv' (xs.length+1) (xs++ [v]))(m:∀b,xv'.ownBlock=some b->D b)(h2:3≠R)(h3:K.T≠R):
  Hb K R w' D xv' nv (xs++ [v]) ns/\pK K w' D v j y (xs++ [v]) ns:=by
 have e:∀b,xv.ownBlock=some b->∃cs,dP w b cs R:=λb g=>iU h.xr.1 g
 have f:∀(i:Nat) x a,(xs++ [v])[i]?=some x->ns[i]?=some a->xs[i]?=some x:=λi x a c h2=>by
  have:=(bt.1 h2).1
  rwa [bW Te]at c
 refine⟨⟨⟨by simpa using d,m⟩,h.nr.growT hg e h2,λi x a c h2=>d5.growT (h.en i x a (f i x a c h2) h2) hg e h3⟩,C.row.growT hg e h3,λi x a c h2=>C.sh i x a (f i x a c h2) h2⟩
theorem Hb.pushN (h:Hb K R w D xv nv xs ns)(C:pK K w D v j y xs ns)(hl:xs.length=ns.length+1)(hv:xs[ns.length]?=some v)(hg:w.grownBy w' nv.ownBlock)(e:w'.ownsRow 0 3 1 nv' (ns.length+1) ((ns.map λn:Nat=>Value.int .i64 n)++ [.int .i64 y]))(p:∀b,nv'.ownBlock=some b->D b)(h1:R≠3)(h3:K.T≠3):
  Hb K R w' D xv nv' xs (ns++ [y])/\pK K w' D v j y xs (ns++ [y]):=by
 have g:∀b,nv.ownBlock=some b->∃cs,dP w b cs 3:=λb m=>iU h.nr.1 m
 have l:∀(i:Nat) x a,xs[i]?=some x->(ns++ [y])[i]?=some a->ns[i]?=some a\/(x=v/\a=y):=λi x a c d=>by
  by_cases hi:i<ns.length;.rw[bW hi]at d;exact .inl d
  .have o:i<xs.length:=(bt.1 c).1;obtain rfl:i=ns.length:=Te;rw[hv]at c;simp at d;exact .inr ⟨(Option.some.inj c).sy,d.sy⟩
 have f:d5 w' D K.T K.c v j (iV K j y):=C.row.growT hg g h3;refine⟨⟨h.xr.growT hg g h1,⟨by simpa using e,p⟩,λi x a c d=> ?_⟩,f,λi x a c d=> ?_⟩
 .rcases l i x a c d with q|⟨rfl,rfl⟩;.exact d5.growT (h.en i x a c q) hg g h3
  .unfold Rp;rw[yB f.1];exact f
 .rcases l i x a c d with q|⟨rfl,rfl⟩;.exact C.sh i x a c q
  .exact λ_ _ _=>⟨rfl,Nat.le_of_eq (yB C.row.1)⟩
theorem Ix (hm:(K.mar y).length=K.c)(a:k<=j):(iV K j y).take (k*K.c)=iV K k y:=by
 unfold iV;obtain⟨d,rfl⟩:=Nat.exists_eq_add_of_le a;rw[<-List.replicate_append_replicate,List.flatten_append];have b:((List.replicate k (K.mar y)).flatten).length=k*K.c:=by simp[hm]
 rw[List.take_append_of_le_length Te,ck Te]
theorem Hb.fits {g:Nat}(h:Hb K R w D xv nv xs ns)(C:pK K w D (.slice (some ⟨g,0,none⟩) j cap) j y xs ns)(hm:(K.mar y).length=K.c)(hc:0<K.c)(p:w.grownBy w' (some g))(c:w'.ownsRow 0 K.T K.c (.slice (some ⟨g,0,none⟩) (j+1) cap) (j+1) (iV K (j+1) y))(h1:R≠K.T)(h2:3≠K.T):
  Hb K R w' D xv nv xs ns/\pK K w' D (.slice (some ⟨g,0,none⟩) (j+1) cap) (j+1) y xs ns:=by
 have q:D g:=C.row.2 g rfl;have s:∀b,some g=some b->∃cs,dP w b cs K.T:=λb a=>by cases a;exact iU C.row.1 rfl
 refine⟨⟨h.xr.growT p s h1,h.nr.growT p s h2,λi x d l m=> ?_⟩,⟨c,λb a=>by cases a;exact q⟩,λi x d l m b B E=> ?_⟩
 .have o:=h.en i x d l m;by_cases a:x.ownBlock=some g
  .obtain⟨rfl,A⟩:=C.sh i x d l m g a rfl;rcases o.1.2 with⟨rfl,_⟩|⟨z,cap2,F,e,_⟩;.cases a
   .obtain rfl:z=g:=by rw[e]at a;simpa [Value.ownBlock]using a
    have t:cap=cap2:=N6 (xs:=iV K j d) (ys:=iV K (yA x) d) (n:=j) (j:=yA x) hc C.row.1 (by rw[<-e];exact o.1);subst t;have r:=Fk c (j:=yA x) Te;rw[Ix hm Te,<-e]at r;exact⟨r,λb f=>by rw[a]at f;cases f;exact q⟩
  .exact d5.growN o p (λb f e=>a (by rw[f,e]))
 .have⟨u,G⟩:=C.sh i x d l m b B E;exact⟨u,Te⟩
theorem Hb.grows {v':Value}(h:Hb K R w D xv nv xs ns)(hg:w.grownBy w' none)(a:w'.ownsRow 0 K.T K.c v' (j+1) (iV K (j+1) y))(c:∀b,v'.ownBlock=some b->w.heap.size<=b/\D b):
  Hb K R w' D xv nv xs ns/\pK K w' D v' (j+1) y xs ns:=by
 refine⟨h.O λb _ e=>hg.block b e Tf,⟨a,λb d=>(c b d).2⟩,λi x o f g b l m=> ?_⟩;have:=((h.en i x o f g).1.lt b l).2;have:=(c b m).1;omega
end
end
def Tryz.infoB1:(prog.info? 55).map (λi=>(i.zero,i.size,i.bytes))=some (some (.agg #[.int .u64 0,S8,ah,S8]),4,64):=Tj
def Tryz.infoB2:(prog.info? 58).map (λi=>(i.zero,i.size,i.bytes))=some (some (.agg #[aa 0,ah]),2,32):=Tj
def Tryz.infoB3:(prog.info? 56).map (λi=>(i.zero,i.size,i.bytes))=some (some (ah),1,24):=Tj
def Tryz.infoB4:(prog.info? 47).map (λi=>(i.zero,i.size,i.bytes))=some (some (ah),1,24):=Tj
def Tryz.infoB5:(prog.info? 3).map (λi=>(i.zero,i.size,i.bytes))=some (some (aa 0),1,8):=Tj
def L3 (K:Fl)(W:aw)(v:Value)(j y:Nat)(v':Value)(w5:aw):Prop:=
 w5.ownsRow 0 K.T K.c v' (j+1) (iV K (j+1) y)/\((∃g cap,v= Ta g j cap/\v'= Ta g (j+1) cap/\W.grownBy w5 (some g))\/(W.grownBy w5 none/\∀b,v'.ownBlock=some b->W.heap.size<=b))
def qV (K:Fl)(j y:Nat):iV K (j+1) y=iV K j y++K.mar y:=by
 unfold iV;rw[List.replicate_succ',List.flatten_append];simp
def yC {K:Fl}{ops:Array Oper}{rest:List Oper}{o:Oper}{a:Act}{Q:Exit->Act->aw->Prop}{j y:Nat}{v:Value}{W:aw}(hm:(K.mar y).length=K.c)(h:0<K.c)(T:TypeId)(q:prog.underlying T=some (.slice K.T))(i:TypeInfo)(z:Value)(bytes:Nat)
  (B:prog.info? K.T=some i) (Z:i.zero=some z) (C:i.size=K.c) (e:i.bytes=bytes) (g:z.cells.size=K.c) (F:o.guard=none) (s x:Operand) (p:o.op=Op.call {callee:=Callee.builtin Builtin.append,args:= #[s,x],argTypes:= #[T,T]})
  (d:W.ownsRow 0 K.T K.c v j (iV K j y)) (M:a.eval s=v) (H:Nat) (N:a.eval x= Ta H 1 1) (L:∀i u,(K.mar y)[i]?=some u->W.cell? (((ai H 0):Addr).add i)=some u) (m:∀u∈K.mar y,u.oneCell'=true) (P:j+1<=maxLen) (R:(j+1)*bytes<=2^47)
  (E:∀v' w5,L3 K W v j y v' w5->wpList prog ops Q rest (a.put o.dst v') w5):wpList prog ops Q (o::rest) a W:=by
 have G:(K.mar y).length=1*K.c:=Te;have t:∀(f:aC) (c:Nat),v= .slice f j c->(f=none->j=0/\c=0)->c<j+1->(∀b,f=some b->∀i u,(iV K j y)[i]?=some u->W.cell? (b.add i)=some u)->wpList prog ops Q (o::rest) a W:=(by intro f c k I J holds;refine wpList_append_grows _ F s x T p K.T i z K.c bytes q B Z C e g h f j c (iV K j y) (M.J k) I d.1 holds (ai H 0) 1 1 (K.mar y) N G L m J P R ?_;intro v' w5 e r;refine E v' w5 ⟨?_,.inr ⟨r,λb l=>(e.lt b l).1⟩⟩;rw[qV];refine⟨e.1,e.2.imp id ?_⟩;rintro⟨g,c,A,O,_,S⟩;exact⟨g,c,A,O,aM _,S⟩);rcases d.2 with⟨k,U⟩|⟨g,c,A,k,_,f,h,V,X,Y⟩;.subst U;exact t none 0 k (λ_=>⟨rfl,rfl⟩) Te (λb l=>by cases l)
 .by_cases hroom:j+1<=c;.subst k;refine wpList_append_fits _ F s x T p 0 K.T i K.c q B C g j c (iV K j y) M d (ai H 0) 1 1 (K.mar y) N G L m hroom ?_;intro w5 e r;exact E _ w5 ⟨by rw[qV];exact e,.inl ⟨g,c,rfl,rfl,r⟩⟩
  .refine t (some (ai g 0)) c k (λh=>by cases h) Te (λb l i u q=> ?_);cases l;subst k;exact d.cells (g:=g) rfl i u q
def OJ (R:ay)(i n:Nat)(f:R.length=n*4)(g:i<n):∃a b c d,R.drop (i*4)=a::b::c::d::R.drop ((i+1)*4):=by
 have e:i*4<R.length:=Te;rw[show(i+1)*4=i*4+1+1+1+1 from by omega,aS e,aS (by omega:i*4+1<R.length),aS (by omega:i*4+1+1<R.length),aS (by omega:i*4+1+1+1<R.length)];exact⟨_,_,_,_,rfl⟩
def OL (R:ay)(i n:Nat)(d:R.length=n*2)(e:i<n):∃a b,R.drop (i*2)=a::b::R.drop ((i+1)*2):=by
 have c:i*2<R.length:=Te;rw[show(i+1)*2=i*2+1+1 from by omega,aS c,aS (by omega:i*2+1<R.length)];exact⟨_,_,rfl⟩
def tF (K:Fl)(j y:Nat)(hm:(K.mar y).length=K.c):(iV K j y).length=j*K.c:=by simp[iV,hm]
def N7 {R:ay}{i n y:Nat}{a b c d:Value}(hm:uw.mar y= [a,b,c,d])(e:R.length=n*4)(f:i<n):
  ((((iV uw i y++R.drop (i*4)).set (i*4) a).set (i*4+1) b).set (i*4+2) c).set (i*4+3) d=iV uw (i+1) y++R.drop ((i+1)*4):=by
 have⟨p,q,r,s,h⟩:=OJ R i n e f;have g:(iV uw i y).length=i*4:=tF uw i y (by rw[hm];rfl);rw[h,qV,hm];simp[g]
def N8 {R:ay}{i n y:Nat}{a b:Value}(hm:uZ.mar y= [a,b])(c:R.length=n*2)(d:i<n):
  ((iV uZ i y++R.drop (i*2)).set (i*2) a).set (i*2+1) b=iV uZ (i+1) y++R.drop ((i+1)*2):=by
 have⟨p,q,h⟩:=OL R i n c d;have e:(iV uZ i y).length=i*2:=tF uZ i y (by rw[hm];rfl);rw[h,qV,hm];simp[e]
section
variable {w w':aw} {bb n:Nat} {D D':ax} {vV vN fV fN:Value} {vs:ay} {ns:aB} {fs:ay} {ms:aB}
def lL.O (h:lL w bb n D vV vN fV fN vs ns fs ms)(hk:∀b,D b->b<w.heap.size->w'.heap[b]?=w.heap[b]?):lL w' bb n D vV vN fV fN vs ns fs ms:=
 ⟨(hk bb h.dbb h.blk.lt).J h.blk,h.dbb,h.hv.O hk,h.hf.O hk,h.sp⟩
def lL.G (h:lL w bb n D vV vN fV fN vs ns fs ms)(hb:aj w w'):lL w' bb n D vV vN fV fN vs ns fs ms:=h.O λb _ a=>hb.block b a
def lL.wide (h:lL w bb n D vV vN fV fN vs ns fs ms)(hd:∀b,D b->D' b):lL w bb n D' vV vN fV fN vs ns fs ms:=⟨h.blk,hd _ h.dbb,h.hv.wide hd,h.hf.wide hd,h.sp⟩
def lL.less (h:lL w bb n D vV vN fV fN vs ns fs ms)(hd:∀b,D b->b<w.heap.size->D' b):lL w bb n D' vV vN fV fN vs ns fs ms:=⟨h.blk,hd _ h.dbb h.blk.lt,h.hv.less hd,h.hf.less hd,h.sp⟩
def lL.count (h:lL w bb n D vV vN fV fN vs ns fs ms)(n':Nat):lL (w.setCell (ai bb 0) (aa n')) bb n' D vV vN fV fN vs ns fs ms:=
 ⟨h.blk.set 0 (aa n'),h.dbb,h.hv.setT h.blk Th Th Th _ _,h.hf.setT h.blk Th Th Th _ _,h.sp⟩
def lL.pushV (B:lL w bb n D vV vN fV fN vs ns fs ms){v:Value}{j y:Nat}(C:pK uw w D v j y vs ns)(hl:ns.length=vs.length)(hg:w.grownBy w' vV.ownBlock){x':Value}(d:w'.ownsRow 0 56 1 x' (vs.length+1) (vs++ [v]))(i:∀b,x'.ownBlock=some b->D b):
  dP w' bb #[aa n,vV,vN,fV,fN,ah,ah] 39/\lL (w'.setCell (ai bb 1) x') bb n D x' vN fV fN (vs++ [v]) ns fs ms/\pK uw (w'.setCell (ai bb 1) x') D v j y (vs++ [v]) ns:=by
 have a:∀b,vV.ownBlock=some b->∃cs,dP w b cs 56:=λb h=>iU B.hv.xr.1 h
 have K:dP w' bb #[aa n,vV,vN,fV,fN,ah,ah] 39:=B.blk.grown hg (λe=>by have⟨c,q⟩:=a bb e.sy;exact absurd (B.blk.tyE q) Th);have⟨f,g⟩:=B.hv.pushX C hl hg d i Th Th;exact⟨K,⟨K.set 1 x',B.dbb,f.setT K Th Th Th _ _,(B.hf.growT hg a Th Th Th).setT K Th Th Th _ _,B.sp⟩,g.setT K Th _ _⟩
def lL.pushVn (B:lL w bb n D vV vN fV fN vs ns fs ms){v:Value}{j y:Nat}(C:pK uw w D v j y vs ns)(hl:vs.length=ns.length+1)(s:vs[ns.length]?=some v)(hg:w.grownBy w' vN.ownBlock){x':Value}(g:w'.ownsRow 0 3 1 x' (ns.length+1) ((ns.map λn:Nat=>Value.int .i64 n)++ [aa y]))(p:∀b,x'.ownBlock=some b->D b)(r:∀b,x'.ownBlock=some b->vN.ownBlock=some b\/w.heap.size<=b):
  dP w' bb #[aa n,vV,vN,fV,fN,ah,ah] 39/\lL (w'.setCell (ai bb 2) x') bb n D vV x' fV fN vs (ns++ [y]) fs ms/\pK uw (w'.setCell (ai bb 2) x') D v j y vs (ns++ [y]):=by
 have f:∀b,vN.ownBlock=some b->∃cs,dP w b cs 3:=λb m=>iU B.hv.nr.1 m
 have K:dP w' bb #[aa n,vV,vN,fV,fN,ah,ah] 39:=B.blk.grown hg (λe=>by have⟨c,q⟩:=f bb e.sy;exact absurd (B.blk.tyE q) Th);have⟨h,k⟩:=B.hv.pushN C hl s hg g p Th Th;have l:Hb uZ 47 w' D fV fN fs ms:=⟨B.hf.xr.growT hg f Th,B.hf.nr.growN hg (λb d a=>B.sp b a d),λi x y d a=>d5.growT (B.hf.en i x y d a) hg f Th⟩
 exact⟨K,⟨K.set 2 x',B.dbb,h.setT K Th Th Th _ _,l.setT K Th Th Th _ _,λb d a=>by
  rcases r b d with q|q;.exact B.sp b q a
  .have:=(B.hf.nr.1.lt b a).2;omega⟩,k.setT K Th _ _⟩
def lL.appV (B:lL w bb n D vV vN fV fN vs ns fs ms){v v':Value}{j y:Nat}(C:pK uw w D v j y vs ns)(h:L3 uw w v j y v' w')(hD:∀b,w.heap.size<=b->D b):lL w' bb n D vV vN fV fN vs ns fs ms/\pK uw w' D v' (j+1) y vs ns:=by
 obtain⟨k,⟨g,m,rfl,rfl,a⟩|⟨a,d⟩⟩:=h
 .have l:∀b,some g=some b->∃cs,dP w b cs 55:=λb d=>by cases d;exact iU C.row.1 rfl
  have⟨f,i⟩:=B.hv.fits C rfl Th a k Th Th;exact⟨⟨B.blk.grown a (λe=>by have⟨c,q⟩:=l bb e.sy;exact absurd (B.blk.tyE q) Th),B.dbb,f,B.hf.growT a l Th Th Th,B.sp⟩,i⟩
 .have⟨f,i⟩:=B.hv.grows (K:=uw) (j:=j) (y:=y) a k (λb q=>⟨d b q,hD b (d b q)⟩);exact⟨⟨(a.block bb B.blk.lt Tf).J B.blk,B.dbb,f,B.hf.O λb _ o=>a.block b o Tf,B.sp⟩,i⟩
def lL.pushF (B:lL w bb n D vV vN fV fN vs ns fs ms){v:Value}{j y:Nat}(C:pK uZ w D v j y fs ms)(hl:ms.length=fs.length)(hg:w.grownBy w' fV.ownBlock){x':Value}(d:w'.ownsRow 0 47 1 x' (fs.length+1) (fs++ [v]))(i:∀b,x'.ownBlock=some b->D b):
  dP w' bb #[aa n,vV,vN,fV,fN,ah,ah] 39/\lL (w'.setCell (ai bb 3) x') bb n D vV vN x' fN vs ns (fs++ [v]) ms/\pK uZ (w'.setCell (ai bb 3) x') D v j y (fs++ [v]) ms:=by
 have a:∀b,fV.ownBlock=some b->∃cs,dP w b cs 47:=λb h=>iU B.hf.xr.1 h
 have K:dP w' bb #[aa n,vV,vN,fV,fN,ah,ah] 39:=B.blk.grown hg (λe=>by have⟨c,q⟩:=a bb e.sy;exact absurd (B.blk.tyE q) Th);have⟨f,g⟩:=B.hf.pushX C hl hg d i Th Th;exact⟨K,⟨K.set 3 x',B.dbb,(B.hv.growT hg a Th Th Th).setT K Th Th Th _ _,f.setT K Th Th Th _ _,B.sp⟩,g.setT K Th _ _⟩
def lL.pushFn (B:lL w bb n D vV vN fV fN vs ns fs ms){v:Value}{j y:Nat}(C:pK uZ w D v j y fs ms)(hl:fs.length=ms.length+1)(s:fs[ms.length]?=some v)(hg:w.grownBy w' fN.ownBlock){x':Value}(g:w'.ownsRow 0 3 1 x' (ms.length+1) ((ms.map λn:Nat=>Value.int .i64 n)++ [aa y]))(p:∀b,x'.ownBlock=some b->D b)(r:∀b,x'.ownBlock=some b->fN.ownBlock=some b\/w.heap.size<=b):
  dP w' bb #[aa n,vV,vN,fV,fN,ah,ah] 39/\lL (w'.setCell (ai bb 4) x') bb n D vV vN fV x' vs ns fs (ms++ [y])/\pK uZ (w'.setCell (ai bb 4) x') D v j y fs (ms++ [y]):=by
 have f:∀b,fN.ownBlock=some b->∃cs,dP w b cs 3:=λb m=>iU B.hf.nr.1 m
 have K:dP w' bb #[aa n,vV,vN,fV,fN,ah,ah] 39:=B.blk.grown hg (λe=>by have⟨c,q⟩:=f bb e.sy;exact absurd (B.blk.tyE q) Th);have⟨h,k⟩:=B.hf.pushN C hl s hg g p Th Th;have l:Hb uw 56 w' D vV vN vs ns:=⟨B.hv.xr.growT hg f Th,B.hv.nr.growN hg (λb a d=>B.sp b a d),λi x y a d=>d5.growT (B.hv.en i x y a d) hg f Th⟩
 exact⟨K,⟨K.set 4 x',B.dbb,l.setT K Th Th Th _ _,h.setT K Th Th Th _ _,λb a d=>by
  rcases r b d with q|q;.exact B.sp b a q
  .have:=(B.hv.nr.1.lt b a).2;omega⟩,k.setT K Th _ _⟩
def lL.appF (B:lL w bb n D vV vN fV fN vs ns fs ms){v v':Value}{j y:Nat}(C:pK uZ w D v j y fs ms)(h:L3 uZ w v j y v' w')(hD:∀b,w.heap.size<=b->D b):lL w' bb n D vV vN fV fN vs ns fs ms/\pK uZ w' D v' (j+1) y fs ms:=by
 obtain⟨k,⟨g,m,rfl,rfl,a⟩|⟨a,d⟩⟩:=h
 .have l:∀b,some g=some b->∃cs,dP w b cs 58:=λb d=>by cases d;exact iU C.row.1 rfl
  have⟨f,i⟩:=B.hf.fits C rfl Th a k Th Th;exact⟨⟨B.blk.grown a (λe=>by have⟨c,q⟩:=l bb e.sy;exact absurd (B.blk.tyE q) Th),B.dbb,B.hv.growT a l Th Th Th,f,B.sp⟩,i⟩
 .have⟨f,i⟩:=B.hf.grows (K:=uZ) (j:=j) (y:=y) a k (λb q=>⟨d b q,hD b (d b q)⟩);exact⟨⟨(a.block bb B.blk.lt Tf).J B.blk,B.dbb,B.hv.O λb _ o=>a.block b o Tf,f,B.sp⟩,i⟩
end
def vF (w:aw)(bb N:Nat)(D:ax):Prop:=
 ∃n vV vN fV fN vs ns fs ms,lL w bb n D vV vN fV fN vs ns fs ms/\Hid (ns.length=vs.length)/\Hid (ms.length=fs.length)/\Hid ((∀z∈ns,z<=n)/\∀z∈ms,z<=n)/\n<=N/\vs.length<=4*n/\fs.length<=4*n
def vF.O {w w':aw}{bb N:Nat}{D:ax}(h:vF w bb N D)(d:∀b,D b->b<w.heap.size->w'.heap[b]?=w.heap[b]?):vF w' bb N D:=by
 obtain⟨n,vV,vN,fV,fN,vs,ns,fs,ms,a,c⟩:=h;exact⟨n,vV,vN,fV,fN,vs,ns,fs,ms,a.O d,c⟩
def vF.less {w:aw}{bb N N':Nat}{D D':ax}(h:vF w bb N D)(g:∀b,D b->b<w.heap.size->D' b)(j:N<=N'):vF w bb N' D':=by
 obtain⟨n,vV,vN,fV,fN,vs,ns,fs,ms,a,c,d,f,i,e⟩:=h;exact⟨n,vV,vN,fV,fN,vs,ns,fs,ms,a.less g,c,d,f,Te,e⟩
def GX {ns:aB}{n y:Nat}(h:∀z∈ns,z<=n)(b:y<=n):∀z∈ns++ [y],z<=n:=λz a=>by
 rcases aQ.1 a with a|a;.exact h z a
 .rw[bn.1 a];exact b
def L3.rest {K:Fl}{W w5:aw}{v v':Value}{j y:Nat}(h:L3 K W v j y v' w5){mb:Nat}{cs:aq}{T:TypeId}(c:dP W mb cs T)(f:∀b,v.ownBlock=some b->b≠mb){w:aw}{S:ax}(d:nJ w S W)(m:∀b,v.ownBlock=some b->S b\/w.heap.size<=b):
  dP w5 mb cs T/\(∀b,v'.ownBlock=some b->b≠mb)/\nJ w S w5:=by
 obtain⟨_,⟨g,k,rfl,rfl,a⟩|⟨a,i⟩⟩:=h;.exact⟨c.grown a (λe=>f g rfl (Option.some.inj e).sy),λb q=>by cases q;exact f g rfl,d.grown a (λx q=>by cases q;exact m g rfl)⟩
 .exact⟨c.grown a Tf,λb q e=>by have:=i b q;have:=c.lt;omega,d.grown a (λx q=>by cases q)⟩
end Go.Proofs.YtfebdimolnobaaaGreatDoor
