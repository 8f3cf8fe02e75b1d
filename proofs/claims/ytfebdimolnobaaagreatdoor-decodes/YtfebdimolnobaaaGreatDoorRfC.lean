import Derived.Test.YtfebdimolnobaaaGreatDoorReadA
import Derived.Test.YtfebdimolnobaaaGreatDoorDfB
set_option maxRecDepth 100000
set_option maxHeartbeats 8000000
set_option linter.all false
namespace Go.Proofs.YtfebdimolnobaaaGreatDoor
open Go.RowKit Go.Proofs.Tryz
def kF (r:pO):aq:= #[aa r.num,aa r.kind,aa r.a,aa r.fr,aa r.e,.int .u64 r.n]
def Py (w:aw)(xb:Nat)(b:au)(r:Fx pO)(en:Ending)(w':aw):Prop:=
 match r with
 | .ok r=>en= .returned (.agg (kF r))/\aj w w'
 | .error (c,p)=>(∃v0 v1 v2 v3 v4 v5:Int,en= .returned (.agg #[aa v0,aa v1,aa v2,aa v3,aa v4,.int .u64 v5]))/\kr w' xb b c p/\dY [xb] w w'
def kr.alloc {w:aw}{xb:Nat}{b:au}{e p:Int}(h:kr w xb b e p)(o:Obj):kr (w.alloc o) xb b e p:=dP.alloc h o
def kr.G {w w':aw}{n xb:Nat}{b:au}{e p:Int}(h:kr w xb b e p)(a:Below n w w')(c:xb<n):kr w' xb b e p:=dP.G h a c
def dY.fresh {bs:aB}{a b:aw}(h:dY bs a b){c:Nat}(d:a.heap.size<=c)(off:Nat)(u:Value):dY bs a (b.setCell (ai c off) u):=
 h.sets (.inr d) [u] off
def Lm (w:aw)(xb:Nat)(b:au)(p0:Int)(K:kr w xb b 0 p0)(a e:Nat)(F:b.size<=268435456)(Q:e<=b.size)(ha:a<=e):
  Calls prog 221 #[ag xb,aa a,aa e] w (Py w xb b (jj b a e)):=by
 obtain⟨R,hR⟩:=Td (jj b a e);have HR:Hid (jj b a e=R):=hR;rw[hR];clear hR;have K1:=K.alloc (ak #[aa 0,aa 0,aa 0,aa 0,aa 0,.int .u64 0] 339);have⟨Z,S⟩:=eY w #[aa 0,aa 0,aa 0,aa 0,aa 0,.int .u64 0] 339;have hxb:xb<w.heap.size:=dP.lt K;go_in
 go_wp2_with fail;refine(om _ xb b p0 K1 a e F Q ha).V ?_;intro D w1 q
 cases f:j8 b a e with
 |error x=>
  obtain⟨c,p⟩:=x;rw[f]at q;obtain⟨rfl,r,d⟩:=q;obtain⟨hc,rfl⟩:=vM f;have TD:¬c=0:=Te;have k:=r.alloc (ak #[aa 0,aa 0,aa a,aa e,aa e,.int .u64 0] 339);have TC:=(S.kept d Tg).alloc (ak #[aa 0,aa 0,aa a,aa e,aa e,.int .u64 0] 339);have TE:=((dY.oB Z).J d).alloc (ak #[aa 0,aa 0,aa a,aa e,aa e,.int .u64 0] 339);have g:Hid (R= .error (c,(a:Int))):=by rw[<-HR.o,jj,f];rfl
  have⟨X,Y⟩:=dP.I k;have⟨A,B⟩:=TC.I;go_wp2;refine dJ (dW results221 _ _ rfl (TC.sets_all [_,_,_,_,_,_] rfl) underlying339 Tj) rfl ?_;rw[g.o];refine⟨⟨_,_,_,_,_,_,rfl⟩,?_,?_⟩;.exact dP.sets_other k Te [_,_,_,_,_,_] 0
  .exact TE.sets (.inr (aD _)) [_,_,_,_,_,_] 0
 |ok x=>
  obtain⟨t,fr⟩:=x;rw[f]at q;obtain⟨rfl,rfl⟩:=q;have⟨TM,ht1,hfr,T⟩:=jr f;have hm:t.tmod 8=t%8:=cN TM;generalize w.alloc (ak #[aa 0,aa 0,aa 0,aa 0,aa 0,.int .u64 0] 339)=w1 at*;have hz:w.heap.size<w1.heap.size:=S.lt;go_upto_region 3 with fail
  have TF:0<=t/8:=Te;have TG:t/8<2305843009213693952:=Te;have TH:0<=t%8:=Te;have TI:t%8<8:=Te;obtain⟨N,W⟩:=Td (t/8);obtain⟨M,V⟩:=Td (t%8);have h:Hid (jj b a e=R/\t/8=N/\t%8=M/\j8 b a e= .ok (t,fr)):=⟨HR.o,W,V,f⟩;rw[W]at TF TG;rw[V]at TH TI;simp only[W,V];clear W V HR f hm;have r:=K1.alloc (ak #[aa N,aa M,aa a,aa fr,aa e,.int .u64 0] 339);have v:=dP.new w1 #[aa N,aa M,aa a,aa fr,aa e,.int .u64 0] 339;have s:=S.alloc (ak #[aa N,aa M,aa a,aa fr,aa e,.int .u64 0] 339);have u:=Z.alloc Te (ak #[aa N,aa M,aa a,aa fr,aa e,.int .u64 0] 339);have hz2:w1.heap.size<(w1.S6 #[aa N,aa M,aa a,aa fr,aa e,.int .u64 0] 339).heap.size:=v.lt;generalize w1.alloc (ak #[aa N,aa M,aa a,aa fr,aa e,.int .u64 0] 339)=w2 at*;have x1:¬xb=w.heap.size:=Te;have x2:¬xb=w1.heap.size:=Te;have x3:¬w.heap.size=w1.heap.size:=Te;have G:¬w1.heap.size=w.heap.size:=Te;have H:¬w.heap.size=xb:=Te;have x6:¬w1.heap.size=xb:=Te;clear K K1 S Z;have⟨X,Y⟩:=dP.I r;have⟨m,o⟩:=v.I;have⟨A,B⟩:=s.I;by_cases y:N<1\/536870911<N
  .have g:Hid (R= .error (8,(a:Int))):=(by obtain⟨i,rfl,rfl,f⟩:=h.o;rw[<-i];exact Je f y);clear h;rcases y with y|y
   .go_wp2_with fail;refine(ku _ xb b 0 p0 8 a r rfl).V ?_;rintro D w3 ⟨rfl,k,d⟩;have j:=s.kept d Tg;have C:=v.kept d Tg;have⟨m,o⟩:=C.I;have⟨A,B⟩:=j.I;go_wp2;refine dJ (dW results221 _ _ rfl (j.sets_all [_,_,_,_,_,_] rfl) underlying339 Tj) rfl ?_;rw[g.o];refine⟨⟨_,_,_,_,_,_,rfl⟩,?_,?_⟩;.exact dP.sets_other k H [_,_,_,_,_,_] 0
    .exact((dY.oB u).J d).sets (.inr (aD _)) [_,_,_,_,_,_] 0
   .have TJ:¬N<1:=Te;go_wp2_with fail;refine(ku _ xb b 0 p0 8 a r rfl).V ?_;rintro D w3 ⟨rfl,k,d⟩;have j:=s.kept d Tg;have C:=v.kept d Tg;have⟨m,o⟩:=C.I;have⟨A,B⟩:=j.I;go_wp2;refine dJ (dW results221 _ _ rfl (j.sets_all [_,_,_,_,_,_] rfl) underlying339 Tj) rfl ?_;rw[g.o];refine⟨⟨_,_,_,_,_,_,rfl⟩,?_,?_⟩;.exact dP.sets_other k H [_,_,_,_,_,_] 0
    .exact((dY.oB u).J d).sets (.inr (aD _)) [_,_,_,_,_,_] 0
  .have hA1:¬N<1:=Te;have TJ:¬536870911<N:=Te;by_cases hM0:M=0
   .subst hM0
    cases h2:j8 b fr e with
    |error x=>
     obtain⟨c,p⟩:=x;have g:Hid (R= .error (c,p)):=(by obtain⟨i,rfl,l,f⟩:=h.o;rw[<-i,Jf f y l,h2];exact rfl);go_wp2_with fail;refine(om _ xb b p0 r fr e F Q T).V ?_;intro D w3 q;rw[h2]at q;obtain⟨rfl,k,d⟩:=q;have j:=s.kept d Tg;have C:=v.kept d Tg;have⟨m,o⟩:=C.I;have⟨A,B⟩:=j.I;clear h h2;go_wp2;refine dJ (dW results221 _ _ rfl (((j.other 5 _ G).other 4 _ G).sets_all [_,_,_,_,_,_] rfl) underlying339 Tj) rfl ?_;rw[g.o];refine⟨⟨_,_,_,_,_,_,rfl⟩,?_,?_⟩;.exact dP.sets_other ((dP.other k 5 _ x6).other 4 _ x6) H [_,_,_,_,_,_] 0
     .exact((((dY.oB u).J d).fresh Te 5 _).fresh Te 4 _).sets (.inr (aD _)) [_,_,_,_,_,_] 0
    |ok x=>
     obtain⟨n,z⟩:=x;have g:Hid (R= .ok ⟨N,0,a,fr,z,n⟩):=(by obtain⟨i,rfl,l,f⟩:=h.o;rw[<-i,Jf f y l,h2];exact rfl);go_wp2_with fail;refine(om _ xb b p0 r fr e F Q T).V ?_;intro D w3 q;rw[h2]at q;obtain⟨rfl,rfl⟩:=q;clear h h2;go_wp2;refine dJ (dW results221 _ _ rfl (((s.other 5 _ G).other 4 _ G).sets_all [_,_,_,_,_,_] rfl) underlying339 Tj) rfl ?_;rw[g.o];exact⟨rfl,fH (aD _) [_,_,_,_,_,_] 0 ((u.setCell (p:=(ai w1.heap.size 5)) Tg _).setCell (p:=(ai w1.heap.size 4)) Tg _)⟩
   .by_cases hM1:M=1
    .subst hM1;by_cases hL:fr+8<=e
     .have g:Hid (R= .ok ⟨N,1,a,fr,fr+8,vi (b.extract fr (fr+8))⟩):=(by obtain⟨i,rfl,l,f⟩:=h.o;exact i.sy.J ((Jg f y l).J (dH hL)));have U:¬(e:Int)-(fr:Int)<8:=Te;have TB:(b.extract fr (fr+8)).size<=8:=by rw[aU];omega
      clear h;go_upto_region 35 with fail
      go_cut []from 127 to 137 (λwr=>dP wr w1.heap.size #[aa N,aa 1,aa a,aa fr,aa ((fr:Int)+8),.int .u64 (vi (b.extract fr (fr+8)))] 339/\dP wr w.heap.size #[aa 0,aa 0,aa 0,aa 0,aa 0,.int .u64 0] 339/\aj w wr)
      case first=>
       have I:=v.set 4 (aa ((fr:Int)+8));have O:=s.other 4 (aa ((fr:Int)+8)) G;have L:=u.setCell (p:=(ai w1.heap.size 4)) Tg (aa ((fr:Int)+8));clear m o;have⟨m,o⟩:=I.I;go_region_with (go_at_call 306;refine(sS _ _ TB).V ?_;rintro D _ ⟨rfl,rfl⟩)
       all_goals
        go_wp2;go_meet
        case rel=>exact⟨I.set 5 _,O.other 5 _ G,(L.setCell (p:=(ai w1.heap.size 5)) Tg _).drew⟩
      case rest=>
       clear m o A B X Y v s u r;obtain⟨J,E,B5⟩:=hcut;have⟨m,o⟩:=J.I;have⟨A,B⟩:=E.I;go_wp2;refine dJ (dW results221 _ _ rfl (E.sets_all [_,_,_,_,_,_] rfl) underlying339 Tj) rfl ?_;rw[g.o];exact⟨rfl,fH (aD _) [_,_,_,_,_,_] 0 B5⟩
     .have g:Hid (R= .error (6,(fr:Int))):=(by obtain⟨i,rfl,l,f⟩:=h.o;exact i.sy.J ((Jg f y l).J (dG hL)));have U:(e:Int)-(fr:Int)<8:=Te;clear h;go_wp2_with fail;refine(ku _ xb b 0 p0 6 fr r rfl).V ?_;rintro D w3 ⟨rfl,k,d⟩;have j:=s.kept d Tg;have C:=v.kept d Tg;have⟨m,o⟩:=C.I;have⟨A,B⟩:=j.I;go_wp2;refine dJ (dW results221 _ _ rfl (j.sets_all [_,_,_,_,_,_] rfl) underlying339 Tj) rfl ?_;rw[g.o];refine⟨⟨_,_,_,_,_,_,rfl⟩,?_,?_⟩;.exact dP.sets_other k H [_,_,_,_,_,_] 0
      .exact((dY.oB u).J d).sets (.inr (aD _)) [_,_,_,_,_,_] 0
    .by_cases hM5:M=5
     .subst hM5;by_cases hL:fr+4<=e
      .have g:Hid (R= .ok ⟨N,5,a,fr,fr+4,vi (b.extract fr (fr+4))⟩):=(by obtain⟨i,rfl,l,f⟩:=h.o;exact i.sy.J ((Jh f y l).J (dH hL)));have U:¬(e:Int)-(fr:Int)<4:=Te;have TB:(b.extract fr (fr+4)).size<=8:=by rw[aU];omega
       clear h;go_upto_region 35 with fail
       go_cut []from 127 to 137 (λwr=>dP wr w1.heap.size #[aa N,aa 5,aa a,aa fr,aa ((fr:Int)+4),.int .u64 (vi (b.extract fr (fr+4)))] 339/\dP wr w.heap.size #[aa 0,aa 0,aa 0,aa 0,aa 0,.int .u64 0] 339/\aj w wr)
       case first=>
        have I:=v.set 4 (aa ((fr:Int)+4));have O:=s.other 4 (aa ((fr:Int)+4)) G;have L:=u.setCell (p:=(ai w1.heap.size 4)) Tg (aa ((fr:Int)+4));clear m o;have⟨m,o⟩:=I.I;go_region_with (go_at_call 306;refine(sS _ _ TB).V ?_;rintro D _ ⟨rfl,rfl⟩)
        all_goals
         go_wp2;go_meet
         case rel=>exact⟨I.set 5 _,O.other 5 _ G,(L.setCell (p:=(ai w1.heap.size 5)) Tg _).drew⟩
       case rest=>
        clear m o A B X Y v s u r;obtain⟨J,E,B5⟩:=hcut;have⟨m,o⟩:=J.I;have⟨A,B⟩:=E.I;go_wp2;refine dJ (dW results221 _ _ rfl (E.sets_all [_,_,_,_,_,_] rfl) underlying339 Tj) rfl ?_;rw[g.o];exact⟨rfl,fH (aD _) [_,_,_,_,_,_] 0 B5⟩
      .have g:Hid (R= .error (6,(fr:Int))):=(by obtain⟨i,rfl,l,f⟩:=h.o;exact i.sy.J ((Jh f y l).J (dG hL)));have U:(e:Int)-(fr:Int)<4:=Te;clear h;go_wp2_with fail;refine(ku _ xb b 0 p0 6 fr r rfl).V ?_;rintro D w3 ⟨rfl,k,d⟩;have j:=s.kept d Tg;have C:=v.kept d Tg;have⟨m,o⟩:=C.I;have⟨A,B⟩:=j.I;go_wp2;refine dJ (dW results221 _ _ rfl (j.sets_all [_,_,_,_,_,_] rfl) underlying339 Tj) rfl ?_;rw[g.o];refine⟨⟨_,_,_,_,_,_,rfl⟩,?_,?_⟩;.exact dP.sets_other k H [_,_,_,_,_,_] 0
       .exact((dY.oB u).J d).sets (.inr (aD _)) [_,_,_,_,_,_] 0
     .by_cases hM2:M=2
      .subst hM2
       cases h2:j8 b fr e with
       |error x=>
        obtain⟨c,p⟩:=x;have g:Hid (R= .error (c,p)):=(by obtain⟨i,rfl,l,f⟩:=h.o;rw[<-i,Ek f y l,h2];exact rfl);have TD:¬c=0:=by have:=(vM h2).1;omega
        go_wp2_with fail;refine(om _ xb b p0 r fr e F Q T).V ?_;intro D w3 q;rw[h2]at q;obtain⟨rfl,k,d⟩:=q;have j:=s.kept d Tg;have C:=v.kept d Tg;have⟨X,Y⟩:=dP.I k;have⟨m,o⟩:=C.I;have⟨A,B⟩:=j.I;clear h h2;go_wp2;refine dJ (dW results221 _ _ rfl (j.sets_all [_,_,_,_,_,_] rfl) underlying339 Tj) rfl ?_;rw[g.o];refine⟨⟨_,_,_,_,_,_,rfl⟩,?_,?_⟩;.exact dP.sets_other k H [_,_,_,_,_,_] 0
        .exact((dY.oB u).J d).sets (.inr (aD _)) [_,_,_,_,_,_] 0
       |ok x=>
        obtain⟨n,z⟩:=x;have⟨hg0,hg1,hg2,hg3⟩:=jr h2;have P:Hid (j8 b fr e= .ok (n,z)):=h2;have hwe:IntKind.u64.wrap (e:Int)=e:=gL Te Te;have hwz:IntKind.u64.wrap ((e:Int)-(z:Int))=(e:Int)-(z:Int):=gL Te Te;go_wp2_with fail;refine(om _ xb b p0 r fr e F Q T).V ?_;intro D w3 q;rw[P.o]at q;obtain⟨rfl,rfl⟩:=q;clear h2;by_cases hL:(z:Int)+n<=e
        .have g:Hid (R= .ok ⟨N,2,a,z,z+n.toNat,0⟩):=(by obtain⟨i,rfl,l,f⟩:=h.o;rw[<-i,Ek f y l,P.o];exact dH hL);have U:n<(e:Int):=Te;have TK:¬(e:Int)-(z:Int)<n:=Te;have TL:wrap64 n=n:=by unfold wrap64;omega
         clear h P;go_wp2;refine dJ (dW results221 _ _ rfl (((s.other 3 _ G).other 4 _ G).sets_all [_,_,_,_,_,_] rfl) underlying339 Tj) rfl ?_;rw[g.o];refine⟨?_,?_⟩;.simp[kF];omega
         .exact fH (aD _) [_,_,_,_,_,_] 0 ((u.setCell (p:=(ai w1.heap.size 3)) Tg _).setCell (p:=(ai w1.heap.size 4)) Tg _)
        .have g:Hid (R= .error (6,(z:Int))):=(by obtain⟨i,rfl,l,f⟩:=h.o;rw[<-i,Ek f y l,P.o];exact dG hL);have TK:(e:Int)-(z:Int)<n:=Te;clear h P;have K4:kr (w3.setCell (ai w1.heap.size 3) (aa z)) xb b 0 p0:=dP.other r 3 _ x6;have O:=s.other 3 (aa z) G;have I:dP (w3.setCell (ai w1.heap.size 3) (aa z)) w1.heap.size #[aa N,aa 2,aa a,aa z,aa e,.int .u64 0] 339:=v.set 3 (aa z);have L:=u.setCell (p:=(ai w1.heap.size 3)) Tg (aa z);by_cases hL3:n<(e:Int)
         .have TL:wrap64 n=n:=by unfold wrap64;omega
          go_wp2_with fail;refine(ku _ xb b 0 p0 6 z K4 rfl).V ?_;rintro D w5 ⟨rfl,K5,d⟩;have E:=O.kept d Tg;have J:=I.kept d Tg;have⟨m,o⟩:=J.I;have⟨A,B⟩:=E.I;go_wp2;refine dJ (dW results221 _ _ rfl (E.sets_all [_,_,_,_,_,_] rfl) underlying339 Tj) rfl ?_;rw[g.o];refine⟨⟨_,_,_,_,_,_,rfl⟩,?_,?_⟩;.exact dP.sets_other K5 H [_,_,_,_,_,_] 0
          .exact((dY.oB L).J d).sets (.inr (aD _)) [_,_,_,_,_,_] 0
         .go_wp2_with fail;refine(ku _ xb b 0 p0 6 z K4 rfl).V ?_;rintro D w5 ⟨rfl,K5,d⟩;have E:=O.kept d Tg;have J:=I.kept d Tg;have⟨m,o⟩:=J.I;have⟨A,B⟩:=E.I;go_wp2;refine dJ (dW results221 _ _ rfl (E.sets_all [_,_,_,_,_,_] rfl) underlying339 Tj) rfl ?_;rw[g.o];refine⟨⟨_,_,_,_,_,_,rfl⟩,?_,?_⟩;.exact dP.sets_other K5 H [_,_,_,_,_,_] 0
          .exact((dY.oB L).J d).sets (.inr (aD _)) [_,_,_,_,_,_] 0
      .have g:Hid (R= .error (9,(a:Int))):=(by obtain⟨i,rfl,rfl,f⟩:=h.o;rw[<-i];exact MR f y ⟨hM0,hM1,hM5,hM2⟩);clear h;go_wp2_with fail;refine(ku _ xb b 0 p0 9 a r rfl).V ?_;rintro D w3 ⟨rfl,k,d⟩;have j:=s.kept d Tg;have C:=v.kept d Tg;have⟨m,o⟩:=C.I;have⟨A,B⟩:=j.I;go_wp2;refine dJ (dW results221 _ _ rfl (j.sets_all [_,_,_,_,_,_] rfl) underlying339 Tj) rfl ?_;rw[g.o];refine⟨⟨_,_,_,_,_,_,rfl⟩,?_,?_⟩;.exact dP.sets_other k H [_,_,_,_,_,_] 0
       .exact((dY.oB u).J d).sets (.inr (aD _)) [_,_,_,_,_,_] 0
section
variable {k:Nat} {Z:ax} {u:au} {Ts:ay} {acc:List PF} {f:PF}
structure uS (w wr:aw)(k:Nat)(Z:ax)(mv:Value)(u:au)(ov:Value)(Ts:ay)(acc:List PF):Prop where
 b0:dP wr w.heap.size #[mv,ae u] 49
 b1:dP wr (w.heap.size+1) #[ah,S8] 49
 b2:dP wr (w.heap.size+1+1) #[ov,ae u] 49
 row:wr.ownsRow (w.heap.size+3) 58 2 ov acc.length Ts
 fs:mD (gQ k w Z) w Z Ts acc
 bl:aj w wr
theorem uS.size {w wr:aw}{mv ov:Value}(h:uS w wr k Z mv u ov Ts acc):w.heap.size+3<=wr.heap.size:=by
 have:=h.b2.lt;omega
theorem uS.append {w wr wb w5:aw}{mv ov v' fv:Value}(h:uS w wr k Z mv u ov Ts acc)(c:aj wr wb)
  (d:w5.ownsRow (w.heap.size+3) 58 2 v' (acc.length+1) (Ts++ [aa f.1,fv])) (g:wb.grownBy w5 ov.ownBlock) (p:fk (gQ k w Z) w Z fv f.2):
  uS w (w5.setCell (ai (w.heap.size+1+1) 0) v') k Z mv u v' (Ts++ [aa f.1,fv]) (acc++ [f]):=by
 have r:=h.size;have m:∀b,ov.ownBlock=some b->w.heap.size+3<=b:=λb c=>(h.row.lt b c).1
 have l:∀b,b<w.heap.size+3->some b≠ov.ownBlock:=λb c e=>by have:=m b e.sy;omega
 refine⟨?_,?_,?_,?_,?_,?_⟩;.exact(((h.b0.G c h.b0.lt).grown g (l _ Te)).other 0 _ Te)
 .exact(((h.b1.G c h.b1.lt).grown g (l _ Te)).other 0 _ Te)
 .exact(((h.b2.G c h.b2.lt).grown g (l _ Te)).set 0 _)
 .have:=ownsRow_setCell_below d (a:=(ai (w.heap.size+1+1) 0)) Tf v';simpa using this
 .exact h.fs.append ⟨fv,[],rfl,p,rfl⟩
 .have n:aj w wb:=h.bl.J ⟨c.os,c.tape,c.output,c.size,λi q=>c.block i Te⟩;exact(n.grown g (by have:=c.size;omega) (λj o=>by have:=m j o;omega)).setCell Tg _
theorem Ik {n:Int}{l:List PV}{fs:List PF}{j:Nat}(h:fs[j]?=some f)(done:Bool):
  gY n l done (fs.drop j)=(if !done&&decide (n<=f.1)then [(n,l)]else [])++((if f.1=n then []else [f])++gY n l (done||decide (n<=f.1)) (fs.drop (j+1))):=by
 have a:=gl h;rw[aS a];rw[aP a]at h;cases h;rfl
theorem xZ (w:aw)(k:Nat)(Z:ax)(mv lv:Value)(m:PM)(n:Int)(l:List PV)(h:gQ (k+1) w Z mv m)(X:fk (gQ k w Z) w Z lv l)(hl:m.fs.length<=1073741824)(hZ:∀b,w.heap.size<=b->Z b):
  Calls prog 225 #[.agg #[mv,ae m.unk],aa n,lv] w λe w'=>∃mv',e= .returned (.agg #[mv',ae m.unk])/\gQ (k+1) w' Z mv' (m.put n l)/\aj w w':=by
 have⟨Y,O,Q,S,T⟩:=info_parts Tryz.infoF;obtain⟨a,c,rfl⟩:=h.form;obtain⟨la,lc,rfl⟩:=X.form;obtain⟨cs,h1,h2⟩:=h
 have P0:uS w (((w.alloc (ak #[.slice a m.fs.length c,ae m.unk] 49)).alloc (ak #[ah,S8] 49)).alloc (ak #[ah,ae m.unk] 49)) k Z (.slice a m.fs.length c) m.unk (ah) [] []:=by
  have B0:=(Tb w).alloc (aD _) (ak #[.slice a m.fs.length c,ae m.unk] 49);have B1:=B0.alloc Tf (ak #[ah,S8] 49);have B2:=B1.alloc Tg (ak #[ah,ae m.unk] 49);refine⟨((dP.new w _ _).alloc _).alloc _,?_,?_,aX _ _ _ _,rfl,B2⟩;.have:=(dP.new (w.alloc (ak #[.slice a m.fs.length c,ae m.unk] 49)) #[ah,S8] 49).alloc (ak #[ah,ae m.unk] 49);simpa using this
  .have:=dP.new ((w.alloc (ak #[.slice a m.fs.length c,ae m.unk] 49)).alloc (ak #[ah,S8] 49)) #[ah,ae m.unk] 49;simpa using this
 have M:Hid (gY n l l.isEmpty m.fs= []++gY n l l.isEmpty (m.fs.drop 0)):=rfl;have TK:((l.length:Int)==0)=l.isEmpty:=by cases l<;>simp;omega
 obtain⟨R,W⟩:=Td (gY n l l.isEmpty m.fs);have HR:Hid (m.put n l= .mk R m.unk):=by rw[<-W];rfl
 rw[W]at M;clear W;obtain⟨dn,TJ⟩:∃d,l.isEmpty=d:=⟨_,rfl⟩;rw[TJ]at M TK;clear TJ;go_in
 go_upto_region 3 with fail
 generalize((w.alloc (ak #[.slice a m.fs.length c,ae m.unk] 49)).alloc (ak #[ah,S8] 49)).alloc (ak #[ah,ae m.unk] 49)=w0 at*;go_wp2;go_loopw [8,9] (λd i wr=>∃(j:Nat) (done:Bool) (H:Value) (r:ay) (o:List PF),j<=m.fs.length/\o.length<=2*j/\Hid (R=o++gY n l done (m.fs.drop j))/\uS w wr k Z (.slice a m.fs.length c) m.unk H r o/\d= .bool done/\i=aa j) (λ_ i _=>m.fs.length-(intOf i).toNat)
 case atStart=>exact⟨0,dn,_,[],[],aM _,aM _,M,P0,rfl,rfl⟩
 case round=>
  obtain⟨j,done,H,r,o,hj,Ty,I,P,rfl,rfl⟩:=hrel;obtain⟨x,y,rfl⟩:=ig P.row;have⟨p1,p2⟩:=P.b0.I;have⟨p3,p4⟩:=P.b1.I;have⟨p5,p6⟩:=P.b2.I;by_cases TA:j<m.fs.length
  .have hli:(j:Int)<(m.fs.length:Int):=Te;have⟨f,hf⟩:=gx TA;have⟨vv,q1,q2,q3⟩:=h2.get hf;obtain⟨va,vc,rfl⟩:=q1.form;obtain⟨g,rfl,_,L,J⟩:=dV h1.1 Te;have t1:=J wr (P.bl.block g L) _ _ q2;have t2:=J wr (P.bl.block g L) _ _ q3;have q:Hid (R=o++((if !done&&decide (n<=f.1)then [(n,l)]else [])++((if f.1=n then []else [f])++gY n l (done||decide (n<=f.1)) (m.fs.drop (j+1))))):=by rw[I.o,Ik hf];rfl
   clear I;obtain⟨B,hB⟩:=Td ((!done&&decide (n<=f.1)));have p:Hid ((!done&&decide (n<=f.1))=B):=hB;clear hB;go_upto_region 6 with fail
   go_cut [34]from 16 to 60 (λv wx=>v= .bool B/\wx=wr)
   case first=>
    cases done
    .by_cases hc:n<=f.1
     .obtain rfl:B=true:=by rw[<-p.o];simp[hc]
      clear q p;go_wp2;go_meet
      case rel=>exact⟨rfl,rfl⟩
     .obtain rfl:B=false:=by rw[<-p.o];simp[hc]
      clear q p;go_wp2;go_meet
      case rel=>exact⟨rfl,rfl⟩
    .obtain rfl:B=false:=by rw[<-p.o];rfl
     clear q p;go_wp2;go_meet
     case rel=>exact⟨rfl,rfl⟩
   case rest=>
    obtain⟨rfl,rfl⟩:=hcut;go_upto_if 34 with fail
    go_cut [8]from 16 to 60 (λd wx=>∃(A:Bool) (H:Value) (r:ay) (o:List PF),d= .bool A/\o.length<=2*j+1/\Hid (R=o++((if f.1=n then []else [f])++gY n l A (m.fs.drop (j+1))))/\uS w wx k Z (Ta g m.fs.length c) m.unk H r o)
    case first=>
     have E:Hid (some (w.heap.size+1+1)≠(Value.slice x o.length y).ownBlock):=λe=>by have:=(P.row.lt _ e.sy).1;omega
     cases B
     .go_wp2;go_meet
      case rel=>
       refine⟨done,_,r,o,rfl,Te,?_,P⟩;have e:(done||decide (n<=f.1))=done:=by have:=p.o;cases done<;>simp_all
       have:=q.o;rw[p.o,e]at this;exact this
     .have TI:=P.size;go_wp2_with (first|(at_builtin;refine wpList_append_lies _ rfl _ _ 47 rfl (w.heap.size+3) 58 Y _ 2 32 underlying47 O Q S T rfl Th (.slice x o.length y) o.length r rfl (P.row.alloc _) _ 1 1 [_,_] rfl rfl (JG _ _ _ _) ?g1 Te ?g63 ?gby Tg _ rfl ?_;rotate_right;intro K s w6 U F TG TH;have⟨y1,y2⟩:=((P.b2.alloc _).grown F E.o).I))
      case g1=>intro u G;simp at G;rcases G with rfl|rfl<;>rfl
      case g63=>unfold maxLen;omega
      case gby=>omega
      go_meet
      case rel=>
       have Bb:=(Tb wc).alloc (aD _) (ak #[aa n,.slice la l.length lc] 58);refine⟨true,_,_,o++ [(n,l)],rfl,Tg,?_,P.append (f:=(n,l)) Bb U F X⟩;have e:(done||decide (n<=f.1))=true:=by have:=p.o;cases done<;>simp_all
       have V:R=(o++ [(n,l)])++((if f.1=n then []else [f])++gY n l true (m.fs.drop (j+1))):=by rw[q.o,p.o,e];simp
       exact V
    case rest=>
     clear q P p1 p2 p3 p4 p5 p6 t1 t2 p Ty;obtain⟨A,H,r,o,rfl,Ty,q,P⟩:=hcut;obtain⟨x,y,rfl⟩:=ig P.row;have⟨p1,p2⟩:=P.b0.I;have⟨p5,p6⟩:=P.b2.I;have t1:=J wc (P.bl.block g L) _ _ q2;have t2:=J wc (P.bl.block g L) _ _ q3;by_cases he:f.1=n
     .have D:Hid (R=o++gY n l A (m.fs.drop (j+1))):=(by have:=q.o;rw[dH he]at this;exact this);clear q;go_wp2;go_roundw
      case rel=>exact⟨j+1,A,_,r,o,Te,Te,D,P,rfl,by go_num⟩
      case measure=>simp[intOf];omega
     .have D:Hid (R=(o++ [f])++gY n l A (m.fs.drop (j+1))):=by
       have V:R=(o++ [f])++gY n l A (m.fs.drop (j+1)):=by rw[q.o,dG he];simp
       exact V
      have E:Hid (some (w.heap.size+1+1)≠(Value.slice x o.length y).ownBlock):=λe=>by have:=(P.row.lt _ e.sy).1;omega
      have TI:=P.size;have⟨z1,z2⟩:=(P.b2.alloc (ak #[aa f.1,.slice va f.2.length vc] 58)).I;clear q;go_upto_region 10 with fail
      go_region_law (first|(refine step_append_lies _ Tk _ _ _ Tk (w.heap.size+3) 58 Y _ 2 32 underlying47 O Q S T rfl Te (.slice x o.length y) o.length r Tk (P.row.alloc _) (ai wc.heap.size 0) 1 1 [_,_] Tk Tk (aY (t:=58) (fr:=(0,0)) (heap_alloc_new wc _)) Tm Te Tl Te Tg (wc.heap.size+1) Tf ?_;intro K s w9 Tz Tv hat9 hlt9;have⟨x1,x2⟩:=((P.b2.alloc _).drew.grown Tv E.o).I))
      all_goals
       go_wp2;go_roundw
       case rel=>exact⟨j+1,A,_,_,o++ [f],Te,Tg,D,P.append (f:=f) ((Tb wc).alloc (aD _) (ak #[aa f.1,.slice va f.2.length vc] 58)).drew Tz Tv q1,rfl,by go_num⟩
       case measure=>simp[intOf];omega
  .have TL:j=m.fs.length:=Te;have D:Hid (R=o++gY n l done []):=(by have:=I.o;rw[TL,cL (aD _)]at this;exact this);have E:Hid (some (w.heap.size+1+1)≠(Value.slice x o.length y).ownBlock):=λe=>by have:=(P.row.lt _ e.sy).1;omega
   have TI:=P.size;clear I;cases done
   .go_wp2_with (first|(at_builtin;refine wpList_append_lies _ rfl _ _ 47 rfl (w.heap.size+3) 58 Y _ 2 32 underlying47 O Q S T rfl Th (.slice x o.length y) o.length r rfl (P.row.alloc _) _ 1 1 [_,_] rfl rfl (JG _ _ _ _) ?g1 Te ?g63 ?gby Tg _ rfl ?_;rotate_right;intro K s w6 U F TG TH;have⟨y1,y2⟩:=((P.b2.alloc _).grown F E.o).I;have z:=P.append (f:=(n,l)) (Tc wr _) U F X;have⟨y3,y4⟩:=z.b1.I;have⟨y5,y6⟩:=z.b2.I))
    case g1=>intro u G;simp at G;rcases G with rfl|rfl<;>rfl
    case g63=>unfold maxLen;omega
    case gby=>omega
    refine dJ (dW results225 _ _ rfl (z.b1.sets_all [_,_] rfl) underlying49 Tj) rfl ?_;have B:=fH (n:=w.heap.size) (c:=w.heap.size+1) Te [Ta K (o.length+1) s,ae m.unk] 0 z.bl;refine⟨_,rfl,?_,B⟩;have N:R=o++ [(n,l)]:=by have:=D.o;simpa [gY]using this
    rw[HR.o,N];refine⟨_,?_,z.fs.G B (aD _)⟩;refine⟨iz (dR z.row (λb C=>eI (c:=w.heap.size+1) _ b (by have:=(z.row.lt b C).1;omega) [Ta K (o.length+1) s,ae m.unk] 0)) (aM _),λb C=>hZ b (by have:=(z.row.lt b C).1;omega)⟩
   .go_wp2;refine dJ (dW results225 _ _ rfl (P.b1.sets_all [_,_] rfl) underlying49 Tj) rfl ?_;have B:=fH (n:=w.heap.size) (c:=w.heap.size+1) Te [.slice x o.length y,ae m.unk] 0 P.bl;refine⟨_,rfl,?_,B⟩;have N:R=o:=by have:=D.o;simpa [gY]using this
    rw[HR.o,N];refine⟨r,?_,P.fs.G B (aD _)⟩;refine⟨iz (dR P.row (λb C=>eI (c:=w.heap.size+1) _ b (by have:=(P.row.lt b C).1;omega) [.slice x o.length y,ae m.unk] 0)) (aM _),λb C=>hZ b (by have:=(P.row.lt b C).1;omega)⟩
end
def jF (m:PM):Nat->PM
 |0=>m
 |n+1=>fM (jF m n) (n+1:Nat)
def Il (m:PM)(n:Int):(fM m n).unk=m.unk:=by
 unfold fM;split<;>rfl
def Aj (m:PM):∀n,(jF m n).unk=m.unk
 |0=>rfl
 |n+1=>by rw[jF,Il,Aj m n]
def tt (n:Int)(l:List PV):∀(fs:List PF) (d:Bool),(gY n l d fs).length<=fs.length+1-d.toNat
 | [],true=>by simp[gY]
 | [],false=>by simp[gY]
 |x::r,d=>by
  have a:=tt n l r true;have b:=tt n l r false;simp only[Bool.toNat_true,Bool.toNat_false]at a b;rw[gY];cases d
  .by_cases hc:n<=x.1
   .rw[decide_eq_true hc];by_cases he:x.1=n;.rw[dH he];simp;omega
    .rw[dG he];simp;omega
   .rw[decide_eq_false hc];by_cases he:x.1=n;.omega
    .rw[dG he];simp;omega
  .rw[cF];by_cases he:x.1=n;.rw[dH he];simp;omega
   .rw[dG he];simp;omega
def o8 (m:PM)(n:Int)(l:List PV):(m.put n l).fs.length<=m.fs.length+1:=by
 have:=tt n l m.fs l.isEmpty;show(gY n l l.isEmpty m.fs).length<=_;omega
def Im (m:PM)(n:Int):(fM m n).fs.length<=m.fs.length+1:=by
 unfold fM;split;.exact o8 _ _ _
 .omega
def Ak (m:PM):∀n,(jF m n).fs.length<=m.fs.length+n
 |0=>aD _
 |n+1=>by
  have:=Ak m n;have:=Im (jF m n) (n+1:Nat);rw[jF];omega
def rF (w:aw)(c:Nat):∀(vs:ay) (o:Nat),(w.setCells c o vs).heap.size=w.heap.size
 | [],_=>rfl
 |v::vs,o=>by
  have:=rF (w.setCell (ai c o) v) c vs (o+1);simpa [World.setCells,World.setCell]using this
def PE (w:aw)(k:Nat)(Z:ax)(mv:Value)(m:PM)(h:gQ (k+2) w Z mv m)(a:m.fs.length<=268435456)(f:∀b,w.heap.size<=b->Z b):
  Calls prog 310 #[.agg #[mv,ae m.unk]] w λe w'=>∃mv',e= .returned (.agg #[mv',S8])/\gQ (k+2) w' Z mv' (fY m)/\aj w w':=by
 obtain⟨a,c,rfl⟩:=h.form;have g:=(dP.new w #[.slice a m.fs.length c,ae m.unk] 49).alloc (ak #[ah,S8] 49);have l:=dP.new1 w (ak #[.slice a m.fs.length c,ae m.unk] 49) #[ah,S8] 49;have B:=((Tb w).alloc (aD _) (ak #[.slice a m.fs.length c,ae m.unk] 49)).alloc Tf (ak #[ah,S8] 49);have t:w.heap.size+2<=((w.alloc (ak #[.slice a m.fs.length c,ae m.unk] 49)).alloc (ak #[ah,S8] 49)).heap.size:=Tf;obtain⟨Y,q⟩:∃Y:ax,Y=λb=>Z b/\b≠w.heap.size/\b≠w.heap.size+1:=⟨_,rfl⟩
 have V:∀b,Y b->Z b:=λb d=>by rw[q]at d;exact d.1
 have I:∀b,Y b->b≠w.heap.size:=λb d=>by rw[q]at d;exact d.2.1
 have X:∀b,Y b->b≠w.heap.size+1:=λb d=>by rw[q]at d;exact d.2.2
 have J:∀b,w.heap.size+2<=b->Y b:=λb d=>by rw[q];exact⟨f b Te,Te,Te⟩
 have N:gQ (k+2) w Y (.slice a m.fs.length c) m:=h.V (λb d f=>by rw[q];exact⟨d,Te,Te⟩);have j:=N.G B (aD _);clear q h N;go_in
 go_upto_region 1 with fail
 generalize(w.alloc (ak #[.slice a m.fs.length c,ae m.unk] 49)).alloc (ak #[ah,S8] 49)=w1 at*;go_wp2;go_loopw [3] (λi wr=>∃(n:Nat) (z:Value),n<=2/\i=aa ((n:Int)+1)/\dP wr w.heap.size #[z,ae m.unk] 49/\dP wr (w.heap.size+1) #[ah,S8] 49/\gQ (k+2) wr Y z (jF m n)/\aj w wr/\w.heap.size+2<=wr.heap.size) (λi _=>4-(intOf i).toNat)
 case atStart=>exact⟨0,_,Te,rfl,g,l,j,B,t⟩
 case round=>
  clear g l j B t;obtain⟨n,z,a,rfl,g,l,j,B,t⟩:=hrel;obtain⟨A,C,rfl⟩:=j.form;have⟨a,i⟩:=g.I;have hlen:=Ak m n;have i:=Aj m n;by_cases f:n<2
  .have a:(n:Int)+1<=2:=Te;go_wp2_with fail;refine(FY wr wr (Below.refl _ _) (k+1) Y _ (jF m n) m.unk ((n:Int)+1) j Te).V ?_;rintro e w2 ⟨a,rfl,Q,f⟩;obtain⟨a,o,rfl⟩:=Q.form;have y:=g.G f g.lt;have K:=l.G f l.lt;have O:=j.G f (aD _);have D:=dL B f;have L:w.heap.size+2<=w2.heap.size:=aL t f.size
   cases he:((jF m n).get ((n:Int)+1))with
   |nil=>
    have v:Hid (jF m (n+1)=(jF m n).put ((n:Int)+1) [PV.none]):=(by rw[jF,fM];have e:((n+1:Nat):Int)=(n:Int)+1:=Te;rw[e,he];rfl);have a:Hid (((jF m n).get ((n:Int)+1)).length=0):=by rw[he];rfl
    rw[he]at Q;have⟨q,t⟩:=y.I;go_wp2_with fail;have⟨u,U⟩:=eY w2 #[.int .u64 0,S8,ah,S8] 55;have o:=O.G u (aD _);have M:=y.alloc (ak #[.int .u64 0,S8,ah,S8] 55);have F:=K.alloc (ak #[.int .u64 0,S8,ah,S8] 55);have R:=dL D u
    have a:fk (gQ (k+1) (w2.alloc (ak #[.int .u64 0,S8,ah,S8] 55)) Y) (w2.alloc (ak #[.int .u64 0,S8,ah,S8] 55)) Y (Ta w2.heap.size 1 1) [PV.none]:=
     ⟨_,⟨⟨rfl,.inr ⟨w2.heap.size,1,_,rfl,aM _,U,aD 1,Th,rfl,rfl⟩⟩,λb d=>by
      simp[Value.ownBlock]at d
      exact J b Te⟩,⟨_,[],rfl,gQ.none k _ _,rfl⟩⟩
    generalize w2.alloc (ak #[.int .u64 0,S8,ah,S8] 55)=w3 at*;have p:w.heap.size+2<=w3.heap.size:=aL L u.size;have H:=xZ w3 (k+1) Y _ _ (jF m n) ((n:Int)+1) [PV.none] o a Te (λb d=>J b Te);rw[i]at H;refine H.V ?_;rintro e p ⟨a,rfl,P,s⟩;obtain⟨a,i,rfl⟩:=P.form;have G:=M.G s M.lt;have a:=F.G s F.lt;have⟨i,u⟩:=G.I;have S:=dL R s;go_wp2;go_roundw
    case rel=>
     refine⟨n+1,_,Te,by go_num,G.sets_all [_,_] rfl,a.sets_other Te [_,_] 0,?_,fH (aD _) [_,_] 0 S,?_⟩;.rw[v.o];exact P.O (λb d _=>eI (c:=w.heap.size) _ b (λe=>I b d e.sy) [_,_] 0)
     .have:=s.size;have e:∀(W:aw) (vs:ay) (c o:Nat),(W.setCells c o vs).heap.size=W.heap.size:=λW vs c o=>rF W c vs o
      show w.heap.size+2<=(p.setCells w.heap.size 0 [_,_]).heap.size;rw[e];omega
    case measure=>simp[intOf];omega
   |cons x r=>
    have v:Hid (jF m (n+1)=jF m n):=(by rw[jF,fM];have e:((n+1:Nat):Int)=(n:Int)+1:=Te;rw[e,he];rfl);have a:¬((x::r).length:Int)=0:=Tg;go_wp2;go_roundw
    case rel=>exact⟨n+1,_,Te,by go_num,y,K,by rw[v.o];exact O,D,L⟩
    case measure=>simp[intOf];omega
  .obtain rfl:n=2:=Te;have T:dP (wr.setCell (ai w.heap.size 1) (S8)) w.heap.size #[.slice A (jF m 2).fs.length C,S8] 49:=g.set 1 (S8);have E:=l.other (c:=w.heap.size) 1 (S8) Te;have f:=B.setCell (p:=(ai w.heap.size 1)) (aD _) (S8);have⟨q,t⟩:=T.I;have⟨i,u⟩:=E.I;go_wp2;refine dJ (dW results310 _ _ rfl (E.sets_all [_,_] rfl) underlying49 Tj) rfl ?_
   have a:gQ (k+2) (((wr.setCell (ai w.heap.size 1) (S8))).setCells (w.heap.size+1) 0 [.slice A (jF m 2).fs.length C,S8]) Y (.slice A (jF m 2).fs.length C) (jF m 2):=
    j.O (λb d _=>(eI (c:=w.heap.size+1) _ b (λe=>X b d e.sy) _ 0).J (Below.heap_setCell _ _ _ _ (λe=>I b d e)))
   refine⟨_,rfl,?_,fH Te [_,_] 0 f⟩;have⟨cs,c,f⟩:=a.V (λb d _=>V b d);exact⟨cs,c,f⟩
def E7 (s:au):fL (dN s) s=(ip s.toList&&(!(s.toList== [102,108,111,97,116])&&(!(s.toList== [100,111,117,98,108,101])&& !(s.toList== [98,121,116,101,115])))):=by
 unfold fL;rw[wK]
def SQ {w:aw}{rb:Nat}{M:lB}{ws:List W}{mb:Nat}{mn:au}{fv nl:Value}{s:FD}(h:jO w rb M ws mb mn fv nl s)(H:jY ws)(q:iC ws s.p)(hu:s.nums.length<=2001)(P:s.names.length<=2001):
  Calls prog 78 #[ag rb,ag mb,nl] w λe w'=>
   ∃M' fv' nl',e= .returned nl'/\jO w' rb M' ws mb mn fv' nl' (Cd ws s)/\et w (iA M rb mb fv nl) w' (iA M' rb mb fv' nl'):=by
 have B:=fQ H q 0 ⟨#[60]⟩;obtain⟨d,J⟩:=Td (fG ws 0 ⟨#[60]⟩ s.p);have S:Hid (fG ws 0 ⟨#[60]⟩ s.p=d):=J;rw[J]at B;clear J;obtain⟨y,O⟩:=Td (gh ws d);have l:Hid (gh ws d=y):=O;have K:=fZ B.lt;rw[O]at K;clear O;obtain⟨x,a⟩:=Td (gM ws 3 ⟨#[]⟩ d);have I:Hid (gM ws 3 ⟨#[]⟩ d=x):=a;clear a;have T:=E5 H B;have j:=fQ H T 0 ⟨#[44]⟩;have U:=lK H j;have J:=fQ H U 0 ⟨#[62]⟩;go_in
 go_wp2_with fail;refine(vo h.r H q.lt 0 Te ⟨#[60]⟩).V ?_;rintro e w1 ⟨rfl,f,n⟩;rw[S.o]at f;have a:=h.turn f n;have c:=n.bd mb fv nl;unfold sX;clear h n f;have A:=a.r.hw;have u:=a.r.rd;have⟨b,i,g,X⟩:=dO A;rw[X]at A u;obtain⟨rfl,i,g,rfl,b,Y⟩:=ol A K;have⟨m,n⟩:=Y _ rfl;have⟨i,k⟩:=u.I;have b:=u.lt;have g:(d.i:Int)<(ws.length:Int):=Te;have b:¬iA M rb mb fv nl w1.heap.size:=λq=>by have:=a.lt q;omega
 go_wp2;go_region
 clear m n i k Y A u X g K;have k:dP (w1.S6 #[ae y.1,aa y.2] 102).drew w1.heap.size #[ae y.1,aa y.2] 102:=dP.new w1 #[ae y.1,aa y.2] 102;replace a:=(a.alloc (ak #[ae y.1,aa y.2] 102)).drew;replace c:=(c.alloc (ak #[ae y.1,aa y.2] 102)).drew;go_wp2_with fail;refine(vo a.r H B.lt 3 Te ⟨#[]⟩).V ?_;rintro e w2 ⟨rfl,m,i⟩;rw[I.o];unfold sX;replace a:=a.turn m i;replace c:=(c.J (i.bd mb fv nl)).alloc (ak #[ae x.1,aa x.2] 102);have g:w1.heap.size<w2.heap.size:=(k.step (i.bd mb fv nl) b).lt;replace k:=(k.step (i.bd mb fv nl) b).alloc (ak #[ae x.1,aa x.2] 102);have b:=dP.new w2 #[ae x.1,aa x.2] 102;have E:¬iA M rb mb fv nl w2.heap.size:=λq=>by have:=a.lt q;omega
 replace a:=a.alloc (ak #[ae x.1,aa x.2] 102);clear i m;go_wp2_with fail;generalize w2.alloc (ak #[ae x.1,aa x.2] 102)=w3 at*;go_cut [9]from 25 to 28 (λv wr=>∃r,v=aa r/\Hc BU x.1 r/\jO wr rb M ws mb mn fv nl {s with p:=fG ws 3 ⟨#[]⟩ d}/\et w (iA M rb mb fv nl) wr (iA M rb mb fv nl)/\dP wr w1.heap.size #[ae y.1,aa y.2] 102/\dP wr w2.heap.size #[ae x.1,aa x.2] 102)
 case first=>
  have⟨Q,R⟩:=b.I;go_region_with (first|(go_at_call 128;refine(Ry _).V ?_;rintro e t ⟨n,rfl,i,j⟩;have g:=b.drew.G j b.lt;have⟨o,q⟩:=g.I)|(go_at_call 41;refine(MD _ _ _ BU x.1 Th i).V ?_;rintro e _ ⟨⟨r,rfl,D⟩,rfl⟩))
  all_goals
   go_wp2;go_meet
   case rel=>exact⟨r,rfl,D,a.drew.G j,c.drew.G j,k.drew.G j k.lt,b.drew.G j b.lt⟩
 case rest=>
  clear a c k b;obtain⟨r,rfl,D,a,c,k,b⟩:=hcut;have L:=D.lt;rw[AB]at L;clear D;obtain⟨G,N⟩:=Td (fL (dN x.1) x.1);have g:Hid (fL (dN x.1) x.1=G):=N;have V:(ip x.1.toList&&(!(x.1.toList== [102,108,111,97,116])&&(!(x.1.toList== [100,111,117,98,108,101])&& !(x.1.toList== [98,121,116,101,115]))))=G:=by rw[<-E7];exact N
  have o:Hid ((ip x.1.toList&&(!(x.1.toList== [102,108,111,97,116])&&(!(x.1.toList== [100,111,117,98,108,101])&& !(x.1.toList== [98,121,116,101,115]))))=G):=V;clear N V;have F:Hid (sq ws d=if G then fG ws 3 ⟨#[]⟩ d else sY y (fG ws 3 ⟨#[]⟩ d)):=(by show sq ws d=_;unfold sq;rw[I.o,g.o,l.o]);go_upto_region 5 with fail
  go_cut [45]from 29 to 45 (λv wr=>v= .bool (!G)/\wr=wc)
  case first=>
   have⟨Q,R⟩:=b.I;cases f:ip x.1.toList
   .rw[f]at L;obtain rfl:G=false:=by rw[<-o.o,f];rfl
    go_wp2;go_meet
    case rel=>exact⟨rfl,rfl⟩
   .rw[f]at L;cases m:(x.1.toList== [102,108,111,97,116])
    .cases h3:(x.1.toList== [100,111,117,98,108,101])
     .cases h4:(x.1.toList== [98,121,116,101,115])
      .obtain rfl:G=true:=by rw[<-o.o,f,m,h3,h4];rfl
       go_wp2;go_meet
       case rel=>exact⟨rfl,rfl⟩
      .obtain rfl:G=false:=by rw[<-o.o,f,m,h3,h4];rfl
       go_wp2;go_meet
       case rel=>exact⟨rfl,rfl⟩
     .obtain rfl:G=false:=by rw[<-o.o,f,m,h3];rfl
      go_wp2;go_meet
      case rel=>exact⟨rfl,rfl⟩
    .obtain rfl:G=false:=by rw[<-o.o,f,m];rfl
     go_wp2;go_meet
     case rel=>exact⟨rfl,rfl⟩
  case rest=>
   obtain⟨rfl,rfl⟩:=hcut;go_upto_if 45 with fail
   go_cut []from 46 to 48 (λwr=>jO wr rb M ws mb mn fv nl {s with p:=sq ws d}/\et w (iA M rb mb fv nl) wr (iA M rb mb fv nl)/\dP wr w2.heap.size #[ae x.1,aa x.2] 102)
   case first=>
    cases G
    .have⟨Q,R⟩:=k.I;go_wp2_with fail;refine(MY a.r y).V ?_;rintro e f ⟨rfl,C,l⟩;go_wp2;go_meet
     case rel=>exact⟨by rw[F.o];exact a.turn C l,c.J (l.bd mb fv nl),b.step (l.bd mb fv nl) E⟩
    .go_wp2;go_meet
     case rel=>exact⟨by rw[F.o];exact a,c,b⟩
   case rest=>
    clear a c k b F;obtain⟨a,c,b⟩:=hcut;go_wp2_with fail;refine(vo a.r H T.lt 0 Te ⟨#[44]⟩).V ?_;rintro e f ⟨rfl,C,l⟩;replace a:=a.turn C l;replace c:=c.J (l.bd mb fv nl);replace b:=b.step (l.bd mb fv nl) E;clear C l;unfold sX;go_wp2_with fail;refine(QD a.r H j.lt (by have:=j.used;have:=j.lt;have:=H.len;show(fG ws 0 ⟨#[44]⟩ (sq ws d)).used.length<=2001;omega)).V ?_;rintro e w6 ⟨rfl,M',Z,t⟩;replace a:=a.turn Z t;replace c:=c.J (t.bd mb fv nl);have f:=(t.bd mb fv nl).not b.lt E;replace b:=b.step (t.bd mb fv nl) E;clear Z t;go_wp2_with fail;refine(vo a.r H U.lt 0 Te ⟨#[62]⟩).V ?_;rintro e g ⟨rfl,d,z⟩;replace a:=a.turn d z;replace c:=c.J (z.bd mb fv nl);replace b:=b.step (z.bd mb fv nl) f;clear d z;unfold sX;have⟨Q,R⟩:=b.I;go_wp2_with fail;refine(Ir a H J.lt hu P _ _ _ _ _).V ?_;rintro e g ⟨a,b,rfl,d,f⟩;go_wp2;go_ret;refine⟨M',a,b,rfl,?_,c.J f⟩;unfold Cd uT NC;rw[S.o,I.o];exact d
section
variable {b n b':Nat} {cs cs':aq} {T:TypeId} {u v c:Value} {xs:ay} {w:aw} {x:au} {P:ax} {fl:List fB} {ws:List W} {s:FD} {l:aA} {p:PS}
section
variable {w w':aw} {tgt:Option Nat} {cb off:Nat} {v:Value}
theorem lX (hg:w.grownBy w' tgt)(K:dP w b cs T)(h1:tgt≠some b)(a:b≠cb):dP (w'.setCell (ai cb off) v) b cs T:=
 (K.grown hg (λe=>h1 e.sy)).other off v (λe=>a e.sy)
theorem jS (hg:w.grownBy w' tgt){k:Nat}(c:w.ownsRow 0 T k u n xs)(h1:∀b,u.ownBlock=some b->tgt≠some b)(d:∀b,u.ownBlock=some b->b≠cb):(w'.setCell (ai cb off) v).ownsRow 0 T k u n xs:=
 dR c λb a=>by
  have⟨cs,K⟩:=eo c a;exact(lX hg K (h1 b a) (d b a)).J K.sy
theorem kG {T':TypeId}{k k' n':Nat}{u':Value}{xs':ay}(h:w.ownsRow 0 T k u n xs)(e:w.ownsRow 0 T' k' u' n' xs')(f:T≠T'):∀b,u.ownBlock=some b->u'.ownBlock≠some b:=λb g c=>by
 have⟨cs,K⟩:=eo h g;have⟨d,a⟩:=eo e c;exact f (K.ty a)
theorem eF {T':TypeId}{k:Nat}(h:w.ownsRow 0 T k u n xs)(a:dP w b' cs' T')(c:T≠T'):∀b,u.ownBlock=some b->b≠b':=λb d e=>by
 subst e;have⟨cs,K⟩:=eo h d;exact c (K.ty a)
theorem mR {T':TypeId}(K:dP w b cs T)(a:dP w b' cs' T')(c:T≠T'):b≠b':=λe=>by
 subst e;exact c (K.ty a)
end
section
variable {w w':aw} {rb:Nat} {M:lB} {ws:List W} {p:PS}
theorem fx.addN (h:fx w rb M ws p)(hg:w.grownBy w' M.nv.ownBlock)(m:w'.ownsRow 0 9 1 v (p.names.length+1) (eh p.names++ [ae x]))(k:∀b,v.ownBlock=some b->M.nv.ownBlock=some b\/w.heap.size<=b):
  fx (w'.setCell (ai rb 6) v) rb {M with nv:=v} ws {p with names:=p.names++ [x]}/\et w (M.D rb) (w'.setCell (ai rb 6) v) (({M with nv:=v}:lB).D rb):=by
 have g:dP w' rb _ 100:=h.rd.grown hg (λe=>eF h.hn h.rd Th rb e.sy rfl)
 refine⟨⟨g.set 6 v,lX hg h.sc (λe=>eF h.hn h.sc Th _ e rfl) (mR h.sc h.rd Th),jS hg h.hw (kG h.hw h.hn Th) (eF h.hw h.rd Th),
  jS hg h.hu (kG h.hu h.hn Th) (eF h.hu h.rd Th),?_,jS hg h.he (λb c e=>h.ne b e c) (eF h.he h.rd Th),?_,h.wu,λb c j=> ?_,λb c=> ?_⟩,?_⟩
 .have:(w'.setCell (ai rb 6) v).ownsRow 0 9 1 v (p.names.length+1) (eh p.names++ [ae x]):=dR m λb c=>by
   have⟨cs,K⟩:=eo m c;exact Below.heap_setCell _ _ _ _ (mR K g Th)
  simpa [eh]using this
 .have⟨cs,f,n⟩:=h.hm;refine⟨cs,jS hg f (kG f h.hn Th) (eF f h.rd Th),n.O λb c _=> ?_⟩;have⟨i,K⟩:=h.fzt b c;exact(lX hg K (λe=>eF h.hn K Th _ e rfl) (mR K h.rd Th)).J K.sy
 .rcases k b c with a|a;.exact h.ne b a j
  .have:=(h.he.lt b j).2;omega
 .have⟨i,K⟩:=h.fzt b c;exact⟨i,lX hg K (λe=>eF h.hn K Th _ e rfl) (mR K h.rd Th)⟩
 .refine⟨hg.os,hg.tape,hg.output,by simpa [World.setCell]using hg.size,λb c l=> ?_,λb c=> ?_⟩;.rw[Below.heap_setCell _ _ _ _ (λe=>l (.inl e))];exact hg.block b c (λe=>l (.inr (.inr (.inr (.inl e.sy)))))
  .rcases c with a|a|a|a|a|a;.exact .inl (.inl a)
   .exact .inl (.inr (.inl a))
   .exact .inl (.inr (.inr (.inl a)))
   .rcases k b a with d|d;.exact .inl (.inr (.inr (.inr (.inl d))))
    .exact .inr d
   .exact .inl (.inr (.inr (.inr (.inr (.inl a)))))
   .exact .inl (.inr (.inr (.inr (.inr (.inr a)))))
theorem fx.addE (h:fx w rb M ws p)(hg:w.grownBy w' M.ev.ownBlock)(m:w'.ownsRow 0 9 1 v (p.enums.length+1) (eh p.enums++ [ae x]))(j:∀b,v.ownBlock=some b->M.ev.ownBlock=some b\/w.heap.size<=b):
  fx (w'.setCell (ai M.sb 1) v) rb {M with ev:=v} ws {p with enums:=p.enums++ [x]}/\et w (M.D rb) (w'.setCell (ai M.sb 1) v) (({M with ev:=v}:lB).D rb):=by
 have g:dP w' M.sb _ 98:=h.sc.grown hg (λe=>eF h.he h.sc Th _ e.sy rfl)
 refine⟨⟨lX hg h.rd (λe=>eF h.he h.rd Th _ e rfl) (mR h.rd h.sc Th),g.set 1 v,jS hg h.hw (kG h.hw h.he Th) (eF h.hw h.sc Th),
  jS hg h.hu (kG h.hu h.he Th) (eF h.hu h.sc Th),jS hg h.hn h.ne (eF h.hn h.sc Th),?_,?_,h.wu,λb c n=> ?_,λb c=> ?_⟩,?_⟩
 .have:(w'.setCell (ai M.sb 1) v).ownsRow 0 9 1 v (p.enums.length+1) (eh p.enums++ [ae x]):=dR m λb c=>by
   have⟨cs,K⟩:=eo m c;exact Below.heap_setCell _ _ _ _ (mR K g Th)
  simpa [eh]using this
 .have⟨cs,f,l⟩:=h.hm;refine⟨cs,jS hg f (kG f h.he Th) (eF f h.sc Th),l.O λb c _=> ?_⟩;have⟨i,K⟩:=h.fzt b c;exact(lX hg K (λe=>eF h.he K Th _ e rfl) (mR K h.sc Th)).J K.sy
 .rcases j b n with a|a;.exact h.ne b c a
  .have:=(h.hn.lt b c).2;omega
 .have⟨i,K⟩:=h.fzt b c;exact⟨i,lX hg K (λe=>eF h.he K Th _ e rfl) (mR K h.sc Th)⟩
 .refine⟨hg.os,hg.tape,hg.output,by simpa [World.setCell]using hg.size,λb c k=> ?_,λb c=> ?_⟩;.rw[Below.heap_setCell _ _ _ _ (λe=>k (.inr (.inl e)))];exact hg.block b c (λe=>k (.inr (.inr (.inr (.inr (.inr (.inl e.sy)))))))
  .rcases c with a|a|a|a|a|a|a;.exact .inl (.inl a)
   .exact .inl (.inr (.inl a))
   .exact .inl (.inr (.inr (.inl a)))
   .exact .inl (.inr (.inr (.inr (.inl a))))
   .exact .inl (.inr (.inr (.inr (.inr (.inl a)))))
   .rcases j b a with d|d;.exact .inl (.inr (.inr (.inr (.inr (.inr (.inl d))))))
    .exact .inr d
   .exact .inl (.inr (.inr (.inr (.inr (.inr (.inr a))))))
theorem mE.imp {P':ax}(c:∀b,P b->P' b):∀{l:List MT} {cs:ay},mE w P cs l->mE w P' cs l
 | [],_,h=>h
 |m::l,cs,h=>by
  obtain⟨d,rest,e,a,f⟩:=h;exact⟨d,rest,e,⟨a.1,λb g=>c b (a.2 b g)⟩,mE.imp c f⟩
theorem mE.snoc (a:kB w P c fl):∀{l:List MT} {cs:ay},mE w P cs l->mE w P (cs++ [ae x,c]) (l++ [⟨x,fl⟩])
 | [],_,h=>by
  cases h
  exact⟨c,[],rfl,a,rfl⟩
 |m::l,cs,h=>by
  obtain⟨b,rest,rfl,d,e⟩:=h;exact⟨b,rest++ [ae x,c],rfl,d,mE.snoc a e⟩
theorem fx.addM (h:fx w rb M ws p)(hg:w.grownBy w' M.mv.ownBlock)(i:w.ownsRow 0 178 5 c fl.length (fl.flatMap fI)){cs:ay}(t:mE w M.fz cs p.msgs)(r:w'.ownsRow 0 111 2 v (p.msgs.length+1) (cs++ [ae x,c]))(u:∀b,v.ownBlock=some b->M.mv.ownBlock=some b\/w.heap.size<=b)
  {S:ax} (f:∀b,M.D rb b->S b) (m:∀b,c.ownBlock=some b->S b):
  fx (w'.setCell (ai M.sb 0) v) rb {M with mv:=v,fz:=λb=>M.fz b\/c.ownBlock=some b} ws {p with msgs:=p.msgs++ [⟨x,fl⟩]}/\et w S (w'.setCell (ai M.sb 0) v) (({M with mv:=v,fz:=λb=>M.fz b\/c.ownBlock=some b}:lB).D rb):=by
 have⟨s,g,_⟩:=h.hm;have l:dP w' M.sb _ 98:=h.sc.grown hg (λe=>eF g h.sc Th _ e.sy rfl);have n:∀b,M.fz b\/c.ownBlock=some b->∃cs,dP w b cs 178:=λb a=>a.elim (h.fzt b) (λe=>eo i e)
 have j:∀b,M.fz b\/c.ownBlock=some b->(w'.setCell (ai M.sb 0) v).heap[b]?=w.heap[b]?:=λb a=>by
  have⟨o,K⟩:=n b a;exact(lX hg K (λe=>eF g K Th _ e rfl) (mR K h.sc Th)).J K.sy
 refine⟨⟨lX hg h.rd (λe=>eF g h.rd Th _ e rfl) (mR h.rd h.sc Th),l.set 0 v,jS hg h.hw (kG h.hw g Th) (eF h.hw h.sc Th),
  jS hg h.hu (kG h.hu g Th) (eF h.hu h.sc Th),jS hg h.hn (kG h.hn g Th) (eF h.hn h.sc Th),jS hg h.he (kG h.he g Th) (eF h.he h.sc Th),⟨cs++ [ae x,c],?_,?_⟩,h.wu,h.ne,λb a=> ?_⟩,?_⟩
 .have:(w'.setCell (ai M.sb 0) v).ownsRow 0 111 2 v (p.msgs.length+1) (cs++ [ae x,c]):=dR r λb a=>by
   have⟨cs,K⟩:=eo r a;exact Below.heap_setCell _ _ _ _ (mR K l Th)
  simpa using this
 .have d:mE (w'.setCell (ai M.sb 0) v) (λb=>M.fz b\/c.ownBlock=some b) cs p.msgs:=(t.imp λb a=> .inl a).O λb a _=>j b a
  exact d.snoc ⟨dR i λb a=>j b (.inr a),λb a=> .inr a⟩
 .have⟨o,K⟩:=n b a;exact⟨o,(j b a).J K⟩
 .refine⟨hg.os,hg.tape,hg.output,by simpa [World.setCell]using hg.size,λb a q=> ?_,λb a=> ?_⟩;.rw[Below.heap_setCell _ _ _ _ (λe=>q (f b (.inr (.inl e))))];exact hg.block b a (λe=>q (f b (.inr (.inr (.inr (.inr (.inl e.sy)))))))
  .rcases a with d|d|d|d|d|d|d|d;.exact .inl (f b (.inl d))
   .exact .inl (f b (.inr (.inl d)))
   .exact .inl (f b (.inr (.inr (.inl d))))
   .exact .inl (f b (.inr (.inr (.inr (.inl d)))))
   .rcases u b d with k|k;.exact .inl (f b (.inr (.inr (.inr (.inr (.inl k))))))
    .exact .inr k
   .exact .inl (f b (.inr (.inr (.inr (.inr (.inr (.inl d)))))))
   .exact .inl (f b (.inr (.inr (.inr (.inr (.inr (.inr d)))))))
   .exact .inl (m b d)
end
def eJ (p:PS):PS:={p with i:=p.i+1}
def ew (s:FD):FD:={s with p:=eJ s.p}
def nW (ws:List W)(s:FD):FD:=
 if(gh ws s.p).1.toList== [111,110,101,111,102]then Cc ws (ew s)
 else if(gh ws s.p).1.toList== [109,97,112]then Cd ws (ew s)
 else if(gh ws s.p).1.toList== [114,101,112,101,97,116,101,100]||(gh ws s.p).1.toList== [111,112,116,105,111,110,97,108]then oC ws (gh ws s.p).1 (ew s)
 else oC ws eS s
def Al (ws:List W):Nat->FD->FD
 |0,s=>s
 |n+1,s=>if s.p.bad<0&& !tV ws ⟨#[125]⟩ s.p then Al ws n (nW ws s)else s
theorem qm (h:(decide (s.p.bad<0)&& !tV ws ⟨#[125]⟩ s.p)=false):Al ws n s=s:=by
 cases n with
 |zero=>rfl
 |succ n=>rw[Al,dG (by rw[h];decide)]
theorem Ly (h:(decide (s.p.bad<0)&& !tV ws ⟨#[125]⟩ s.p)=true)(a:0<n):Al ws n s=Al ws (n-1) (nW ws s):=by
 cases n with
 |zero=>omega
 |succ n=>rw[Al,dH h];rfl
theorem lx (H:jY ws)(h:vB ws s)(c:0<(gh ws s.p).1.size):vB ws (ew s):=by
 have b:=H.last _ _ (fZ h.ok.lt) c;have d:=h.ok.used;refine⟨⟨b,?_⟩,λa=> ?_,λa=> ?_⟩;.show s.p.used.length<=s.p.i+1;omega
 .have:=h.nums a;show s.nums.length<=s.p.i+1;omega
 .have:=h.names a;show s.names.length<=s.p.i+1;omega
theorem yj (ws:List W)(how:au)(s:FD):s.p.i<=(oC ws how s).p.i:=aL (yg ws s.p) (Lw ws _ {s with p:=nh ws s.p})
theorem Lz (ws:List W)(how:au):∀(n:Nat) (b:Bool) (s:FD),s.p.i<=(o9 ws how n b s).p.i
 |0,_,_=>aD _
 |n+1,b,s=>by
  rw[o9];split;.exact aL (yj ws how s) (Lz ws how n false _)
  .exact aD _
theorem E8 (ws:List W)(s:FD):s.p.i<=(Cc ws s).p.i:=by
 refine aL ?_ (ik ws 0 ⟨#[125]⟩ _);refine aL ?_ (Lz ws _ _ _ _);refine aL ?_ (ik ws 0 ⟨#[123]⟩ (rG ws s));rw[(qk ws s).1];exact ik _ _ _ _
theorem E9 (ws:List W)(s:FD):s.p.i<=(Cd ws s).p.i:=aL (Lx ws s.p) (Lw ws _ {s with p:=uT ws s.p})
theorem il {s:au}{c:UInt8}{l:an}(h:(s.toList==c::l)=true):0<s.size:=by
 rcases Nat.eq_zero_or_pos s.size with a|a
 .have b:s.toList= []:=by have:=lY s;rw[a]at this;simpa using this
  rw[b]at h;cases h
 .exact a
theorem qQ (H:jY ws)(h:vB ws s):vB ws (nW ws s):=by
 unfold nW;split;.next a=>exact ND H (lx H h (il a))
 .split;.next a=>exact NF H (lx H h (il a))
  .split
   .next a=>
    rcases(Bool.or_eq_true _ _).mp a with a|a;.exact qP H (lx H h (il a))
    .exact qP H (lx H h (il a))
   .exact qP H h
theorem Gz (H:jY ws):∀(n:Nat) (s:FD),vB ws s->vB ws (Al ws n s)
 |0,_,h=>h
 |n+1,s,h=>by
  rw[Al];split;.exact Gz H n _ (qQ H h)
  .exact h
theorem LA (H:jY ws)(h:vB ws s)(b:s.p.bad<0):fo ws (nW ws s).p<fo ws s.p:=by
 have a:∀t:FD,s.p.i+1<=t.p.i->fo ws t.p<fo ws s.p:=λt c=>by
  have:=h.ok.lt;unfold fo;rw[dH b];split<;>omega
 unfold nW;split;.exact a _ (E8 ws (ew s))
 .split;.exact a _ (E9 ws (ew s))
  .split;.exact a _ (yj ws _ (ew s))
   .exact qj H h.ok b
def rH (ws:List W)(p:PS):PS:=if eC p.names (gM ws 1 ⟨#[]⟩ p).1||decide (6<=p.msgs.length)then sY (gM ws 1 ⟨#[]⟩ p) (xq (gM ws 1 ⟨#[]⟩ p) (fG ws 1 ⟨#[]⟩ p))else xq (gM ws 1 ⟨#[]⟩ p) (fG ws 1 ⟨#[]⟩ p)
def Dx (ws:List W)(p:PS):PS:={rH ws p with names:=p.names++ [(gM ws 1 ⟨#[]⟩ p).1]}
def Ce (ws:List W)(p:PS):FD:=⟨fG ws 0 ⟨#[123]⟩ (Dx ws p),[],[]⟩
def uo (ws:List W)(p:PS):FD:=Al ws ws.length (Ce ws p)
def BC (ws:List W)(p:PS):PS:={fG ws 0 ⟨#[125]⟩ (uo ws p).p with msgs:=(uo ws p).p.msgs++ [⟨(gM ws 1 ⟨#[]⟩ p).1,(uo ws p).nums⟩]}
def uU (ws:List W)(p:PS)(l:aA):PS:=
 if eC l (gM ws 1 ⟨#[]⟩ p).1 then sY (gM ws 1 ⟨#[]⟩ p) (xq (gM ws 1 ⟨#[]⟩ p) (fG ws 1 ⟨#[]⟩ p))else xq (gM ws 1 ⟨#[]⟩ p) (fG ws 1 ⟨#[]⟩ p)
def kH (ws:List W)(p:PS)(l:aA):PS:=fG ws 0 ⟨#[61]⟩ (uU ws p l)
def tH (ws:List W)(p:PS)(l:aA):PS:=
 fG ws 0 ⟨#[59]⟩ (if 2147483647<iR (gM ws 2 ⟨#[]⟩ (kH ws p l)).1 then sY (gM ws 2 ⟨#[]⟩ (kH ws p l)) (fG ws 2 ⟨#[]⟩ (kH ws p l))else fG ws 2 ⟨#[]⟩ (kH ws p l))
def se (ws:List W):Nat->PS->aA->PS
 |0,p,_=>p
 |n+1,p,l=>if p.bad<0&& !tV ws ⟨#[125]⟩ p then se ws n (tH ws p l) (l++ [(gM ws 1 ⟨#[]⟩ p).1])else p
theorem qo (h:(decide (p.bad<0)&& !tV ws ⟨#[125]⟩ p)=false):se ws n p l=p:=by
 cases n with
 |zero=>rfl
 |succ n=>rw[se,dG (by rw[h];decide)]
theorem LB (h:(decide (p.bad<0)&& !tV ws ⟨#[125]⟩ p)=true)(a:0<n):se ws n p l=se ws (n-1) (tH ws p l) (l++ [(gM ws 1 ⟨#[]⟩ p).1]):=by
 cases n with
 |zero=>omega
 |succ n=>rw[se,dH h];rfl
theorem qp (ws:List W)(p:PS)(l:aA):(uU ws p l).i=(fG ws 1 ⟨#[]⟩ p).i/\(uU ws p l).bad=(fG ws 1 ⟨#[]⟩ p).bad/\(uU ws p l).used=p.used:=by
 unfold uU;split<;>exact⟨rfl,rfl,rfl⟩
theorem Fa (H:jY ws)(h:iC ws p)(l:aA):iC ws (uU ws p l):=by
 have b:=fQ H h 1 ⟨#[]⟩;have⟨a,_,c⟩:=qp ws p l;exact⟨by rw[a];exact b.lt,by rw[a,c];exact b.used⟩
theorem qq (ws:List W)(p:PS)(l:aA)(q:PS)(x:W):(if 2147483647<iR (gM ws 2 ⟨#[]⟩ (kH ws p l)).1 then sY x q else q).i=q.i/\(if 2147483647<iR (gM ws 2 ⟨#[]⟩ (kH ws p l)).1 then sY x q else q).bad=q.bad/\(if 2147483647<iR (gM ws 2 ⟨#[]⟩ (kH ws p l)).1 then sY x q else q).used=q.used:=by
 split<;>exact⟨rfl,rfl,rfl⟩
theorem Fb (H:jY ws)(h:iC ws p)(l:aA):iC ws (if 2147483647<iR (gM ws 2 ⟨#[]⟩ (kH ws p l)).1 then sY (gM ws 2 ⟨#[]⟩ (kH ws p l)) (fG ws 2 ⟨#[]⟩ (kH ws p l))else fG ws 2 ⟨#[]⟩ (kH ws p l)):=by
 have b:=fQ H (fQ H (Fa H h l) 0 ⟨#[61]⟩) 2 ⟨#[]⟩;have⟨a,_,c⟩:=qq ws p l (fG ws 2 ⟨#[]⟩ (kH ws p l)) (gM ws 2 ⟨#[]⟩ (kH ws p l));exact⟨by rw[a];exact b.lt,by rw[a,c];exact b.used⟩
theorem Fc (H:jY ws)(h:iC ws p)(l:aA):iC ws (tH ws p l):=fQ H (Fb H h l) 0 ⟨#[59]⟩
theorem PH (ws:List W)(p:PS)(l:aA):p.i<=(tH ws p l).i:=by
 refine aL ?_ (ik ws 0 ⟨#[59]⟩ _);rw[(qq ws p l _ _).1];refine aL ?_ (ik ws 2 ⟨#[]⟩ (kH ws p l));refine aL ?_ (ik ws 0 ⟨#[61]⟩ (uU ws p l));rw[(qp ws p l).1];exact ik _ _ _ _
theorem GA (h:(tH ws p l).bad<0):p.bad<0/\p.i+1<=(tH ws p l).i:=by
 have⟨a,c,_⟩:=ji (p:=if 2147483647<iR (gM ws 2 ⟨#[]⟩ (kH ws p l)).1 then sY (gM ws 2 ⟨#[]⟩ (kH ws p l)) (fG ws 2 ⟨#[]⟩ (kH ws p l))else fG ws 2 ⟨#[]⟩ (kH ws p l)) h;rw[(qq ws p l _ _).2.1]at a;have⟨f,i,_⟩:=ji a;have⟨b,d,_⟩:=ji (p:=uU ws p l) f;rw[(qp ws p l).2.1]at b;have⟨g,j,_⟩:=ji b;refine⟨g,?_⟩;have e:(tH ws p l).i=(if 2147483647<iR (gM ws 2 ⟨#[]⟩ (kH ws p l)).1 then sY (gM ws 2 ⟨#[]⟩ (kH ws p l)) (fG ws 2 ⟨#[]⟩ (kH ws p l))else fG ws 2 ⟨#[]⟩ (kH ws p l)).i+1:=c;rw[(qq ws p l _ _).1]at e;have k:(kH ws p l).i=(uU ws p l).i+1:=d;have m:=(qp ws p l).1;omega
theorem Dy (l:aA)(h:iC ws p)(a:p.bad<0):fo ws (tH ws p l)<fo ws p:=by
 have:=h.lt;unfold fo;rw[dH a];split;.next h1=>have:=(GA h1).2;omega
 .omega
def nX (ws:List W)(p:PS):PS:=if eC p.names (gM ws 1 ⟨#[]⟩ p).1 then sY (gM ws 1 ⟨#[]⟩ p) (xq (gM ws 1 ⟨#[]⟩ p) (fG ws 1 ⟨#[]⟩ p))else xq (gM ws 1 ⟨#[]⟩ p) (fG ws 1 ⟨#[]⟩ p)
def rI (ws:List W)(p:PS):PS:=fG ws 0 ⟨#[123]⟩ {nX ws p with names:=p.names++ [(gM ws 1 ⟨#[]⟩ p).1],enums:=p.enums++ [(gM ws 1 ⟨#[]⟩ p).1]}
def BD (ws:List W)(p:PS):PS:=fG ws 0 ⟨#[125]⟩ (se ws ws.length (rI ws p) [])
end
end Go.Proofs.YtfebdimolnobaaaGreatDoor
