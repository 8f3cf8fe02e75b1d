import Derived.Test.YtfebdimolnobaaaGreatDoorItD
set_option maxRecDepth 100000
set_option maxHeartbeats 8000000
set_option linter.all false
namespace Go.Proofs.YtfebdimolnobaaaGreatDoor
open Go.RowKit Go.Proofs.Tryz
section
open VH
def NU (x:PV)(mv:Value):Value:= .agg #[.int .u64 x.1,.string x.2.1,mv,.string x.2.2.unk]
def TG (t:Nat):Bool:=decide (t=0)||decide (t=1)||decide (t=4)||decide (t=5)||decide (t=9)||decide (t=10)
def oC (t:Nat)(a b:PV):Bool:=if TG t=true then decide (Dy a.1<Dy b.1)else if t=13 then Op.bytesLess a.2.1.toList b.2.1.toList else decide (a.1<b.1)
def RE (w:World)(t:Nat)(x y:PV)(mx my:Value)(f:t∈ig)(r:0<=x.1)(u:x.1<2^64)(z:0<=y.1)(A:y.1<2^64):
  Calls prog 107 #[.int .i64 t,NU x mx,NU y my] w λe w'=>e= .returned (.bool (oC t x y))/\Below w.heap.size w w':=by
 obtain⟨n,s,m⟩:=x;obtain⟨l,o,k⟩:=y;unfold NU;simp only at r u z A⊢;have⟨B,a,c⟩:=gN w #[.int .u64 n,.string s,mx,.string m.unk] #[.int .u64 l,.string o,my,.string k.unk] 55 55;have⟨g,h⟩:=a.I;have⟨i,j⟩:=c.I;have d:t=0\/t=1\/t=2\/t=3\/t=4\/t=5\/t=6\/t=7\/t=8\/t=9\/t=10\/t=13:=by simpa [ig]using f
 rcases d with rfl|rfl|rfl|rfl|rfl|rfl|rfl|rfl|rfl|rfl|rfl|rfl
 all_goals
  go_in
  go_wp2;go_ret;refine⟨dV (λb:Bool=>Ending.returned (.bool b)) ?_,B⟩;clear g h i j a c B;first|rfl|(simp only[oC,TG,Dy,wrap64,decide_true,dH,if_true,decide_false,de,Nat.reduceEqDiff,Nat.one_ne_zero];rw[decide_eq_decide];split<;>split<;>omega)
abbrev Mk:=Nat->Nat->PM×Nat
def EH:List (List UInt8):= [[],[97],[104,101,108,108,111],[195,169],[0]]
def Gw (z:Bool)(k:Nat):ByteArray:=if k=0/\z=true then bl [98]else bl ((EH[k]?).getD [])
def EI (z:Bool)(n:Nat):Int:=if n=0/\z=true then 1 else n
def fF (sub:Mk)(raw:List Int)(t:Nat)(z:Bool)(p:Nat):PV×Nat:=
 if 15<t then((0,eS,(sub (t-16) p).1),(sub (t-16) p).2)
 else if t=13\/t=14 then((0,Gw z (iY raw p 5),PM.none),p+1)
 else((EI z (zg raw p t),eS,PM.none),p+2)
def Od (N gb b:Nat):Prop:=b<N/\b≠gb
structure Cx (w:World)(N gb:Nat)(raw:List Int)(p:Nat)(v:Value)(vs:List Value)(L:List (List F3)):Prop where
 gv:Gv w (Od N gb) gb raw p
 row:iz w (Od N gb) v L.length vs
 at_:NT w (Od N gb) vs L
 lt:gb<N
 le:N<=w.heap.size
section
variable {w w':World} {N gb p q:Nat} {raw:List Int} {v:Value} {vs:List Value} {L:List (List F3)}
def Cx.step (h:Cx w N gb raw p v vs L)(k:ee [gb] w w')(g:Gv w' (Od N gb) gb raw q):Cx w' N gb raw q v vs L:=
 have a:∀b,Od N gb b->b<w.heap.size->w'.heap[b]?=w.heap[b]?:=λb y l=>k.block b l (by simp only[ba];exact y.2)
 ⟨g,h.row.O a,h.at_.O a,h.lt,aM h.le k.size⟩
def Gv.G (h:Gv w (Od N gb) gb raw p)(hl:gb<w.heap.size)(k:Below w.heap.size w w'):Gv w' (Od N gb) gb raw p:=h.O (k.block _ hl) λb _ l=>k.block b l
def Cx.G (h:Cx w N gb raw p v vs L)(k:Below w.heap.size w w'):Cx w' N gb raw p v vs L:=h.step (ee.oB k) (h.gv.G (aI h.lt h.le) k)
def Gv.set (h:Gv w (Od N gb) gb raw p)(hl:gb<N){c:Nat}(a:N<=c)(o:Nat)(u:Value):Gv (w.setCell ⟨c,o,none⟩ u) (Od N gb) gb raw p:=h.O (eV _ Vv) λb q _=>eV _ (by have:=q.1;omega)
def Gv.grown (h:Gv w (Od N gb) gb raw p)(hl:gb<N)(le:N<=w.heap.size){t:Option Nat}(a:w.grownBy w' t)(c:∀g,t=some g->N<=g):Gv w' (Od N gb) gb raw p:=h.O (a.block _ Vv (λe=>by have:=c _ e.sy;omega)) λb q l=>a.block b l (λe=>by have:=c _ e.sy;have:=q.1;omega)
def gV.set {k:Nat}{mv:Value}{m:PM}{c:Nat}(h:gV k w (λb=>c<b) mv m)(o:Nat)(u:Value):gV k (w.setCell ⟨c,o,none⟩ u) (λb=>c<b) mv m:=h.O λb q _=>eV _ Vv
end
def In (k:Nat)(w:World)(N gb:Nat)(raw:List Int)(r:PM×Nat)(e:Ending)(w':World):Prop:=
 ∃mv,e= .returned (.agg #[mv,.string r.1.unk])/\gV k w' (λb=>w.heap.size<=b) mv r.1/\Gv w' (Od N gb) gb raw r.2/\ee [gb] w w'
def Qn (k:Nat)(w:World)(N gb:Nat)(raw:List Int)(r:PV×Nat)(e:Ending)(w':World):Prop:=
 ∃mv,e= .returned (NU r.1 mv)/\gV k w' (λb=>w.heap.size<=b) mv r.1.2.2/\Gv w' (Od N gb) gb raw r.2/\ee [gb] w w'
def gV.none (k:Nat)(w:World)(Z:Nat->Prop):gV (k+1) w Z (.slice Option.none 0 0) PM.none:=⟨[],⟨Option.none,0,rfl,aE _,λh=>absurd h (by simp[PM.none,PM.fs])⟩,rfl⟩
def zh {k N gb q:Nat}{raw:List Int}{w w2 w3:World}(f:Below w.heap.size w w2)(j:w2.heap.size=w.heap.size+1+1)(a:gb<N)(i:N<=w.heap.size)(x:PV){mv:Value}(h:ee [gb] w2 w3)(g:Gv w3 (Od N gb) gb raw q)(hm:gV (k+1) w3 (λb=>w2.heap.size<=b) mv x.2.2):
  Qn (k+1) w N gb raw (x,q) (.returned (NU x mv)) ((((w3.setCell ⟨w.heap.size+1,0,none⟩ (.int .u64 x.1)).setCell ⟨w.heap.size+1,1,none⟩ (.string x.2.1)).setCell ⟨w.heap.size+1,2,none⟩ mv).setCell ⟨w.heap.size+1,3,none⟩ (.string x.2.2.unk)):=by
 have c:N<=w.heap.size+1:=Vv;have d:gV (k+1) w3 (λb=>w.heap.size+1<b) mv x.2.2:=hm.V λb q _=>Vv
 have e:ee [gb] w w3:=(ee.oB f).J h;exact⟨mv,rfl,((((d.set 0 _).set 1 _).set 2 _).set 3 _).V λb q _=>Vv,(((g.set a c 0 _).set a c 1 _).set a c 2 _).set a c 3 _,(((e.fresh1 (bH _) 0 _).fresh1 (bH _) 1 _).fresh1 (bH _) 2 _).fresh1 (bH _) 3 _⟩
def xj (k:Nat)(w:World)(N gb:Nat)(raw:List Int)(p:Nat)(v:Value)(vs:List Value)(L:List (List F3))(sub:Mk)(t deep:Nat)(z:Bool)(D:Cx w N gb raw p v vs L)(g:(fF sub raw t z p).2<4398046511104)(b:t<19)(a:deep<10)
  (M:15<t->∀W,Cx W N gb raw p v vs L->Vq 30 #[.agg #[v],.pointer (some ⟨gb,0,none⟩),.int .i64 (t-16:Nat),.int .i64 (deep+1:Nat)] W (In (k+1) W N gb raw (sub (t-16) p))):
  Calls prog 63 #[.agg #[v],.pointer (some ⟨gb,0,none⟩),.int .i64 t,.int .i64 deep,.bool z] w (Qn (k+1) w N gb raw (fF sub raw t z p)):=by
 obtain⟨I,J,rfl⟩:=D.row.form;have⟨B,i,y⟩:=gN w #[.slice I L.length J] #[.int .u64 0,.string ⟨#[]⟩,.slice none 0 0,.string ⟨#[]⟩] 68 55;have A:=D.G B;have o:=D.le;have m:=D.lt;have j:((w.alloc (Obj.cells #[.slice I L.length J] 68)).alloc (Obj.cells #[.int .u64 0,.string ⟨#[]⟩,.slice none 0 0,.string ⟨#[]⟩] 55)).heap.size=w.heap.size+1+1:=Vw;unfold fF at g⊢;by_cases h15:15<t
 .rw[dR h15]at g⊢;have G:=M h15 _ A;have T:(15:Int)<(t:Int):=Vv;rw[show((t-16:Nat):Int)=(t:Int)-16 by omega,show((deep+1:Nat):Int)=(deep:Int)+1 by omega]at G;have⟨Y,Z⟩:=i.I;go_in
  go_wp2_with fail;refine G.V ?_;rintro e w3 ⟨b,rfl,O,f,a⟩;have b:=y.kept a Vx;have⟨E,F⟩:=b.I;obtain⟨c,d,rfl⟩:=O.form;clear G Y Z i A;generalize sub (t-16) p=r at*;go_wp2;exact dU (ew results63 _ _ rfl ((((b.set 0 _).set 1 _).set 2 _).set 3 _) underlying55 VA) rfl (zh B j m o (0,eS,r.1) a f O)
 .rw[dQ h15]at g⊢;have T:¬(15:Int)<(t:Int):=Vv;have l:=A.gv;clear M A;by_cases h13:t=13\/t=14
  .rw[dR h13]at g⊢;simp only at g;have⟨x,P⟩:=ec ((w.alloc (Obj.cells #[.slice I L.length J] 68)).alloc (Obj.cells #[.int .u64 0,.string ⟨#[]⟩,.slice none 0 0,.string ⟨#[]⟩] 55)) #[.string ⟨#[]⟩,.string ⟨#[97]⟩,.string ⟨#[104,101,108,108,111]⟩,.string ⟨#[195,169]⟩,.string ⟨#[0]⟩] 9;have d:=mJ _ _ _ raw p 5 (l.G Vv x) Vy Vv;have V:iY raw p 5<5:=ia _ Vy;generalize iY raw p 5=c at*;have K:c=0\/c=1\/c=2\/c=3\/c=4:=Vv
   have u:∀w3:World,ee [gb] _ w3->w3.cell? ⟨w.heap.size+1+1,c,none⟩=some (.string (bl ((EH[c]?).getD []))):=λw3 a=>by
    have h:=(P.kept a Vx).cell c;rw[j]at h;rw[h];rcases K with rfl|rfl|rfl|rfl|rfl<;>rfl
   have C:∀w3:World,ee [gb] _ w3->dZ w3 (w.heap.size+1) _ 55:=λw3 a=>(y.G x Vv).kept a Vx
   have U:(c:Int)<5:=Vv;by_cases H:c=0
   .subst H;have R:bl ((EH[0]?).getD [])=⟨#[]⟩:=rfl;rw[R]at u;rcases h13 with rfl|rfl<;>cases z
    all_goals
     go_in
     go_wp2_with fail;refine d.V ?_;rintro e w3 ⟨rfl,f,a⟩;have b:=C w3 a;have⟨E,F⟩:=b.I;have Q:=u w3 a;clear d u C i l;go_wp2;exact dU (ew results63 _ _ rfl ((((b.set 0 _).set 1 _).set 2 _).set 3 _) underlying55 VA) rfl (zh B j m o (0,_,PM.none) ((ee.oB x).J a) f (gV.none k w3 _))
   .have n:(bl ((EH[c]?).getD [])).toList.isEmpty=false:=(by rw[ByteArray.toList_eq,iJ];rcases K with rfl|rfl|rfl|rfl|rfl<;>first|rfl|exact absurd rfl H);have S:Gw z c=bl ((EH[c]?).getD []):=by unfold Gw;rw[dQ λh=>H h.1]
    rw[S];generalize bl ((EH[c]?).getD [])=s at*;rcases h13 with rfl|rfl
    all_goals
     go_in
     go_wp2_with fail;refine d.V ?_;rintro e w3 ⟨rfl,f,a⟩;have b:=C w3 a;have⟨E,F⟩:=b.I;have Q:=u w3 a;clear d u C i l;go_wp2;exact dU (ew results63 _ _ rfl ((((b.set 0 _).set 1 _).set 2 _).set 3 _) underlying55 VA) rfl (zh B j m o (0,s,PM.none) ((ee.oB x).J a) f (gV.none k w3 _))
  .rw[dQ h13]at g⊢;simp only at g;have d:=MO _ _ _ raw p t l Vv;have c:((t:Int)==13)=false:=Vx;have c:((t:Int)==14)=false:=Vx;unfold EI;generalize zg raw p t=n at*;by_cases hn:n=0
   .subst hn;cases z
    all_goals
     go_in
     go_wp2_with fail;refine d.V ?_;rintro e w3 ⟨rfl,f,a⟩;have b:=y.kept a Vx;have⟨E,F⟩:=b.I;clear d i l;go_wp2;exact dU (ew results63 _ _ rfl ((((b.set 0 _).set 1 _).set 2 _).set 3 _) underlying55 VA) rfl (zh B j m o (_,eS,PM.none) a f (gV.none k w3 _))
   .rw[dQ λh=>hn h.1];have X:((n:Int)==0)=false:=by simpa using hn
    go_in
    go_wp2_with fail;refine d.V ?_;rintro e w3 ⟨rfl,f,a⟩;have b:=y.kept a Vx;have⟨E,F⟩:=b.I;clear d i l;go_wp2;exact dU (ew results63 _ _ rfl ((((b.set 0 _).set 1 _).set 2 _).set 3 _) underlying55 VA) rfl (zh B j m o (n,eS,PM.none) a f (gV.none k w3 _))
def xk (e:PV):PV:=
 match e.2.2.fs with
 |(_,k::_)::_=>k
 |_=>PV.none
def oD (k v:PV):PV:=(0,eS,.mk [(1,[k]),(2,[v])] eS)
def mw (t:Nat)(k:PV):List PV->Nat
 | []=>0
 |e::l=>if oC t (xk e) k=true then mw t k l+1 else 0
def EJ (t:Nat)(k:PV)(l:List PV):Bool:=
 match l[mw t k l]? with
 |some e=>((xk e).1==k.1)&&((xk e).2.1.toList==k.2.1.toList)
 |none=>false
def pI (t:Nat)(k v:PV)(l:List PV):List PV:=if EJ t k l=true then l else l.take (mw t k l)++oD k v::l.drop (mw t k l)
def gZ (sub:Mk)(raw:ar)(t ky p:Nat):Nat->List PV×Nat
 |0=>([],p)
 |j+1=>
  (pI ky (fF sub raw ky false (gZ sub raw t ky p j).2).1 (fF sub raw t false (fF sub raw ky false (gZ sub raw t ky p j).2).2).1 (gZ sub raw t ky p j).1,
   (fF sub raw t false (fF sub raw ky false (gZ sub raw t ky p j).2).2).2)
def Gx (t:Nat)(k:PV):∀l,mw t k l<=l.length
 | []=>aE _
 |e::l=>by
  rw[mw];have:=Gx t k l;split<;>simp<;>omega
def MP {t:Nat}{k:PV}{l:List PV}{i:Nat}{e:PV}(h:l[i]?=some e)(b:oC t (xk e) k=true):i+mw t k (l.drop i)=(i+1)+mw t k (l.drop (i+1)):=by
 have a:i<l.length:=(bn.1 h).1;rw[be a,mw];rw[aO a]at h;cases h;rw[dR b];omega
def MQ {t:Nat}{k:PV}{l:List PV}{i:Nat}{e:PV}(h:l[i]?=some e)(b:oC t (xk e) k=false):mw t k (l.drop i)=0:=by
 have a:i<l.length:=(bn.1 h).1;rw[be a,mw];rw[aO a]at h;cases h;rw[dQ (by simp[b])]
def Uo (e:PV):Prop:=∃k v,e=oD k v/\0<=k.1/\k.1<2^64
def Io {sub:Mk}{raw:ar}{t p:Nat}{z:Bool}(b:t∈ig):0<=(fF sub raw t z p).1.1/\(fF sub raw t z p).1.1<2^64:=by
 have a:¬15<t:=by simp[ig]at b;omega
 unfold fF;rw[dQ a];by_cases h:t=13\/t=14;.rw[dR h];simp
 .rw[dQ h];unfold EI
  have:zg raw p t<2^64:=by
   have c:iY raw p 1073741824<1073741824:=ia _ Vv;unfold zg;have:yZ (iY raw p 1073741824) (iY raw (p+1) 6)<2^64:=by unfold yZ;(repeat' split)<;>omega
   unfold JI
   (repeat' split)<;>omega
  split<;>simp only<;>omega
def RF {t:Nat}{k v:PV}{l:List PV}(h:∀e∈l,Uo e)(b:0<=k.1)(h1:k.1<2^64):∀e∈pI t k v l,Uo e:=by
 intro e a;unfold pI at a;split at a;.exact h e a
 .rcases aW.1 a with a|a;.exact h e (List.mem_of_mem_take a)
  .rcases aR.1 a with rfl|a;.exact⟨k,v,rfl,b,h1⟩
   .exact h e (cJ a)
def Pt {t:Nat}{k v:PV}{l:List PV}:(pI t k v l).length<=l.length+1:=by
 unfold pI;have:=Gx t k l;split<;>simp<;>omega
def MR {sub:Mk}{raw:ar}{t ky p:Nat}(a:ky∈ig):∀j,(∀e∈(gZ sub raw t ky p j).1,Uo e)/\(gZ sub raw t ky p j).1.length<=j
 |0=>⟨λe h=>(by cases h),aE _⟩
 |j+1=>by
  have ih:=MR (sub:=sub) (raw:=raw) (t:=t) (p:=p) a j;rw[gZ];have b:=Io (sub:=sub) (raw:=raw) (p:=(gZ sub raw t ky p j).2) (z:=false) a;exact⟨RF ih.1 b.1 b.2,aM Pt Vv⟩
def CK (k:Nat)(w:aw)(n:Nat)(ov:Value)(l:List PV):Prop:=∃cs,eP w (λb=>n<=b) 55 4 ov l.length cs/\kC (gV (k+2) w (λb=>n<=b)) cs l
def kC.split {P:Value->PM->Prop}:∀(a:Nat) {l:List PV} {cs:ay},kC P cs l->kC P (cs.take (a*4)) (l.take a)/\kC P (cs.drop (a*4)) (l.drop a)
 |0,l,cs,h=>by simpa using⟨(rfl:kC P [] []),h⟩
 |a+1,[],cs,h=>by
  obtain rfl:cs= []:=h;simp only[List.take_nil,List.drop_nil]
  exact⟨rfl,rfl⟩
 |a+1,v::l,_,⟨mv,rest,rfl,h2,h3⟩=>by
  have:=kC.split a h3;rw[show(a+1)*4=a*4+1+1+1+1 by omega];simp only[cZ,List.drop_succ_cons];exact⟨⟨mv,_,rfl,h2,this.1⟩,this.2⟩
def iz.ofBlk {w:aw}{Z:ax}{b:Nat}{cs:aq}{T:TypeId}(K:dZ w b cs T)(d:Z b)(n:Nat):iz w Z (Vr b n n) n cs.toList:=
 ⟨_,_,rfl,aE _,λ_=>⟨(aj b 0),rfl,d,K.lt,λ_ c p u a=>bz (c.J K) p u a⟩⟩
def Pv {k:Nat}{w:aw}{Z:ax}{a b f:Nat}{x y:PV}{xm ym:Value}{T T' T'':TypeId}(A:dZ w a #[.int .u64 x.1,ag x.2.1,xm,ag x.2.2.unk] T)(B:dZ w b #[.int .u64 y.1,ag y.2.1,ym,ag y.2.2.unk] T')
  (F:dZ w f #[aa 1,Vr a 1 1,aa 2,Vr b 1 1] T'') (c:gV (k+1) w Z xm x.2.2) (d:gV (k+1) w Z ym y.2.2) (e:Z a) (g:Z b) (h:Z f):gV (k+2) w Z (Vr f 2 2) (oD x y).2.2:=
 ⟨_,iz.ofBlk F h 2,⟨_,_,rfl,⟨_,iz.ofBlk A e 1,_,_,rfl,c,rfl⟩,_,_,rfl,⟨_,iz.ofBlk B g 1,_,_,rfl,d,rfl⟩,rfl⟩⟩
def MS {w W:aw}{a b c d e:aq}{A B C D E:TypeId}(h:((((w.alloc (Obj.cells a A)).alloc (Obj.cells b B)).alloc (Obj.cells c C)).alloc (Obj.cells d D)).alloc (Obj.cells e E)=W):ak w W/\dZ W (w.heap.size+1) b B/\dZ W (w.heap.size+1+1) c C/\dZ W (w.heap.size+1+1+1) d D/\dZ W (w.heap.size+1+1+1+1) e E:=by
 subst h;have f:=dZ.new (w.alloc (Obj.cells a A)) b B;have g:=dZ.new ((w.alloc (Obj.cells a A)).alloc (Obj.cells b B)) c C;have i:=dZ.new (((w.alloc (Obj.cells a A)).alloc (Obj.cells b B)).alloc (Obj.cells c C)) d D;have j:=dZ.new ((((w.alloc (Obj.cells a A)).alloc (Obj.cells b B)).alloc (Obj.cells c C)).alloc (Obj.cells d D)) e E;simp only[ci]at f g i j;exact⟨(((((Vt w _).alloc Vw _).alloc Vx _).alloc Vx _).alloc Vx _),((f.alloc _).alloc _).alloc _,(g.alloc _).alloc _,i.alloc _,j⟩
def CK.O {k n:Nat}{w w':aw}{ov:Value}{l:List PV}(h:CK k w n ov l)(a:∀b,n<=b->b<w.heap.size->w'.heap[b]?=w.heap[b]?):CK k w' n ov l:=by
 obtain⟨cs,c,d⟩:=h;exact⟨cs,c.O a,d.imp λ_ _ h=>h.O a⟩
def EK {k:Nat}{w:aw}{Z:ax}{cs:ay}{l:List PV}{i:Nat}{ek ev:PV}(h:kC (gV (k+2) w Z) cs l)(C:l[i]?=some (oD ek ev)):
  ∃(ad ae:Addr) (mc nc:Nat) (VV:aC) (VW:Nat),cs[i*4+2]?=some (.slice (some ad) 2 mc)/\∀W:aw,(∀b,Z b->b<w.heap.size->W.heap[b]?=w.heap[b]?)->
   W.cell? (aj ad.block (ad.off+1))=some (.slice (some ae) 1 nc)/\W.cell? ae=some (.int .u64 ek.1)/\W.cell? (aj ae.block (ae.off+1))=some (ag ek.2.1)/\W.cell? (aj ae.block (ae.off+2))=some (.slice VV ek.2.2.fs.length VW)/\W.cell? (aj ae.block (ae.off+3))=some (ag ek.2.2.unk):=by
 have⟨L,⟨v,f,t⟩,E,F,s,G⟩:=h.get C;have⟨N,⟨D,g,x⟩,H,u⟩:=t.get (i:=0) rfl;obtain⟨J,rest,rfl,z,I⟩:=x;obtain⟨VV,VW,rfl⟩:=z.form;obtain⟨K,mc,rfl⟩:=f.form;obtain⟨M,nc,rfl⟩:=g.form;obtain⟨ad,rfl,n,o,p⟩:=f.at (by simp[oD,PM.fs]);obtain⟨ae,rfl,q,r,c⟩:=g.at Vw
 have d:∀{W:aw} {a:Addr} {j:Nat} {y:Option Value},W.cell? (a.add (j+1))=y->W.cell? (aj a.block (a.off+(j+1)))=y:=fun{W a j y} h=>by
  have B:W.cell? (a.add (0+(j+1)))=y:=by rw[Nat.zero_add];exact h
  have:=lK B
  rwa [Jf]at this
 refine⟨ad,ae,mc,nc,VV,VW,s,λW m=> ?_⟩;have A:=m _ n o;have e:=m _ q r;exact⟨d (p W A 1 _ u),by have:=c W e 0 _ rfl;rwa [Jf]at this,d (c W e 1 _ rfl),d (c W e 2 _ rfl),d (c W e 3 _ rfl)⟩
def JK (k:Nat)(w:aw)(N gb:Nat)(raw:ar)(p:Nat)(v:Value)(vs:ay)(L:List (List F3))(sub:Mk)(t h ky deep:Nat)(hC:Cx w N gb raw p v vs L)
  (hi:∀j,j<=iY raw p 4+1->(gZ sub raw t ky (p+1) j).2<4398046511104) (hv2:∀q,q<=(fF sub raw t false q).2) (ht:t<19) (H:ky∈ig) (hd:deep<9)
  (hS:15<t->∀W q,Cx W N gb raw q v vs L->(sub (t-16) q).2<4398046511104->Vq 30 #[.agg #[v],ah gb,aa (t-16:Nat),aa (deep+1+1:Nat)] W (In (k+1) W N gb raw (sub (t-16) q))):
  Calls prog 64 #[.agg #[v],ah gb,.agg #[aa t,aa h,aa ky],aa deep] w λe w'=>∃ov,e= .returned ov/\CK k w' w.heap.size ov (gZ sub raw t ky (p+1) (iY raw p 4+1)).1/\Gv w' (Od N gb) gb raw (gZ sub raw t ky (p+1) (iY raw p 4+1)).2/\ee [gb] w w':=by
 obtain⟨va,vc,rfl⟩:=hC.row.form;have⟨B,K1,K2⟩:=gN w #[.slice va L.length vc] #[aa t,aa h,aa ky] 68 137;have Wz:=hC.G B;have hle:=hC.le;have VZ:=hC.lt;have hp1:p+1<4398046511104:=by have:=hi 0 Vv;simpa [gZ]using this
 have HN:=mJ _ _ _ raw p 4 Wz.gv Vy Vv;have Q:((w.alloc (am #[.slice va L.length vc] 68)).alloc (am #[aa t,aa h,aa ky] 137)).heap.size=w.heap.size+1+1:=Vw;have hc4:iY raw p 4<4:=ia _ Vy;generalize iY raw p 4=c at*;go_in
 go_wp2_with fail;refine HN.V ?_;rintro e w3 ⟨rfl,g3,Wd⟩;have C3:=Wz.step Wd g3;have WG:=K1.kept Wd Vx;have WH:=K2.kept Wd Vx;have WW:=Wd.size;rw[Q]at WW;have WX:ee [gb] w w3:=(ee.oB B).J Wd;clear HN Wz K1 K2 Wd g3 B Q hC;go_wp2;go_loopw [9,10] (λov nv wr=>∃j:Nat,j<=c+1/\nv=aa ((c:Int)-j)/\CK k wr w3.heap.size ov (gZ sub raw t ky (p+1) j).1/\Gv wr (Od N gb) gb raw (gZ sub raw t ky (p+1) j).2/\ee [gb] w3 wr) (λ_ nv _=>(intOf nv+1).toNat)
 case atStart=>exact⟨0,aP _,Vw,⟨[],eP.nil _ _ _ _,rfl⟩,C3.gv,ee.refl _ _⟩
 case round=>
  obtain⟨j,d,rfl,⟨cs,A,D⟩,hG,hk⟩:=hrel;have hE:=MR (sub:=sub) (raw:=raw) (t:=t) (p:=p+1) H j;have E:=hi (j+1);have WJ:Hid (gZ sub raw t ky (p+1) (j+1)=_):=gZ.eq_2 sub raw t ky (p+1) j;rw[gZ]at E;obtain⟨l,K⟩:∃l,Hid ((gZ sub raw t ky (p+1) j).1=l):=⟨_,rfl⟩;obtain⟨q,HQ⟩:∃q,Hid ((gZ sub raw t ky (p+1) j).2=q):=⟨_,rfl⟩;rw[K.o]at A D hE;rw[HQ.o]at hG E;simp only at E;obtain⟨oa,oc,rfl⟩:=iB A.1;have hszk:=hk.size;have zK1:=WG.lt;have zK2:=WH.lt;by_cases hjc:j<c+1
  .have hl2:(0:Int)<=(c:Int)-j:=Vv;have C4:=C3.step hk hG;have hky19:ky<14:=by simp[ig]at H;omega
   have Wq:=hv2 (fF sub raw ky false q).2;have E:=E Vv;have HK:=xj k wr N gb raw q _ vs L sub ky deep false C4 Vv Vv Vv (λh=>absurd h Vv);have Ws:=Io (sub:=sub) (raw:=raw) (p:=q) (z:=false) H;have WA:=WG.kept hk Vx;have WB:=WH.kept hk Vx;have⟨T,U⟩:=WA.I;have⟨k3,k4⟩:=WB.I;obtain⟨X,HX⟩:∃X,Hid (fF sub raw ky false q=X):=⟨_,rfl⟩;rw[HX.o]at HK E Ws Wq;obtain⟨x,q1⟩:=X;simp only at E Wq Ws;go_wp2_with fail;refine HK.V ?_;rintro e w4 ⟨mk,rfl,Wv,g4,R⟩;obtain⟨xa,xc,rfl⟩:=Wv.form;simp only at Wv g4;have C5:=C4.step R g4;have z4:=R.size;have⟨C,NX⟩:=ec w4 (Vm x xa xc) 55;have C6:=C5.G C;have Wf:=Wv.G C (aE _);have WK:=(WA.kept R Vx).G C Vv;have WC:=(WB.kept R Vx).G C Vv
   have HV:=xj k _ N gb raw q1 _ vs L sub t (deep+1) false C6 Vv Vv Vv (λh W G=>by
    have:=hS h W q1 G (by simp only[fF,dR h]at E;exact E)
    exact this)
   rw[show((deep+1:Nat):Int)=(deep:Int)+1 by omega]at HV;obtain⟨Y,HY⟩:∃Y,Hid (fF sub raw t false q1=Y):=⟨_,rfl⟩;rw[HY.o]at HV E Wq;obtain⟨y,q2⟩:=Y;simp only at E Wq;clear T U k3 k4 HK;have⟨T,U⟩:=WK.I;have⟨k3,k4⟩:=WC.I;unfold NU;go_wp2_with fail;generalize w4.alloc (Obj.cells (Vm x xa xc) 55)=w5 at*;refine HV.V ?_;rintro e w7 ⟨my,rfl,Ww,g7,F⟩;obtain⟨ya,yc,rfl⟩:=Ww.form;simp only at Ww g7;unfold NU;clear T U k3 k4 HV;have z7:=F.size;have z5:=C.size;have zx:=NX.lt;have⟨B8,NY⟩:=ec w7 (Vm y ya yc) 55;have WL:=(NX.kept F Vx).G B8 Vv;have⟨B9,NA⟩:=ec (w7.Vn (Vm y ya yc) 55) (Vm x xa xc) 55;have WN:=NY.G B9 Vw;have⟨T,U⟩:=WL.I;have⟨k3,k4⟩:=WN.I;go_upto_region 8 with fail
   generalize G:World.alloc _ _=w12;have⟨M,NA,NB,NF,NE⟩:=MS G;have WO:=((hk.J R).G C).J F;have WP:=(C6.step F g7).G M;have VQ:=(NX.kept F Vx).G M Vv;have V7:=(WC.kept F Vx).G M Vv;have WQ:=Pv (k:=k) (Z:=λb=>w3.heap.size<=b) NA NB NF ((Wf.O λb q l=>F.block b l Vx).G M (aE _)|>.V λb q _=>Vv) ((Ww.G M (aE _)).V λb q _=>Vv) Vv Vv Vv;have Wb:CK k _ w3.heap.size (.slice oa l.length oc) l:=CK.O (w:=wr) ⟨cs,A,D⟩ λb q l=>(((R.G C).J F).G M).block b l Vx
   have Wh:=WO.G M;have zx12:w3.heap.size<=w4.heap.size:=Vv;have ze12:w4.heap.size<w7.heap.size+1+1+1+1:=Vv;clear G NA NB NF M B8 NY B9 WN WL T U k3 k4 C6 C5 C4 WA WB WK WC NX C Wv Wf Ww A D WO F R g4 g7 z7 z5 zx z4;generalize w7.heap.size+1+1+1+1=eb at*;generalize w7.heap.size+1+1+1=fb at*;generalize w4.heap.size=xb at*;go_upto_block 2 with fail
   go_cut [14]from 45 to 67 (λav wc=>av=aa (mw ky x l:Nat)/\ak w12 wc)
   case first=>
    obtain⟨cs,A,D⟩:=Wb;go_wp2;go_loopw [14] (λav wx=>∃i:Nat,i<=l.length/\av=aa i/\Hid (mw ky x l=i+mw ky x (l.drop i))/\ak w12 wx) (λav _=>l.length-(intOf av).toNat)
    case atStart=>exact⟨0,aP _,rfl,by show mw ky x l=0+mw ky x (l.drop 0);simp,Below.refl _ _⟩
    case round=>
     obtain⟨i,hi2,rfl,HP,Bi⟩:=hrel;by_cases hil:i<l.length
     .have⟨e,O⟩:=gx hil;obtain⟨s,ev,rfl,r0,r1⟩:=hE.1 e (aL O);have⟨S,f,mc,nc,VV,VW,a4,Wn⟩:=EK D O;obtain⟨g,rfl,_,Wm,VJ⟩:=eJ A.1 Vv;have WD:(i:Int)<(l.length:Int):=Vv
      have HS:Hid (∀W:aw,ak w12 W->W.cell? (aj (w.heap.size+1) 2)=some (aa ky)/\W.cell? (aj g (i*4+2))=some (.slice (some S) 2 mc)/\(W.cell? (aj S.block (S.off+1))=some (.slice (some f) 1 nc)/\W.cell? f=some (.int .u64 s.1)/\W.cell? (aj f.block (f.off+1))=some (ag s.2.1)/\W.cell? (aj f.block (f.off+2))=some (.slice VV s.2.2.fs.length VW)/\W.cell? (aj f.block (f.off+3))=some (ag s.2.2.unk))/\(∀o,W.cell? (aj xb o)=(Vm x xa xc)[o]?)):=λW G=>
       ⟨(V7.G G V7.lt).cell 2,VJ W (G.block _ Wm) _ _ a4,Wn W λb _ l=>G.block b l,(VQ.G G VQ.lt).cell⟩
      have K:=RE wr.drew ky s x (.slice VV s.2.2.fs.length VW) (.slice xa x.2.2.fs.length xc) H r0 r1 Ws.1 Ws.2;unfold NU at K;go_upto_region 10 with fail
      go_region_held2 (λW=>W.cell? (aj (w.heap.size+1) 2)=some (aa ky)/\W.cell? (aj g (i*4+2))=some (.slice (some S) 2 mc)/\(W.cell? (aj S.block (S.off+1))=some (.slice (some f) 1 nc)/\W.cell? f=some (.int .u64 s.1)/\W.cell? (aj f.block (f.off+1))=some (ag s.2.1)/\W.cell? (aj f.block (f.off+2))=some (.slice VV s.2.2.fs.length VW)/\W.cell? (aj f.block (f.off+3))=some (ag s.2.2.unk))/\(∀o,W.cell? (aj xb o)=(Vm x xa xc)[o]?))
       (first|exact HS.o _ (dW Bi.drew c2)|exact HS.o _ Bi.drew)
       (first|(go_at_call 107;refine K.V ?_;rintro en w2 ⟨rfl,c2⟩))
      have Bj:=dW Bi.drew c2;clear HS K VJ Wn;cases ha:oC ky s x
      .have HZ:Hid (mw ky x l=i):=by rw[HP.o,MQ O ha];exact rfl
       go_wp2;go_meet
       case rel=>exact⟨by rw[HZ.o],Bj⟩
      .have HZ:Hid (mw ky x l=i+1+mw ky x (l.drop (i+1))):=by rw[HP.o];exact MP O ha
       go_wp2;go_roundw
       case rel=>exact⟨i+1,Vv,by go_num,HZ,Bj⟩
       case measure=>simp[intOf];omega
     .obtain rfl:i=l.length:=Vv;have WD:¬(l.length:Int)<(l.length:Int):=Vv;go_wp2;go_meet
      case rel=>exact⟨by rw[HP.o];simp[mw],Bi⟩
   case rest=>
    obtain⟨rfl,P⟩:=hcut;have WR:=Gx ky x l;obtain⟨a,HA⟩:∃a,Hid (mw ky x l=a):=⟨_,rfl⟩;rw[HA.o]at WR⊢
    have hT:Hid (EJ ky x l=match l[a]? with
     |some e=>((xk e).1==x.1)&&((xk e).2.1.toList==x.2.1.toList)
     |none=>false):=by unfold Hid EJ;rw[HA.o]
    go_upto_region 13 with fail
    go_cut [105]from 68 to 105 (λbv wx=>bv= .bool (EJ ky x l)/\ak w12 wx)
    case first=>
     obtain⟨cs,A,D⟩:=Wb;have⟨T,U⟩:=(VQ.G P VQ.lt).I;by_cases WU:a<l.length
     .have⟨e,O⟩:=gx WU;obtain⟨s,ev,rfl,r0,r1⟩:=hE.1 e (aL O);have⟨S,f,mc,nc,VV,VW,a4,Wn⟩:=EK D O;obtain⟨g,rfl,_,Wm,VJ⟩:=eJ A.1 Vv;have WD:(a:Int)<(l.length:Int):=Vv;have s1:=VJ wc (P.block _ Wm) _ _ a4;have⟨s3,s4,s5,s6,s7⟩:=Wn wc λb _ l=>P.block b l
      have HR:Hid (EJ ky x l=((s.1==x.1)&&(s.2.1.toList==x.2.1.toList))):=by rw[hT.o,O];rfl
      clear VJ Wn;cases h1:(s.1==x.1)
      .go_quiet (fail);go_wp2;go_meet
       case rel=>exact⟨by rw[HR.o,h1];rfl,iu P _⟩
      .cases h2:(s.2.1.toList==x.2.1.toList)
       all_goals
        go_quiet (fail);go_wp2;go_meet
        case rel=>exact⟨by rw[HR.o,h1,h2];rfl,iu P _⟩
     .have WD:¬(a:Int)<(l.length:Int):=Vv;have HR:Hid (EJ ky x l=false):=by rw[hT.o,bg Vv];exact rfl
      go_quiet (fail);go_wp2;go_meet
      case rel=>exact⟨by rw[HR.o],iu P _⟩
    case rest=>
     obtain⟨rfl,Bd⟩:=hcut;have Cd:=WP.G Bd;have kd:=Wh.G Bd;have WS:=Wb.O (w':=wc) λb _ l=>Bd.block b l
     have WY:=WQ.G Bd (aE _);have WT:=NE.G Bd NE.lt;have zc:=Bd.size;clear P hT WP Wh Wb WQ NE V7 VQ VZ Bd;cases hh:EJ ky x l
     .have HI:Hid (gZ sub raw t ky (p+1) (j+1)=(l.take a++oD x y::l.drop a,q2)):=(by rw[WJ.o,K.o,HQ.o,HX.o];simp only;rw[HY.o];unfold pI;rw[hh,HA.o];exact rfl);obtain⟨cs,A,D⟩:=WS;have hcap:=A.rd.cap;have Wk:=D.one (λv m h=>by obtain⟨a,c,rfl⟩:=h.form;rfl);have VR:=D.len;have hl4:=hE.2;have hac:(a:Int)<=(oc:Int):=Vv;have WU:(a:Int)<=(l.length:Int):=Vv;have⟨T,U⟩:=WT.I;have⟨i0,We,Wx,Wy,Q⟩:=info_parts Tryz.infoV;have VS:∀w1:aw,w1.ownsRow w1.heap.size 55 4 (ai) 0 []:=λw1=>br _ _ _ _
      have⟨Xd,Xe⟩:=D.split a
      have Wl:∀(J:aw) (v3:Value) (n:Nat) (xs:ay),ak wc J->J.ownsRow wc.heap.size 55 4 v3 n xs->n=(l.take a++oD x y::l.drop a).length->xs=cs.take (a*4)++([.int .u64 0,Vp,Vr fb 2 2,Vp]++cs.drop (a*4))->CK k J w3.heap.size v3 (gZ sub raw t ky (p+1) (j+1)).1/\Gv J (Od N gb) gb raw (gZ sub raw t ky (p+1) (j+1)).2/\ee [gb] w3 J:=λJ v3 n xs hB WE hn hx=>by
       rw[HI.o];subst hn hx;exact⟨⟨_,(eP.of WE).V λb q _=>aM kd.size q,((Xd.append (l:=l.take a) (r:=oD x y::l.drop a) (show kC _ _ (oD x y::l.drop a)from⟨_,_,rfl,WY,Xe⟩)).imp λ_ _ h=>h.G hB (aE _))⟩,Cd.gv.G (aI Cd.lt Cd.le) hB,kd.G hB⟩
      have HF:Hid _:=Wl;clear Wl;rcases A.1.2 with⟨VU,h0⟩|⟨g,cap,cur,VU,Xf,q3,q4,q5,q6,q7⟩
      .obtain rfl:l= []:=bF h0;obtain⟨rfl,rfl⟩:oa=none/\oc=0:=by cases VU;exact⟨rfl,rfl⟩
       obtain rfl:a=0:=by simpa using WR
       obtain rfl:cs= []:=bF VR
       go_wp2_with (first
        |(at_builtin;refine wpList_append_own_none rfl _ _ 56 rfl wc.heap.size 55 i0 4 underlying56 We (ai) 0 [] rfl (VS _) rfl ?_)
        |(at_builtin;refine wpList_append_own_at _ rfl _ _ 56 rfl wc.heap.size 55 i0 _ 4 64 underlying56 We Wx Wy Q rfl Vy (ai) 0 [] rfl ((VS _).alloc _) _ 1 1 [_,_,_,_] rfl rfl (qu _ _ _ _ _ _) ?h1 ?h63 ?hby ?hba ?_;rotate_right;intro v2 w6 VK VM WF Wo)
        |(at_builtin;refine wpList_append_own_none rfl _ _ 56 rfl wc.heap.size 55 i0 4 underlying56 We v2 _ _ rfl VK rfl ?_))
       case h1=>intro u I;simp at I;rcases I with rfl|rfl|rfl|rfl<;>rfl
       case h63=>unfold maxLen;omega
       case hby=>omega
       case hba=>simp
       have V:ak wc w6:=((Below.refl _ _).alloc (aE _) _).grown VM Vw (λj d=>by simp[Value.ownBlock]at d);go_roundw
       case rel=>exact⟨j+1,Vv,Vx,HF.o w6 _ _ _ V VK rfl rfl⟩
       case measure=>simp[intOf];omega
      .obtain⟨rfl,rfl⟩:oa=some (aj g 0)/\oc=cap:=by cases VU;exact⟨rfl,rfl⟩
       have Wm:g<wc.heap.size:=dZ.lt q3;have VL:=A.1.cells (g:=g) rfl
       have WZ:Hid (∀j u,(cs.take (a*4))[j]?=some u->wc.cell? (((aj g 0):Addr).add j)=some u):=λj u d=>VL j u (by
        rw[List.getElem?_take]at d;split at d;.exact d
        .cases d)
       have W5:Hid (∀w6:aw,w6.heap[g]?=wc.heap[g]?->∀j u,cs[a*4+j]?=some u->w6.cell? (aj g (a*4+j))=some u):=λw6 hw j u d=>by
        have:=VL _ _ d;rw[show((aj g 0):Addr).add (a*4+j)=(aj g (a*4+j))by unfold Addr.add;generalize a*4+j=n;by_cases h:n=0<;>simp[h]]at this;rw[bE (w':=w6) (w:=wc) hw];exact this
       clear VL Xf q3 q4 q5 q6 q7 VU;by_cases hoc:oc=a
       all_goals
        go_wp2_with (first
         |(at_builtin;refine wpList_append_own_at _ rfl _ _ 56 rfl wc.heap.size 55 i0 _ 4 64 underlying56 We Wx Wy Q rfl Vy (ai) 0 [] rfl (VS _) (aj g 0) a _ (cs.take (a*4)) rfl (by rw[bN,VR];omega) WZ.o (λu I=>Wk u (List.mem_of_mem_take I)) VC Vv (aE _) ?_;intro v1 w5 VY VN hnl5 hloc5;have W6:=WT.grown VN (by simp[Value.ownBlock]);have⟨o1,o2⟩:=W6.I)
         |(at_builtin;refine wpList_append_own_at _ rfl _ _ 56 rfl wc.heap.size 55 i0 _ 4 64 underlying56 We Wx Wy Q rfl Vy v1 _ _ rfl (VY.alloc _) _ 1 1 [_,_,_,_] rfl rfl (qu _ _ _ _ _ _) (by intro u I;simp at I;rcases I with rfl|rfl|rfl|rfl<;>rfl) VC Vv (by have:=VN.size;simp;omega) ?_;intro v2 w6 VK VM WF Wo;have C:ak wc w5:=(Below.refl _ _).grown VN (aE _) (λj d=>by simp[Value.ownBlock]at d);have V:ak wc w6:=(C.alloc C.size _).grown VM (by have:=C.size;simp;omega) (λj d=>(VY.lt j d).1))
         |(at_builtin;refine wpList_append_own_at _ rfl _ _ 56 rfl wc.heap.size 55 i0 _ 4 64 underlying56 We Wx Wy Q rfl Vy v2 _ _ rfl VK _ (l.length-a) _ (cs.drop (a*4)) rfl (by rw[List.length_drop,VR];omega) (by intro j u d;rw[dJ]at d;first|(rw[bg Vv]at d;cases d)|(have:=W5.o w6 (V.block g Wm) j u d;rwa [show((aj g (a*4)):Addr).add j=(aj g (a*4+j))by unfold Addr.add;by_cases h:j=0<;>simp[h]])) (λu I=>Wk u (cJ I)) VC Vv V.size ?_;intro v3 J Wp V9 hnl8 hloc8;have B8:ak wc J:=V.grown V9 V.size (λj d=>(VK.lt j d).1)))
        try exact⟨⟨j+1,Vv,Vx,HF.o J _ _ _ B8 Wp Vx Vw⟩,by simp[intOf];omega⟩
     .have HI:Hid (gZ sub raw t ky (p+1) (j+1)=(l,q2)):=(by rw[WJ.o,K.o,HQ.o,HX.o];simp only;rw[HY.o];unfold pI;rw[hh];exact rfl);go_wp2;go_roundw
      case rel=>exact⟨j+1,Vv,Vx,by rw[HI.o];exact WS,by rw[HI.o];exact Cd.gv,kd⟩
      case measure=>simp[intOf];omega
  .obtain rfl:j=c+1:=Vv;have hl3:¬(0:Int)<=(c:Int)-((c+1:Nat):Int):=Vv;have Wb:CK k wr w.heap.size (.slice oa l.length oc) l:=⟨cs,A.V λb q _=>Vv,D.imp λ_ _ h=>h.V λb q _=>Vv⟩;have W7:=WX.J hk;go_wp2;go_ret;exact⟨_,rfl,by rw[K.o];exact Wb,by rw[HQ.o];exact hG,W7⟩
def iG (sub:Mk)(raw:List Int)(t p:Nat):Nat->List PV×Nat
 |0=>([],p)
 |j+1=>((iG sub raw t p j).1++ [(fF sub raw t false (iG sub raw t p j).2).1],(fF sub raw t false (iG sub raw t p j).2).2)
def Gy (d t h:Nat):Bool:=(decide (15<t)&&decide (d=0))||(decide (h=4)&&decide (d=0))||(decide (h=4)&&decide (15<t)&&decide (d<2))
def Px (raw:List Int)(d t h:Nat)(one:Bool)(p:Nat):Bool:=decide (iY raw p 3=0)||Gy d t h||(decide (h=3)&&one)
def oE (s1 s2:Mk)(raw:List Int)(f:F3)(p:Nat):List PV×Nat:=
 if f.2.1=1 then iG s1 raw f.1 (p+1) (iY raw p 3+1)
 else if f.2.1=4 then gZ s2 raw f.1 f.2.2 (p+1) (iY raw p 4+1)
 else([(fF s1 raw f.1 (decide (f.2.1=0)) p).1],(fF s1 raw f.1 (decide (f.2.1=0)) p).2)
def gA (s1 s2:Mk)(raw:List Int)(d:Nat)(fs:List F3)(p:Nat):Nat->List PF×Bool×Nat
 |0=>([],false,p)
 |k+1=>
  let r:=gA s1 s2 raw d fs p k
  let f:=(fs[k]?).getD (0,0,0)
  if Px raw d f.1 f.2.1 r.2.1 r.2.2=true then(r.1,r.2.1,r.2.2+1)
  else(r.1++ [(((k+1:Nat):Int),(oE s1 s2 raw f (r.2.2+1)).1)],r.2.1||decide (f.2.1=3),(oE s1 s2 raw f (r.2.2+1)).2)
def tU:ByteArray:=⟨#[248,63,7]⟩
def kZ (s1 s2:Mk)(raw:List Int)(d:Nat)(fs:List F3)(p:Nat):PM×Nat:=
 let r:=gA s1 s2 raw d fs p fs.length
 (.mk r.1 (if iY raw r.2.2 4=0 then tU else eS),r.2.2+1)
def pd:Mk:=λ_ p=>(PM.none,p)
def gM (raw:List Int)(L:List (List F3)):Nat->Mk
 |0=>λi p=>kZ pd pd raw 0 ((L[i]?).getD []) p
 |1=>λi p=>kZ (gM raw L 0) pd raw 1 ((L[i]?).getD []) p
 |d+2=>λi p=>kZ (gM raw L (d+1)) (gM raw L d) raw (d+2) ((L[i]?).getD []) p
section
variable {sub s1 s2:Mk} {raw:List Int} {t p d:Nat}
def Up (s:Mk):Prop:=∀i p,p<=(s i p).2
def zi (h:Up sub)(z:Bool):p<=(fF sub raw t z p).2:=by
 unfold fF;split;.exact h _ _
 .split<;>simp only<;>omega
def CL (h:Up sub):∀{i j:Nat},i<=j->(iG sub raw t p i).2<=(iG sub raw t p j).2
 |i,0,hij=>by(obtain rfl:=Nat.le_zero.1 hij);exact aE _
 |i,j+1,hij=>by
  by_cases e:i=j+1;.rw[e];exact aE _
  .exact aM (CL h (show i<=j by omega)) (zi h false)
def Gz (h:Up sub){ky:Nat}:∀{i j:Nat},i<=j->(gZ sub raw t ky p i).2<=(gZ sub raw t ky p j).2
 |i,0,hij=>by(obtain rfl:=Nat.le_zero.1 hij);exact aE _
 |i,j+1,hij=>by
  by_cases e:i=j+1;.rw[e];exact aE _
  .exact aM (Gz h (show i<=j by omega)) (aM (zi h false) (zi h false))
def RI (h1:Up s1)(h2:Up s2){f:F3}:p<=(oE s1 s2 raw f p).2:=by
 unfold oE;split;.exact aM (bH _) (CL (i:=0) h1 (aP _))
 .split;.exact aM (bH _) (Gz (i:=0) h2 (aP _))
  .exact zi h1 _
def CM (h1:Up s1)(h2:Up s2){fs:List F3}:∀{i j:Nat},i<=j->(gA s1 s2 raw d fs p i).2.2<=(gA s1 s2 raw d fs p j).2.2
 |i,0,hij=>by(obtain rfl:=Nat.le_zero.1 hij);exact aE _
 |i,j+1,hij=>by
  by_cases e:i=j+1;.rw[e];exact aE _
  .refine aM (CM h1 h2 (show i<=j by omega)) ?_;rw[gA];split;.exact bH _
   .exact aM (bH _) (RI h1 h2)
def CN (h1:Up s1)(h2:Up s2){fs:List F3}:p<=(kZ s1 s2 raw d fs p).2:=
 aM (CM (i:=0) h1 h2 (aP fs.length)) (bH _)
def rx:Up pd:=λ_ _=>aE _
def vk (raw:List Int)(L:List (List F3)):∀d,Up (gM raw L d)
 |0=>λ_ _=>CN rx rx
 |1=>λ_ _=>CN (vk raw L 0) rx
 |d+2=>λ_ _=>CN (vk raw L (d+1)) (vk raw L d)
end
def vm (s:Mk)(raw:List Int)(t p:Nat):∀j,(iG s raw t p j).1.length=j
 |0=>rfl
 |j+1=>by rw[iG];simp[vm s raw t p j]
def MX (k:Nat)(w:World)(n:Nat)(lv:Value)(l:List PV):Prop:=∃cs,eP w (λb=>n<=b) 55 4 lv l.length cs/\kC (gV k w (λb=>n<=b/\some b≠lv.ownBlock)) cs l
def Ir (s1 s2:Mk)(raw:List Int)(d:Nat)(fs:List F3)(p:Nat):∀k,(gA s1 s2 raw d fs p k).1.length<=k
 |0=>aE _
 |k+1=>by
  have:=Ir s1 s2 raw d fs p k;rw[gA];split<;>simp<;>omega
def EL (k:Nat)(w:World)(n:Nat)(fv:Value)(l:List PF):Prop:=∃cs,eP w (λb=>n<=b) 58 2 fv l.length cs/\tH (gV k w (λb=>n<=b/\some b≠fv.ownBlock)) w (λb=>n<=b/\some b≠fv.ownBlock) cs l
def RJ (k N gb:Nat)(raw:List Int)(v:Value)(vs:List Value)(L:List (List F3))(sub:Mk)(deep:Nat):Prop:=
 ∀(W:World) (i p:Nat),Cx W N gb raw p v vs L->i<L.length->(sub i p).2<4398046511104->Vq 30 #[.agg #[v],.pointer (some ⟨gb,0,none⟩),.int .i64 i,.int .i64 deep] W (In k W N gb raw (sub i p))
def EL.O {k n:Nat}{w w':World}{fv:Value}{l:List PF}(h:EL k w n fv l)(a:∀b,n<=b->b<w.heap.size->w'.heap[b]?=w.heap[b]?):EL k w' n fv l:=by
 obtain⟨cs,c,e⟩:=h;exact⟨cs,c.O a,e.O (λ_ _ h=>h.O λb q l=>a b q.1 l) λb q l=>a b q.1 l⟩
def EL.lt {k n:Nat}{w:World}{fv:Value}{l:List PF}(h:EL k w n fv l)(b:Nat)(c:fv.ownBlock=some b):b<w.heap.size:=by
 obtain⟨cs,a,_⟩:=h;exact(a.1.lt b c).2
def Cx.O {w w':World}{N gb p:Nat}{raw:List Int}{v:Value}{vs:List Value}{L:List (List F3)}(h:Cx w N gb raw p v vs L)(a:∀b,b<N->w'.heap[b]?=w.heap[b]?)(c:w.heap.size<=w'.heap.size):Cx w' N gb raw p v vs L:=
 ⟨h.gv.O (a _ h.lt) λb q _=>a b q.1,h.row.O λb q _=>a b q.1,h.at_.O λb q _=>a b q.1,h.lt,aM h.le c⟩
def MX.O {k n:Nat}{w w':World}{lv:Value}{l:List PV}(h:MX k w n lv l)(a:∀b,n<=b->b<w.heap.size->w'.heap[b]?=w.heap[b]?):MX k w' n lv l:=by
 obtain⟨cs,c,e⟩:=h;exact⟨cs,c.O a,e.imp λ_ _ h=>h.O λb q l=>a b q.1 l⟩
def tH.append {P:Value->PM->Prop}{w:World}{Z:Nat->Prop}:∀{l r:List PF} {cs ds:List Value},tH P w Z cs l->tH P w Z ds r->tH P w Z (cs++ds) (l++r)
 | [],_,_,_,h,hr=>by
  obtain rfl:_= []:=h
  exact hr
 |_::_,_,_,_,⟨vv,rest,h1,h2,h3⟩,hr=>by
  subst h1;exact⟨vv,rest++_,rfl,h2,tH.append h3 hr⟩
section
variable {k n g cap:Nat} {W w':World} {lv:Value}
def Is (hl:∀b,lv.ownBlock=some b->n<=b)(VL:lv.ownBlock=some g\/g=W.heap.size)(hn:n<=W.heap.size):n<=g:=by
 rcases VL with h|h;.exact hl _ h
 .omega
def GA {b:Nat}(VL:lv.ownBlock=some g\/g=W.heap.size)(q:some b≠lv.ownBlock)(l:b<W.heap.size):b≠g:=by
 rcases VL with h|h;.exact λe=>q (by rw[h,e])
 .omega
def MY (hg:W.grownBy w' lv.ownBlock)(VL:lv.ownBlock=some g\/g=W.heap.size){mv:Value}{m:PM}(h:gV k W (λb=>n<=b/\some b≠lv.ownBlock) mv m):gV k w' (λb=>n<=b/\some b≠some g) mv m:=
 ((h.V (Y:=λb=>(n<=b/\some b≠lv.ownBlock)/\b≠g) λ_ q l=>⟨q,GA VL q.2 l⟩).O λb q l=>hg.block b l q.1.2).V λ_ q _=>⟨q.1.1,λe=>q.2 (Option.some.inj e)⟩
def RK {l:List PV}{cs news:List Value}{x:PV}(a:eP W (λb=>n<=b) 55 4 lv l.length cs)(e:kC (gV k W (λb=>n<=b/\some b≠lv.ownBlock)) cs l)(i:kC (gV k W (λb=>n<=b/\some b≠lv.ownBlock)) news [x])
  (c:w'.ownsRow 0 55 4 (.slice (some ⟨g,0,none⟩) (l.length+1) cap) (l.length+1) (cs++news)) (hg:W.grownBy w' lv.ownBlock) (VL:lv.ownBlock=some g\/g=W.heap.size) (hn:n<=W.heap.size):MX k w' n (.slice (some ⟨g,0,none⟩) (l.length+1) cap) (l++ [x]):=
 ⟨cs++news,⟨by simpa using c,λb f=>by obtain rfl:=Option.some.inj (show some g=some b from f);exact Is a.2 VL hn⟩,(e.append i).imp λ_ _ h=>MY hg VL h⟩
def RL {l:List PF}{cs news:List Value}{x:PF}(a:eP W (λb=>n<=b) 58 2 lv l.length cs)(f:tH (gV k W (λb=>n<=b/\some b≠lv.ownBlock)) W (λb=>n<=b/\some b≠lv.ownBlock) cs l)(j:tH (gV k W (λb=>n<=b/\some b≠lv.ownBlock)) W (λb=>n<=b/\some b≠lv.ownBlock) news [x])
  (c:w'.ownsRow 0 58 2 (.slice (some ⟨g,0,none⟩) (l.length+1) cap) (l.length+1) (cs++news)) (hg:W.grownBy w' lv.ownBlock) (VL:lv.ownBlock=some g\/g=W.heap.size) (hn:n<=W.heap.size):EL k w' n (.slice (some ⟨g,0,none⟩) (l.length+1) cap) (l++ [x]):=
 ⟨cs++news,⟨by simpa using c,λb i=>by obtain rfl:=Option.some.inj (show some g=some b from i);exact Is a.2 VL hn⟩,
  (((f.append j).V (Y:=λb=>(n<=b/\some b≠lv.ownBlock)/\b≠g) (Q:=gV k W (λb=>(n<=b/\some b≠lv.ownBlock)/\b≠g)) (λ_ _ h=>h.V λ_ q l=>⟨q,GA VL q.2 l⟩) λ_ q l=>⟨q,GA VL q.2 l⟩).O (Q:=gV k w' (λb=>(n<=b/\some b≠lv.ownBlock)/\b≠g)) (λ_ _ h=>h.O λb q l=>hg.block b l q.1.2) λb q l=>hg.block b l q.1.2).V (λ_ _ h=>h.V λb q _=>⟨q.1.1,λe=>q.2 (Option.some.inj e)⟩) λb q _=>⟨q.1.1,λe=>q.2 (Option.some.inj e)⟩⟩
end
def GB (w:World)(N gb:Nat)(raw:List Int)(p:Nat)(v:Value)(vs:List Value)(L:List (List F3))(s1 s2:Mk)(d i:Nat)(fs:List F3)(hD:Bf L)(hC:Cx w N gb raw p v vs L)(VO:L[i]?=some fs)(hd:d<=7)(u1:Up s1)(u2:Up s2)
  (hi:(kZ s1 s2 raw d fs p).2<4398046511104) (h1:0<d->RJ (d+1) N gb raw v vs L s1 (8-d+1)) (h2:1<d->RJ d N gb raw v vs L s2 (8-d+1+1)):
  Calls prog 30 #[.agg #[v],.pointer (some ⟨gb,0,none⟩),.int .i64 i,.int .i64 (8-d:Nat)] w (In (d+2) w N gb raw (kZ s1 s2 raw d fs p)):=by
 obtain⟨va,vc,rfl⟩:=hC.row.form;have Xi:i<L.length:=(bn.1 VO).1;have⟨hf1,hf7,Xc⟩:=hD.fs fs (aL VO);have hL3:=hD.few;have⟨vf,Xd⟩:=gx (show i<vs.length by rw[hC.at_.1];exact Xi);have Wx:=hC.at_.2 i fs vf VO Xd;obtain⟨fa,fc,rfl⟩:=Wx.form;obtain⟨ad,rfl,oa,I,Xe⟩:=hC.row.at Vv;obtain⟨af,rfl,of,lf,Xf⟩:=Wx.at Vv;have HR:Hid (∀W,ee [gb] w W->W.cell? (ad.add i)=some (.slice (some af) fs.length fc)):=λW C=>Xe W (C.block _ I (by simp;exact oa.2)) i _ Xd
 have HE:Hid (∀W,ee [gb] w W->∀k f,fs[k]?=some f->W.cell? (af.add (k*3))=some (.int .i64 f.1)/\W.cell? ⟨(af.add (k*3)).block,(af.add (k*3)).off+1,none⟩=some (.int .i64 f.2.1)/\W.cell? ⟨(af.add (k*3)).block,(af.add (k*3)).off+2,none⟩=some (.int .i64 f.2.2)):=λW C k f hf=>by
  have hq:=λj (hj:j<3) u (hu:(JJ f)[j]?=some u)=>Xf W (C.block _ lf (by simp;exact of.2)) (k*3+j) u ((gd JJ 3 (λ_=>rfl) fs k f hf j hj).J hu)
  exact⟨hq 0 Vv _ rfl,lK (hq 1 Vv _ rfl),lK (hq 2 Vv _ rfl)⟩
 clear Xe Xf Wx;have Xj:=hC.le;have VZ:=hC.lt;have WU:((decide (d=0)=true/\decide (d<2)=true)/\(8:Int)<((8-d:Nat):Int)+1/\(8:Int)<((8-d:Nat):Int)+2)\/((decide (d=0)=false/\decide (d<2)=true)/\¬(8:Int)<((8-d:Nat):Int)+1/\(8:Int)<((8-d:Nat):Int)+2)\/((decide (d=0)=false/\decide (d<2)=false)/\¬(8:Int)<((8-d:Nat):Int)+1/\¬(8:Int)<((8-d:Nat):Int)+2):=by simp only[dS,decide_eq_false_iff_not];omega
 have hD8:8-d<9:=Vv;generalize 8-d=D at*;go_in
 go_wp2_with fail;generalize C:World.alloc _ _=w3;have⟨B,KA,KR,O⟩:=Be C;have C3:=hC.G B;go_loopw [10,11] (λov kv wr=>∃(k:Nat) (fv:Value),k<=fs.length/\kv= .int .i64 k/\ov= .bool (gA s1 s2 raw d fs p k).2.1/\dZ wr (w.heap.size+1+1) #[fv,.string ⟨#[]⟩] 49/\dZ wr (w.heap.size+1) #[.slice none 0 0,.string ⟨#[]⟩] 49/\dZ wr w.heap.size #[.slice (some ad) L.length vc] 68/\EL (d+1) wr (w.heap.size+1+1+1) fv (gA s1 s2 raw d fs p k).1/\Cx wr N gb raw (gA s1 s2 raw d fs p k).2.2 (.slice (some ad) L.length vc) vs L/\ee [gb] w wr) (λ_ kv _=>fs.length-(intOf kv).toNat)
 case atStart=>exact⟨0,_,aP _,rfl,rfl,O,KR,KA,⟨[],eP.nil _ _ _ _,rfl⟩,C3,ee.oB B⟩
 case round=>
  clear O KR KA C3 B;obtain⟨k,fv,hk,rfl,rfl,O,KR,KA,Wk,Wl,Wm⟩:=hrel;have Wp:=CM (raw:=raw) (p:=p) (d:=d) (fs:=fs) u1 u2 hk;have VN:k<fs.length->_:=λh=>CM (raw:=raw) (p:=p) (d:=d) (fs:=fs) u1 u2 (show k+1<=fs.length from h)
  rw[gA]at VN;obtain⟨S,HS⟩:∃S,Hid (gA s1 s2 raw d fs p k=S):=⟨_,rfl⟩;rw[HS.o]at Wk Wl Wp VN⊢;obtain⟨F,r,q⟩:=S;simp only at Wk Wl Wp VN⊢;have hq:q+1<4398046511104:=by simp only[kZ]at hi;omega
  have t0:=HR.o wr Wm;have⟨J,K⟩:=KA.I;have hiI:(i:Int)<(L.length:Int):=Vv;by_cases hkl:k<fs.length
  .have⟨f,hf⟩:=gx hkl;have VP:=VN hkl;clear VN;obtain⟨t,h,ky⟩:=f;have⟨ht,XA,Xg,WL⟩:=Xc _ (aL hf);have⟨c1,c2,c3⟩:=HE.o wr Wm k _ hf;simp only at ht XA Xg WL c1 c2 c3;rw[hf]at VP;simp only[Option.getD_some]at VP;have Xk:(k:Int)<(fs.length:Int):=Vv;have⟨B5,NF⟩:=ec wr #[.int .i64 t,.int .i64 h,.int .i64 ky] 137;have⟨E,G⟩:=NF.I;go_upto_region 7 with fail
   go_cut [13]from 34 to 66 (λfv s=>fv= .bool (Gy d t h)/\s=wr.alloc (Obj.cells #[.int .i64 t,.int .i64 h,.int .i64 ky] 137))
   case first=>
    have R:((15:Int)<(t:Int)/\decide (15<t)=true)\/(¬(15:Int)<(t:Int)/\decide (15<t)=false):=by simp only[dS,decide_eq_false_iff_not];omega
    have h4:(((h:Int)==4)=true/\decide (h=4)=true)\/(((h:Int)==4)=false/\decide (h=4)=false):=Vx;clear WL;rcases WU with⟨⟨d1,d4⟩,d2,d3⟩|⟨⟨d1,d4⟩,d2,d3⟩|⟨⟨d1,d4⟩,d2,d3⟩<;>rcases R with⟨a1,a2⟩|⟨a1,a2⟩<;>rcases h4 with⟨b1,b2⟩|⟨b1,b2⟩
    all_goals
     go_wp2;go_meet
     case rel=>exact⟨dV Value.bool (by unfold Gy;rw[a2,b2,d1,d4];first|rfl|(rw[decide_eq_false (show¬(8:Int)<(D:Int)+1 by omega)];rfl)|(rw[decide_eq_false (show¬(8:Int)<(D:Int)+1 by omega),decide_eq_false (show¬(8:Int)<(D:Int)+2 by omega)];rfl)|(rw[decide_eq_false (show¬(8:Int)<(D:Int)+1 by omega),decide_eq_true (show(8:Int)<(D:Int)+2 by omega)];rfl)),rfl⟩
   case rest=>
    obtain⟨rfl,rfl⟩:=hcut;obtain⟨fq,HF⟩:∃fq,Hid (Gy d t h=fq):=⟨_,rfl⟩;rw[HF.o];have C5:=Wl.G B5;have z:=mJ _ _ _ raw q 3 C5.gv Vy Vv;have z5:=O.lt;have zgb:gb<w.heap.size:=aI VZ Xj;have WV:=O.G B5 O.lt;have Wq:=KR.G B5 KR.lt;have WW:=KA.G B5 KA.lt;have WX:=Wm.G B5;have WY:EL (d+1) _ (w.heap.size+1+1+1) fv F:=Wk.O λb _ l=>B5.block b l
    obtain⟨fb,XB⟩:∃fb,Hid (wr.heap.size=fb):=⟨_,rfl⟩;generalize wr.alloc (Obj.cells #[.int .i64 t,.int .i64 h,.int .i64 ky] 137)=w5 at*;rw[XB.o]at NF E G z5⊢;clear B5 Wl Wm Wk O KR KA J K c1 c2 c3 t0 WU;go_upto_region 8 with fail
    go_cut [80]from 67 to 80 (λsv s=>sv= .bool (Px raw d t h r q)/\Gv s (Od N gb) gb raw (q+1)/\ee [gb] w5 s)
    case first=>
     have h3:(((h:Int)==3)=true/\decide (h=3)=true)\/(((h:Int)==3)=false/\decide (h=3)=false):=Vx;obtain⟨c,Wn⟩:∃c,Hid (iY raw q 3=c):=⟨_,rfl⟩;rw[Wn.o]at z;have hc:(((c:Int)==0)=true/\decide (c=0)=true)\/(((c:Int)==0)=false/\decide (c=0)=false):=Vx;rcases h3 with⟨a1,a2⟩|⟨a1,a2⟩<;>rcases hc with⟨b1,b2⟩|⟨b1,b2⟩<;>cases fq<;>cases r
     all_goals
      go_wp2_with fail;refine z.V ?_;rintro e w6 ⟨rfl,g6,y⟩;have⟨o1,o2⟩:=(NF.kept y Vx).I;go_wp2;go_meet
      case rel=>exact⟨dV Value.bool (by unfold Px;rw[Wn.o,HF.o,a2,b2];rfl),g6,y⟩
    case rest=>
     obtain⟨rfl,g6,y⟩:=hcut;have M:=C5.step y g6;have s6:=y.size;have Wd:=NF.kept y Vx;have Ws:=WV.kept y Vx;have Wy:=Wq.kept y Vx;have We:=WW.kept y Vx;have Wz:=WY.O (w':=wc) λb q l=>y.block b l Vx
     have WA:=WX.J y;have zM:=Ws.lt;clear C5 NF WV Wq WW WY WX E G z g6 y;cases hsk:Px raw d t h r q
     .have T:Hid (gA s1 s2 raw d fs p (k+1)=(F++ [(((k+1:Nat):Int),(oE s1 s2 raw (t,h,ky) (q+1)).1)],r||decide (h=3),(oE s1 s2 raw (t,h,ky) (q+1)).2)):=(by rw[gA,HS.o,hf];simp only[Option.getD_some];rw[hsk];rfl);rw[hsk]at VP;simp only[aU,if_false]at VP;have H:(oE s1 s2 raw (t,h,ky) (q+1)).2<4398046511104:=by simp only[kZ]at hi;omega
      have V0:Gy d t h=false:=by unfold Px at hsk;simp only[dv]at hsk;exact hsk.1.2
      have V9:(15<t->0<d)/\(h=4->0<d)/\(h=4->15<t->1<d):=(by unfold Gy at V0;simp at V0;omega);clear VP Wp hi hsk V0;have⟨E,G⟩:=Wd.I;obtain⟨X,WN⟩:∃X,Hid (oE s1 s2 raw (t,h,ky) (q+1)=X):=⟨_,rfl⟩;rw[WN.o]at H T;obtain⟨l,q7⟩:=X;simp only at H T;go_upto_block 2 with fail
      clear E G;generalize wc=w6 at*;go_cut [14]from 83 to 116 (λlv s=>pS (gV (d+1) s (λb=>w6.heap.size<=b)) s (λb=>w6.heap.size<=b) lv l/\Gv s (Od N gb) gb raw q7/\ee [gb] w6 s)
      case first=>
       have⟨J,K⟩:=We.I;have⟨E,G⟩:=Wd.I;clear WL;have m:=WN.o;unfold oE at m;simp only at m;have V7:t<19:=Vv;by_cases e1:h=1
       .rw[dR e1]at m;subst e1;have hc3:iY raw (q+1) 3<3:=ia _ Vy;have WB:∀j,j<=iY raw (q+1) 3+1->(iG s1 raw t (q+1+1) j).2<4398046511104:=λj hj=>Nat.lt_of_le_of_lt (CL u1 hj) (by rw[m];exact H)
        have z:=mJ _ _ _ raw (q+1) 3 M.gv Vy (by have:=WB 0 Vv;simp only[iG]at this;omega);generalize iY raw (q+1) 3=c at*;have Xl:Hid _:=m;have Xm:Hid _:=WB;clear m WB;go_wp2_with fail;refine z.V ?_;rintro en w7 ⟨rfl,U,a⟩;clear z J K E G;go_wp2;go_loopw [14,15] (λlv nv s=>∃j:Nat,j<=c+1/\nv= .int .i64 ((c:Int)-j)/\MX (d+1) s w7.heap.size lv (iG s1 raw t (q+1+1) j).1/\Gv s (Od N gb) gb raw (iG s1 raw t (q+1+1) j).2/\ee [gb] w7 s) (λ_ nv _=>(intOf nv+1).toNat)
        case atStart=>exact⟨0,aP _,Vw,⟨[],eP.nil _ _ _ _,rfl⟩,U,ee.refl _ _⟩
        case round=>
         obtain⟨j,hj,rfl,⟨cs,P,VV⟩,hG,Wb⟩:=hrel;have z7:=a.size;have z8:=Wb.size;have Wu:=Xm.o (j+1);rw[iG]at Wu;have WZ:Hid (iG s1 raw t (q+1+1) (j+1)=_):=iG.eq_2 s1 raw t (q+1+1) j;obtain⟨Y,WO⟩:∃Y,Hid ((iG s1 raw t (q+1+1) j).1=Y):=⟨_,rfl⟩;obtain⟨qj,Ww⟩:∃qj,Hid ((iG s1 raw t (q+1+1) j).2=qj):=⟨_,rfl⟩;have W5:=vm s1 raw t (q+1+1) j;rw[WO.o]at P VV W5;have hll3:Y.length<5:=Vv;clear W5;rw[Ww.o]at hG Wu;simp only at Wu;obtain⟨oa,oc,rfl⟩:=iB P.1;by_cases hjc:j<c+1
         .have W6:(0:Int)<=(c:Int)-j:=Vv;have C8:=(M.step a U).step Wb hG;have Wf:=Wu Vv;have HV:=xj d wr N gb raw qj _ vs L s1 t D false C8 Wf V7 Vv (λR W C=>h1 (V9.1 R) W (t-16) qj C Vv (by simp only[fF,dR R]at Wf;exact Wf));obtain⟨X,HX⟩:∃X,Hid (fF s1 raw t false qj=X):=⟨_,rfl⟩;rw[HX.o]at HV Wf;obtain⟨x,q9⟩:=X;simp only at Wf;have WC:=(We.kept a Vx).kept Wb Vx;have Xn:=(Wd.kept a Vx).kept Wb Vx;have⟨J,K⟩:=WC.I;have⟨E,G⟩:=Xn.I;go_wp2_with fail;refine HV.V ?_;rintro en Z ⟨mv,rfl,hm,g9,k9⟩;obtain⟨ma,mc,rfl⟩:=hm.form;simp only at hm g9;unfold NU;have z9:=k9.size;clear HV J K E G;have⟨Wo,N10⟩:=ec Z (Vm x ma mc) 55;have C10:=(C8.step k9 g9).G Wo;have WD:=(Wb.J k9).G Wo;have VW:=(P.O (w':=Z) λb q l=>k9.block b l Vx).O (w':=Z.alloc (Obj.cells (Vm x ma mc) 55)) λb q l=>Wo.block b l
          have VQ:∀b,(Value.slice oa Y.length oc).ownBlock=some b->w7.heap.size<=b/\b<wr.heap.size:=λb V=>⟨P.2 b V,(P.1.lt b V).2⟩
          have WE:=VV.imp λ_ _ h=>(h.O (w':=Z) λb q l=>k9.block b l Vx).O (w':=Z.alloc (Obj.cells (Vm x ma mc) 55)) λb q l=>Wo.block b l
          have WF:=hm.G Wo (aE _);have e10:(Z.alloc (Obj.cells (Vm x ma mc) 55)).heap.size=Z.heap.size+1:=Vw;have⟨i0,WP,WQ,WR,WS⟩:=info_parts Tryz.infoV;go_wp2_with (at_builtin;refine wpList_append_lies _ rfl _ _ 56 rfl 0 55 i0 _ 4 64 underlying56 WP WQ WR WS rfl Vy (.slice oa Y.length oc) Y.length cs rfl VW.1 ⟨Z.heap.size,0,none⟩ 1 1 [_,_,_,_] rfl rfl (qu _ _ _ _ _ _) (by intro u hu;simp at hu;rcases hu with rfl|rfl|rfl|rfl<;>rfl) Vy VC Vv Vv _ rfl ?_;intro g cap w11 VM A VL VZ)
          have WG:=RK (x:=x) VW WE ⟨_,_,rfl,WF.V λb q l=>⟨Vv,λe=>by have:=VQ b e.sy;omega⟩,rfl⟩ VM A VL Vv;refine⟨⟨j+1,Vv,Vx,?_,?_,?_⟩,by simp[intOf];omega⟩;.rw[WZ.o,WO.o,Ww.o,HX.o];exact WG
          .rw[WZ.o,Ww.o,HX.o];exact C10.gv.grown C10.lt C10.le A λg hg=>by have:=VQ g hg;have:=M.le;omega
          .exact WD.grown A λg hg=>(VQ g hg).1
         .obtain rfl:j=c+1:=Vv;have hl3:¬(0:Int)<=(c:Int)-((c+1:Nat):Int):=Vv;have h7:=Xl.o;have e7:Y=l/\qj=q7:=by rw[<-WO.o,<-Ww.o,h7];exact⟨rfl,rfl⟩
          obtain⟨rfl,rfl⟩:=e7;have Xo:pS (gV (d+1) wr (λb=>w6.heap.size<=b)) wr (λb=>w6.heap.size<=b) (.slice oa Y.length oc) Y:=⟨cs,P.rd.V λb q _=>Vv,VV.imp λ_ _ h=>h.V λb q _=>Vv⟩;have kk:=a.J Wb;clear h7;go_wp2;go_meet
          case rel=>exact⟨Xo,hG,kk⟩
       .rw[dQ e1]at m;have e1:((h:Int)==1)=false:=Vx;by_cases e4:h=4
        .rw[dR e4]at m;obtain⟨e,he⟩:∃e,Hid (d=e+1):=⟨d-1,by have:=V9.2.1 e4;show d=d-1+1;omega⟩;have Xp:iY raw (q+1) 4<4:=ia _ Vy;have W7:∀j,j<=iY raw (q+1) 4+1->(gZ s2 raw t ky (q+1+1) j).2<4398046511104:=λj hj=>Nat.lt_of_le_of_lt (Gz u2 hj) (by rw[m];exact H)
         have HE:=JK e w6 N gb raw (q+1) _ vs L s2 t h ky D M W7 (λq=>zi u2 false) V7 Xg Vv (λR W q C V=>by
          have:=h2 (V9.2.2 e4 R) W (t-16) q C Vv V;rw[he.o]at this
          exact this)
         rw[m]at HE;simp only at HE;clear V9 W7 Xp m;subst e4;go_wp2_with fail;refine HE.V ?_;rintro en w7 ⟨ov,rfl,⟨cs,hr,VV⟩,U,a⟩;clear HE J K E G;go_wp2;go_meet
         case rel=>exact⟨⟨cs,hr.rd,by rw[he.o];exact VV⟩,U,a⟩
        .rw[dQ e4]at m;have e4:((h:Int)==4)=false:=Vx;have e0:((h:Int)==0)=decide (h=0):=by by_cases h0:h=0<;>simp[h0]
         have HV:=xj d w6 N gb raw (q+1) _ vs L s1 t D (decide (h=0)) M (by rw[<-(Prod.mk.inj m).2]at H;exact H) V7 Vv (λR W C=>h1 (V9.1 R) W (t-16) (q+1) C Vv (by rw[<-(Prod.mk.inj m).2]at H;simp only[fF,dR R]at H;exact H));rw[<-e0]at HV m;generalize fF s1 raw t ((h:Int)==0) (q+1)=X at*;obtain⟨x,q8⟩:=X;obtain⟨rfl,rfl⟩:=Prod.mk.inj m;clear e0;go_wp2_with fail;refine HV.V ?_;rintro en w7 ⟨mv,rfl,hm,U,a⟩;obtain⟨ma,mc,rfl⟩:=hm.form;simp only at hm U;unfold NU;clear HV J K E G;have⟨o,N8⟩:=ec w7 (Vm x ma mc) 55;have z7:=a.size;have Xq:pS (gV (d+1) _ (λb=>w6.heap.size<=b)) _ (λb=>w6.heap.size<=b) (.slice (some ⟨w7.heap.size,0,none⟩) 1 1) [x]:=⟨_,iz.ofBlk N8 Vv 1,_,_,rfl,hm.G o (aE _),rfl⟩;have C7:=(M.step a U).G o;have k8:=a.G o;go_wp2;go_meet
         case rel=>exact⟨Xq,C7.gv,k8⟩
      case rest=>
       obtain⟨⟨XC,Xh,W6⟩,U,a⟩:=hcut;obtain⟨I,lc,rfl⟩:=Xh.form;have s7:=a.size;have C7:=M.step a U;have Xr:=Wd.kept a Vx;have WH:=Ws.kept a Vx;have W8:=Wy.kept a Vx;have W9:=We.kept a Vx;have Xs:=Wz.O (w':=wc) λb q l=>a.block b l Vx
       have Xt:=WA.J a;clear M Wd Ws Wy We WA V9 H WN;have⟨o,N8⟩:=ec wc #[.int .i64 ((k+1:Nat):Int),.slice I l.length lc] 58;obtain⟨WT,V8,XD⟩:=Xs;obtain⟨VX,VY,rfl⟩:=iB V8.1;have hF:F.length<8:=by have:=Ir s1 s2 raw d fs p k;rw[HS.o]at this;simp only at this;omega
       have Wh:=V8.O (w':=wc.alloc (Obj.cells #[.int .i64 ((k+1:Nat):Int),.slice I l.length lc] 58)) λb q l=>o.block b l
       have VU:∀b,(Value.slice VX F.length VY).ownBlock=some b->w.heap.size+1+1+1<=b/\b<w6.heap.size:=λb V=>⟨V8.2 b V,(Wz.lt b V)⟩
       have Xu:=XD.O (Q:=gV (d+1) (wc.alloc (Obj.cells #[.int .i64 ((k+1:Nat):Int),.slice I l.length lc] 58)) (λb=>w.heap.size+1+1+1<=b/\some b≠(Value.slice VX F.length VY).ownBlock)) (λ_ _ h=>h.G o (aE _)) λb _ l=>o.block b l
       have Xv:tH (gV (d+1) (wc.alloc (Obj.cells #[.int .i64 ((k+1:Nat):Int),.slice I l.length lc] 58)) (λb=>w.heap.size+1+1+1<=b/\some b≠(Value.slice VX F.length VY).ownBlock)) (wc.alloc (Obj.cells #[.int .i64 ((k+1:Nat):Int),.slice I l.length lc] 58)) (λb=>w.heap.size+1+1+1<=b/\some b≠(Value.slice VX F.length VY).ownBlock) [.int .i64 ((k+1:Nat):Int),.slice I l.length lc] [(((k+1:Nat):Int),l)]:=
        ⟨_,_,rfl,⟨XC,(Xh.O λb _ l=>o.block b l).V λb q _=>⟨Vv,λe=>by have:=VU b e.sy;omega⟩,W6.imp λ_ _ h=>(h.G o (aE _)).V λb q _=>⟨Vv,λe=>by have:=VU b e.sy;omega⟩⟩,rfl⟩
       have C8:=C7.G o;have Xw:=Xt.G o;have Xx:=WH.G o WH.lt;have Xy:=W8.G o W8.lt;have WC:=W9.G o W9.lt;have Wv:∀b,b<w.heap.size+1+1+1->some b≠(Value.slice VX F.length VY).ownBlock:=λb V e=>by have:=VU b e.sy;omega
       have e8:(wc.alloc (Obj.cells #[.int .i64 ((k+1:Nat):Int),.slice I l.length lc] 58)).heap.size=wc.heap.size+1:=Vw;have e9:(wc.alloc (Obj.cells #[.int .i64 ((k:Int)+1),.slice I l.length lc] 58)).heap.size=wc.heap.size+1:=Vw;have⟨i0,WP,WQ,WR,WS⟩:=info_parts Tryz.infoF;have e3:((h:Int)==3)=decide (h=3):=by by_cases h0:h=3<;>simp[h0];omega
       have⟨J,K⟩:=WH.I;have⟨E,G⟩:=Xr.I;have HC:Hid (((k:Int)+1)=((k+1:Nat):Int)):=by show(k:Int)+1=_;omega
       cases r
       all_goals
        go_wp2_with (at_builtin;refine wpList_append_lies _ rfl _ _ 47 rfl 0 58 i0 _ 2 32 underlying47 WP WQ WR WS rfl Vy (.slice VX F.length VY) F.length WT rfl Wh.1 ⟨wc.heap.size,0,none⟩ 1 1 [_,_] rfl rfl (QV _ _ _ _) (by intro u hu;simp at hu;rcases hu with rfl|rfl<;>rfl) Vy VC Vv Vv _ rfl ?_;intro g cap Z VM A VL hlt9;have Xa:=Xx.grown A (Wv _ Vv);have⟨o1,o2⟩:=Xa.I)
        refine⟨⟨k+1,.slice (some ⟨g,0,none⟩) (F.length+1) cap,Vv,by go_num,by rw[T.o];simp,by have:=Xa.set 0 (.slice (some ⟨g,0,none⟩) (F.length+1) cap);simpa using this,(eV _ Vv).J (Xy.grown A (Wv _ Vv)),(eV _ Vv).J (WC.grown A (Wv _ Vv)),?_,?_,(Xw.grown A λg hg=>by have:=VU g hg;omega).fresh1 Vv _ _⟩,by simp[intOf];omega⟩;.rw[T.o];exact(RL Wh Xu Xv VM A VL Vv).O λb q l=>eV _ Vv
        .rw[T.o];exact C8.O (λb V=>(eV _ Vv).J (A.block b Vv (Wv b Vv))) (by have:=A.size;simp at this⊢;omega)
     .have T:Hid (gA s1 s2 raw d fs p (k+1)=(F,r,q+1)):=(by rw[gA,HS.o,hf];simp only[Option.getD_some];rw[hsk];rfl);go_wp2;go_roundw
      case rel=>exact⟨k+1,fv,Vv,by go_num,by rw[T.o],Ws,Wy,We,by rw[T.o];exact Wz,by rw[T.o];exact M,WA⟩
      case measure=>simp[intOf];omega
  .obtain rfl:k=fs.length:=Vv;have Xk:¬(fs.length:Int)<(fs.length:Int):=Vv;have z:=mJ wr _ _ raw q 4 Wl.gv Vy Vv;obtain⟨c,Wn⟩:∃c,Hid (iY raw q 4=c):=⟨_,rfl⟩;rw[Wn.o]at z;have zM:=O.lt;obtain⟨WT,P,XE⟩:=Wk;obtain⟨VX,VY,rfl⟩:=iB P.1;have HB:Hid (kZ s1 s2 raw d fs p=(.mk F (if c=0 then tU else eS),q+1)):=by unfold kZ;rw[HS.o];simp only;rw[Wn.o];exact rfl
   rw[HB.o];clear hi Wp VN Xc HE HR;go_wp2_with fail;refine z.V ?_;rintro en w4 ⟨rfl,g4,k4⟩;have s4:=k4.size;have Xz:=O.kept k4 Vx;have WJ:=KR.kept k4 Vx
   have WK:gV (d+2) w4 (λb=>w.heap.size+1+1<b) (.slice VX F.length VY) (.mk F (if c=0 then tU else eS)):=
    ⟨WT,(P.rd.O λb q l=>k4.block b l Vx).V λb q _=>Vv,(XE.O (Q:=gV (d+1) w4 _) (λ_ _ h=>h.O λb q l=>k4.block b l Vx) λb q l=>k4.block b l Vx).V (λ_ _ h=>h.V λb q _=>Vv) λb q _=>Vv⟩
   have Xb:=Wm.J k4;have⟨o1,o2⟩:=Xz.I;have⟨o3,o4⟩:=WJ.I;by_cases hc:c=0;.subst hc;clear z J K;go_wp2;have Wq:dZ (w4.setCell ⟨w.heap.size+1+1,1,none⟩ (.string ⟨#[248,63,7]⟩)) (w.heap.size+1) _ 49:=(eV _ Vv).J WJ;refine dU (ew results30 _ _ rfl ((Wq.set 0 _).set 1 _) underlying49 VA) rfl ?_;rw[HB.o];exact⟨_,rfl,(WK.O λb q l=>(eV _ Vv).J ((eV _ Vv).J (eV _ Vv))).V λb q _=>Vv,((g4.set VZ Vv _ _).set VZ Vv _ _).set VZ Vv _ _,((Xb.fresh1 Vv _ _).fresh1 Vv _ _).fresh1 Vv _ _⟩
   .have hcb:((c:Int)==0)=false:=Vx;clear z J K;go_wp2;refine dU (ew results30 _ _ rfl ((WJ.set 0 _).set 1 _) underlying49 VA) rfl ?_;rw[HB.o,dQ hc];rw[dQ hc]at WK;exact⟨_,rfl,(WK.O λb q l=>(eV _ Vv).J (eV _ Vv)).V λb q _=>Vv,(g4.set VZ Vv _ _).set VZ Vv _ _,(Xb.fresh1 Vv _ _).fresh1 Vv _ _⟩
def ry (N gb:Nat)(raw:List Int)(v:Value)(vs:List Value)(L:List (List F3))(c:Bf L):∀d,d<=7->RJ (d+2) N gb raw v vs L (gM raw L d) (8-d)
 |0,hd=>λW i p f j b=>by
  have⟨fs,a⟩:=gx j;have e:gM raw L 0 i p=kZ pd pd raw 0 fs p:=by show kZ pd pd raw 0 ((L[i]?).getD []) p=_;rw[a];rfl
  rw[e]at b⊢
  exact GB W N gb raw p v vs L pd pd 0 i fs c f a hd rx rx b (λh=>absurd h Vv) (λh=>absurd h Vv)
 |1,hd=>λW i p f j b=>by
  have⟨fs,a⟩:=gx j;have e:gM raw L 1 i p=kZ (gM raw L 0) pd raw 1 fs p:=by show kZ (gM raw L 0) pd raw 1 ((L[i]?).getD []) p=_;rw[a];rfl
  rw[e]at b⊢
  exact GB W N gb raw p v vs L (gM raw L 0) pd 1 i fs c f a hd (vk raw L 0) rx b (λ_=>ry N gb raw v vs L c 0 Vv) (λh=>absurd h Vv)
 |d+2,hd=>λW i p f j b=>by
  have⟨fs,a⟩:=gx j;have e:gM raw L (d+2) i p=kZ (gM raw L (d+1)) (gM raw L d) raw (d+2) fs p:=by show kZ (gM raw L (d+1)) (gM raw L d) raw (d+2) ((L[i]?).getD []) p=_;rw[a];rfl
  rw[e]at b⊢;refine GB W N gb raw p v vs L (gM raw L (d+1)) (gM raw L d) (d+2) i fs c f a hd (vk raw L (d+1)) (vk raw L d) b (λ_=> ?_) (λ_=> ?_);.have:=ry N gb raw v vs L c (d+1) Vv;rw[show 8-(d+1)=8-(d+2)+1 by omega]at this;exact this
  .have:=ry N gb raw v vs L c d Vv;rw[show 8-d=8-(d+2)+1+1 by omega]at this;exact this
end
end Go.Proofs.YtfebdimolnobaaaGreatDoor
