import Derived.Test.YtfebdimolnobaaaGreatDoorPxE
import Derived.Test.YtfebdimolnobaaaGreatDoorMaB
set_option maxRecDepth 100000
set_option maxHeartbeats 8000000
set_option linter.all false
namespace Go.Proofs.YtfebdimolnobaaaGreatDoor
open Go.RowKit Go.Proofs.Tryz
section
open Vo
def NK (x:PV)(mv:Value):Value:= .agg #[.int .u64 x.1,.string x.2.1,mv,.string x.2.2.unk]
def To (t:Nat):Bool:=decide (t=0)||decide (t=1)||decide (t=4)||decide (t=5)||decide (t=9)||decide (t=10)
def oA (t:Nat)(a b:PV):Bool:=if To t=true then decide (Du a.1<Du b.1)else if t=13 then Op.bytesLess a.2.1.toList b.2.1.toList else decide (a.1<b.1)
def Rm (w:World)(t:Nat)(x y:PV)(mx my:Value)(ht:t∈iu)(x0:0<=x.1)(x1:x.1<2^64)(y0:0<=y.1)(y1:y.1<2^64):
  Calls prog 107 #[.int .i64 t,NK x mx,NK y my] w λe w'=>e= .returned (.bool (oA t x y))/\Below w.heap.size w w':=by
 obtain⟨n,s,m⟩:=x;obtain⟨n',s',m'⟩:=y;unfold NK;simp only at x0 x1 y0 y1⊢;have⟨B,K1,K2⟩:=gY w #[.int .u64 n,.string s,mx,.string m.unk] #[.int .u64 n',.string s',my,.string m'.unk] 55 55;have⟨k1,k2⟩:=K1.I;have⟨k3,k4⟩:=K2.I;have hc:t=0\/t=1\/t=2\/t=3\/t=4\/t=5\/t=6\/t=7\/t=8\/t=9\/t=10\/t=13:=by simpa [iu]using ht
 rcases hc with rfl|rfl|rfl|rfl|rfl|rfl|rfl|rfl|rfl|rfl|rfl|rfl
 all_goals
  go_in
  go_wp2;go_ret;refine⟨dS (λb:Bool=>Ending.returned (.bool b)) ?_,B⟩;clear k1 k2 k3 k4 K1 K2 B;first|rfl|(simp only[oA,To,Du,wrap64,decide_true,dF,if_true,decide_false,da,Nat.reduceEqDiff,Nat.one_ne_zero];rw[decide_eq_decide];split<;>split<;>omega)
abbrev Mk:=Nat->Nat->PM×Nat
def ED:List (List UInt8):= [[],[97],[104,101,108,108,111],[195,169],[0]]
def Gt (z:Bool)(k:Nat):ByteArray:=if k=0/\z=true then bl [98]else bl ((ED[k]?).getD [])
def EE (z:Bool)(n:Nat):Int:=if n=0/\z=true then 1 else n
def fG (sub:Mk)(raw:List Int)(t:Nat)(z:Bool)(p:Nat):PV×Nat:=
 if 15<t then((0,eS,(sub (t-16) p).1),(sub (t-16) p).2)
 else if t=13\/t=14 then((0,Gt z (jp raw p 5),PM.none),p+1)
 else((EE z (yY raw p t),eS,PM.none),p+2)
def Od (N gb b:Nat):Prop:=b<N/\b≠gb
structure Cx (w:World)(N gb:Nat)(raw:List Int)(p:Nat)(v:Value)(vs:List Value)(L:List (List F3)):Prop where
 gv:Gv w (Od N gb) gb raw p
 row:ix w (Od N gb) v L.length vs
 at_:NJ w (Od N gb) vs L
 lt:gb<N
 le:N<=w.heap.size
section
variable {w w':World} {N gb p q:Nat} {raw:List Int} {v:Value} {vs:List Value} {L:List (List F3)}
def Cx.step (h:Cx w N gb raw p v vs L)(k:ec [gb] w w')(g:Gv w' (Od N gb) gb raw q):Cx w' N gb raw q v vs L:=
 have hk:∀b,Od N gb b->b<w.heap.size->w'.heap[b]?=w.heap[b]?:=λb y l=>k.block b l (by simp only[ba];exact y.2)
 ⟨g,h.row.O hk,h.at_.O hk,h.lt,aM h.le k.size⟩
def Gv.G (h:Gv w (Od N gb) gb raw p)(hl:gb<w.heap.size)(k:Below w.heap.size w w'):Gv w' (Od N gb) gb raw p:=h.O (k.block _ hl) λb _ l=>k.block b l
def Cx.G (h:Cx w N gb raw p v vs L)(k:Below w.heap.size w w'):Cx w' N gb raw p v vs L:=h.step (ec.oB k) (h.gv.G (aI h.lt h.le) k)
def Gv.set (h:Gv w (Od N gb) gb raw p)(hl:gb<N){c:Nat}(hc:N<=c)(o:Nat)(u:Value):Gv (w.setCell ⟨c,o,none⟩ u) (Od N gb) gb raw p:=h.O (eT _ Vc) λb q _=>eT _ (by have:=q.1;omega)
def Gv.grown (h:Gv w (Od N gb) gb raw p)(hl:gb<N)(le:N<=w.heap.size){t:Option Nat}(hg:w.grownBy w' t)(ht:∀g,t=some g->N<=g):Gv w' (Od N gb) gb raw p:=h.O (hg.block _ Vc (λe=>by have:=ht _ e.sy;omega)) λb q l=>hg.block b l (λe=>by have:=ht _ e.sy;have:=q.1;omega)
def gP.set {k:Nat}{mv:Value}{m:PM}{c:Nat}(h:gP k w (λb=>c<b) mv m)(o:Nat)(u:Value):gP k (w.setCell ⟨c,o,none⟩ u) (λb=>c<b) mv m:=h.O λb q _=>eT _ Vc
end
def Ik (k:Nat)(w:World)(N gb:Nat)(raw:List Int)(r:PM×Nat)(e:Ending)(w':World):Prop:=
 ∃mv,e= .returned (.agg #[mv,.string r.1.unk])/\gP k w' (λb=>w.heap.size<=b) mv r.1/\Gv w' (Od N gb) gb raw r.2/\ec [gb] w w'
def Qb (k:Nat)(w:World)(N gb:Nat)(raw:List Int)(r:PV×Nat)(e:Ending)(w':World):Prop:=
 ∃mv,e= .returned (NK r.1 mv)/\gP k w' (λb=>w.heap.size<=b) mv r.1.2.2/\Gv w' (Od N gb) gb raw r.2/\ec [gb] w w'
def gP.none (k:Nat)(w:World)(Z:Nat->Prop):gP (k+1) w Z (.slice Option.none 0 0) PM.none:=⟨[],⟨Option.none,0,rfl,aE _,λh=>absurd h (by simp[PM.none,PM.fs])⟩,rfl⟩
def zg {k N gb q:Nat}{raw:List Int}{w w2 w3:World}(hB:Below w.heap.size w w2)(hz:w2.heap.size=w.heap.size+1+1)(Vp:gb<N)(Vq:N<=w.heap.size)(x:PV){mv:Value}(hk:ec [gb] w2 w3)(hg:Gv w3 (Od N gb) gb raw q)(hm:gP (k+1) w3 (λb=>w2.heap.size<=b) mv x.2.2):
  Qb (k+1) w N gb raw (x,q) (.returned (NK x mv)) ((((w3.setCell ⟨w.heap.size+1,0,none⟩ (.int .u64 x.1)).setCell ⟨w.heap.size+1,1,none⟩ (.string x.2.1)).setCell ⟨w.heap.size+1,2,none⟩ mv).setCell ⟨w.heap.size+1,3,none⟩ (.string x.2.2.unk)):=by
 have hc:N<=w.heap.size+1:=Vc;have Vx:gP (k+1) w3 (λb=>w.heap.size+1<b) mv x.2.2:=hm.V λb q _=>Vc
 have Vy:ec [gb] w w3:=(ec.oB hB).J hk;exact⟨mv,rfl,((((Vx.set 0 _).set 1 _).set 2 _).set 3 _).V λb q _=>Vc,(((hg.set Vp hc 0 _).set Vp hc 1 _).set Vp hc 2 _).set Vp hc 3 _,(((Vy.fresh1 (bG _) 0 _).fresh1 (bG _) 1 _).fresh1 (bG _) 2 _).fresh1 (bG _) 3 _⟩
def xf (k:Nat)(w:World)(N gb:Nat)(raw:List Int)(p:Nat)(v:Value)(vs:List Value)(L:List (List F3))(sub:Mk)(t deep:Nat)(z:Bool)(hC:Cx w N gb raw p v vs L)(hi:(fG sub raw t z p).2<1099511627776)(ht:t<19)(hd:deep<10)
  (hS:15<t->∀W,Cx W N gb raw p v vs L->U8 30 #[.agg #[v],.pointer (some ⟨gb,0,none⟩),.int .i64 (t-16:Nat),.int .i64 (deep+1:Nat)] W (Ik (k+1) W N gb raw (sub (t-16) p))):
  Calls prog 63 #[.agg #[v],.pointer (some ⟨gb,0,none⟩),.int .i64 t,.int .i64 deep,.bool z] w (Qb (k+1) w N gb raw (fG sub raw t z p)):=by
 obtain⟨va,vc,rfl⟩:=hC.row.form;have⟨B,K1,K2⟩:=gY w #[.slice va L.length vc] #[.int .u64 0,.string ⟨#[]⟩,.slice none 0 0,.string ⟨#[]⟩] 68 55;have Vu:=hC.G B;have Vq:=hC.le;have Vp:=hC.lt;have Vr:((w.alloc (Obj.cells #[.slice va L.length vc] 68)).alloc (Obj.cells #[.int .u64 0,.string ⟨#[]⟩,.slice none 0 0,.string ⟨#[]⟩] 55)).heap.size=w.heap.size+1+1:=Vd;unfold fG at hi⊢;by_cases h15:15<t
 .rw[dP h15]at hi⊢;have HS:=hS h15 _ Vu;have h1:(15:Int)<(t:Int):=Vc;rw[show((t-16:Nat):Int)=(t:Int)-16 by omega,show((deep+1:Nat):Int)=(deep:Int)+1 by omega]at HS;have⟨k1,k2⟩:=K1.I;go_in
  go_wp2_with fail;refine HS.V ?_;rintro e w3 ⟨mv,rfl,hm,hg,hk⟩;have K3:=K2.kept hk Ve;have⟨k3,k4⟩:=K3.I;obtain⟨ma,mc,rfl⟩:=hm.form;clear HS k1 k2 K1 Vu;generalize sub (t-16) p=r at*;go_wp2;exact dR (el results63 _ _ rfl ((((K3.set 0 _).set 1 _).set 2 _).set 3 _) underlying55 Vh) rfl (zg B Vr Vp Vq (0,eS,r.1) hk hg hm)
 .rw[dO h15]at hi⊢;have h1:¬(15:Int)<(t:Int):=Vc;have Vs:=Vu.gv;clear hS Vu;by_cases h13:t=13\/t=14
  .rw[dP h13]at hi⊢;simp only at hi;have⟨B9,N9⟩:=d8 ((w.alloc (Obj.cells #[.slice va L.length vc] 68)).alloc (Obj.cells #[.int .u64 0,.string ⟨#[]⟩,.slice none 0 0,.string ⟨#[]⟩] 55)) #[.string ⟨#[]⟩,.string ⟨#[97]⟩,.string ⟨#[104,101,108,108,111]⟩,.string ⟨#[195,169]⟩,.string ⟨#[0]⟩] 9;have HN:=mG _ _ _ raw p 5 (Vs.G Vc B9) Vf Vc;have hk5:jp raw p 5<5:=ik _ Vf;generalize jp raw p 5=c at*;have Vw:c=0\/c=1\/c=2\/c=3\/c=4:=Vc
   have Vt:∀w3:World,ec [gb] _ w3->w3.cell? ⟨w.heap.size+1+1,c,none⟩=some (.string (bl ((ED[c]?).getD []))):=λw3 hk=>by
    have h:=(N9.kept hk Ve).cell c;rw[Vr]at h;rw[h];rcases Vw with rfl|rfl|rfl|rfl|rfl<;>rfl
   have Vv:∀w3:World,ec [gb] _ w3->dX w3 (w.heap.size+1) _ 55:=λw3 hk=>(K2.G B9 Vc).kept hk Ve
   have hc6:(c:Int)<5:=Vc;by_cases hc:c=0
   .subst hc;have e0:bl ((ED[0]?).getD [])=⟨#[]⟩:=rfl;rw[e0]at Vt;rcases h13 with rfl|rfl<;>cases z
    all_goals
     go_in
     go_wp2_with fail;refine HN.V ?_;rintro e w3 ⟨rfl,hg,hk⟩;have K3:=Vv w3 hk;have⟨k3,k4⟩:=K3.I;have Vz:=Vt w3 hk;clear HN Vt Vv K1 Vs;go_wp2;exact dR (el results63 _ _ rfl ((((K3.set 0 _).set 1 _).set 2 _).set 3 _) underlying55 Vh) rfl (zg B Vr Vp Vq (0,_,PM.none) ((ec.oB B9).J hk) hg (gP.none k w3 _))
   .have hs:(bl ((ED[c]?).getD [])).toList.isEmpty=false:=(by rw[ByteArray.toList_eq,iH];rcases Vw with rfl|rfl|rfl|rfl|rfl<;>first|rfl|exact absurd rfl hc);have e1:Gt z c=bl ((ED[c]?).getD []):=by unfold Gt;rw[dO λh=>hc h.1]
    rw[e1];generalize bl ((ED[c]?).getD [])=s at*;rcases h13 with rfl|rfl
    all_goals
     go_in
     go_wp2_with fail;refine HN.V ?_;rintro e w3 ⟨rfl,hg,hk⟩;have K3:=Vv w3 hk;have⟨k3,k4⟩:=K3.I;have Vz:=Vt w3 hk;clear HN Vt Vv K1 Vs;go_wp2;exact dR (el results63 _ _ rfl ((((K3.set 0 _).set 1 _).set 2 _).set 3 _) underlying55 Vh) rfl (zg B Vr Vp Vq (0,s,PM.none) ((ec.oB B9).J hk) hg (gP.none k w3 _))
  .rw[dO h13]at hi⊢;simp only at hi;have HN:=MF _ _ _ raw p t Vs Vc;have h3:((t:Int)==13)=false:=Ve;have h4:((t:Int)==14)=false:=Ve;unfold EE;generalize yY raw p t=n at*;by_cases hn:n=0
   .subst hn;cases z
    all_goals
     go_in
     go_wp2_with fail;refine HN.V ?_;rintro e w3 ⟨rfl,hg,hk⟩;have K3:=K2.kept hk Ve;have⟨k3,k4⟩:=K3.I;clear HN K1 Vs;go_wp2;exact dR (el results63 _ _ rfl ((((K3.set 0 _).set 1 _).set 2 _).set 3 _) underlying55 Vh) rfl (zg B Vr Vp Vq (_,eS,PM.none) hk hg (gP.none k w3 _))
   .rw[dO λh=>hn h.1];have hn0:((n:Int)==0)=false:=by simpa using hn
    go_in
    go_wp2_with fail;refine HN.V ?_;rintro e w3 ⟨rfl,hg,hk⟩;have K3:=K2.kept hk Ve;have⟨k3,k4⟩:=K3.I;clear HN K1 Vs;go_wp2;exact dR (el results63 _ _ rfl ((((K3.set 0 _).set 1 _).set 2 _).set 3 _) underlying55 Vh) rfl (zg B Vr Vp Vq (n,eS,PM.none) hk hg (gP.none k w3 _))
def xg (e:PV):PV:=
 match e.2.2.fs with
 |(_,k::_)::_=>k
 |_=>PV.none
def pC (k v:PV):PV:=(0,eS,.mk [(1,[k]),(2,[v])] eS)
def mS (t:Nat)(k:PV):List PV->Nat
 | []=>0
 |e::l=>if oA t (xg e) k=true then mS t k l+1 else 0
def EF (t:Nat)(k:PV)(l:List PV):Bool:=
 match l[mS t k l]? with
 |some e=>((xg e).1==k.1)&&((xg e).2.1.toList==k.2.1.toList)
 |none=>false
def qJ (t:Nat)(k v:PV)(l:List PV):List PV:=if EF t k l=true then l else l.take (mS t k l)++pC k v::l.drop (mS t k l)
def ip (sub:Mk)(raw:ar)(t ky p:Nat):Nat->List PV×Nat
 |0=>([],p)
 |j+1=>
  (qJ ky (fG sub raw ky false (ip sub raw t ky p j).2).1 (fG sub raw t false (fG sub raw ky false (ip sub raw t ky p j).2).2).1 (ip sub raw t ky p j).1,
   (fG sub raw t false (fG sub raw ky false (ip sub raw t ky p j).2).2).2)
def Gu (t:Nat)(k:PV):∀l,mS t k l<=l.length
 | []=>aE _
 |e::l=>by
  rw[mS];have:=Gu t k l;split<;>simp<;>omega
def MG {t:Nat}{k:PV}{l:List PV}{i:Nat}{e:PV}(h:l[i]?=some e)(ha:oA t (xg e) k=true):i+mS t k (l.drop i)=(i+1)+mS t k (l.drop (i+1)):=by
 have VG:i<l.length:=(bn.1 h).1;rw[be VG,mS];rw[aO VG]at h;cases h;rw[dP ha];omega
def MH {t:Nat}{k:PV}{l:List PV}{i:Nat}{e:PV}(h:l[i]?=some e)(ha:oA t (xg e) k=false):mS t k (l.drop i)=0:=by
 have VG:i<l.length:=(bn.1 h).1;rw[be VG,mS];rw[aO VG]at h;cases h;rw[dO (by simp[ha])]
def T6 (e:PV):Prop:=∃k v,e=pC k v/\0<=k.1/\k.1<2^64
def Il {sub:Mk}{raw:ar}{t p:Nat}{z:Bool}(ht:t∈iu):0<=(fG sub raw t z p).1.1/\(fG sub raw t z p).1.1<2^64:=by
 have Wz:¬15<t:=by simp[iu]at ht;omega
 unfold fG;rw[dO Wz];by_cases h:t=13\/t=14;.rw[dP h];simp
 .rw[dO h];unfold EE
  have:yY raw p t<2^64:=by
   have l1:jp raw p 1073741824<1073741824:=ik _ Vc;unfold yY;have:yX (jp raw p 1073741824) (jp raw (p+1) 6)<2^64:=by unfold yX;(repeat' split)<;>omega
   unfold JD
   (repeat' split)<;>omega
  split<;>simp only<;>omega
def Rn {t:Nat}{k v:PV}{l:List PV}(h:∀e∈l,T6 e)(h0:0<=k.1)(h1:k.1<2^64):∀e∈qJ t k v l,T6 e:=by
 intro e he;unfold qJ at he;split at he;.exact h e he
 .rcases aW.1 he with he|he;.exact h e (List.mem_of_mem_take he)
  .rcases aS.1 he with rfl|he;.exact⟨k,v,rfl,h0,h1⟩
   .exact h e (cG he)
def Pi {t:Nat}{k v:PV}{l:List PV}:(qJ t k v l).length<=l.length+1:=by
 unfold qJ;have:=Gu t k l;split<;>simp<;>omega
def MJ {sub:Mk}{raw:ar}{t ky p:Nat}(hk:ky∈iu):∀j,(∀e∈(ip sub raw t ky p j).1,T6 e)/\(ip sub raw t ky p j).1.length<=j
 |0=>⟨λe h=>(by cases h),aE _⟩
 |j+1=>by
  have ih:=MJ (sub:=sub) (raw:=raw) (t:=t) (p:=p) hk j;rw[ip];have hv:=Il (sub:=sub) (raw:=raw) (p:=(ip sub raw t ky p j).2) (z:=false) hk;exact⟨Rn ih.1 hv.1 hv.2,aM Pi Vc⟩
def CF (k:Nat)(w:aw)(n:Nat)(ov:Value)(l:List PV):Prop:=∃cs,eO w (λb=>n<=b) 55 4 ov l.length cs/\kB (gP (k+2) w (λb=>n<=b)) cs l
def kB.split {P:Value->PM->Prop}:∀(a:Nat) {l:List PV} {cs:ay},kB P cs l->kB P (cs.take (a*4)) (l.take a)/\kB P (cs.drop (a*4)) (l.drop a)
 |0,l,cs,h=>by simpa using⟨(rfl:kB P [] []),h⟩
 |a+1,[],cs,h=>by
  obtain rfl:cs= []:=h;simp only[List.take_nil,List.drop_nil]
  exact⟨rfl,rfl⟩
 |a+1,v::l,_,⟨mv,rest,rfl,h2,h3⟩=>by
  have:=kB.split a h3;rw[show(a+1)*4=a*4+1+1+1+1 by omega];simp only[cX,List.drop_succ_cons];exact⟨⟨mv,_,rfl,h2,this.1⟩,this.2⟩
def ix.ofBlk {w:aw}{Z:ax}{b:Nat}{cs:aq}{T:TypeId}(K:dX w b cs T)(hz:Z b)(n:Nat):ix w Z (U9 b n n) n cs.toList:=
 ⟨_,_,rfl,aE _,λ_=>⟨(aj b 0),rfl,hz,K.lt,λ_ hw p u hu=>bz (hw.J K) p u hu⟩⟩
def Pj {k:Nat}{w:aw}{Z:ax}{a b f:Nat}{x y:PV}{xm ym:Value}{T T' T'':TypeId}(A:dX w a #[.int .u64 x.1,ag x.2.1,xm,ag x.2.2.unk] T)(B:dX w b #[.int .u64 y.1,ag y.2.1,ym,ag y.2.2.unk] T')
  (F:dX w f #[aa 1,U9 a 1 1,aa 2,U9 b 1 1] T'') (hx:gP (k+1) w Z xm x.2.2) (hy:gP (k+1) w Z ym y.2.2) (za:Z a) (zb:Z b) (zf:Z f):gP (k+2) w Z (U9 f 2 2) (pC x y).2.2:=
 ⟨_,ix.ofBlk F zf 2,⟨_,_,rfl,⟨_,ix.ofBlk A za 1,_,_,rfl,hx,rfl⟩,_,_,rfl,⟨_,ix.ofBlk B zb 1,_,_,rfl,hy,rfl⟩,rfl⟩⟩
def ML {w W:aw}{a b c d e:aq}{A B C D E:TypeId}(h:((((w.alloc (Obj.cells a A)).alloc (Obj.cells b B)).alloc (Obj.cells c C)).alloc (Obj.cells d D)).alloc (Obj.cells e E)=W):ak w W/\dX W (w.heap.size+1) b B/\dX W (w.heap.size+1+1) c C/\dX W (w.heap.size+1+1+1) d D/\dX W (w.heap.size+1+1+1+1) e E:=by
 subst h;have h1:=dX.new (w.alloc (Obj.cells a A)) b B;have h2:=dX.new ((w.alloc (Obj.cells a A)).alloc (Obj.cells b B)) c C;have h3:=dX.new (((w.alloc (Obj.cells a A)).alloc (Obj.cells b B)).alloc (Obj.cells c C)) d D;have h4:=dX.new ((((w.alloc (Obj.cells a A)).alloc (Obj.cells b B)).alloc (Obj.cells c C)).alloc (Obj.cells d D)) e E;simp only[ci]at h1 h2 h3 h4;exact⟨(((((Vb w _).alloc Vd _).alloc Ve _).alloc Ve _).alloc Ve _),((h1.alloc _).alloc _).alloc _,(h2.alloc _).alloc _,h3.alloc _,h4⟩
def CF.O {k n:Nat}{w w':aw}{ov:Value}{l:List PV}(h:CF k w n ov l)(hk:∀b,n<=b->b<w.heap.size->w'.heap[b]?=w.heap[b]?):CF k w' n ov l:=by
 obtain⟨cs,h1,h2⟩:=h;exact⟨cs,h1.O hk,h2.imp λ_ _ h=>h.O hk⟩
def EG {k:Nat}{w:aw}{Z:ax}{cs:ay}{l:List PV}{i:Nat}{ek ev:PV}(h:kB (gP (k+2) w Z) cs l)(he:l[i]?=some (pC ek ev)):
  ∃(ad ae:Addr) (mc nc:Nat) (VC:aC) (VD:Nat),cs[i*4+2]?=some (.slice (some ad) 2 mc)/\∀W:aw,(∀b,Z b->b<w.heap.size->W.heap[b]?=w.heap[b]?)->
   W.cell? (aj ad.block (ad.off+1))=some (.slice (some ae) 1 nc)/\W.cell? ae=some (.int .u64 ek.1)/\W.cell? (aj ae.block (ae.off+1))=some (ag ek.2.1)/\W.cell? (aj ae.block (ae.off+2))=some (.slice VC ek.2.2.fs.length VD)/\W.cell? (aj ae.block (ae.off+3))=some (ag ek.2.2.unk):=by
 have⟨mv,⟨cs2,b1,b2⟩,a2,a3,a4,a5⟩:=h.get he;have⟨vv,⟨vcs,d1,d2⟩,c2,c3⟩:=b2.get (i:=0) rfl;obtain⟨em,rest,rfl,d3,d4⟩:=d2;obtain⟨VC,VD,rfl⟩:=d3.form;obtain⟨ma,mc,rfl⟩:=b1.form;obtain⟨na,nc,rfl⟩:=d1.form;obtain⟨ad,rfl,WH,WJ,WK⟩:=b1.at (by simp[pC,PM.fs]);obtain⟨ae,rfl,WL,WN,VY⟩:=d1.at Vd
 have cz:∀{W:aw} {a:Addr} {j:Nat} {y:Option Value},W.cell? (a.add (j+1))=y->W.cell? (aj a.block (a.off+(j+1)))=y:=fun{W a j y} h=>by
  have h2:W.cell? (a.add (0+(j+1)))=y:=by rw[Nat.zero_add];exact h
  have:=lI h2
  rwa [Ja]at this
 refine⟨ad,ae,mc,nc,VC,VD,a4,λW hW=> ?_⟩;have e1:=hW _ WH WJ;have e2:=hW _ WL WN;exact⟨cz (WK W e1 1 _ c3),by have:=VY W e2 0 _ rfl;rwa [Ja]at this,cz (VY W e2 1 _ rfl),cz (VY W e2 2 _ rfl),cz (VY W e2 3 _ rfl)⟩
def JF (k:Nat)(w:aw)(N gb:Nat)(raw:ar)(p:Nat)(v:Value)(vs:ay)(L:List (List F3))(sub:Mk)(t h ky deep:Nat)(hC:Cx w N gb raw p v vs L)
  (hi:∀j,j<=jp raw p 4+1->(ip sub raw t ky (p+1) j).2<1099511627776) (hv2:∀q,q<=(fG sub raw t false q).2) (ht:t<19) (hky:ky∈iu) (hd:deep<9)
  (hS:15<t->∀W q,Cx W N gb raw q v vs L->(sub (t-16) q).2<1099511627776->U8 30 #[.agg #[v],ah gb,aa (t-16:Nat),aa (deep+1+1:Nat)] W (Ik (k+1) W N gb raw (sub (t-16) q))):
  Calls prog 64 #[.agg #[v],ah gb,.agg #[aa t,aa h,aa ky],aa deep] w λe w'=>∃ov,e= .returned ov/\CF k w' w.heap.size ov (ip sub raw t ky (p+1) (jp raw p 4+1)).1/\Gv w' (Od N gb) gb raw (ip sub raw t ky (p+1) (jp raw p 4+1)).2/\ec [gb] w w':=by
 obtain⟨va,vc,rfl⟩:=hC.row.form;have⟨B,K1,K2⟩:=gY w #[.slice va L.length vc] #[aa t,aa h,aa ky] 68 137;have V9:=hC.G B;have hle:=hC.le;have VG:=hC.lt;have hp1:p+1<1099511627776:=by have:=hi 0 Vc;simpa [ip]using this
 have HN:=mG _ _ _ raw p 4 V9.gv Vf Vc;have VH:((w.alloc (am #[.slice va L.length vc] 68)).alloc (am #[aa t,aa h,aa ky] 137)).heap.size=w.heap.size+1+1:=Vd;have hc4:jp raw p 4<4:=ik _ Vf;generalize jp raw p 4=c at*;go_in
 go_wp2_with fail;refine HN.V ?_;rintro e w3 ⟨rfl,g3,VM⟩;have C3:=V9.step VM g3;have Wl:=K1.kept VM Ve;have Wm:=K2.kept VM Ve;have WA:=VM.size;rw[VH]at WA;have WB:ec [gb] w w3:=(ec.oB B).J VM;clear HN V9 K1 K2 VM g3 B VH hC;go_wp2;go_loopw [9,10] (λov nv wr=>∃j:Nat,j<=c+1/\nv=aa ((c:Int)-j)/\CF k wr w3.heap.size ov (ip sub raw t ky (p+1) j).1/\Gv wr (Od N gb) gb raw (ip sub raw t ky (p+1) j).2/\ec [gb] w3 wr) (λ_ nv _=>(intOf nv+1).toNat)
 case atStart=>exact⟨0,aP _,Vd,⟨[],eO.nil _ _ _ _,rfl⟩,C3.gv,ec.refl _ _⟩
 case round=>
  obtain⟨j,hj,rfl,⟨cs,Vp,Vv⟩,hG,hk⟩:=hrel;have hE:=MJ (sub:=sub) (raw:=raw) (t:=t) (p:=p+1) hky j;have Vw:=hi (j+1);have Wn:Hid (ip sub raw t ky (p+1) (j+1)=_):=ip.eq_2 sub raw t ky (p+1) j;rw[ip]at Vw;obtain⟨l,HL⟩:∃l,Hid ((ip sub raw t ky (p+1) j).1=l):=⟨_,rfl⟩;obtain⟨q,HQ⟩:∃q,Hid ((ip sub raw t ky (p+1) j).2=q):=⟨_,rfl⟩;rw[HL.o]at Vp Vv hE;rw[HQ.o]at hG Vw;simp only at Vw;obtain⟨oa,oc,rfl⟩:=iz Vp.1;have hszk:=hk.size;have zK1:=Wl.lt;have zK2:=Wm.lt;by_cases hjc:j<c+1
  .have hl2:(0:Int)<=(c:Int)-j:=Vc;have C4:=C3.step hk hG;have hky19:ky<14:=by simp[iu]at hky;omega
   have VW:=hv2 (fG sub raw ky false q).2;have Vw:=Vw Vc;have HK:=xf k wr N gb raw q _ vs L sub ky deep false C4 Vc Vc Vc (λh=>absurd h Vc);have VX:=Il (sub:=sub) (raw:=raw) (p:=q) (z:=false) hky;have Wb:=Wl.kept hk Ve;have Wd:=Wm.kept hk Ve;have⟨k1,k2⟩:=Wb.I;have⟨k3,k4⟩:=Wd.I;obtain⟨X,HX⟩:∃X,Hid (fG sub raw ky false q=X):=⟨_,rfl⟩;rw[HX.o]at HK Vw VX VW;obtain⟨x,q1⟩:=X;simp only at Vw VW VX;go_wp2_with fail;refine HK.V ?_;rintro e w4 ⟨mk,rfl,VZ,g4,VJ⟩;obtain⟨xa,xc,rfl⟩:=VZ.form;simp only at VZ g4;have C5:=C4.step VJ g4;have z4:=VJ.size;have⟨B5,NX⟩:=d8 w4 (U4 x xa xc) 55;have C6:=C5.G B5;have VO:=VZ.G B5 (aE _);have Wo:=(Wb.kept VJ Ve).G B5 Vc;have We:=(Wd.kept VJ Ve).G B5 Vc
   have HV:=xf k _ N gb raw q1 _ vs L sub t (deep+1) false C6 Vc Vc Vc (λh W hW=>by
    have:=hS h W q1 hW (by simp only[fG,dP h]at Vw;exact Vw)
    exact this)
   rw[show((deep+1:Nat):Int)=(deep:Int)+1 by omega]at HV;obtain⟨Y,HY⟩:∃Y,Hid (fG sub raw t false q1=Y):=⟨_,rfl⟩;rw[HY.o]at HV Vw VW;obtain⟨y,q2⟩:=Y;simp only at Vw VW;clear k1 k2 k3 k4 HK;have⟨k1,k2⟩:=Wo.I;have⟨k3,k4⟩:=We.I;unfold NK;go_wp2_with fail;generalize w4.alloc (Obj.cells (U4 x xa xc) 55)=w5 at*;refine HV.V ?_;rintro e w7 ⟨my,rfl,V0,g7,VA⟩;obtain⟨ya,yc,rfl⟩:=V0.form;simp only at V0 g7;unfold NK;clear k1 k2 k3 k4 HV;have z7:=VA.size;have z5:=B5.size;have zx:=NX.lt;have⟨B8,NY⟩:=d8 w7 (U4 y ya yc) 55;have Wp:=(NX.kept VA Ve).G B8 Vc;have⟨B9,NA⟩:=d8 (w7.U5 (U4 y ya yc) 55) (U4 x xa xc) 55;have Wq:=NY.G B9 Vd;have⟨k1,k2⟩:=Wp.I;have⟨k3,k4⟩:=Wq.I;go_upto_region 8 with fail
   generalize hW:World.alloc _ _=w12;have⟨VE,NA,NB,NF,NE⟩:=ML hW;have Ws:=((hk.J VJ).G B5).J VA;have Wt:=(C6.step VA g7).G VE;have Vx:=(NX.kept VA Ve).G VE Vc;have VI:=(We.kept VA Ve).G VE Vc;have Wu:=Pj (k:=k) (Z:=λb=>w3.heap.size<=b) NA NB NF ((VO.O λb q l=>VA.block b l Ve).G VE (aE _)|>.V λb q _=>Vc) ((V0.G VE (aE _)).V λb q _=>Vc) Vc Vc Vc;have VL:CF k _ w3.heap.size (.slice oa l.length oc) l:=CF.O (w:=wr) ⟨cs,Vp,Vv⟩ λb q l=>(((VJ.G B5).J VA).G VE).block b l Ve
   have VP:=Ws.G VE;have zx12:w3.heap.size<=w4.heap.size:=Vc;have ze12:w4.heap.size<w7.heap.size+1+1+1+1:=Vc;clear hW NA NB NF VE B8 NY B9 Wq Wp k1 k2 k3 k4 C6 C5 C4 Wb Wd Wo We NX B5 VZ VO V0 Vp Vv Ws VA VJ g4 g7 z7 z5 zx z4;generalize w7.heap.size+1+1+1+1=eb at*;generalize w7.heap.size+1+1+1=fb at*;generalize w4.heap.size=xb at*;go_upto_block 2 with fail
   go_cut [14]from 45 to 67 (λav wc=>av=aa (mS ky x l:Nat)/\ak w12 wc)
   case first=>
    obtain⟨cs,Vp,Vv⟩:=VL;go_wp2;go_loopw [14] (λav wx=>∃i:Nat,i<=l.length/\av=aa i/\Hid (mS ky x l=i+mS ky x (l.drop i))/\ak w12 wx) (λav _=>l.length-(intOf av).toNat)
    case atStart=>exact⟨0,aP _,rfl,by show mS ky x l=0+mS ky x (l.drop 0);simp,Below.refl _ _⟩
    case round=>
     obtain⟨i,hi2,rfl,HP,Bi⟩:=hrel;by_cases hil:i<l.length
     .have⟨e,he⟩:=gx hil;obtain⟨ek,ev,rfl,r0,r1⟩:=hE.1 e (aL he);have⟨ad,ae,mc,nc,VC,VD,a4,VT⟩:=EG Vv he;obtain⟨g,rfl,_,VS,Vq⟩:=eH Vp.1 Vc;have Wf:(i:Int)<(l.length:Int):=Vc
      have HS:Hid (∀W:aw,ak w12 W->W.cell? (aj (w.heap.size+1) 2)=some (aa ky)/\W.cell? (aj g (i*4+2))=some (.slice (some ad) 2 mc)/\(W.cell? (aj ad.block (ad.off+1))=some (.slice (some ae) 1 nc)/\W.cell? ae=some (.int .u64 ek.1)/\W.cell? (aj ae.block (ae.off+1))=some (ag ek.2.1)/\W.cell? (aj ae.block (ae.off+2))=some (.slice VC ek.2.2.fs.length VD)/\W.cell? (aj ae.block (ae.off+3))=some (ag ek.2.2.unk))/\(∀o,W.cell? (aj xb o)=(U4 x xa xc)[o]?)):=λW hW=>
       ⟨(VI.G hW VI.lt).cell 2,Vq W (hW.block _ VS) _ _ a4,VT W λb _ l=>hW.block b l,(Vx.G hW Vx.lt).cell⟩
      have HL:=Rm wr.drew ky ek x (.slice VC ek.2.2.fs.length VD) (.slice xa x.2.2.fs.length xc) hky r0 r1 VX.1 VX.2;unfold NK at HL;go_upto_region 10 with fail
      go_region_held2 (λW=>W.cell? (aj (w.heap.size+1) 2)=some (aa ky)/\W.cell? (aj g (i*4+2))=some (.slice (some ad) 2 mc)/\(W.cell? (aj ad.block (ad.off+1))=some (.slice (some ae) 1 nc)/\W.cell? ae=some (.int .u64 ek.1)/\W.cell? (aj ae.block (ae.off+1))=some (ag ek.2.1)/\W.cell? (aj ae.block (ae.off+2))=some (.slice VC ek.2.2.fs.length VD)/\W.cell? (aj ae.block (ae.off+3))=some (ag ek.2.2.unk))/\(∀o,W.cell? (aj xb o)=(U4 x xa xc)[o]?))
       (first|exact HS.o _ (dU Bi.drew c2)|exact HS.o _ Bi.drew)
       (first|(go_at_call 107;refine HL.V ?_;rintro en w2 ⟨rfl,c2⟩))
      have Bj:=dU Bi.drew c2;clear HS HL Vq VT;cases ha:oA ky ek x
      .have HZ:Hid (mS ky x l=i):=by rw[HP.o,MH he ha];exact rfl
       go_wp2;go_meet
       case rel=>exact⟨by rw[HZ.o],Bj⟩
      .have HZ:Hid (mS ky x l=i+1+mS ky x (l.drop (i+1))):=by rw[HP.o];exact MG he ha
       go_wp2;go_roundw
       case rel=>exact⟨i+1,Vc,by go_num,HZ,Bj⟩
       case measure=>simp[intOf];omega
     .obtain rfl:i=l.length:=Vc;have Wf:¬(l.length:Int)<(l.length:Int):=Vc;go_wp2;go_meet
      case rel=>exact⟨by rw[HP.o];simp[mS],Bi⟩
   case rest=>
    obtain⟨rfl,Bc⟩:=hcut;have Wv:=Gu ky x l;obtain⟨a,HA⟩:∃a,Hid (mS ky x l=a):=⟨_,rfl⟩;rw[HA.o]at Wv⊢
    have hT:Hid (EF ky x l=match l[a]? with
     |some e=>((xg e).1==x.1)&&((xg e).2.1.toList==x.2.1.toList)
     |none=>false):=by unfold Hid EF;rw[HA.o]
    go_upto_region 13 with fail
    go_cut [105]from 68 to 105 (λbv wx=>bv= .bool (EF ky x l)/\ak w12 wx)
    case first=>
     obtain⟨cs,Vp,Vv⟩:=VL;have⟨k1,k2⟩:=(Vx.G Bc Vx.lt).I;by_cases Wy:a<l.length
     .have⟨e,he⟩:=gx Wy;obtain⟨ek,ev,rfl,r0,r1⟩:=hE.1 e (aL he);have⟨ad,ae,mc,nc,VC,VD,a4,VT⟩:=EG Vv he;obtain⟨g,rfl,_,VS,Vq⟩:=eH Vp.1 Vc;have Wf:(a:Int)<(l.length:Int):=Vc;have s1:=Vq wc (Bc.block _ VS) _ _ a4;have⟨s3,s4,s5,s6,s7⟩:=VT wc λb _ l=>Bc.block b l
      have HR:Hid (EF ky x l=((ek.1==x.1)&&(ek.2.1.toList==x.2.1.toList))):=by rw[hT.o,he];rfl
      clear Vq VT;cases h1:(ek.1==x.1)
      .go_quiet (fail);go_wp2;go_meet
       case rel=>exact⟨by rw[HR.o,h1];rfl,im Bc _⟩
      .cases h2:(ek.2.1.toList==x.2.1.toList)
       all_goals
        go_quiet (fail);go_wp2;go_meet
        case rel=>exact⟨by rw[HR.o,h1,h2];rfl,im Bc _⟩
     .have Wf:¬(a:Int)<(l.length:Int):=Vc;have HR:Hid (EF ky x l=false):=by rw[hT.o,bf Vc];exact rfl
      go_quiet (fail);go_wp2;go_meet
      case rel=>exact⟨by rw[HR.o],im Bc _⟩
    case rest=>
     obtain⟨rfl,Bd⟩:=hcut;have Cd:=Wt.G Bd;have kd:=VP.G Bd;have Ww:=VL.O (w':=wc) λb _ l=>Bd.block b l
     have WC:=Wu.G Bd (aE _);have Wx:=NE.G Bd NE.lt;have zc:=Bd.size;clear Bc hT Wt VP VL Wu NE VI Vx VG Bd;cases hh:EF ky x l
     .have HI:Hid (ip sub raw t ky (p+1) (j+1)=(l.take a++pC x y::l.drop a,q2)):=(by rw[Wn.o,HL.o,HQ.o,HX.o];simp only;rw[HY.o];unfold qJ;rw[hh,HA.o];exact rfl);obtain⟨cs,Vp,Vv⟩:=Ww;have hcap:=Vp.rd.cap;have VQ:=Vv.one (λv m h=>by obtain⟨a,c,rfl⟩:=h.form;rfl);have Vy:=Vv.len;have hl4:=hE.2;have hac:(a:Int)<=(oc:Int):=Vc;have Wy:(a:Int)<=(l.length:Int):=Vc;have⟨k1,k2⟩:=Wx.I;have⟨i0,VN,V7,V8,VH⟩:=info_parts Tryz.infoV;have Vz:∀w1:aw,w1.ownsRow w1.heap.size 55 4 (ai) 0 []:=λw1=>br _ _ _ _
      have⟨WO,WP⟩:=Vv.split a
      have VR:∀(w8:aw) (v3:Value) (n:Nat) (xs:ay),ak wc w8->w8.ownsRow wc.heap.size 55 4 v3 n xs->n=(l.take a++pC x y::l.drop a).length->xs=cs.take (a*4)++([.int .u64 0,U7,U9 fb 2 2,U7]++cs.drop (a*4))->CF k w8 w3.heap.size v3 (ip sub raw t ky (p+1) (j+1)).1/\Gv w8 (Od N gb) gb raw (ip sub raw t ky (p+1) (j+1)).2/\ec [gb] w3 w8:=λw8 v3 n xs hB Wh hn hx=>by
       rw[HI.o];subst hn hx;exact⟨⟨_,(eO.of Wh).V λb q _=>aM kd.size q,((WO.append (l:=l.take a) (r:=pC x y::l.drop a) (show kB _ _ (pC x y::l.drop a)from⟨_,_,rfl,WC,WP⟩)).imp λ_ _ h=>h.G hB (aE _))⟩,Cd.gv.G (aI Cd.lt Cd.le) hB,kd.G hB⟩
      have HF:Hid _:=VR;clear VR;rcases Vp.1.2 with⟨VB,h0⟩|⟨g,cap,cur,VB,WQ,q3,q4,q5,q6,q7⟩
      .obtain rfl:l= []:=bE h0;obtain⟨rfl,rfl⟩:oa=none/\oc=0:=by cases VB;exact⟨rfl,rfl⟩
       obtain rfl:a=0:=by simpa using Wv
       obtain rfl:cs= []:=bE Vy
       go_wp2_with (first
        |(at_builtin;refine wpList_append_own_none rfl _ _ 56 rfl wc.heap.size 55 i0 4 underlying56 VN (ai) 0 [] rfl (Vz _) rfl ?_)
        |(at_builtin;refine wpList_append_own_at _ rfl _ _ 56 rfl wc.heap.size 55 i0 _ 4 64 underlying56 VN V7 V8 VH rfl Vf (ai) 0 [] rfl ((Vz _).alloc _) _ 1 1 [_,_,_,_] rfl rfl (qs _ _ _ _ _ _) ?h1 ?h63 ?hby ?hba ?_;rotate_right;intro v2 w6 Vr Vt Wk VU)
        |(at_builtin;refine wpList_append_own_none rfl _ _ 56 rfl wc.heap.size 55 i0 4 underlying56 VN v2 _ _ rfl Vr rfl ?_))
       case h1=>intro u hu;simp at hu;rcases hu with rfl|rfl|rfl|rfl<;>rfl
       case h63=>unfold maxLen;omega
       case hby=>omega
       case hba=>simp
       have B6:ak wc w6:=((Below.refl _ _).alloc (aE _) _).grown Vt Vd (λj hj=>by simp[Value.ownBlock]at hj);go_roundw
       case rel=>exact⟨j+1,Vc,Ve,HF.o w6 _ _ _ B6 Vr rfl rfl⟩
       case measure=>simp[intOf];omega
      .obtain⟨rfl,rfl⟩:oa=some (aj g 0)/\oc=cap:=by cases VB;exact⟨rfl,rfl⟩
       have VS:g<wc.heap.size:=dX.lt q3;have Vs:=Vp.1.cells (g:=g) rfl
       have WD:Hid (∀j u,(cs.take (a*4))[j]?=some u->wc.cell? (((aj g 0):Addr).add j)=some u):=λj u hj=>Vs j u (by
        rw[List.getElem?_take]at hj;split at hj;.exact hj
        .cases hj)
       have WE:Hid (∀w6:aw,w6.heap[g]?=wc.heap[g]?->∀j u,cs[a*4+j]?=some u->w6.cell? (aj g (a*4+j))=some u):=λw6 hw j u hj=>by
        have:=Vs _ _ hj;rw[show((aj g 0):Addr).add (a*4+j)=(aj g (a*4+j))by unfold Addr.add;generalize a*4+j=n;by_cases h:n=0<;>simp[h]]at this;rw[bC (w':=w6) (w:=wc) hw];exact this
       clear Vs WQ q3 q4 q5 q6 q7 VB;by_cases hoc:oc=a
       all_goals
        go_wp2_with (first
         |(at_builtin;refine wpList_append_own_at _ rfl _ _ 56 rfl wc.heap.size 55 i0 _ 4 64 underlying56 VN V7 V8 VH rfl Vf (ai) 0 [] rfl (Vz _) (aj g 0) a _ (cs.take (a*4)) rfl (by rw[bM,Vy];omega) WD.o (λu hu=>VQ u (List.mem_of_mem_take hu)) Vj Vc (aE _) ?_;intro v1 w5 VF Vu hnl5 hloc5;have WF:=Wx.grown Vu (by simp[Value.ownBlock]);have⟨o1,o2⟩:=WF.I)
         |(at_builtin;refine wpList_append_own_at _ rfl _ _ 56 rfl wc.heap.size 55 i0 _ 4 64 underlying56 VN V7 V8 VH rfl Vf v1 _ _ rfl (VF.alloc _) _ 1 1 [_,_,_,_] rfl rfl (qs _ _ _ _ _ _) (by intro u hu;simp at hu;rcases hu with rfl|rfl|rfl|rfl<;>rfl) Vj Vc (by have:=Vu.size;simp;omega) ?_;intro v2 w6 Vr Vt Wk VU;have B5:ak wc w5:=(Below.refl _ _).grown Vu (aE _) (λj hj=>by simp[Value.ownBlock]at hj);have B6:ak wc w6:=(B5.alloc B5.size _).grown Vt (by have:=B5.size;simp;omega) (λj hj=>(VF.lt j hj).1))
         |(at_builtin;refine wpList_append_own_at _ rfl _ _ 56 rfl wc.heap.size 55 i0 _ 4 64 underlying56 VN V7 V8 VH rfl Vf v2 _ _ rfl Vr _ (l.length-a) _ (cs.drop (a*4)) rfl (by rw[List.length_drop,Vy];omega) (by intro j u hj;rw[dH]at hj;first|(rw[bf Vc]at hj;cases hj)|(have:=WE.o w6 (B6.block g VS) j u hj;rwa [show((aj g (a*4)):Addr).add j=(aj g (a*4+j))by unfold Addr.add;by_cases h:j=0<;>simp[h]])) (λu hu=>VQ u (cG hu)) Vj Vc B6.size ?_;intro v3 w8 VV VK hnl8 hloc8;have B8:ak wc w8:=B6.grown VK B6.size (λj hj=>(Vr.lt j hj).1)))
        try exact⟨⟨j+1,Vc,Ve,HF.o w8 _ _ _ B8 VV Ve Vd⟩,by simp[intOf];omega⟩
     .have HI:Hid (ip sub raw t ky (p+1) (j+1)=(l,q2)):=(by rw[Wn.o,HL.o,HQ.o,HX.o];simp only;rw[HY.o];unfold qJ;rw[hh];exact rfl);go_wp2;go_roundw
      case rel=>exact⟨j+1,Vc,Ve,by rw[HI.o];exact Ww,by rw[HI.o];exact Cd.gv,kd⟩
      case measure=>simp[intOf];omega
  .obtain rfl:j=c+1:=Vc;have hl3:¬(0:Int)<=(c:Int)-((c+1:Nat):Int):=Vc;have VL:CF k wr w.heap.size (.slice oa l.length oc) l:=⟨cs,Vp.V λb q _=>Vc,Vv.imp λ_ _ h=>h.V λb q _=>Vc⟩;have WG:=WB.J hk;go_wp2;go_ret;exact⟨_,rfl,by rw[HL.o];exact VL,by rw[HQ.o];exact hG,WG⟩
def iX (sub:Mk)(raw:List Int)(t p:Nat):Nat->List PV×Nat
 |0=>([],p)
 |j+1=>((iX sub raw t p j).1++ [(fG sub raw t false (iX sub raw t p j).2).1],(fG sub raw t false (iX sub raw t p j).2).2)
def Gw (d t h:Nat):Bool:=(decide (15<t)&&decide (d=0))||(decide (h=4)&&decide (d=0))||(decide (h=4)&&decide (15<t)&&decide (d<2))
def MP (raw:List Int)(d t h:Nat)(one:Bool)(p:Nat):Bool:=decide (jp raw p 3=0)||Gw d t h||(decide (h=3)&&one)
def pE (s1 s2:Mk)(raw:List Int)(f:F3)(p:Nat):List PV×Nat:=
 if f.2.1=1 then iX s1 raw f.1 (p+1) (jp raw p 3+1)
 else if f.2.1=4 then ip s2 raw f.1 f.2.2 (p+1) (jp raw p 4+1)
 else([(fG s1 raw f.1 (decide (f.2.1=0)) p).1],(fG s1 raw f.1 (decide (f.2.1=0)) p).2)
def gH (s1 s2:Mk)(raw:List Int)(d:Nat)(fs:List F3)(p:Nat):Nat->List PF×Bool×Nat
 |0=>([],false,p)
 |k+1=>
  let r:=gH s1 s2 raw d fs p k
  let f:=(fs[k]?).getD (0,0,0)
  if MP raw d f.1 f.2.1 r.2.1 r.2.2=true then(r.1,r.2.1,r.2.2+1)
  else(r.1++ [(((k+1:Nat):Int),(pE s1 s2 raw f (r.2.2+1)).1)],r.2.1||decide (f.2.1=3),(pE s1 s2 raw f (r.2.2+1)).2)
def wg:ByteArray:=⟨#[248,63,7]⟩
def kX (s1 s2:Mk)(raw:List Int)(d:Nat)(fs:List F3)(p:Nat):PM×Nat:=
 let r:=gH s1 s2 raw d fs p fs.length
 (.mk r.1 (if jp raw r.2.2 4=0 then wg else eS),r.2.2+1)
def oZ:Mk:=λ_ p=>(PM.none,p)
def gS (raw:List Int)(L:List (List F3)):Nat->Mk
 |0=>λi p=>kX oZ oZ raw 0 ((L[i]?).getD []) p
 |1=>λi p=>kX (gS raw L 0) oZ raw 1 ((L[i]?).getD []) p
 |d+2=>λi p=>kX (gS raw L (d+1)) (gS raw L d) raw (d+2) ((L[i]?).getD []) p
section
variable {sub s1 s2:Mk} {raw:List Int} {t p d:Nat}
def Up (s:Mk):Prop:=∀i p,p<=(s i p).2
def zh (h:Up sub)(z:Bool):p<=(fG sub raw t z p).2:=by
 unfold fG;split;.exact h _ _
 .split<;>simp only<;>omega
def CH (h:Up sub):∀{i j:Nat},i<=j->(iX sub raw t p i).2<=(iX sub raw t p j).2
 |i,0,hij=>by(obtain rfl:=Nat.le_zero.1 hij);exact aE _
 |i,j+1,hij=>by
  by_cases e:i=j+1;.rw[e];exact aE _
  .exact aM (CH h (show i<=j by omega)) (zh h false)
def Gx (h:Up sub){ky:Nat}:∀{i j:Nat},i<=j->(ip sub raw t ky p i).2<=(ip sub raw t ky p j).2
 |i,0,hij=>by(obtain rfl:=Nat.le_zero.1 hij);exact aE _
 |i,j+1,hij=>by
  by_cases e:i=j+1;.rw[e];exact aE _
  .exact aM (Gx h (show i<=j by omega)) (aM (zh h false) (zh h false))
def Rq (h1:Up s1)(h2:Up s2){f:F3}:p<=(pE s1 s2 raw f p).2:=by
 unfold pE;split;.exact aM (bG _) (CH (i:=0) h1 (aP _))
 .split;.exact aM (bG _) (Gx (i:=0) h2 (aP _))
  .exact zh h1 _
def CI (h1:Up s1)(h2:Up s2){fs:List F3}:∀{i j:Nat},i<=j->(gH s1 s2 raw d fs p i).2.2<=(gH s1 s2 raw d fs p j).2.2
 |i,0,hij=>by(obtain rfl:=Nat.le_zero.1 hij);exact aE _
 |i,j+1,hij=>by
  by_cases e:i=j+1;.rw[e];exact aE _
  .refine aM (CI h1 h2 (show i<=j by omega)) ?_;rw[gH];split;.exact bG _
   .exact aM (bG _) (Rq h1 h2)
def CJ (h1:Up s1)(h2:Up s2){fs:List F3}:p<=(kX s1 s2 raw d fs p).2:=
 aM (CI (i:=0) h1 h2 (aP fs.length)) (bG _)
def rt:Up oZ:=λ_ _=>aE _
def uY (raw:List Int)(L:List (List F3)):∀d,Up (gS raw L d)
 |0=>λ_ _=>CJ rt rt
 |1=>λ_ _=>CJ (uY raw L 0) rt
 |d+2=>λ_ _=>CJ (uY raw L (d+1)) (uY raw L d)
end
def uZ (s:Mk)(raw:List Int)(t p:Nat):∀j,(iX s raw t p j).1.length=j
 |0=>rfl
 |j+1=>by rw[iX];simp[uZ s raw t p j]
def MQ (k:Nat)(w:World)(n:Nat)(lv:Value)(l:List PV):Prop:=∃cs,eO w (λb=>n<=b) 55 4 lv l.length cs/\kB (gP k w (λb=>n<=b/\some b≠lv.ownBlock)) cs l
def Io (s1 s2:Mk)(raw:List Int)(d:Nat)(fs:List F3)(p:Nat):∀k,(gH s1 s2 raw d fs p k).1.length<=k
 |0=>aE _
 |k+1=>by
  have:=Io s1 s2 raw d fs p k;rw[gH];split<;>simp<;>omega
def EH (k:Nat)(w:World)(n:Nat)(fv:Value)(l:List PF):Prop:=∃cs,eO w (λb=>n<=b) 58 2 fv l.length cs/\tE (gP k w (λb=>n<=b/\some b≠fv.ownBlock)) w (λb=>n<=b/\some b≠fv.ownBlock) cs l
def Rr (k N gb:Nat)(raw:List Int)(v:Value)(vs:List Value)(L:List (List F3))(sub:Mk)(deep:Nat):Prop:=
 ∀(W:World) (i p:Nat),Cx W N gb raw p v vs L->i<L.length->(sub i p).2<1099511627776->U8 30 #[.agg #[v],.pointer (some ⟨gb,0,none⟩),.int .i64 i,.int .i64 deep] W (Ik k W N gb raw (sub i p))
def EH.O {k n:Nat}{w w':World}{fv:Value}{l:List PF}(h:EH k w n fv l)(hk:∀b,n<=b->b<w.heap.size->w'.heap[b]?=w.heap[b]?):EH k w' n fv l:=by
 obtain⟨cs,h1,h2⟩:=h;exact⟨cs,h1.O hk,h2.O (λ_ _ h=>h.O λb q l=>hk b q.1 l) λb q l=>hk b q.1 l⟩
def EH.lt {k n:Nat}{w:World}{fv:Value}{l:List PF}(h:EH k w n fv l)(b:Nat)(hb:fv.ownBlock=some b):b<w.heap.size:=by
 obtain⟨cs,h1,_⟩:=h;exact(h1.1.lt b hb).2
def Cx.O {w w':World}{N gb p:Nat}{raw:List Int}{v:Value}{vs:List Value}{L:List (List F3)}(h:Cx w N gb raw p v vs L)(hk:∀b,b<N->w'.heap[b]?=w.heap[b]?)(hs:w.heap.size<=w'.heap.size):Cx w' N gb raw p v vs L:=
 ⟨h.gv.O (hk _ h.lt) λb q _=>hk b q.1,h.row.O λb q _=>hk b q.1,h.at_.O λb q _=>hk b q.1,h.lt,aM h.le hs⟩
def tE.append {P:Value->PM->Prop}{w:World}{Z:Nat->Prop}:∀{l r:List PF} {cs ds:List Value},tE P w Z cs l->tE P w Z ds r->tE P w Z (cs++ds) (l++r)
 | [],_,_,_,h,hr=>by
  obtain rfl:_= []:=h
  exact hr
 |_::_,_,_,_,⟨vv,rest,h1,h2,h3⟩,hr=>by
  subst h1;exact⟨vv,rest++_,rfl,h2,tE.append h3 hr⟩
section
variable {k n g cap:Nat} {W w':World} {lv:Value}
def Ip (hl:∀b,lv.ownBlock=some b->n<=b)(Vs:lv.ownBlock=some g\/g=W.heap.size)(hn:n<=W.heap.size):n<=g:=by
 rcases Vs with h|h;.exact hl _ h
 .omega
def Gy {b:Nat}(Vs:lv.ownBlock=some g\/g=W.heap.size)(q:some b≠lv.ownBlock)(l:b<W.heap.size):b≠g:=by
 rcases Vs with h|h;.exact λe=>q (by rw[h,e])
 .omega
def MR (hg:W.grownBy w' lv.ownBlock)(Vs:lv.ownBlock=some g\/g=W.heap.size){mv:Value}{m:PM}(h:gP k W (λb=>n<=b/\some b≠lv.ownBlock) mv m):gP k w' (λb=>n<=b/\some b≠some g) mv m:=
 ((h.V (Y:=λb=>(n<=b/\some b≠lv.ownBlock)/\b≠g) λ_ q l=>⟨q,Gy Vs q.2 l⟩).O λb q l=>hg.block b l q.1.2).V λb q _=>⟨q.1.1,λe=>q.2 (Option.some.inj e)⟩
def Rs {l:List PV}{cs news:List Value}{x:PV}(Vq:eO W (λb=>n<=b) 55 4 lv l.length cs)(VC:kB (gP k W (λb=>n<=b/\some b≠lv.ownBlock)) cs l)(hx:kB (gP k W (λb=>n<=b/\some b≠lv.ownBlock)) news [x])
  (Vt:w'.ownsRow 0 55 4 (.slice (some ⟨g,0,none⟩) (l.length+1) cap) (l.length+1) (cs++news)) (hg:W.grownBy w' lv.ownBlock) (Vs:lv.ownBlock=some g\/g=W.heap.size) (hn:n<=W.heap.size):MQ k w' n (.slice (some ⟨g,0,none⟩) (l.length+1) cap) (l++ [x]):=
 ⟨cs++news,⟨by simpa using Vt,λb hb=>by obtain rfl:=Option.some.inj (show some g=some b from hb);exact Ip Vq.2 Vs hn⟩,(VC.append hx).imp λ_ _ h=>MR hg Vs h⟩
def Rt {l:List PF}{cs news:List Value}{x:PF}(Vq:eO W (λb=>n<=b) 58 2 lv l.length cs)(VC:tE (gP k W (λb=>n<=b/\some b≠lv.ownBlock)) W (λb=>n<=b/\some b≠lv.ownBlock) cs l)(hx:tE (gP k W (λb=>n<=b/\some b≠lv.ownBlock)) W (λb=>n<=b/\some b≠lv.ownBlock) news [x])
  (Vt:w'.ownsRow 0 58 2 (.slice (some ⟨g,0,none⟩) (l.length+1) cap) (l.length+1) (cs++news)) (hg:W.grownBy w' lv.ownBlock) (Vs:lv.ownBlock=some g\/g=W.heap.size) (hn:n<=W.heap.size):EH k w' n (.slice (some ⟨g,0,none⟩) (l.length+1) cap) (l++ [x]):=
 ⟨cs++news,⟨by simpa using Vt,λb hb=>by obtain rfl:=Option.some.inj (show some g=some b from hb);exact Ip Vq.2 Vs hn⟩,
  (((VC.append hx).V (Y:=λb=>(n<=b/\some b≠lv.ownBlock)/\b≠g) (Q:=gP k W (λb=>(n<=b/\some b≠lv.ownBlock)/\b≠g)) (λ_ _ h=>h.V λ_ q l=>⟨q,Gy Vs q.2 l⟩) λ_ q l=>⟨q,Gy Vs q.2 l⟩).O (Q:=gP k w' (λb=>(n<=b/\some b≠lv.ownBlock)/\b≠g)) (λ_ _ h=>h.O λb q l=>hg.block b l q.1.2) λb q l=>hg.block b l q.1.2).V (λ_ _ h=>h.V λb q _=>⟨q.1.1,λe=>q.2 (Option.some.inj e)⟩) λb q _=>⟨q.1.1,λe=>q.2 (Option.some.inj e)⟩⟩
end
def Gz (w:World)(N gb:Nat)(raw:List Int)(p:Nat)(v:Value)(vs:List Value)(L:List (List F3))(s1 s2:Mk)(d i:Nat)(fs:List F3)(hD:CG L)(hC:Cx w N gb raw p v vs L)(Vv:L[i]?=some fs)(hd:d<=7)(u1:Up s1)(u2:Up s2)
  (hi:(kX s1 s2 raw d fs p).2<1099511627776) (h1:0<d->Rr (d+1) N gb raw v vs L s1 (8-d+1)) (h2:1<d->Rr d N gb raw v vs L s2 (8-d+1+1)):
  Calls prog 30 #[.agg #[v],.pointer (some ⟨gb,0,none⟩),.int .i64 i,.int .i64 (8-d:Nat)] w (Ik (d+2) w N gb raw (kX s1 s2 raw d fs p)):=by
 obtain⟨va,vc,rfl⟩:=hC.row.form;have WT:i<L.length:=(bn.1 Vv).1;have⟨hf1,hf7,WN⟩:=hD.fs fs (aL Vv);have hL3:=hD.few;have⟨vf,WO⟩:=gx (show i<vs.length by rw[hC.at_.1];exact WT);have V7:=hC.at_.2 i fs vf Vv WO;obtain⟨fa,fc,rfl⟩:=V7.form;obtain⟨ad,rfl,oa,la,WP⟩:=hC.row.at Vc;obtain⟨af,rfl,of,lf,WQ⟩:=V7.at Vc;have HR:Hid (∀W,ec [gb] w W->W.cell? (ad.add i)=some (.slice (some af) fs.length fc)):=λW hW=>WP W (hW.block _ la (by simp;exact oa.2)) i _ WO
 have HE:Hid (∀W,ec [gb] w W->∀k f,fs[k]?=some f->W.cell? (af.add (k*3))=some (.int .i64 f.1)/\W.cell? ⟨(af.add (k*3)).block,(af.add (k*3)).off+1,none⟩=some (.int .i64 f.2.1)/\W.cell? ⟨(af.add (k*3)).block,(af.add (k*3)).off+2,none⟩=some (.int .i64 f.2.2)):=λW hW k f hf=>by
  have hq:=λj (hj:j<3) u (hu:(JE f)[j]?=some u)=>WQ W (hW.block _ lf (by simp;exact of.2)) (k*3+j) u ((fY JE 3 (λ_=>rfl) fs k f hf j hj).J hu)
  exact⟨hq 0 Vc _ rfl,lI (hq 1 Vc _ rfl),lI (hq 2 Vc _ rfl)⟩
 clear WP WQ V7;have WU:=hC.le;have VG:=hC.lt;have Wy:((decide (d=0)=true/\decide (d<2)=true)/\(8:Int)<((8-d:Nat):Int)+1/\(8:Int)<((8-d:Nat):Int)+2)\/((decide (d=0)=false/\decide (d<2)=true)/\¬(8:Int)<((8-d:Nat):Int)+1/\(8:Int)<((8-d:Nat):Int)+2)\/((decide (d=0)=false/\decide (d<2)=false)/\¬(8:Int)<((8-d:Nat):Int)+1/\¬(8:Int)<((8-d:Nat):Int)+2):=by simp only[dQ,decide_eq_false_iff_not];omega
 have hD8:8-d<9:=Vc;generalize 8-d=D at*;go_in
 go_wp2_with fail;generalize hW:World.alloc _ _=w3;have⟨B,KA,KR,KM⟩:=JH hW;have C3:=hC.G B;go_loopw [10,11] (λov kv wr=>∃(k:Nat) (fv:Value),k<=fs.length/\kv= .int .i64 k/\ov= .bool (gH s1 s2 raw d fs p k).2.1/\dX wr (w.heap.size+1+1) #[fv,.string ⟨#[]⟩] 49/\dX wr (w.heap.size+1) #[.slice none 0 0,.string ⟨#[]⟩] 49/\dX wr w.heap.size #[.slice (some ad) L.length vc] 68/\EH (d+1) wr (w.heap.size+1+1+1) fv (gH s1 s2 raw d fs p k).1/\Cx wr N gb raw (gH s1 s2 raw d fs p k).2.2 (.slice (some ad) L.length vc) vs L/\ec [gb] w wr) (λ_ kv _=>fs.length-(intOf kv).toNat)
 case atStart=>exact⟨0,_,aP _,rfl,rfl,KM,KR,KA,⟨[],eO.nil _ _ _ _,rfl⟩,C3,ec.oB B⟩
 case round=>
  clear KM KR KA C3 B;obtain⟨k,fv,hk,rfl,rfl,KM,KR,KA,VQ,VR,VS⟩:=hrel;have VV:=CI (raw:=raw) (p:=p) (d:=d) (fs:=fs) u1 u2 hk;have Vu:k<fs.length->_:=λh=>CI (raw:=raw) (p:=p) (d:=d) (fs:=fs) u1 u2 (show k+1<=fs.length from h)
  rw[gH]at Vu;obtain⟨S,HS⟩:∃S,Hid (gH s1 s2 raw d fs p k=S):=⟨_,rfl⟩;rw[HS.o]at VQ VR VV Vu⊢;obtain⟨F,one,q⟩:=S;simp only at VQ VR VV Vu⊢;have hq:q+1<1099511627776:=by simp only[kX]at hi;omega
  have t0:=HR.o wr VS;have⟨r1,r2⟩:=KA.I;have hiI:(i:Int)<(L.length:Int):=Vc;by_cases hkl:k<fs.length
  .have⟨f,hf⟩:=gx hkl;have Vw:=Vu hkl;clear Vu;obtain⟨t,h,ky⟩:=f;have⟨ht,Xg,WR,Wp⟩:=WN _ (aL hf);have⟨c1,c2,c3⟩:=HE.o wr VS k _ hf;simp only at ht Xg WR Wp c1 c2 c3;rw[hf]at Vw;simp only[Option.getD_some]at Vw;have WV:(k:Int)<(fs.length:Int):=Vc;have⟨B5,NF⟩:=d8 wr #[.int .i64 t,.int .i64 h,.int .i64 ky] 137;have⟨r3,r4⟩:=NF.I;go_upto_region 7 with fail
   go_cut [13]from 34 to 66 (λfv wx=>fv= .bool (Gw d t h)/\wx=wr.alloc (Obj.cells #[.int .i64 t,.int .i64 h,.int .i64 ky] 137))
   case first=>
    have Vz:((15:Int)<(t:Int)/\decide (15<t)=true)\/(¬(15:Int)<(t:Int)/\decide (15<t)=false):=by simp only[dQ,decide_eq_false_iff_not];omega
    have h4:(((h:Int)==4)=true/\decide (h=4)=true)\/(((h:Int)==4)=false/\decide (h=4)=false):=Ve;clear Wp;rcases Wy with⟨⟨d1,d4⟩,d2,d3⟩|⟨⟨d1,d4⟩,d2,d3⟩|⟨⟨d1,d4⟩,d2,d3⟩<;>rcases Vz with⟨a1,a2⟩|⟨a1,a2⟩<;>rcases h4 with⟨b1,b2⟩|⟨b1,b2⟩
    all_goals
     go_wp2;go_meet
     case rel=>exact⟨dS Value.bool (by unfold Gw;rw[a2,b2,d1,d4];first|rfl|(rw[decide_eq_false (show¬(8:Int)<(D:Int)+1 by omega)];rfl)|(rw[decide_eq_false (show¬(8:Int)<(D:Int)+1 by omega),decide_eq_false (show¬(8:Int)<(D:Int)+2 by omega)];rfl)|(rw[decide_eq_false (show¬(8:Int)<(D:Int)+1 by omega),decide_eq_true (show(8:Int)<(D:Int)+2 by omega)];rfl)),rfl⟩
   case rest=>
    obtain⟨rfl,rfl⟩:=hcut;obtain⟨fq,HF⟩:∃fq,Hid (Gw d t h=fq):=⟨_,rfl⟩;rw[HF.o];have C5:=VR.G B5;have HN:=mG _ _ _ raw q 3 C5.gv Vf Vc;have z5:=KM.lt;have zgb:gb<w.heap.size:=aI VG WU;have Wz:=KM.G B5 KM.lt;have VW:=KR.G B5 KR.lt;have WA:=KA.G B5 KA.lt;have WB:=VS.G B5;have WC:EH (d+1) _ (w.heap.size+1+1+1) fv F:=VQ.O λb _ l=>B5.block b l
    obtain⟨fb,Xh⟩:∃fb,Hid (wr.heap.size=fb):=⟨_,rfl⟩;generalize wr.alloc (Obj.cells #[.int .i64 t,.int .i64 h,.int .i64 ky] 137)=w5 at*;rw[Xh.o]at NF r3 r4 z5⊢;clear B5 VR VS VQ KM KR KA r1 r2 c1 c2 c3 t0 Wy;go_upto_region 8 with fail
    go_cut [80]from 67 to 80 (λsv wx=>sv= .bool (MP raw d t h one q)/\Gv wx (Od N gb) gb raw (q+1)/\ec [gb] w5 wx)
    case first=>
     have h3:(((h:Int)==3)=true/\decide (h=3)=true)\/(((h:Int)==3)=false/\decide (h=3)=false):=Ve;obtain⟨c,VT⟩:∃c,Hid (jp raw q 3=c):=⟨_,rfl⟩;rw[VT.o]at HN;have hc:(((c:Int)==0)=true/\decide (c=0)=true)\/(((c:Int)==0)=false/\decide (c=0)=false):=Ve;rcases h3 with⟨a1,a2⟩|⟨a1,a2⟩<;>rcases hc with⟨b1,b2⟩|⟨b1,b2⟩<;>cases fq<;>cases one
     all_goals
      go_wp2_with fail;refine HN.V ?_;rintro e w6 ⟨rfl,g6,k6⟩;have⟨o1,o2⟩:=(NF.kept k6 Ve).I;go_wp2;go_meet
      case rel=>exact⟨dS Value.bool (by unfold MP;rw[VT.o,HF.o,a2,b2];rfl),g6,k6⟩
    case rest=>
     obtain⟨rfl,g6,k6⟩:=hcut;have C6:=C5.step k6 g6;have s6:=k6.size;have VM:=NF.kept k6 Ve;have VX:=Wz.kept k6 Ve;have V8:=VW.kept k6 Ve;have VN:=WA.kept k6 Ve;have V9:=WC.O (w':=wc) λb q l=>k6.block b l Ve
     have Wb:=WB.J k6;have zM:=VX.lt;clear C5 NF Wz VW WA WC WB r3 r4 HN g6 k6;cases hsk:MP raw d t h one q
     .have VA:Hid (gH s1 s2 raw d fs p (k+1)=(F++ [(((k+1:Nat):Int),(pE s1 s2 raw (t,h,ky) (q+1)).1)],one||decide (h=3),(pE s1 s2 raw (t,h,ky) (q+1)).2)):=(by rw[gH,HS.o,hf];simp only[Option.getD_some];rw[hsk];rfl);rw[hsk]at Vw;simp only[aU,if_false]at Vw;have Vy:(pE s1 s2 raw (t,h,ky) (q+1)).2<1099511627776:=by simp only[kX]at hi;omega
      have VH:Gw d t h=false:=by unfold MP at hsk;simp only[dt]at hsk;exact hsk.1.2
      have VK:(15<t->0<d)/\(h=4->0<d)/\(h=4->15<t->1<d):=(by unfold Gw at VH;simp at VH;omega);clear Vw VV hi hsk VH;have⟨r3,r4⟩:=VM.I;obtain⟨X,Wq⟩:∃X,Hid (pE s1 s2 raw (t,h,ky) (q+1)=X):=⟨_,rfl⟩;rw[Wq.o]at Vy VA;obtain⟨l,q7⟩:=X;simp only at Vy VA;go_upto_block 2 with fail
      clear r3 r4;generalize wc=w6 at*;go_cut [14]from 83 to 116 (λlv wx=>pO (gP (d+1) wx (λb=>w6.heap.size<=b)) wx (λb=>w6.heap.size<=b) lv l/\Gv wx (Od N gb) gb raw q7/\ec [gb] w6 wx)
      case first=>
       have⟨r1,r2⟩:=VN.I;have⟨r3,r4⟩:=VM.I;clear Wp;have Vr:=Wq.o;unfold pE at Vr;simp only at Vr;have VI:t<19:=Vc;by_cases e1:h=1
       .rw[dP e1]at Vr;subst e1;have hc3:jp raw (q+1) 3<3:=ik _ Vf;have Wd:∀j,j<=jp raw (q+1) 3+1->(iX s1 raw t (q+1+1) j).2<1099511627776:=λj hj=>Nat.lt_of_le_of_lt (CH u1 hj) (by rw[Vr];exact Vy)
        have HN:=mG _ _ _ raw (q+1) 3 C6.gv Vf (by have:=Wd 0 Vc;simp only[iX]at this;omega);generalize jp raw (q+1) 3=c at*;have WW:Hid _:=Vr;have WX:Hid _:=Wd;clear Vr Wd;go_wp2_with fail;refine HN.V ?_;rintro en w7 ⟨rfl,g7,k7⟩;clear HN r1 r2 r3 r4;go_wp2;go_loopw [14,15] (λlv nv wx=>∃j:Nat,j<=c+1/\nv= .int .i64 ((c:Int)-j)/\MQ (d+1) wx w7.heap.size lv (iX s1 raw t (q+1+1) j).1/\Gv wx (Od N gb) gb raw (iX s1 raw t (q+1+1) j).2/\ec [gb] w7 wx) (λ_ nv _=>(intOf nv+1).toNat)
        case atStart=>exact⟨0,aP _,Vd,⟨[],eO.nil _ _ _ _,rfl⟩,g7,ec.refl _ _⟩
        case round=>
         obtain⟨j,hj,rfl,⟨cs,Vq,VC⟩,hG,VL⟩:=hrel;have z7:=k7.size;have z8:=VL.size;have VY:=WX.o (j+1);rw[iX]at VY;have WD:Hid (iX s1 raw t (q+1+1) (j+1)=_):=iX.eq_2 s1 raw t (q+1+1) j;obtain⟨lj,Ws⟩:∃lj,Hid ((iX s1 raw t (q+1+1) j).1=lj):=⟨_,rfl⟩;obtain⟨qj,V0⟩:∃qj,Hid ((iX s1 raw t (q+1+1) j).2=qj):=⟨_,rfl⟩;have WE:=uZ s1 raw t (q+1+1) j;rw[Ws.o]at Vq VC WE;have hll3:lj.length<5:=Vc;clear WE;rw[V0.o]at hG VY;simp only at VY;obtain⟨oa,oc,rfl⟩:=iz Vq.1;by_cases hjc:j<c+1
         .have WF:(0:Int)<=(c:Int)-j:=Vc;have C8:=(C6.step k7 g7).step VL hG;have VO:=VY Vc;have HV:=xf d wr N gb raw qj _ vs L s1 t D false C8 VO VI Vc (λVz W hW=>h1 (VK.1 Vz) W (t-16) qj hW Vc (by simp only[fG,dP Vz]at VO;exact VO));obtain⟨X,HX⟩:∃X,Hid (fG s1 raw t false qj=X):=⟨_,rfl⟩;rw[HX.o]at HV VO;obtain⟨x,q9⟩:=X;simp only at VO;have We:=(VN.kept k7 Ve).kept VL Ve;have WY:=(VM.kept k7 Ve).kept VL Ve;have⟨r1,r2⟩:=We.I;have⟨r3,r4⟩:=WY.I;go_wp2_with fail;refine HV.V ?_;rintro en w9 ⟨mv,rfl,hm,g9,k9⟩;obtain⟨ma,mc,rfl⟩:=hm.form;simp only at hm g9;unfold NK;have z9:=k9.size;clear HV r1 r2 r3 r4;have⟨VU,N10⟩:=d8 w9 (U4 x ma mc) 55;have C10:=(C8.step k9 g9).G VU;have Wf:=(VL.J k9).G VU;have VD:=(Vq.O (w':=w9) λb q l=>k9.block b l Ve).O (w':=w9.alloc (Obj.cells (U4 x ma mc) 55)) λb q l=>VU.block b l
          have Vx:∀b,(Value.slice oa lj.length oc).ownBlock=some b->w7.heap.size<=b/\b<wr.heap.size:=λb hb=>⟨Vq.2 b hb,(Vq.1.lt b hb).2⟩
          have Wh:=VC.imp λ_ _ h=>(h.O (w':=w9) λb q l=>k9.block b l Ve).O (w':=w9.alloc (Obj.cells (U4 x ma mc) 55)) λb q l=>VU.block b l
          have Wk:=hm.G VU (aE _);have e10:(w9.alloc (Obj.cells (U4 x ma mc) 55)).heap.size=w9.heap.size+1:=Vd;have⟨i0,Wt,Wu,Wv,Ww⟩:=info_parts Tryz.infoV;go_wp2_with (at_builtin;refine wpList_append_lies _ rfl _ _ 56 rfl 0 55 i0 _ 4 64 underlying56 Wt Wu Wv Ww rfl Vf (.slice oa lj.length oc) lj.length cs rfl VD.1 ⟨w9.heap.size,0,none⟩ 1 1 [_,_,_,_] rfl rfl (qs _ _ _ _ _ _) (by intro u hu;simp at hu;rcases hu with rfl|rfl|rfl|rfl<;>rfl) Vf Vj Vc Vc _ rfl ?_;intro g cap w11 Vt Vp Vs VG)
          have Wl:=Rs (x:=x) VD Wh ⟨_,_,rfl,Wk.V λb q l=>⟨Vc,λe=>by have:=Vx b e.sy;omega⟩,rfl⟩ Vt Vp Vs Vc;refine⟨⟨j+1,Vc,Ve,?_,?_,?_⟩,by simp[intOf];omega⟩;.rw[WD.o,Ws.o,V0.o,HX.o];exact Wl
          .rw[WD.o,V0.o,HX.o];exact C10.gv.grown C10.lt C10.le Vp λg hg=>by have:=Vx g hg;have:=C6.le;omega
          .exact Wf.grown Vp λg hg=>(Vx g hg).1
         .obtain rfl:j=c+1:=Vc;have hl3:¬(0:Int)<=(c:Int)-((c+1:Nat):Int):=Vc;have h7:=WW.o;have e7:lj=l/\qj=q7:=by rw[<-Ws.o,<-V0.o,h7];exact⟨rfl,rfl⟩
          obtain⟨rfl,rfl⟩:=e7;have WZ:pO (gP (d+1) wr (λb=>w6.heap.size<=b)) wr (λb=>w6.heap.size<=b) (.slice oa lj.length oc) lj:=⟨cs,Vq.rd.V λb q _=>Vc,VC.imp λ_ _ h=>h.V λb q _=>Vc⟩;have kk:=k7.J VL;clear h7;go_wp2;go_meet
          case rel=>exact⟨WZ,hG,kk⟩
       .rw[dO e1]at Vr;have e1:((h:Int)==1)=false:=Ve;by_cases e4:h=4
        .rw[dP e4]at Vr;obtain⟨e,he⟩:∃e,Hid (d=e+1):=⟨d-1,by have:=VK.2.1 e4;show d=d-1+1;omega⟩;have W5:jp raw (q+1) 4<4:=ik _ Vf;have WG:∀j,j<=jp raw (q+1) 4+1->(ip s2 raw t ky (q+1+1) j).2<1099511627776:=λj hj=>Nat.lt_of_le_of_lt (Gx u2 hj) (by rw[Vr];exact Vy)
         have HE:=JF e w6 N gb raw (q+1) _ vs L s2 t h ky D C6 WG (λq=>zh u2 false) VI WR Vc (λVz W q hW hb=>by
          have:=h2 (VK.2.2 e4 Vz) W (t-16) q hW Vc hb;rw[he.o]at this
          exact this)
         rw[Vr]at HE;simp only at HE;clear VK WG W5 Vr;subst e4;go_wp2_with fail;refine HE.V ?_;rintro en w7 ⟨ov,rfl,⟨cs,hr,VC⟩,g7,k7⟩;clear HE r1 r2 r3 r4;go_wp2;go_meet
         case rel=>exact⟨⟨cs,hr.rd,by rw[he.o];exact VC⟩,g7,k7⟩
        .rw[dO e4]at Vr;have e4:((h:Int)==4)=false:=Ve;have e0:((h:Int)==0)=decide (h=0):=by by_cases h0:h=0<;>simp[h0]
         have HV:=xf d w6 N gb raw (q+1) _ vs L s1 t D (decide (h=0)) C6 (by rw[<-(Prod.mk.inj Vr).2]at Vy;exact Vy) VI Vc (λVz W hW=>h1 (VK.1 Vz) W (t-16) (q+1) hW Vc (by rw[<-(Prod.mk.inj Vr).2]at Vy;simp only[fG,dP Vz]at Vy;exact Vy));rw[<-e0]at HV Vr;generalize fG s1 raw t ((h:Int)==0) (q+1)=X at*;obtain⟨x,q8⟩:=X;obtain⟨rfl,rfl⟩:=Prod.mk.inj Vr;clear e0;go_wp2_with fail;refine HV.V ?_;rintro en w7 ⟨mv,rfl,hm,g7,k7⟩;obtain⟨ma,mc,rfl⟩:=hm.form;simp only at hm g7;unfold NK;clear HV r1 r2 r3 r4;have⟨B8,N8⟩:=d8 w7 (U4 x ma mc) 55;have z7:=k7.size;have W6:pO (gP (d+1) _ (λb=>w6.heap.size<=b)) _ (λb=>w6.heap.size<=b) (.slice (some ⟨w7.heap.size,0,none⟩) 1 1) [x]:=⟨_,ix.ofBlk N8 Vc 1,_,_,rfl,hm.G B8 (aE _),rfl⟩;have C7:=(C6.step k7 g7).G B8;have k8:=k7.G B8;go_wp2;go_meet
         case rel=>exact⟨W6,C7.gv,k8⟩
      case rest=>
       obtain⟨⟨Xi,WS,WF⟩,g7,k7⟩:=hcut;obtain⟨la,lc,rfl⟩:=WS.form;have s7:=k7.size;have C7:=C6.step k7 g7;have W7:=VM.kept k7 Ve;have Wm:=VX.kept k7 Ve;have WH:=V8.kept k7 Ve;have WJ:=VN.kept k7 Ve;have W8:=V9.O (w':=wc) λb q l=>k7.block b l Ve
       have W9:=Wb.J k7;clear C6 VM VX V8 VN Wb VK Vy Wq;have⟨B8,N8⟩:=d8 wc #[.int .i64 ((k+1:Nat):Int),.slice la l.length lc] 58;obtain⟨Wx,VJ,Xj⟩:=W8;obtain⟨VE,VF,rfl⟩:=iz VJ.1;have hF:F.length<8:=by have:=Io s1 s2 raw d fs p k;rw[HS.o]at this;simp only at this;omega
       have VP:=VJ.O (w':=wc.alloc (Obj.cells #[.int .i64 ((k+1:Nat):Int),.slice la l.length lc] 58)) λb q l=>B8.block b l
       have VB:∀b,(Value.slice VE F.length VF).ownBlock=some b->w.heap.size+1+1+1<=b/\b<w6.heap.size:=λb hb=>⟨VJ.2 b hb,(V9.lt b hb)⟩
       have Xa:=Xj.O (Q:=gP (d+1) (wc.alloc (Obj.cells #[.int .i64 ((k+1:Nat):Int),.slice la l.length lc] 58)) (λb=>w.heap.size+1+1+1<=b/\some b≠(Value.slice VE F.length VF).ownBlock)) (λ_ _ h=>h.G B8 (aE _)) λb _ l=>B8.block b l
       have Xb:tE (gP (d+1) (wc.alloc (Obj.cells #[.int .i64 ((k+1:Nat):Int),.slice la l.length lc] 58)) (λb=>w.heap.size+1+1+1<=b/\some b≠(Value.slice VE F.length VF).ownBlock)) (wc.alloc (Obj.cells #[.int .i64 ((k+1:Nat):Int),.slice la l.length lc] 58)) (λb=>w.heap.size+1+1+1<=b/\some b≠(Value.slice VE F.length VF).ownBlock) [.int .i64 ((k+1:Nat):Int),.slice la l.length lc] [(((k+1:Nat):Int),l)]:=
        ⟨_,_,rfl,⟨Xi,(WS.O λb _ l=>B8.block b l).V λb q _=>⟨Vc,λe=>by have:=VB b e.sy;omega⟩,WF.imp λ_ _ h=>(h.G B8 (aE _)).V λb q _=>⟨Vc,λe=>by have:=VB b e.sy;omega⟩⟩,rfl⟩
       have C8:=C7.G B8;have Xc:=W9.G B8;have Xd:=Wm.G B8 Wm.lt;have Xe:=WH.G B8 WH.lt;have We:=WJ.G B8 WJ.lt;have VZ:∀b,b<w.heap.size+1+1+1->some b≠(Value.slice VE F.length VF).ownBlock:=λb hb e=>by have:=VB b e.sy;omega
       have e8:(wc.alloc (Obj.cells #[.int .i64 ((k+1:Nat):Int),.slice la l.length lc] 58)).heap.size=wc.heap.size+1:=Vd;have e9:(wc.alloc (Obj.cells #[.int .i64 ((k:Int)+1),.slice la l.length lc] 58)).heap.size=wc.heap.size+1:=Vd;have⟨i0,Wt,Wu,Wv,Ww⟩:=info_parts Tryz.infoF;have e3:((h:Int)==3)=decide (h=3):=by by_cases h0:h=3<;>simp[h0];omega
       have⟨r1,r2⟩:=Wm.I;have⟨r3,r4⟩:=W7.I;have HC:Hid (((k:Int)+1)=((k+1:Nat):Int)):=by show(k:Int)+1=_;omega
       cases one
       all_goals
        go_wp2_with (at_builtin;refine wpList_append_lies _ rfl _ _ 47 rfl 0 58 i0 _ 2 32 underlying47 Wt Wu Wv Ww rfl Vf (.slice VE F.length VF) F.length Wx rfl VP.1 ⟨wc.heap.size,0,none⟩ 1 1 [_,_] rfl rfl (QE _ _ _ _) (by intro u hu;simp at hu;rcases hu with rfl|rfl<;>rfl) Vf Vj Vc Vc _ rfl ?_;intro g cap w9 Vt Vp Vs hlt9;have WK:=Xd.grown Vp (VZ _ Vc);have⟨o1,o2⟩:=WK.I)
        refine⟨⟨k+1,.slice (some ⟨g,0,none⟩) (F.length+1) cap,Vc,by go_num,by rw[VA.o];simp,by have:=WK.set 0 (.slice (some ⟨g,0,none⟩) (F.length+1) cap);simpa using this,(eT _ Vc).J (Xe.grown Vp (VZ _ Vc)),(eT _ Vc).J (We.grown Vp (VZ _ Vc)),?_,?_,(Xc.grown Vp λg hg=>by have:=VB g hg;omega).fresh1 Vc _ _⟩,by simp[intOf];omega⟩;.rw[VA.o];exact(Rt VP Xa Xb Vt Vp Vs Vc).O λb q l=>eT _ Vc
        .rw[VA.o];exact C8.O (λb hb=>(eT _ Vc).J (Vp.block b Vc (VZ b Vc))) (by have:=Vp.size;simp at this⊢;omega)
     .have VA:Hid (gH s1 s2 raw d fs p (k+1)=(F,one,q+1)):=(by rw[gH,HS.o,hf];simp only[Option.getD_some];rw[hsk];rfl);go_wp2;go_roundw
      case rel=>exact⟨k+1,fv,Vc,by go_num,by rw[VA.o],VX,V8,VN,by rw[VA.o];exact V9,by rw[VA.o];exact C6,Wb⟩
      case measure=>simp[intOf];omega
  .obtain rfl:k=fs.length:=Vc;have WV:¬(fs.length:Int)<(fs.length:Int):=Vc;have HN:=mG wr _ _ raw q 4 VR.gv Vf Vc;obtain⟨c,VT⟩:∃c,Hid (jp raw q 4=c):=⟨_,rfl⟩;rw[VT.o]at HN;have zM:=KM.lt;obtain⟨Wx,Vq,Xk⟩:=VQ;obtain⟨VE,VF,rfl⟩:=iz Vq.1;have HB:Hid (kX s1 s2 raw d fs p=(.mk F (if c=0 then wg else eS),q+1)):=by unfold kX;rw[HS.o];simp only;rw[VT.o];exact rfl
   rw[HB.o];clear hi VV Vu WN HE HR;go_wp2_with fail;refine HN.V ?_;rintro en w4 ⟨rfl,g4,k4⟩;have s4:=k4.size;have Xf:=KM.kept k4 Ve;have Wn:=KR.kept k4 Ve
   have Wo:gP (d+2) w4 (λb=>w.heap.size+1+1<b) (.slice VE F.length VF) (.mk F (if c=0 then wg else eS)):=
    ⟨Wx,(Vq.rd.O λb q l=>k4.block b l Ve).V λb q _=>Vc,(Xk.O (Q:=gP (d+1) w4 _) (λ_ _ h=>h.O λb q l=>k4.block b l Ve) λb q l=>k4.block b l Ve).V (λ_ _ h=>h.V λb q _=>Vc) λb q _=>Vc⟩
   have WL:=VS.J k4;have⟨o1,o2⟩:=Xf.I;have⟨o3,o4⟩:=Wn.I;by_cases hc:c=0;.subst hc;clear HN r1 r2;go_wp2;have VW:dX (w4.setCell ⟨w.heap.size+1+1,1,none⟩ (.string ⟨#[248,63,7]⟩)) (w.heap.size+1) _ 49:=(eT _ Vc).J Wn;refine dR (el results30 _ _ rfl ((VW.set 0 _).set 1 _) underlying49 Vh) rfl ?_;rw[HB.o];exact⟨_,rfl,(Wo.O λb q l=>(eT _ Vc).J ((eT _ Vc).J (eT _ Vc))).V λb q _=>Vc,((g4.set VG Vc _ _).set VG Vc _ _).set VG Vc _ _,((WL.fresh1 Vc _ _).fresh1 Vc _ _).fresh1 Vc _ _⟩
   .have hcb:((c:Int)==0)=false:=Ve;clear HN r1 r2;go_wp2;refine dR (el results30 _ _ rfl ((Wn.set 0 _).set 1 _) underlying49 Vh) rfl ?_;rw[HB.o,dO hc];rw[dO hc]at Wo;exact⟨_,rfl,(Wo.O λb q l=>(eT _ Vc).J (eT _ Vc)).V λb q _=>Vc,(g4.set VG Vc _ _).set VG Vc _ _,(WL.fresh1 Vc _ _).fresh1 Vc _ _⟩
def ru (N gb:Nat)(raw:List Int)(v:Value)(vs:List Value)(L:List (List F3))(hD:CG L):∀d,d<=7->Rr (d+2) N gb raw v vs L (gS raw L d) (8-d)
 |0,hd=>λW i p hC hi hb=>by
  have⟨fs,Vv⟩:=gx hi;have e:gS raw L 0 i p=kX oZ oZ raw 0 fs p:=by show kX oZ oZ raw 0 ((L[i]?).getD []) p=_;rw[Vv];rfl
  rw[e]at hb⊢
  exact Gz W N gb raw p v vs L oZ oZ 0 i fs hD hC Vv hd rt rt hb (λh=>absurd h Vc) (λh=>absurd h Vc)
 |1,hd=>λW i p hC hi hb=>by
  have⟨fs,Vv⟩:=gx hi;have e:gS raw L 1 i p=kX (gS raw L 0) oZ raw 1 fs p:=by show kX (gS raw L 0) oZ raw 1 ((L[i]?).getD []) p=_;rw[Vv];rfl
  rw[e]at hb⊢
  exact Gz W N gb raw p v vs L (gS raw L 0) oZ 1 i fs hD hC Vv hd (uY raw L 0) rt hb (λ_=>ru N gb raw v vs L hD 0 Vc) (λh=>absurd h Vc)
 |d+2,hd=>λW i p hC hi hb=>by
  have⟨fs,Vv⟩:=gx hi;have e:gS raw L (d+2) i p=kX (gS raw L (d+1)) (gS raw L d) raw (d+2) fs p:=by show kX (gS raw L (d+1)) (gS raw L d) raw (d+2) ((L[i]?).getD []) p=_;rw[Vv];rfl
  rw[e]at hb⊢;refine Gz W N gb raw p v vs L (gS raw L (d+1)) (gS raw L d) (d+2) i fs hD hC Vv hd (uY raw L (d+1)) (uY raw L d) hb (λ_=> ?_) (λ_=> ?_);.have:=ru N gb raw v vs L hD (d+1) Vc;rw[show 8-(d+1)=8-(d+2)+1 by omega]at this;exact this
  .have:=ru N gb raw v vs L hD d Vc;rw[show 8-d=8-(d+2)+1+1 by omega]at this;exact this
end
end Go.Proofs.YtfebdimolnobaaaGreatDoor
