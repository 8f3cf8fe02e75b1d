import Derived.Test.YtfebdimolnobaaaGreatDoorItA
import Derived.Test.YtfebdimolnobaaaGreatDoorWkN
set_option maxRecDepth 100000
set_option maxHeartbeats 8000000
set_option linter.all false
namespace Go.Proofs.YtfebdimolnobaaaGreatDoor
open Go.RowKit Go.Proofs.Tryz
section
open Go.Maps Go.Sort
open Vo
def vU (k:LV):ay:= [.int .u64 k.1,ag k.2]
def D8:∀(ss:List LV) (t:Nat),t<ss.length*2->(ly ss)[t]?=some ((vU ss.toArray[t/2]!)[t%2]!)
 | [],t,h=>by simp at h
 |k::ss,0,_=>by simp[ly,vU]
 |k::ss,1,_=>by simp[ly,vU]
 |k::ss,t+2,h=>by
  have e1:(t+2)/2=t/2+1:=Vc;have e2:(t+2)%2=t%2:=Vc;have h':t<ss.length*2:=by simp at h;omega
  have Vy:t/2<ss.length:=Vc;rw[e1,e2];have:=D8 ss t h';simp only[ly,co];rw[this];congr 3;simp[Vy]
def AF (ss:List LV):(flatK vU 2 ss.toArray).toList=ly ss:=by
 apply List.ext_getElem?;intro t;by_cases h:t<ss.length*2;.rw[D8 ss t h,bO,bU (by simpa using h),<-get_flatK vU 2 ss.toArray t (by simpa using h),getElem!_pos _ t (by simpa using h)]
 .rw[bf Ve,bf (by rw[kT];omega)]
def TA (w:aw)(lo:Nat)(v:Value)(l:List LV)(e:Ending)(w':aw):Prop:=
 e= .returned (.tuple #[])/\∃l':List LV,l'.Perm l/\l'.Pairwise (λa b=>¬lG b a)/\w'.ownsRow lo 386 2 v l.length (ly l')/\w.grownBy w' v.ownBlock
def QK (w:aw)(lo:Nat)(v:Value)(l:List LV)(Vp:w.ownsRow lo 386 2 v l.length (ly l))(hl:l.length<=1099511627776):
  U8 355 #[v,.func (.func 275) #[] #[]] w (TA w lo v l):=by
 by_cases h0:l= [];.subst h0;obtain⟨a,c,rfl⟩:=iz Vp;refine(AnyF.slices_SortFunc_none (P:=prog) (ρ:=Tryz.sortK_ren) Tryz.sortK a c _ w).V ?_;rintro e w' ⟨rfl,rfl⟩;exact⟨rfl,[],List.Perm.refl _,List.Pairwise.nil,Vp,⟨rfl,rfl,rfl,aE _,λ_ _ _=>rfl⟩⟩
 .rcases Vp.2 with⟨rfl,h1⟩|⟨g,cap,VB,rfl,hg,hb,hn,hm,hs,ht⟩;.exact absurd (bE h1) h0
  .have Vz:g<w.heap.size:=dX.lt hb;have eg:∀args w,(callFunc 275 args).run prog w= .ok (.enter 275 args) w:=enters_of func275 Vh rfl;have Vu:CmpLays prog 275 #[] vU 2 yt g 0 l.toArray.size w:=λm os dk hsz x y=>yv x y _
   have hH:HoldsK vU 2 w g 0 l.toArray:=(by have:=Ah (enc:=id) (w:=w) (g:=g) (ss:=ly l) hb (by rw[kT,List.map_id,Nat.mul_comm];exact ht);rw[<-AF]at this;exact this);have Vr:=AnyQ.slices_SortFunc Tryz.sortK 2 (λ_=>isAgg386 _) (λ_=>sizeOf386 _) vU (λ_=>rfl) (λx v hv=>by simp[vU]at hv;rcases hv with rfl|rfl<;>rfl) yt Tz 275 #[] g 0 cap l.toArray w eg Vu hH Vz Ve;have e1:l.toArray.size=l.length:=Vd;rw[e1]at Vr;refine Vr.V ?_;rintro e w' ⟨rfl,d',n,os,Vq,Vs,rfl⟩;have hsz:d'.size=l.length:=by rw[Vq.1];exact e1
   obtain⟨l',rfl⟩:∃l':List LV,l'.toArray=d':=⟨d'.toList,Vd⟩;have Vw:l'.length=l.length:=by simpa using hsz
   refine⟨rfl,l',?_,?_,?_,uk (enc:=id) (flatK vU 2 l'.toArray)⟩;.have h2:=Vq.2.2;rw[<-e1]at h2;rw[dG,show l.toArray.size=l'.toArray.size from by simp[Vw],dG]at h2;simpa using h2
   .rw[bV];intro i j hi hj VC;have h2:=Vs i j (aP _) VC Vc;rw[getElem!_pos l'.toArray i (by simpa using hi),getElem!_pos l'.toArray j (by simpa using hj),cm,Ne,Sa]at h2;simpa using h2
   .refine⟨by rw[kT];omega,.inr ⟨g,cap,_,rfl,hg,Dz (enc:=id) (flatK vU 2 l'.toArray) hb,hn,hm,by simp[putCells,hs],?_⟩⟩;have:=DB (enc:=id) VB (ly l') (by rw[kT];omega);rw[kT,List.map_id]at this;have e3:flatK vU 2 l'.toArray=(ly l').toArray:=by rw[<-AF]
    rw[e3,Nat.mul_comm,<-Vw];exact this
def Sx (w:aw)(S:List LV->Prop)(e:Ending)(w':aw):Prop:=
 ∃(v:Value) (ss l:List LV),e= .returned v/\S ss/\l.Perm ss/\l.Pairwise (λa b=>¬lG b a)/\w'.ownsRow w.heap.size 386 2 v l.length (ly l)/\ak w w'
def D9 (w:aw)(Bm N:Nat)(S:List LV->Prop)(hN:N<=1099511627776)(hS:∀ss,S ss->ss.length<=N)(hk:FV w Bm S N):
  Calls prog 273 #[.func (.func 356) #[] #[ah Bm],.func (.func 275) #[] #[]] w (Sx w S):=by
 have eg:∀args w,(callFunc 356 args).run prog w= .ok (.enter 356 args) w:=enters_of func356 Vh rfl;have hm:maxLen=9223372036854775807:=rfl;have Vv:=(LC {fn:=λ_=>True} 3 (λ_=>trivial) rfl Vc _ #[ah Bm] eg S N Vc Vc w (hk _ _ (λ_=>trivial) rfl Vc)).calls (λ_ _ h=>by cases h);go_in
 go_wp2_with fail;refine Vv.V ?_;rintro e w1 ⟨v,ss,rfl,Vx,Vp,hb⟩;obtain⟨a,c,rfl⟩:=iz Vp;go_wp2_with fail;refine(QK w1 w.heap.size _ ss Vp (aM (hS ss Vx) hN)).V ?_;rintro e w2 ⟨rfl,l,hp,VD,Vt,hg⟩;go_wp2;go_ret;have VA:l.length=ss.length:=hp.length_eq;exact⟨_,ss,l,rfl,Vx,hp,VD,by rw[VA];exact Vt,hb.grown hg hb.size (λk e=>(Vp.lt k e).1)⟩
end
section
open Vo
def QP (l:List sC)(v:Value)(t:Int)(e:Ending):Prop:=
 (∃(i g:Nat) (x:sC),l[i]?=some x/\x.n=t/\(∀j y,l[j]?=some y->j<i->y.n≠t)/\v.ownBlock=some g/\e= .returned (.pointer (some (aj g (i*8)))))\/((∀x∈l,x.n≠t)/\e= .returned (.pointer none))
def QQ (w:aw)(pb:Nat)(v:Value)(l:List sC)(t:Int)(lo:Nat)(hP:dX w pb #[v] 254)(hrow:w.ownsRow lo 268 8 v l.length (l.flatMap jf))(h1:∀x∈l,x.c1.oneCell'=true/\x.c2.oneCell'=true/\x.c3.oneCell'=true/\x.c4.oneCell'=true/\x.c5.oneCell'=true/\x.c6.oneCell'=true/\x.c7.oneCell'=true)
  (hs:l.Pairwise (λa b=>a.n<=b.n)) (hl:l.length<=1073741824):
  Calls prog 141 #[ah pb,aa t] w λe w'=>QP l v t e/\ak w w':=by
 have hS:=LP w v l t lo hrow h1 hs hl;obtain⟨a,c,rfl⟩:=iz hrow;have⟨k1,k2⟩:=hP.I;go_in
 go_wp2_with fail;refine hS.V ?_;rintro e w1 ⟨⟨i,rfl,q1,q2,q3⟩,hb⟩;have⟨k3,k4⟩:=(hP.G hb hP.lt).I;clear hS k1 k2;by_cases hf:(l.map (·.n))[i]?=some t
 .have hd:decide ((l.map (·.n))[i]?=some t)=true:=by simpa using hf
  rw[hd]
  have Vp:i<l.length:=by
   by_cases q:i<l.length;.exact q
   .rw[bf Ve]at hf;cases hf
  rw[aT]at hf;have⟨x,hx,Vt⟩:=bi.1 hf;obtain⟨g,rfl,_,hgl,_⟩:=eH hrow Vc;have HX:Hid (l[i]?=some x):=hx
  have Vr:Hid (∀j y,l[j]?=some y->j<i->y.n≠t):=λj y hy hj=>by
   have:=q2 j y.n (by rw[aT,hy];rfl) hj;omega
  clear hf hx hd q1 q2 q3;go_wp2;go_ret;exact⟨.inl ⟨i,g,x,HX.o,Vt,Vr.o,rfl,Vd⟩,hb⟩
 .have hd:decide ((l.map (·.n))[i]?=some t)=false:=by simpa using hf
  rw[hd]
  have Vs:∀x∈l,x.n≠t:=λx hx e=>by
   have⟨j,hj⟩:=bY.1 hx;have hm:(l.map (·.n))[j]?=some x.n:=by rw[aT,hj];rfl
   by_cases hji:j<i;.have:=q2 j x.n hm hji;omega
   .by_cases he:j=i;.subst he;rw[hm,e]at hf;exact hf rfl
    .have Vq:j<l.length:=by
      by_cases q:j<l.length;.exact q
      .rw[bf Vc]at hj;cases hj
     have Vp:i<l.length:=Vc;rw[bV]at hs;have h3:=hs i j Vp Vq Vc;have h4:=q3 i (l[i].n) (by rw[aT,aO Vp];rfl) (aE _);rw[aO Vq]at hj;rw[Option.some.inj hj]at h3;have h5:l[i].n=t:=Vc;exact hf (by rw[aT,aO Vp];simp[h5])
  clear hf hd q1 q2 q3 hs;go_wp2;go_ret;exact⟨.inr ⟨Vs,rfl⟩,hb⟩
section
variable (w:aw) {s:au} {a i:Nat} {x:Int×Int} {riv:ar} {n:Int} {fs:List PF}
theorem py {b:Nat}{w w1 w2:aw}(h:ak w w1)(k:ec [b] w1 w2)(hb:w.heap.size<=b):ak w w2:=
 h.J ⟨k.os,k.tape,k.output,k.size,λi hi=>k.block i (aI hi h.size) Ve⟩
theorem Cm {e:Nat}:∀{f i:Nat} {n:Int},mH s a e f i n= .error x->x.1≠0
 |0,_,_,h=>by
  obtain rfl:=Except.error.inj h
  simp
 |f+1,i,n,h=>by
  rw[mH]at h;split at h
  .split at h;.obtain rfl:=Except.error.inj h;simp
   .split at h;.cases h
    .exact Cm h
  .obtain rfl:=Except.error.inj h;simp
theorem ON (h:jW s a= .error x):x.1≠0:=by
 unfold jW at h;split at h;.rename_i h1;obtain rfl:=Except.error.inj h;exact Cm h1
 .split at h;.obtain rfl:=Except.error.inj h;simp
  .split at h;.cases h
   .obtain rfl:=Except.error.inj h;simp
theorem Ia {k:Nat}(h:jt s a k= .error x):x.1≠0:=by
 unfold jt at h;split at h;.cases h
 .obtain rfl:=Except.error.inj h;simp
theorem L1 {k:Int}(h:lZ s a k= .error x):x.1≠0:=by
 unfold lZ at h;split at h
 .split at h;.rename_i h1;obtain rfl:=Except.error.inj h;exact Cm h1
  .cases h
 .split at h
  .split at h;.rename_i h1;obtain rfl:=Except.error.inj h;exact Ia h1
   .cases h
  .split at h
   .split at h;.rename_i h1;obtain rfl:=Except.error.inj h;exact Ia h1
    .cases h
   .split at h
    .rename_i h1;obtain rfl:=Except.error.inj h;unfold fk at h1;split at h1;.rename_i h2;obtain rfl:=Except.error.inj h1;exact Cm h2
     .split at h1;.cases h1
      .obtain rfl:=Except.error.inj h1;simp
    .cases h
theorem Gd {x:PF}(hx:fs[i]?=some x):kC riv n (fs.take (i+1))=(kC riv n (fs.take i)&&(decide (x.1<n)&& !decide (x.1∈riv))):=by
 unfold kC;rw[bT,hx];simp
theorem Eo {j:Nat}(h:i<=j)(hn:kC riv n (fs.take i)=false):kC riv n (fs.take j)=false:=by
 unfold kC at*;rw[List.all_eq_false]at hn⊢;obtain⟨y,h1,h2⟩:=hn;exact⟨y,(List.take_subset_take_left fs h) h1,h2⟩
theorem L2 {Q:Value->PM->Prop}{Z P:ax}(a:aC)(c c':Nat)(fs:List PF)(cs:ay)(i:Nat)(n:Int)(rv:Value)(riv:ar)(hr:ix w Z (.slice a fs.length c) fs.length cs)(hf:tE Q w Z cs fs)(hi:i<=fs.length)(hl:fs.length<=1099511627776)
  (hrv:eO w P 3 1 rv riv.length (gB riv)) (hrl:riv.length<=1073741824):
  Calls prog 158 #[.slice a i c',aa n,rv] w (eF (kC riv n (fs.take i)) w):=by
 obtain⟨ra,rc,rfl⟩:=iz hrv.1;go_in
 go_wp2;go_loopw [7,10] (λ_ jv wr=>∃j:Nat,jv=aa j/\j<=i/\Hid (kC riv n (fs.take j)=true)/\ak w wr) (λ_ jv _=>i-(intOf jv).toNat)
 case atStart=>exact⟨0,rfl,aP _,rfl,Below.refl _ _⟩
 case round=>
  obtain⟨j,rfl,hji,HN,B⟩:=hrel;by_cases hlt:j<i
  .have⟨x,hx⟩:=gx (l:=fs) (i:=j) Vc;have⟨vv,p1,p2,p3⟩:=hf.get hx;obtain⟨va,vc,rfl⟩:=p1.form;obtain⟨g,rfl,hzg,Vz,Vp⟩:=hr.at Vc;have t0:=Vp wr (B.block _ Vz) _ _ p2;have t1:=lI (Vp wr (B.block _ Vz) _ _ p3);have hlj:(j:Int)<(i:Int):=Vc;have⟨B1,K1⟩:=d8 wr #[aa x.1,.slice va x.2.length vc] 58;have B2:=dU B B1;have HC:=xX _ (.slice ra riv.length rc) riv x.1 (eX B2 hrv.1) hrl;have HT:Hid (kC riv n (fs.take (j+1))=(decide (x.1<n)&& !decide (x.1∈riv))):=(by show kC riv n (fs.take (j+1))=_;rw[Gd hx,HN.o,dd]);have⟨k1,k2⟩:=K1.I;clear Vp p2 p3 hx;generalize decide (x.1∈riv)=q at*;by_cases h1:x.1<n
   .cases q
    .go_wp2_with (first|(go_at_call 238;refine HC.V ?_;rintro e w2 ⟨rfl,rfl⟩)|(go_at_call 157;refine(iw _).V ?_;rintro e w2 ⟨rfl,rfl⟩))
     go_roundw
     case rel=>exact⟨j+1,by go_num,Vc,HT.o.J (by simp[h1]),B2⟩
     case measure=>simp[intOf];omega
    .go_wp2_with (first|(go_at_call 238;refine HC.V ?_;rintro e w2 ⟨rfl,rfl⟩)|(go_at_call 157;refine(ii _).V ?_;rintro e w2 ⟨rfl,rfl⟩;unfold dY))
     exact⟨rfl,by rw[Eo Vc (HT.o.J Vd)];exact eF.no B2⟩
   .go_wp2_with (first|(go_at_call 157;refine(ii _).V ?_;rintro e w2 ⟨rfl,rfl⟩;unfold dY))
    exact⟨rfl,by rw[Eo Vc (HT.o.J (by rw[decide_eq_false Vc];rfl))];exact eF.no B2⟩
  .obtain rfl:j=i:=Vc;go_wp2;go_end0;exact⟨B,by rw[dP HN.o]⟩
theorem OO (x:PV)(mv:Value)(sg:Bool)(h0:0<=x.1)(h1:x.1<2^64):
  Calls prog 267 #[gh x mv,.bool sg] w λe w'=>e= .returned (kV (FL sg (x.1,x.2.1)))/\ak w w':=by
 have hx:=tt h0 h1;have K0:=dX.new w #[.int .u64 x.1,ag x.2.1,mv,ag x.2.2.unk] 55;have K1:=K0.alloc (am #[.int .u64 0,U7] 386);have⟨k1,k2⟩:=K1.I;unfold gh kV FL
 cases sg with
 |true=>
  rw[dP rfl];go_in
  go_wp2;refine dR (el results267 _ _ rfl (dX.new1 w _ _ _) underlying386 Vh) rfl ?_
  exact⟨rfl,((Below.refl _ _).alloc (aE _) _).alloc Vd _⟩
 |false=>
  rw[dO Vd];go_in
  go_wp2;refine dR (el results267 _ _ rfl (dX.new1 w _ _ _) underlying386 Vh) rfl ?_;exact⟨rfl,((Below.refl _ _).alloc (aE _) _).alloc Vd _⟩
theorem AR (s:au)(ff:Nat)(cap:ay)(fit:Int->Int->Bool)(hs:s.size<=1099511627776)(hen:∀args w,(callFunc ff args).run prog w= .ok (.enter ff args) w)
  (hf:∀(W:aw) (n k:Int),ak w W->U8 ff ((Value.agg #[aa n,aa k]::cap).toArray) W λe w'=>e= .returned (.bool (fit n k))/\Below W.heap.size W w'):
  Calls prog 160 #[ag s,.func (.func ff) #[] cap.toArray] w (eF (pT fit s) w):=by
 obtain⟨P,HP⟩:∃P,Hid (pT fit s=P):=⟨_,rfl⟩;rw[HP.o];have K0:=dX.new w #[ag s,aa 0,aa 1] 244;have B0:ak w (w.alloc (.cells #[ag s,aa 0,aa 1] 244)):=(Below.refl _ _).alloc (aE _) _;go_in
 go_wp2_with fail;refine(Kn w s).V ?_;rintro e w1 ⟨rfl,rfl⟩;generalize w.alloc (.cells #[ag s,aa 0,aa 1] 244)=w1 at*;go_wp2;go_loopw [5] (λ_ wr=>∃(a F:Nat),a<=s.size/\s.size-a<F/\Hid (nQ fit s F a=P)/\ee wr w.heap.size s a 1/\ak w wr) (λ_ wr=>mB wr w.heap.size s.size)
 case atStart=>exact⟨0,s.size+1,aP _,Vc,HP,K0,B0⟩
 case round=>
  obtain⟨a,F,ha,hF,HU,hr,B⟩:=hrel;have VD:=sf wr w.heap.size s a 1 hr;have HM:Hid (mB wr w.heap.size s.size=s.size-a):=iy hr;go_wp2_with fail;refine VD.V ?_;rintro e w4 ⟨rfl,q,rfl⟩;obtain⟨F,rfl⟩:∃g,F=g+1:=⟨F-1,Vc⟩;have VE:ee (wr.drewN q) w.heap.size s a 1:=hr;have B4:ak w (wr.drewN q):=im B q;generalize wr.drewN q=w4 at*;by_cases hlt:a<s.size
  .have hd:decide (a<s.size)=true:=decide_eq_true hlt;have Vw:=Kr w4 w.heap.size s a 1 VE Vc;obtain⟨T,hT⟩:=Y9 (jW s a);rw[hT]at Vw;have HT:Hid (jW s a=T):=hT;clear hT;have Vs:Hid (P=OM fit s (nQ fit s F) T):=(by show P=_;rw[<-HU.o,nQ,dP hlt,HT.o]);go_wp2_with fail;refine Vw.V ?_;intro en w6 VI;rcases VI.part with⟨x,rfl,rfl,Vu⟩|⟨x,rfl,rfl,Vu,VA⟩;.have Vq:Hid (P=false):=Vs.o;have B6:ak w w6:=py B4 Vu (aE _);unfold dY;go_wp2;exact⟨rfl,by rw[Vq.o];exact eF.no B6 (ON HT.o)⟩
   .obtain⟨⟨num,kind⟩,z⟩:=x;have⟨kn,VB,hk4,VJ,VK⟩:=FR HT.o;simp only at VB VJ VK VA;subst VB;have B6:ak w w6:=py B4 Vu (aE _);have⟨B7,KT⟩:=d8 w6 #[aa num,aa kn] 237;have Vx:ee (w6.alloc (am #[aa num,aa kn] 237)) w.heap.size s z 1:=dX.alloc VA _;have B8:=dU B6 B7;have HF:=hf _ num kn B8;have Vr:Hid (P=(!(fit num kn)&&L0 (nQ fit s F) (lZ s z kn))):=Vs.o;have⟨k1,k2⟩:=KT.I;clear Vs HU HT;obtain⟨fv,VL⟩:=Y9 (fit num kn);rw[VL]at HF Vr;go_wp2_with fail;generalize w6.alloc (am #[aa num,aa kn] 237)=w7 at*;generalize w6.heap.size=tb at*;refine HF.V ?_;rintro e w8 ⟨rfl,B9⟩;have VF:ee w8 w.heap.size s z 1:=dX.G Vx B9 (dX.lt Vx);have Vt:=dU B8 B9;have VG:=KT.G B9 KT.lt;clear k1 k2;have⟨k1,k2⟩:=VG.I;cases fv
    .have Vy:=BK w8 w.heap.size s z 1 kn VF Vc Vc Vc;obtain⟨R,hR⟩:=Y9 (lZ s z kn);have HW:Hid (∀y,R= .ok y->z<y.2/\y.2<=s.size):=λy hy=>wS (hR.J hy)
     have HE:Hid (∀x,R= .error x->x.1≠0):=λy hy=>L1 (hR.J hy)
     have HL:Hid (P=L0 (nQ fit s F) R):=(by show P=_;rw[Vr.o,hR];rfl);rw[hR]at Vy;clear hR Vr;go_wp2_with (go_at_call 157;refine(iw _).V ?_;rintro e w2 ⟨rfl,rfl⟩)
     refine Vy.V ?_;intro en w9 VM;rcases VM.part with⟨x,rfl,rfl,Vv⟩|⟨y,rfl,rfl,Vv,VC⟩;.have Vq:Hid (P=false):=HL.o;unfold dY;go_wp2;exact⟨rfl,by rw[Vq.o];exact eF.no (py Vt Vv (aE _)) (HE.o x rfl)⟩
     .have⟨hy1,VN⟩:=HW.o y rfl;go_wp2;go_roundw
      case rel=>exact⟨y.2,F,VN,Vc,HL.o.sy,VC,py Vt Vv (aE _)⟩
      case measure=>rw[HM.o,iy VC];omega
    .have Vq:Hid (P=false):=Vr.o;go_wp2_with (go_at_call 157;refine(ii _).V ?_;rintro e w2 ⟨rfl,rfl⟩;unfold dY)
     exact⟨rfl,by rw[Vq.o];exact eF.no Vt⟩
  .have hd:decide (a<s.size)=false:=decide_eq_false hlt;have VH:Hid (P=true):=(by show P=true;rw[<-HU.o,nQ,dO hlt]);go_wp2;go_end0;exact⟨B4,by rw[VH.o];rfl⟩
end
end
section
open Go.Sort
open Vo
def Jb (w:aw)(k:Nat)(os:Array Obj):ak w (grow (w.drewN k) os):=
 ⟨rfl,rfl,rfl,by show w.heap.size<=(w.heap++os).size;rw[Array.size_append];omega,λj hj=>by show(w.heap++os)[j]?=_;rw[Array.getElem?_append,dP hj]⟩
def QW (x y:LV)(w:aw):U8 275 #[.agg #[.int .u64 x.1,ag x.2],.agg #[.int .u64 y.1,ag y.2]] w λe w'=>e= .returned (aa (yt x y))/\ak w w':=
 (yv x y w).V λ_ _ ⟨h1,q,os,h2⟩=>⟨h1,by rw[h2];exact Jb w q os⟩
def Ep (e:PV):Prop:=e.2.2.fs.length=2->∃n k r rest,e.2.2.fs=(n,k::r)::rest/\0<=k.1/\k.1<2^64
def OP:Option LV->LV
 |none=>(0,⟨#[]⟩)
 |some k=>k
def AS (last:Option LV)(k:LV):Bool:=
 match last with
 |none=>true
 |some l=>decide (yt l k<0)
def Ge (sg:Bool)(last:Option LV)(e:PV)(l:List PV):jG sg last (e::l)=(((e.2.2.fs.length==2)&&ou e.2.2.unk)&&AS last (tF sg e)&&jG sg (some (tF sg e)) l):=by
 cases last<;>rfl
def AT {k:Nat}{Z:ax}(w:aw)(v:Value)(l:List PV)(sg:Bool)(hv:pO (gP (k+1) w Z) w Z v l)(hE:∀e∈l,Ep e)(hl:l.length<=1099511627776):
  Calls prog 240 #[v,.bool sg] w (eF (jG sg none l) w):=by
 obtain⟨a,c,rfl⟩:=hv.form;obtain⟨P,HP⟩:∃P,Hid (jG sg none l=P):=⟨_,rfl⟩;rw[HP.o];obtain⟨cs,hr,hv⟩:=hv;have⟨B0,K0⟩:=d8 w #[.int .u64 0,U7] 386;go_in
 go_wp2;go_loopw [5,6,7,10] (λ_ _ _ jv wr=>∃(j:Nat) (last:Option LV),jv=aa j/\j<=l.length/\(j=0<->last=none)/\Hid (jG sg last (l.drop j)=P)/\dX wr w.heap.size #[.int .u64 (OP last).1,ag (OP last).2] 386/\ak w wr) (λ_ _ _ jv _=>l.length-(intOf jv).toNat)
 case atStart=>exact⟨0,none,rfl,aP _,Vd,HP,K0,B0⟩
 case round=>
  obtain⟨j,last,rfl,hj,hz,HU,K,B⟩:=hrel;by_cases hlt:j<l.length
  .have⟨e,he⟩:=gx hlt;have⟨mv,p1,p2,p3,p4,p5⟩:=hv.get he;obtain⟨ma,mc,rfl⟩:=p1.form;obtain⟨g,rfl,hzg,Vw,Vq⟩:=hr.at Vc;have t0:=Vq wr (B.block _ Vw) _ _ p2;have t1:=lI (Vq wr (B.block _ Vw) _ _ p3);have t2:=lI (Vq wr (B.block _ Vw) _ _ p4);have t3:=lI (Vq wr (B.block _ Vw) _ _ p5);have hlj:(j:Int)<(l.length:Int):=Vc;have hdr:l.drop j=e::l.drop (j+1):=by rw[be hlt];rw[aO hlt]at he;rw[Option.some.inj he]
   have Vv:Hid ((((e.2.2.fs.length==2)&&ou e.2.2.unk)&&AS last (tF sg e)&&jG sg (some (tF sg e)) (l.drop (j+1)))=P):=(by show _=P;rw[<-HU.o,hdr,Ge]);have Vy:=hE e (aL he);have VK:=p1.form;unfold Ep at Vy;generalize hfl:e.2.2.fs.length=fl at*;have⟨B1,K1⟩:=d8 wr #[.int .u64 e.1,ag e.2.1,.slice ma fl mc,ag e.2.2.unk] 55;have B2:=dU B B1;clear Vq p2 p3 p4 p5 he hdr HU VK;unfold ou at Vv;by_cases h2:fl=2
   .subst h2;have⟨n,ke,r,rest,Vx,q0,q1⟩:=Vy rfl;have Vz:Hid ((e.2.2.unk.toList.isEmpty&&AS last (tF sg e)&&jG sg (some (tF sg e)) (l.drop (j+1)))=P):=Vv.o;clear Vv Vy
    cases h3:e.2.2.unk.toList.isEmpty with
    |false=>
     have Vu:Hid (P=false):=(by show P=false;rw[<-Vz.o,h3];rfl);have⟨k1,k2⟩:=K1.I;clear Vx hfl;go_wp2_with (go_at_call 157;refine(ii _).V ?_;rintro e w2 ⟨rfl,rfl⟩;unfold dY)
     exact⟨rfl,by rw[Vu.o];exact eF.no B2⟩
    |true=>
     obtain⟨fcs,VB,VF⟩:=p1;rw[hfl]at VB;have⟨vv,VG,f0,f1⟩:=VF.get (i:=0) (f:=(n,ke::r)) (by rw[Vx];rfl);obtain⟨va,vc,rfl⟩:=VG.form;obtain⟨gf,rfl,hzgf,VC,Vr⟩:=VB.at Vc;obtain⟨vcs,VH,VI⟩:=VG;have⟨kmv,VJ,g2,g3,g4,g5⟩:=VI.get (i:=0) (v:=ke) rfl;obtain⟨gv,rfl,hzgv,Vs,Vp⟩:=VH.at Vd;obtain⟨VN,VO,rfl⟩:=VJ.form;have s1:=lI (Vr _ (B2.block _ VC) _ _ f1);have s2:=Vp _ (B2.block _ Vs) _ _ g2;have s3:=lI (Vp _ (B2.block _ Vs) _ _ g3);have s4:=lI (Vp _ (B2.block _ Vs) _ _ g4);have s5:=lI (Vp _ (B2.block _ Vs) _ _ g5);have VE:tF sg e=FL sg (ke.1,ke.2.1):=by unfold tF QV;rw[Vx]
     have Vt:Hid ((AS last (FL sg (ke.1,ke.2.1))&&jG sg (some (FL sg (ke.1,ke.2.1))) (l.drop (j+1)))=P):=(by show _=P;rw[<-Vz.o,h3,VE];rfl);have HK:=OO (wr.alloc (am #[.int .u64 e.1,ag e.2.1,.slice (some gf) 2 mc,ag e.2.2.unk] 55)) ke (.slice VN ke.2.2.fs.length VO) sg q0 q1;unfold gh kV at HK;clear Vz VE Vx hfl Vr Vp f0 f1 g2 g3 g4 g5 VF VB VH VI VJ;generalize FL sg (ke.1,ke.2.1)=kk at*;generalize ke.2.2.fs.length=kl at*;have K2:=K.G B1 K.lt;have⟨k1,k2⟩:=K1.I;simp only[Nat.zero_mul,Ja,bw]at s1 s2 s3 s4 s5;go_wp2_with (first|(go_at_call 157;refine(iw _).V ?_;rintro e w2 ⟨rfl,rfl⟩))
     generalize(wr.alloc (am #[.int .u64 e.1,ag e.2.1,.slice (some gf) 2 mc,ag e.2.2.unk] 55))=w2 at*;generalize wr.heap.size=eb at*;refine HK.V ?_;rintro en w3 ⟨rfl,B3⟩;have B4:=dU B2 B3;have K3:=K2.G B3 K2.lt;have⟨B5,K5⟩:=d8 w3 #[.int .u64 kk.1,ag kk.2] 386;have B6:=dU B4 B5;have K6:=K3.G B5 K3.lt;have hne:w.heap.size<w3.heap.size:=K3.lt;have hk5:=K5.lt;clear k1 k2 K0 B0 K K1 K2 K3 B1 B2 B3 B4 s1 s2 s3 s4 s5 t0 t1 t2 t3;have⟨k1,k2⟩:=K5.I;have⟨k3,k4⟩:=K6.I;by_cases hj0:j=0
     .obtain rfl:=hz.1 hj0;subst hj0;have VA:Hid (jG sg (some kk) (l.drop (0+1))=P):=Vt.o;simp only[OP]at K6 k3;clear Vt hz;go_wp2_with fail;generalize(w3.alloc (am #[.int .u64 kk.1,ag kk.2] 386))=w4 at*;refine(iw _).V ?_;rintro en w5 ⟨rfl,rfl⟩;go_wp2;go_roundw
      case rel=>exact⟨1,some kk,rfl,Vc,Vd,VA,(K6.set 0 _).set 1 _,(B6.setCell (p:=(aj w.heap.size 0)) (aE _) _).setCell (p:=(aj w.heap.size 1)) (aE _) _⟩
      case measure=>simp[intOf];omega
     .cases last with
      |none=>exact absurd (hz.2 rfl) hj0
      |some lk=>
       have hj1:((j:Int)==0)=false:=Ve;have HC:=QW lk kk (w3.alloc (am #[.int .u64 kk.1,ag kk.2] 386));simp only[OP]at K6 k3;obtain⟨cv,VD⟩:=Y9 (yt lk kk);rw[VD]at HC;by_cases hc0:cv<0
       .have VA:Hid (jG sg (some kk) (l.drop (j+1))=P):=(by show _=P;rw[<-Vt.o,AS,VD,decide_eq_true hc0];rfl);have VL:decide (cv<0)=true:=decide_eq_true hc0;clear Vt hz;go_wp2_with fail;generalize(w3.alloc (am #[.int .u64 kk.1,ag kk.2] 386))=w4 at*;refine HC.V ?_;rintro en w5 ⟨rfl,B7⟩;have B8:=dU B6 B7;have K7:=K5.G B7 K5.lt;have K8:=K6.G B7 K6.lt;clear k1 k2 k3 k4;have⟨k1,k2⟩:=K7.I;have⟨k3,k4⟩:=K8.I;go_wp2_with (first|(go_at_call 157;refine(iw _).V ?_;rintro e w2 ⟨rfl,rfl⟩))
        go_roundw
        case rel=>exact⟨j+1,some kk,by go_num,Vc,Vd,VA,(K8.set 0 _).set 1 _,(B8.setCell (p:=(aj w.heap.size 0)) (aE _) _).setCell (p:=(aj w.heap.size 1)) (aE _) _⟩
        case measure=>simp[intOf];omega
       .have Vu:Hid (P=false):=(by show P=false;rw[<-Vt.o,AS,VD,decide_eq_false hc0];rfl);have VL:decide (cv<0)=false:=decide_eq_false hc0;clear Vt hz;go_wp2_with fail;refine HC.V ?_;rintro en w5 ⟨rfl,B7⟩;have B8:=dU B6 B7;go_wp2_with (go_at_call 157;refine(ii _).V ?_;rintro e w2 ⟨rfl,rfl⟩;unfold dY)
        exact⟨rfl,by rw[Vu.o];exact eF.no B8⟩
   .have Vu:Hid (P=false):=(by show P=false;rw[<-Vv.o,show(fl==2)=false by simpa using h2];rfl);have h2':((fl:Int)==2)=false:=Ve;have⟨k1,k2⟩:=K1.I;clear hfl;go_wp2_with (go_at_call 157;refine(ii _).V ?_;rintro e w2 ⟨rfl,rfl⟩;unfold dY)
    exact⟨rfl,by rw[Vu.o];exact eF.no B2⟩
  .obtain rfl:j=l.length:=Vc;have VM:Hid (P=true):=(by show P=true;rw[<-HU.o,cC];rfl);go_wp2;go_end0;exact⟨B,by rw[VM.o];rfl⟩
end
section
open Vo
section
variable {S:eD} {mp:an} {d:MT} {f:fo} {g:GF}
def FG.gb (fg:FG S mp d f g):eI mp g=fB S f:=by
 unfold eI fB;rw[fg.map,fg.eq,fg.base];by_cases h:g.form=4<;>simp[h]
def FG.pk (fg:FG S mp d f g):io mp g=iL S f:=by
 unfold io iL;rw[fg.gb,fg.rep];by_cases h:g.form=2<;>simp[h]
def FG.tk (fg:FG S mp d f g):AO mp g=oU S f:=by
 unfold AO oU;rw[fg.pk,fg.gb]
def L3 (fg:FG S mp d f g):fB S f<=16:=by rw[<-fg.gb];exact me mp g
def L4 {gs:List GF}(hG:lH S mp d gs)(num kind:Int):(sY mp gs num kind).isSome=oW S d num kind:=by
 unfold sY oW
 cases h:d9 d.fs num with
 |none=>rw[hG.no num h];rfl
 |some f=>
  have⟨g,h1,fg⟩:=hG.yes num f h;rw[h1];simp only;unfold mf;rw[fg.gb,fg.pk];split<;>simp_all
def Gf {w:aw}{B fb:Nat}(cx:tu w B S mp)(hf:eZ w (λb=>b<B) mp g fb)(fg:FG S mp d f g)(h:fB S f=16):
  ∃t mb gs nm rv,fy S f=some t/\dX w fb #[aa g.f.num,aa g.form,aa (eI mp g),ah mb,rv] 220/\jh w (λb=>b<B) mp mb nm gs/\lH S mp t gs:=by
 have⟨pv,rv,h1,_,_,Vq⟩:=hf.blk;by_cases h4:g.form=4;.rw[dP h4]at Vq;obtain⟨eb,rfl,hE⟩:=Vq;rw[fg.eq]at hE;exact⟨eP f,eb,_,_,rv,by unfold fy;rw[dP (by rw[fg.map,h4];rfl)],h1,hE.msg,Cb fg h4⟩
 .rw[dO h4]at Vq;have hm:f.isMap=false:=by rw[fg.map];simp[h4]
  have hb:S.base f.ty=16:=by unfold fB at h;rw[hm]at h;exact h
  have⟨t,ht⟩:=cn.1 (fg.nest.1 hb);have⟨mb,gs,q1,q2,q3⟩:=cx.md f.ty t ht;rw[fg.eq,q1]at Vq;subst Vq;exact⟨t,mb,gs,_,rv,by unfold fy;rw[hm];exact ht,h1,q2,q3⟩
end
def QX (S:eD)(mp:an)(B n:Nat):Prop:=
 ∀(w:aw) (Z:ax) (v:Value) (m:PM) (d:MT) (mb:Nat) (gs:List GF) (nm:au) (deep k:Nat),tu w B S mp->jh w (λb=>b<B) mp mb nm gs->lH S mp d gs->gP k w Z v m->pP k m->n+deep=9->
  U8 101 #[ah mb,.agg #[v,ag m.unk],aa deep] w (eF (dZ S n d m) w)
def Cn {S:eD}{mp:an}{B n:Nat}(H:QX S mp B n)(w:aw)(Z:ax)(mv:Value)(x:PV)(d:MT)(f:fo)(g:GF)(fb:Nat)(pv:Value)(deep k:Nat)(cx:tu w B S mp)(hf:eZ w (λb=>b<B) mp g fb)(fg:FG S mp d f g)(hM:gP k w Z mv x.2.2)(hO:pP k x.2.2)(h0:0<=x.1)(hs:x.2.1.size<=1099511627776)
  (Vq:∃rv,dX w fb #[aa g.f.num,aa g.form,aa (eI mp g),pv,rv] 220) (hd:n+1+deep=9):
  Calls prog 239 #[.agg #[aa (eI mp g),pv],gh x mv,aa deep] w (eF (eC S (dZ S n) f x) w):=by
 obtain⟨ma,mc,rfl⟩:=hM.form;have Vy:=L3 fg;have⟨B0,KT,KV⟩:=gY w #[aa (fB S f),pv] (U4 x ma mc) 216 55;have Vs:=En ((w.alloc (am #[aa (fB S f),pv] 216)).alloc (Obj.cells (U4 x ma mc) 55)) x ma mc;have Vp:=Gb ((w.alloc (am #[aa (fB S f),pv] 216)).alloc (Obj.cells (U4 x ma mc) 55)) x ma mc;have Vr:=P5 ((w.alloc (am #[aa (fB S f),pv] 216)).alloc (Obj.cells (U4 x ma mc) 55)) x (.slice ma x.2.2.fs.length mc);unfold gh at*;rw[fg.gb];unfold eC;have⟨k1,k2⟩:=KT.I;have⟨k3,k4⟩:=KV.I;by_cases h16:fB S f=16
 .rw[dP h16];rw[h16]at B0 KT KV Vr k1 k2 k3 k4;have⟨t,mb,gs,nm,rv,Vv,Vw,VB,VC⟩:=Gf cx hf fg h16;obtain⟨rv2,Vx⟩:=Vq;obtain rfl:pv=ah mb:=(by have:=(dX.cell Vw 3).sy.J (dX.cell Vx 3);simpa using this.sy);clear Vs Vp;rw[Vv,h16];simp only
  have HC:∀W,ak w W->U8 101 #[ah mb,.agg #[.slice ma x.2.2.fs.length mc,ag x.2.2.unk],aa ((deep:Int)+1)] W (eF (dZ S n t x.2.2) W):=λW hW=>by
   have:=H W Z _ x.2.2 t mb gs nm (deep+1) k (cx.on (ed hW cx.le)) (VB.O λb q _=>hW.block b (by have:=cx.le;omega)) VC (hM.G hW (aE _)) hO Vc
   rwa [show(((deep+1:Nat):Int))=(deep:Int)+1 by omega]at this
  have hd9:(deep:Int)<=9:=Vc;obtain⟨q,hq⟩:=Y9 ((decide (x.1=0)&&ou x.2.1));obtain⟨r,hr⟩:=Y9 (dZ S n t x.2.2);rw[hq]at Vr⊢;rw[hr]at HC⊢;clear hq hr H Vw Vx;have Vz:Hid (∀W,ak w W->U8 101 #[ah mb,.agg #[.slice ma x.2.2.fs.length mc,ag x.2.2.unk],aa ((deep:Int)+1)] W (eF r W)):=HC;clear HC;go_in
  go_wp2_with fail;generalize(w.alloc (am #[aa 16,ah mb] 216)).alloc (Obj.cells (U4 x ma mc) 55)=w1 at*;refine Vr.V ?_;intro e w2 hr;rcases hr.part with⟨rfl,rfl,b2⟩|⟨rfl,y,z,rfl,b2⟩
  .have Vu:=KT.G b2 KT.lt;have Vt:=KV.G b2 KV.lt;clear k1 k2 k3 k4;have⟨k1,k2⟩:=Vu.I;have⟨k3,k4⟩:=Vt.I;have B2:=dU B0 b2;go_wp2_with fail;refine(Vz.o w2 B2).V ?_;intro e w3 VD;rcases VD.part with⟨rfl,rfl,b3⟩|⟨rfl,y,z,rfl,b3⟩;.go_wp2;go_end0;exact eF.ok (dU B2 b3)
   .unfold dY;go_wp2;exact⟨rfl,eF.no (dU B2 b3)⟩
  .unfold dY;go_wp2;exact⟨rfl,eF.no (dU B0 b2)⟩
 .by_cases h13:fB S f=13
  .rw[dO h16,dP h13];rw[h13]at B0 KT KV Vp k1 k2 k3 k4;rw[h13];clear Vs Vr;have HV:∀W,ak w W->U8 325 #[ag x.2.1] W λe w'=>e= .returned (.bool (Lib.validD x.2.1.data.toList))/\Below W.heap.size W w':=λW hW=>BJ W x.2.1 Vc (cx.on (ed hW cx.le)).u
   obtain⟨q,hq⟩:=Y9 ((decide (x.1=0)&&zD x.2.2));obtain⟨r,hr⟩:=Y9 (Lib.validD x.2.1.data.toList);rw[hq]at Vp⊢;rw[hr]at HV⊢;clear hq hr;have VA:Hid (∀W,ak w W->U8 325 #[ag x.2.1] W λe w'=>e= .returned (.bool r)/\Below W.heap.size W w'):=HV;clear HV;go_in
   go_wp2_with fail;generalize(w.alloc (am #[aa 13,pv] 216)).alloc (Obj.cells (U4 x ma mc) 55)=w1 at*;refine Vp.V ?_;intro e w2 hr;rcases hr.part with⟨rfl,rfl,b2⟩|⟨rfl,y,z,rfl,b2⟩
   .have Vt:=KV.G b2 KV.lt;clear k1 k2 k3 k4;have⟨k3,k4⟩:=Vt.I;have B2:=dU B0 b2;go_wp2_with fail;refine(VA.o w2 B2).V ?_;rintro e w3 ⟨rfl,b3⟩;cases r
    .go_wp2_with (go_at_call 157;refine(ii _).V ?_;rintro e w2 ⟨rfl,rfl⟩;unfold dY)
     exact⟨rfl,eF.no (dU B2 b3)⟩
    .go_wp2_with (go_at_call 157;refine(iw _).V ?_;rintro e w2 ⟨rfl,rfl⟩)
     go_end0;exact eF.ok (dU B2 b3)
   .unfold dY;go_wp2;exact⟨rfl,eF.no (dU B0 b2)⟩
  .by_cases h14:fB S f=14
   .rw[dO h16,dO h13,dP h14];rw[h14]at B0 KT KV Vp k1 k2 k3 k4;rw[h14];clear Vs Vr;obtain⟨q,hq⟩:=Y9 ((decide (x.1=0)&&zD x.2.2));rw[hq]at Vp⊢;clear hq;go_in
    go_wp2_with fail;generalize(w.alloc (am #[aa 14,pv] 216)).alloc (Obj.cells (U4 x ma mc) 55)=w1 at*;refine Vp.V ?_;intro e w2 hr;rcases hr.part with⟨rfl,rfl,b2⟩|⟨rfl,y,z,rfl,b2⟩;.go_wp2;go_end0;exact eF.ok (dU B0 b2)
    .unfold dY;go_wp2;exact⟨rfl,eF.no (dU B0 b2)⟩
   .rw[dO h16,dO h13,dO h14];have e1:((fB S f:Int)==16)=false:=Ve;have e2:((fB S f:Int)==13)=false:=Ve;have e3:((fB S f:Int)==14)=false:=Ve;clear Vp Vr;have hN:=λW=>Gc W (fB S f) x.1 Vy h0
    generalize zF (fB S f) x.1=ob at*;generalize fB S f=fb at*;obtain⟨q,hq⟩:=Y9 ((ou x.2.1&&zD x.2.2));rw[hq]at Vs⊢;go_in
    go_wp2_with fail;refine Vs.V ?_;intro e w2 hr;generalize(w.alloc (am #[aa fb,pv] 216)).alloc (Obj.cells (U4 x ma mc) 55)=w1 at*;rcases hr.part with⟨rfl,rfl,b2⟩|⟨rfl,y,z,rfl,b2⟩
    .have Vu:=KT.G b2 KT.lt;have Vt:=KV.G b2 KV.lt;clear k1 k2 k3 k4;have⟨k1,k2⟩:=Vu.I;have⟨k3,k4⟩:=Vt.I;go_wp2_with fail;refine(hN _).V ?_;rintro e w3 ⟨rfl,rfl⟩;cases ob
     .go_wp2_with (go_at_call 157;refine(ii _).V ?_;rintro e w2 ⟨rfl,rfl⟩;unfold dY)
      exact⟨rfl,eF.no (dU B0 b2)⟩
     .go_wp2_with (go_at_call 157;refine(iw _).V ?_;rintro e w2 ⟨rfl,rfl⟩)
      go_end0;exact eF.ok (dU B0 b2)
    .unfold dY;go_wp2;exact⟨rfl,eF.no (dU B0 b2)⟩
def P6 (k:Nat)(l:List PV):Prop:=l.length<=1099511627776/\∀v∈l,0<=v.1/\v.1<2^64/\v.2.1.size<=1099511627776/\pP k v.2.2
def Er {α:Type}{p:α->Bool}{l:List α}{i:Nat}{x:α}(hx:l[i]?=some x):(l.take (i+1)).all p=((l.take i).all p&&p x):=by
 rw[bT,hx];simp
def Ib {α:Type}{p:α->Bool}{l:List α}{i:Nat}(h:(l.take i).all p=false):l.all p=false:=by
 grind
def Ic {S:eD}{n k:Nat}{f:fo}{e:PV}(h:dZ S n (eP f) e.2.2=true)(hO:pP k e.2.2):Ep e:=by
 intro hl
 cases n with
 |zero=>simp[dZ]at h
 |succ n=>
  rw[dZ,aQ]at h;have h1:=h.1
  cases hfs:e.2.2.fs with
  |nil=>grind
  |cons x rest=>
   rw[hfs,gU]at h1
   cases hf:d9 (eP f).fs x.1 with
   |none=>grind
   |some fl=>
    rw[hf]at h1;simp only[fE,nP,aQ,cM]at h1;obtain⟨nn,vs⟩:=x
    cases vs with
    |nil=>grind
    |cons ke r=>
     cases k with
     |zero=>exact hO.elim
     |succ k=>
      have:=(hO.2.2 (nn,ke::r) (by grind)).2 ke aZ;grind
def Co {S:eD}{mp:an}{B n:Nat}(H:QX S mp B n)(w:aw)(Z:ax)(v:Value)(l:List PV)(d:MT)(f:fo)(g:GF)(fb:Nat)(deep k:Nat)(cx:tu w B S mp)(hf:eZ w (λb=>b<B) mp g fb)(fg:FG S mp d f g)(hv:pO (gP k w Z) w Z v l)(hO:P6 k l)(hd:n+1+deep=9):
  Calls prog 159 #[ah fb,v,aa deep] w (eF (fE S (dZ S n) f l) w):=by
 obtain⟨a,c,rfl⟩:=hv.form;have⟨pv,rv,h1,_,Vx,VK⟩:=hf.blk;obtain⟨pq,rfl⟩:=gK VK;obtain⟨ra,rc,rfl⟩:=iz Vx.1;have⟨k1,k2⟩:=h1.I;have VF:=hO.1;go_in
 go_upto_region 0 with fail
 go_cut [6]from 9 to 20 (λx wx=>x= .bool (f.isRep||f.isMap)/\wx=w)
 case first=>
  rcases fg.form with q|q|q|q|q<;>rw[q]at k1
  all_goals
   go_wp2;go_meet
   case rel=>exact⟨by rw[fg.rep,fg.map,q];rfl,rfl⟩
 case rest=>
  obtain⟨rfl,rfl⟩:=hcut;obtain⟨mn,Vy⟩:=Y9 ((f.isRep||f.isMap));have HH:Hid (nP f l=((l.length==1)||(mn&&decide (1<l.length)))):=by rw[<-Vy];rfl
  rw[Vy];clear Vy;go_upto_region 1 with fail
  go_cut []from 21 to 32 (λwx=>Hid (nP f l=true)/\wx=wc)
  case first=>
   by_cases q1:l.length=1
   .have e1:((l.length:Int)==1)=true:=by grind
    have e2:(l.length==1)=true:=by grind
    clear q1;go_wp2_with (go_at_call 157;refine(iw _).V ?_;rintro e w2 ⟨rfl,rfl⟩)
    go_meet;grind
   .have e1:((l.length:Int)==1)=false:=by grind
    have e2:(l.length==1)=false:=by grind
    cases mn
    .go_wp2_with (go_at_call 157;refine(ii _).V ?_;rintro e w2 ⟨rfl,rfl⟩;unfold dY)
     exact⟨rfl,by rw[show fE S (dZ S n) f l=false by unfold fE;rw[HH.o,e2];rfl];exact eF.no (Below.refl _ _)⟩
    .by_cases q2:1<l.length
     .have e3:decide (1<(l.length:Int))=true:=by grind
      go_wp2_with (go_at_call 157;refine(iw _).V ?_;rintro e w2 ⟨rfl,rfl⟩)
      go_meet;grind
     .have e3:decide (1<(l.length:Int))=false:=by grind
      go_wp2_with (go_at_call 157;refine(ii _).V ?_;rintro e w2 ⟨rfl,rfl⟩;unfold dY)
      exact⟨rfl,by rw[show fE S (dZ S n) f l=false by unfold fE;rw[HH.o,e2,decide_eq_false q2];rfl];exact eF.no (Below.refl _ _)⟩
  case rest=>
   obtain⟨HW,rfl⟩:=hcut;obtain⟨Q,HQ⟩:∃Q,Hid (l.all (eC S (dZ S n) f)=Q):=⟨_,rfl⟩;obtain⟨VL,Vz,VA⟩:=hv;have hfw:=h1.lt
   have HC:Hid (∀(W:aw) (x:PV) (mv:Value),ak wc W->x∈l->gP k wc Z mv x.2.2->U8 239 #[.agg #[aa (eI mp g),.pointer pq],gh x mv,aa deep] W (eF (eC S (dZ S n) f x) W)):=λW x mv hW hx hm=>
    Cn H W Z mv x d f g fb (.pointer pq) deep k (cx.on (ed hW cx.le)) (hf.O λb _ q=>hW.block b q) fg (hm.G hW (aE _)) (hO.2 x hx).2.2.2 (hO.2 x hx).1 (hO.2 x hx).2.2.1 ⟨_,h1.G hW h1.lt⟩ hd
   clear k1 k2;go_upto_region 2 with fail
   go_wp2;go_loopw [8,35] (λ_ jv wr=>∃j:Nat,jv=aa j/\j<=l.length/\Hid ((l.take j).all (eC S (dZ S n) f)=true)/\ak wc wr) (λ_ jv _=>l.length-(intOf jv).toNat)
   case atStart=>exact⟨0,rfl,aP _,rfl,Below.refl _ _⟩
   case round=>
    obtain⟨j,rfl,hj,HA,B⟩:=hrel;by_cases hlt:j<l.length
    .have⟨x,hx⟩:=gx hlt;have⟨mv,p1,p2,p3,p4,p5⟩:=VA.get hx;obtain⟨ma,mc,rfl⟩:=p1.form;obtain⟨gv,rfl,VB,Vr,Vp⟩:=Vz.at Vc;have t0:=Vp wr (B.block _ Vr) _ _ p2;have t1:=lI (Vp wr (B.block _ Vr) _ _ p3);have t2:=lI (Vp wr (B.block _ Vr) _ _ p4);have t3:=lI (Vp wr (B.block _ Vr) _ _ p5);have hlj:(j:Int)<(l.length:Int):=Vc;have⟨B1,K1⟩:=d8 wr (U4 x ma mc) 55;have B2:=dU B B1;have HX:=HC.o _ x _ B2.drew (aL hx) p1;have HT:Hid ((l.take (j+1)).all (eC S (dZ S n) f)=eC S (dZ S n) f x):=(by show(l.take (j+1)).all (eC S (dZ S n) f)=_;rw[Er hx,HA.o,dd]);have h2:=h1.G B2 h1.lt;obtain⟨q,hq⟩:=Y9 (eC S (dZ S n) f x);rw[hq]at HX HT;unfold gh at HX;clear Vp p2 p3 p4 p5 hx hq;go_upto_region 5 with fail
     generalize wr.alloc (Obj.cells (U4 x ma mc) 55)=w1 at*;generalize wr.heap.size=vb at*
     have hW:w1.drew.cell? (aj fb 2)=some (aa (eI mp g))/\w1.drew.cell? (aj fb 3)=some (.pointer pq)/\w1.drew.cell? (aj vb 0)=some (.int .u64 x.1)/\w1.drew.cell? (aj vb 1)=some (ag x.2.1)/\w1.drew.cell? (aj vb 2)=some (.slice ma x.2.2.fs.length mc)/\w1.drew.cell? (aj vb 3)=some (ag x.2.2.unk):=
      ⟨h2.drew.cell 2,h2.drew.cell 3,K1.drew.cell 0,K1.drew.cell 1,K1.drew.cell 2,K1.drew.cell 3⟩
     go_region_held2 (λW=>W.cell? (aj fb 2)=some (aa (eI mp g))/\W.cell? (aj fb 3)=some (.pointer pq)/\W.cell? (aj vb 0)=some (.int .u64 x.1)/\W.cell? (aj vb 1)=some (ag x.2.1)/\W.cell? (aj vb 2)=some (.slice ma x.2.2.fs.length mc)/\W.cell? (aj vb 3)=some (ag x.2.2.unk))
      (first|exact hW|exact⟨h3.cell 2,h3.cell 3,K3.cell 0,K3.cell 1,K3.cell 2,K3.cell 3⟩)
      (first
       |(
         go_at_call 239;refine HX.V ?_;intro e w3 hr;rcases hr.part with⟨rfl,rfl,b3⟩|⟨rfl,y,z,rfl,b3⟩;rotate_left;.have B4:=dU B2.drew b3;unfold dY;go_wp2;exact⟨rfl,by rw[show fE S (dZ S n) f l=false by unfold fE;rw[Ib HT.o,cU];rfl];exact eF.no B4⟩
         have h3:=h2.G (w:=w1.drew) b3 h2.lt
         have K3:=K1.G (w:=w1.drew) b3 K1.lt))
     have B4:=dU B2.drew b3;go_wp2;go_roundw
     case rel=>grind
     case measure=>simp[intOf];omega
    .obtain rfl:j=l.length:=Vc
     have VC:Hid (l.all (eC S (dZ S n) f)=true):=by
      show l.all (eC S (dZ S n) f)=true;have:=HA.o
      rwa [bB]at this
     have HF:Hid (fE S (dZ S n) f l=ku S f l):=(by show fE S (dZ S n) f l=_;unfold fE;rw[HW.o,VC.o];rfl);have h2:=h1.G B h1.lt;have VG:=hf.O (w':=wr) (λb _ q=>B.block b q)
     have Vt:0<l.length:=by
      cases l with
      |nil=>have:=HW.o;simp[nP]at this
      |cons x r=>simp
     have⟨k1,k2⟩:=h2.I;by_cases h4:g.form=4
     .have hm:f.isMap=true:=by rw[fg.map,h4];rfl
      have e4:(g.form==4)=true:=by grind
      have VD:ku S f l=jG (iJ (S.base f.key)) none l:=by unfold ku;rw[dP hm]
      have Vq:Hid (fE S (dZ S n) f l=jG (iJ (S.base f.key)) none l):=HF.o.J VD;clear VD HF;have Vu:=(fg.key h4).1;have VH:S.base f.key<=16:=by rw[<-Vu];exact uo mp _
      have VE:=Hm wr _ mp g fb VG h4;rw[fg.eq,Vu]at VE
      cases k with
      |zero=>
       cases l with
       |nil=>simp at Vt
       |cons x r=>exact(hO.2 x aZ).2.2.2.elim
      |succ k=>
       have VI:∀e∈l,Ep e:=λe he=>by
        have:=cg.1 VC.o e he;unfold eC fB at this;rw[hm]at this;simp only[if_true,aQ]at this;unfold fy at this;rw[dP hm]at this;exact Ic this.2 (hO.2 e he).2.2.2
       have HE:Hid (∀W,ak wc W->U8 240 #[.slice a l.length c,.bool (iJ (S.base f.key))] W (eF (jG (iJ (S.base f.key)) none l) W)):=λW hW=>
        AT W _ l _ (pO.G hW (aE _) ⟨VL,Vz,VA⟩) VI VF
       have VJ:=λW pv=>pr W (S.base f.key) pv VH
       clear Vu;generalize iJ (S.base f.key)=sg at*;generalize S.base f.key=kb at*;generalize jG sg none l=r at*;go_wp2_with fail;refine VE.V ?_;rintro e w2 ⟨VM,rfl,b2⟩;go_wp2_with fail;refine(VJ w2 VM).V ?_;rintro e w3 ⟨rfl,b3⟩;have B3:=dU B (dU b2 b3);go_wp2_with fail;refine(HE.o w3 B3).V ?_;intro e w4 hr;rcases hr.part with⟨rfl,rfl,b4⟩|⟨rfl,y,z,rfl,b4⟩;.go_wp2;go_end0;rw[Vq.o];exact eF.ok (dU B3 b4)
       .unfold dY;go_wp2;rw[Vq.o];exact⟨rfl,eF.no (dU B3 b4)⟩
     .have hm:f.isMap=false:=by rw[fg.map];grind
      have e4:(g.form==4)=false:=by grind
      have Vs:=fg.sin;have Vv:=fg.gb;by_cases h0:g.form=0/\fB S f≠16
      .have e0:(g.form==0)=true:=by grind
       have e16:((eI mp g:Int) !=16)=true:=by grind
       have hs0:gN f.how eS=true:=by grind
       have⟨x,hx⟩:=gx Vt;have Vq:Hid (fE S (dZ S n) f l= !(decide (x.1=0)&&ou x.2.1)):=(by refine HF.o.J ?_;unfold ku;grind);have⟨mv,p1,p2,p3,p4,p5⟩:=VA.get hx;obtain⟨ma,mc,rfl⟩:=p1.form;obtain⟨gv,rfl,VB,Vr,Vp⟩:=Vz.at Vc;have t0:=Vp wr (B.block _ Vr) _ _ p2;have t1:=lI (Vp wr (B.block _ Vr) _ _ p3);have t2:=lI (Vp wr (B.block _ Vr) _ _ p4);have t3:=lI (Vp wr (B.block _ Vr) _ _ p5);simp only[Nat.zero_mul,Ja]at t0 t1 t2 t3;have Vw:=AP wr x (.slice ma x.2.2.fs.length mc);unfold gh at Vw;obtain⟨r,hr⟩:=Y9 ((!(decide (x.1=0)&&ou x.2.1)));rw[hr]at Vw Vq;clear hr hx HF Vs Vv;have hl0:(0:Int)<(l.length:Int):=Vc;go_wp2_with fail;refine Vw.V ?_;intro e w4 hr;rcases hr.part with⟨rfl,rfl,b4⟩|⟨rfl,y,z,rfl,b4⟩;.go_wp2;go_end0;rw[Vq.o];exact eF.ok (dU B b4)
       .unfold dY;go_wp2;rw[Vq.o];exact⟨rfl,eF.no (dU B b4)⟩
      .have Vq:Hid (fE S (dZ S n) f l=true):=(by refine HF.o.J ?_;unfold ku;rw[hm,dO Vd,dO (λq=>h0 ⟨by grind,q.2⟩)]);by_cases h00:g.form=0
       .have e0:(g.form==0)=true:=by grind
        have e16:((eI mp g:Int) !=16)=false:=by grind
        clear HF Vs Vv h0 h00;go_wp2;go_end0;rw[Vq.o];exact eF.ok B
       .have e0:(g.form==0)=false:=by grind
        clear HF Vs Vv h0;go_wp2;go_end0;rw[Vq.o];exact eF.ok B
end
section
variable {S:eD} {d:MT} {f:fo}
def yC {R:MT->PM->Bool}{x:PF}:∀{fs a:List PF},gU S R d a fs=true->x∈fs->∃f,d9 d.fs x.1=some f/\fE S R f x.2=true
 | [],_,_,hx=>by simp at hx
 |y::l,a,h,hx=>by
  rw[gU,aQ]at h;rcases aS.1 hx with rfl|hx;.grind
  .exact yC h.2 hx
def yD {R:MT->PM->Bool}{l:List PV}{v:PV}(h:fE S R f l=true)(hv:v∈l):eC S R f v=true:=by
 unfold fE at h;simp_all
def uN {R:MT->PM->Bool}{v:PV}{t:MT}(h:eC S R f v=true)(hb:fB S f=16)(ht:fy S f=some t):R t v.2.2=true:=by
 unfold eC at h;simp_all
def NG (d:MT):Prop:=∀n f,d9 d.fs n=some f->0<=f.num/\f.num<=536870911
def Es (S:eD):Prop:=∀t d,S.msg t=some d->NG d
def uO {t:MT}(h:Es S)(hs:fy S f=some t):NG t:=by
 unfold fy at hs;split at hs;.obtain rfl:=Option.some.inj hs;intro n g hg;have⟨_,hg⟩:=fA hg;simp[eP]at hg;rcases hg with rfl|rfl<;>simp
 .exact h _ _ hs
end
section
variable {α:Type} {g:α->ap} {l:List α}
def wT {x:α}(h:x∈l):(g x).length<=(l.flatMap g).length:=by
 induction l with
 |nil=>grind
 |cons y l ih=>
  grind
def gd {i:Nat}{x:α}(h:l[i]?=some x):(l.take (i+1)).flatMap g=(l.take i).flatMap g++g x:=by
 rw[bT,h];simp
def iW (i:Nat):((l.take i).flatMap g).length<=(l.flatMap g).length:=by
 conv=>rhs;rw[<-ca i l]
 grind
def tG (t:ap):(l.flatMap λv=>t++g v).length=t.length*l.length+(l.flatMap g).length:=by
 induction l with
 |nil=>simp
 |cons y l ih=>
  grind
end
def ri (x:ap):x.length<=(fF x).length:=by unfold fF;simp
def ij (x:ap)(w:aw)(e:Ending)(w':aw):Prop:=e= .returned (aa x.length)/\ak w w'
def wY:Nat->PM->Nat
 |0,_=>0
 |k+1,m=>m.unk.size+(m.fs.map λx=>30+(x.2.map λv=>30+v.2.1.size+wY k v.2.2).sum).sum
def qE {α:Type}{g:α->ap}{h:α->Nat}:∀{l:List α},(∀x∈l,(g x).length<=h x)->(l.flatMap g).length<=(l.map h).sum
 | [],_=>aP _
 |x::l,hx=>by
  have h1:=hx x aZ;have h2:=qE (l:=l) λy hy=>hx y (aY _ hy)
  grind
def uV (v:Int):(vi v).length<=10:=(nW 9 v).1
section
variable {S:eD} {R:MT->PM->ap} {f:fo}
def Cv {v:PV}{W:Nat}(h:∀t,(R t v.2.2).length<=W):(gm S R f v).length<=10+v.2.1.size+W:=by
 unfold gm;have hs:v.2.1.data.toList.length=v.2.1.size:=Vd;split
 .unfold fF;rw[aN];split;.rename_i t _;have:=h t;have:=uV ((R t v.2.2).length:Int);omega
  .have:=uV (([]:ap).length:Int);grind
 .split;.unfold fF;rw[aN,hs];have:=uV (v.2.1.size:Int);omega
  .split;.rw[iG];omega
   .split;.rw[iG];omega
    .split;.have:=uV (Cl v.1);omega
     .have:=uV v.1;omega
def Pa {l:List PV}{W:PV->Nat}(h:∀v∈l,∀t,(R t v.2.2).length<=W v):(kL S R f l).length<=30+(l.map λv=>30+v.2.1.size+W v).sum:=by
 have ht:∀n k,(fD n k).length<=10:=λn k=>(nW 9 (n*8+k)).1
 unfold kL;split
 .have h1:(nF S R f l).length<=(l.map λv=>30+v.2.1.size+W v).sum:=qE λv hv=>by
   have:=Cv (S:=S) (f:=f) (h v hv);omega
  have h2:=uV ((nF S R f l).length:Int);have h3:=ht f.num (oU S f);unfold fF
  (simp;omega)
 .have h1:(l.flatMap λv=>fD f.num (oU S f)++gm S R f v).length<=(l.map λv=>30+v.2.1.size+W v).sum:=qE λv hv=>by
   have:=Cv (S:=S) (f:=f) (h v hv);grind
  omega
end
def qF {S:eD}:∀(n k:Nat) (d:MT) (m:PM),pP k m->(eG S n d m).length<=wY k m
 |0,_,_,_,_=>aP _
 |_+1,0,_,_,h=>h.elim
 |n+1,k+1,d,m,h=>by
  rw[eG,wY,aN,show m.unk.data.toList.length=m.unk.size by simp]
  have:=qE (g:=ki S (eG S n) d) (h:=λx:PF=>30+(x.2.map λv=>30+v.2.1.size+wY k v.2.2).sum) (l:=m.fs) λx hx=>by
   unfold ki;split;.simp
   .exact Pa λv hv t=>qF n k t v.2.2 ((h.2.2 x hx).2 v hv).2.2.2
  omega
end Go.Proofs.YtfebdimolnobaaaGreatDoor
