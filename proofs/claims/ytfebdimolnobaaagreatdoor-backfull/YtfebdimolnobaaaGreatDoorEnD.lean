import Derived.Test.YtfebdimolnobaaaGreatDoorDfR
set_option maxRecDepth 100000
set_option maxHeartbeats 8000000
set_option linter.all false
namespace Go.Proofs.YtfebdimolnobaaaGreatDoor
open Go.RowKit Go.Proofs.Tryz
section
open VH
def vL (x:Nat):(x|||1)/2=x/2:=by
 have c:=Nat.shiftRight_or_distrib (a:=x) (b:=1) (i:=1);simpa [Nat.shiftRight_succ]using c
def Cp (x:Nat):(x|||1)=x\/(x|||1)=x+1:=by
 have h:=vL x;have a:(x|||1)%2=1:=(by have:=Nat.and_one_is_mod (x|||1);rw[<-this,Nat.and_or_distrib_right];simp;rcases Nat.mod_two_eq_zero_or_one x with q|q<;>rw[q]<;>rfl);omega
def AP {x:Nat}(h:x≠0)(h1:x<18446744073709551616):Lib.bitLen (x|||1)=Lib.bitLen x:=by
 have:=Cp x;have c:=vL x;have a:x|||1<2^64:=Nat.or_lt_two_pow h1 Vy
 rw[Lib.bitLen_half x h h1,Lib.bitLen_half (x|||1) Vv a,c]
def Ep:∀(f x:Nat),x<128^(f+1)->x<18446744073709551616->(uT f x).length=(Lib.bitLen (x|||1)+6)/7
 |f,x,h,h1=>by
  by_cases hx:x<128;.have e:(uT f (x:Int)).length=1:=(by have:(x:Int)<128:=Vv;cases f<;>simp[uT,this]);have:∀k:Fin 128,1=(Lib.bitLen (k.val|||1)+6)/7:=Vz;rw[e];exact this ⟨x,hx⟩
  .cases f with
   |zero=>simp at h;omega
   |succ f=>
    have a:Lib.bitLen (x|||1)=7+Lib.bitLen (x/128):=(by rw[AP Vv h1];exact Lib.bitLen_shift 7 x Vv h1);have ih:=Ep f (x/128) (by rw[Nat.pow_succ]at h;omega) Vv;rw[AP Vv Vv]at ih;rw[uT,dQ Vv,bw,show((x:Int)/128)=((x/128:Nat):Int)by omega,ih,a];omega
def Er (x:Int)(w:aw)(a:0<=x)(h1:x<=18446744073709551615):Vq 255 #[.int .u64 x] w λe w'=>e= .returned (aa (Lib.bitLen x.toNat))/\w'=w:=Any.bits_Len64 Tryz.laysLn x w a h1
def SS {w:aw}{fb:Nat}{a b c d e:Value}{T:TypeId}(h:dZ w fb #[a,b,c,d,e] T):w.cell? (aj fb 0)=some a/\w.cell? (aj fb 2)=some c/\w.cell? (aj fb 3)=some d:=⟨h.cell 0,h.cell 2,h.cell 3⟩
section
variable (w:aw)
def oY (x:Int)(h:0<=x)(h1:x<18446744073709551616):Calls prog 328 #[.int .u64 x] w λe w'=>e= .returned (aa (vi x).length)/\w'=w:=by
 obtain⟨n,rfl⟩:=bG h;have i:bits .or .u64 (n:Int) 1=((n|||1:Nat):Int):=bits_or_u64_nat n 1 Vv Vv;have j:n|||1<2^64:=Nat.or_lt_two_pow Vv Vy
 have d:=Er ((n|||1:Nat):Int) w Vv Vv;have a:(vi (n:Int)).length=(Lib.bitLen (n|||1)+6)/7:=Ep 9 n Vv Vv;have c:=(nY 9 (n:Int)).1;rw[Int.toNat_natCast]at d;rw[a];have f:(Lib.bitLen (n|||1)+6)/7<=10:=by rw[<-a];exact c
 clear a c;generalize Lib.bitLen (n|||1)=y at*;generalize n|||1=o at*
 go_in
 go_wp2_with fail;refine d.V ?_;rintro e w2 ⟨rfl,rfl⟩;go_wp2;go_ret;exact⟨by rw[show(((y+6)/7:Nat):Int)=((y:Int)+6)/7 by omega];rfl,rfl⟩
def Rb {n k:Int}(d:0<=n)(h1:n<=536870911)(e:0<=k)(f:k<8):bits .or .u64 (n*8) k=n*8+k:=by
 obtain⟨a,rfl⟩:=bG d;obtain⟨c,rfl⟩:=bG e;rw[show(a:Int)*8=((a*8:Nat):Int)by omega,bits_or_u64_nat (a*8) c Vv Vv,show a*8=a<<<3 by rw[dx],<-dl (by omega:c<2^3),dx];omega
def L3 (n k:Int)(c:0<=n)(h1:n<=536870911)(d:0<=k)(a:k<8):Calls prog 316 #[.agg #[aa n,aa k]] w λe w'=>e= .returned (.int .u64 (n*8+k))/\ak w w':=by
 have f:=Rb c h1 d a;have i:n%18446744073709551616=n:=Vv;have j:k%18446744073709551616=k:=Vv;have m:n*8%18446744073709551616=n*8:=Vv;have⟨a,h⟩:=(dZ.new w #[aa n,aa k] 237).I;go_in
 go_wp2;go_ret;exact⟨rfl,(Below.refl _ _).alloc (aE _) _⟩
def fH (n k:Int):ap:=vi (n*8+k)
def Qf (n k:Int)(d:0<=n)(h1:n<=536870911)(f:0<=k)(h:k<8):Calls prog 242 #[.agg #[aa n,aa k]] w λe w'=>e= .returned (aa (fH n k).length)/\ak w w':=by
 have⟨i,j⟩:=(dZ.new w #[aa n,aa k] 237).I;have a:ak w (w.Vn #[aa n,aa k] 237):=(Below.refl _ _).alloc (aE _) _;go_in
 go_wp2_with fail;refine(L3 _ n k d h1 f h).V ?_;rintro e w2 ⟨rfl,c⟩;go_wp2_with fail;refine(oY _ (n*8+k) Vv Vv).V ?_;rintro e w3 ⟨rfl,rfl⟩;go_wp2;go_ret;exact⟨rfl,eT a c⟩
def uV (x:ap)(h:x.length<=140737488355328):Calls prog 243 #[aa x.length] w λe w'=>e= .returned (aa (fI x).length)/\w'=w:=by
 have f:(x.length:Int)%18446744073709551616=x.length:=Vv;have c:=(nY 9 (x.length:Int)).1;have a:(fI x).length=(vi x.length).length+x.length:=by rw[fI,aN]
 have d:=oY w x.length Vv Vv;rw[a];rw[show(uT 9 (x.length:Int))=vi x.length from rfl]at c;generalize(vi (x.length:Int)).length=y at*;generalize x.length=n at*;go_in
 go_wp2_with fail;refine d.V ?_;rintro e w2 ⟨rfl,rfl⟩;go_wp2;go_ret;exact⟨by rw[dG];rfl,rfl⟩
def Cq (v:Int):Int:=if v<9223372036854775808 then 2*v else 36893488147419103231-2*v
def tF (v:Int)(f:0<=v)(h1:v<18446744073709551616):Calls prog 321 #[.int .u64 v] w λe w'=>e= .returned (.int .u64 (Cq v))/\w'=w:=by
 unfold Cq;by_cases h:v<9223372036854775808
 .rw[dR h];have a:v/9223372036854775808=0:=Vv;have d:=rP (n:=v*2) Vv Vv;have c:v*2%18446744073709551616=v*2:=Vv;go_in
  go_wp2;go_ret;exact⟨by rw[Int.mul_comm 2 v];rfl,rfl⟩
 .rw[dQ h];have a:v/9223372036854775808=1:=Vv;have c:IntKind.u64.wrap (v*2)=v*2-18446744073709551616:=by simp[IntKind.wrap,IntKind.bits,IntKind.signed];omega
  have i:IntKind.u64.wrap (-1)=18446744073709551615:=Vy;have d:=rO (n:=v*2-18446744073709551616) Vv Vv;go_in
  go_wp2;go_ret;exact⟨by rw[show(36893488147419103231:Int)-2*v=18446744073709551615-(v*2-18446744073709551616)by omega];rfl,rfl⟩
end
def AQ (mp:an)(g:GF):Int:=if iw mp g then 2 else eM (eK mp g)
def L4 (k:Nat):eM k<8:=by
 unfold eM
 repeat' split
 all_goals omega
def tG (mp:an)(g:GF):0<=AQ mp g/\AQ mp g<8:=by
 have:=L4 (eK mp g);unfold AQ;split<;>omega
def fJ.on {B b:Nat}{l:ap}{w w':aw}(h:fJ w B b (eG b) l)(c:ak w w'):fJ w' B b (eG b) l:=by
 obtain⟨d,v,a,e,f⟩:=h;exact⟨d,v,dZ.G a c (dZ.lt a),eZ c e,f⟩
def eh {n m:Nat}{a b:aw}(h:Below n a b)(hm:m<=n):Below m a b:=⟨h.os,h.tape,h.output,h.size,λi c=>h.block i Vv⟩
section
variable {B b:Nat} {l:ap} {w:aw}
def L6 (n k:Int)(f:0<=n)(h1:n<=536870911)(i:0<=k)(j:k<8)(h:fJ w B b (eG b) l)(hlen:l.length+(fH n k).length<=140737488355328)(hBw:B<=w.heap.size):
  Calls prog 230 #[eG b,.agg #[aa n,aa k]] w (ja B b l (fH n k) w):=by
 have⟨q,r⟩:=(dZ.new w #[aa n,aa k] 237).I;have c:ak w (w.Vn #[aa n,aa k] 237):=(Below.refl _ _).alloc (aE _) _;go_in
 go_wp2_with fail;refine(L3 _ n k f h1 i j).V ?_;rintro e w2 ⟨rfl,d⟩;have a:=eT c d;have p:=a.size;go_wp2_with fail;refine(oX (n*8+k) (h.on a) Vv Vv hlen Vv).V ?_;rintro e w3 ⟨rfl,m,o⟩;go_wp2;go_end0;exact⟨rfl,m,(Wr.of a hBw).J o⟩
end
section
variable (w:aw) (P:ax) (mp:an) (g:GF) (fb:Nat)
def yD (h:fi w P mp g fb):Calls prog 231 #[ah fb] w λe w'=>e= .returned (.agg #[aa g.f.num,aa (AQ mp g)])/\ak w w':=by
 have⟨K,L,f,_,o,r⟩:=h.blk;obtain⟨s,rfl⟩:=gL r;obtain⟨F,H,G,rfl⟩:=d7 o.1;have⟨m,j⟩:=ec w #[aa 0,aa 0] 237;have k:=mT _ P mp g fb (h.O (λb _ A=>m.block b A));have u:=mg mp g;have x:=λW=>qp W (eK mp g) (.pointer s) u
 clear r o h;unfold AQ
 cases hpk:iw mp g with
 |true=>
  rw[hpk]at k;go_in
  go_wp2_with fail;refine k.V ?_;rintro e w2 ⟨rfl,c⟩;have d:=eT m c;have⟨I,J⟩:=(dZ.G f d f.lt).I;have a:=j.G c j.lt;have⟨D,E⟩:=a.I;go_wp2;refine dU (ew results231 _ _ rfl ((a.set 0 _).set 1 _) underlying237 VA) rfl ?_
  exact⟨rfl,(d.setCell (p:=(aj w.heap.size 0)) (aE _) _).setCell (p:=(aj w.heap.size 1)) (aE _) _⟩
 |false=>
  rw[hpk]at k;generalize eM (eK mp g)=wb at*;go_in
  go_wp2_with fail;refine k.V ?_;rintro e w2 ⟨rfl,c⟩;have d:=eT m c;have i:=dZ.G f d f.lt;have a:=j.G c j.lt;have y:=i.lt;have C:=a.lt;have z:=f.lt;go_upto_region 3 with fail
  go_region_held2 (λW=>W.cell? (aj fb 0)=some (aa g.f.num)/\W.cell? (aj fb 2)=some (aa (eK mp g))/\W.cell? (aj fb 3)=some (.pointer s))
   ((refine SS (b:=aa g.form) (e:= .slice F H G) (T:=220) ?_;repeat (first|exact t|exact i|refine dZ.drew ?_|refine dZ.other ?_ _ _ (by first|exact of_eq_false VF|omega))))
   (first|(go_at_call 208;refine(x _).V ?_;rintro e w3 ⟨rfl,v⟩;have n:ak w2 w3:=eT (Below.refl _ _).drew v;have t:=i.G n i.lt;have q:=a.G n a.lt;have⟨D,E⟩:=q.I))
  all_goals
   go_wp2;refine dU (ew results231 _ _ rfl ((q.set 0 _).set 1 _) underlying237 VA) rfl ?_;exact⟨rfl,((eT d n).setCell (p:=(aj w.heap.size 0)) (aE _) _).setCell (p:=(aj w.heap.size 1)) (aE _) _⟩
end
def gj (x:PV)(mv:Value):Value:= .agg #[.int .u64 x.1,ag x.2.1,mv,ag x.2.2.unk]
abbrev Nz:={x:Int//x≠0}
def Nz.ne (x:Nz):x.1≠0:=x.2
def eH (ok:Bool)(w:aw)(e:Ending)(w':aw):Prop:=ak w w'/\if ok=true then e= .returned (.tuple #[])else∃(x:Nz) (y:Int),e=d5 x.1 y
def eH.ok {w w':aw}(b:ak w w'):eH true w (.returned (.tuple #[])) w':=⟨b,rfl⟩
def eH.no {w w':aw}{x y:Int}(b:ak w w')(a:x≠0:=by first|decide|exact Nz.ne _):eH false w (d5 x y) w':=⟨b,⟨x,a⟩,_,rfl⟩
def eH.part {ok:Bool}{w:aw}{e:Ending}{w':aw}(h:eH ok w e w'):(ok=true/\e= .returned (.tuple #[])/\ak w w')\/(ok=false/\∃(x:Nz) (y:Int),e=d5 x.1 y/\ak w w'):=by
 obtain⟨a,b⟩:=h;cases ok;.simp_all
 simp_all
section
variable (w:aw)
def iy:Calls prog 157 #[.bool true] w λe w'=>e= .returned (.tuple #[])/\w'=w:=by
 go_in
 go_wp2;go_end0;simp
def io:Calls prog 157 #[.bool false] w λe w'=>e=d5 12 0/\w'=w:=by
 go_in
 go_wp2_with fail;refine(JQ 12 0 _).V ?_;rintro e w' ⟨rfl,rfl⟩;go_wp2;exact⟨rfl,rfl,rfl⟩
def ox (s:au):Bool:=s.toList.isEmpty
def zG (m:PM):Bool:=m.fs.isEmpty&&ox m.unk
def Ic {α:Type}(l:List α):(((l.length:Nat):Int)==0)=l.isEmpty:=by cases l<;>simp;omega
def AR (x:PV)(mv:Value):Calls prog 241 #[gj x mv] w (eH (!(decide (x.1=0)&&ox x.2.1)) w):=by
 obtain⟨n,s,m⟩:=x;unfold gj ox;simp only;by_cases h0:n=0
 .subst h0;simp only[decide_true];have⟨B,K⟩:=ec w #[.int .u64 0,ag s,mv,ag m.unk] 55;have⟨a,b⟩:=K.I;cases h1:s.toList.isEmpty
  all_goals
   go_in
   go_wp2_with fail;first|refine(iy _).V ?_|refine(io _).V ?_
   rintro e w' ⟨rfl,rfl⟩
   try unfold d5
   go_wp2;first|(go_end0;exact⟨B,rfl⟩)|exact⟨rfl,eH.no B⟩
 .rw[decide_eq_false h0];have⟨B,K⟩:=ec w #[.int .u64 n,ag s,mv,ag m.unk] 55;have⟨a,b⟩:=K.I;go_in
  go_wp2_with fail;first|refine(iy _).V ?_|refine(io _).V ?_
  rintro e w' ⟨rfl,rfl⟩
  try unfold d5
  go_wp2;first|(go_end0;exact⟨B,rfl⟩)|exact⟨rfl,eH.no B⟩
def Es (x:PV)(ma:aC)(mc:Nat):Calls prog 326 #[gj x (.slice ma x.2.2.fs.length mc)] w (eH (ox x.2.1&&zG x.2.2) w):=by
 obtain⟨n,s,m⟩:=x;have a:=Ic m.fs;unfold gj zG ox;simp only;generalize m.fs.isEmpty=p3 at*;generalize m.fs.length=q3 at*;have⟨B,K⟩:=ec w #[.int .u64 n,ag s,.slice ma q3 mc,ag m.unk] 55;have⟨b,c⟩:=K.I;cases h1:s.toList.isEmpty<;>cases p3<;>cases h4:m.unk.toList.isEmpty
 all_goals
  go_in
  go_wp2_with fail;first|refine(iy _).V ?_|refine(io _).V ?_
  rintro e w' ⟨rfl,rfl⟩
  try unfold d5
  go_wp2;first|(go_end0;exact⟨B,rfl⟩)|exact⟨rfl,eH.no B⟩
def Ge (x:PV)(ma:aC)(mc:Nat):Calls prog 324 #[gj x (.slice ma x.2.2.fs.length mc)] w (eH (decide (x.1=0)&&zG x.2.2) w):=by
 obtain⟨n,s,m⟩:=x;have a:=Ic m.fs;unfold gj zG ox;simp only;generalize m.fs.isEmpty=p3 at*;generalize m.fs.length=q3 at*;by_cases h0:n=0
 .subst h0;simp only[decide_true];have⟨B,K⟩:=ec w #[.int .u64 0,ag s,.slice ma q3 mc,ag m.unk] 55;have⟨b,c⟩:=K.I;cases p3<;>cases h4:m.unk.toList.isEmpty
  all_goals
   go_in
   go_wp2_with fail;first|refine(iy _).V ?_|refine(io _).V ?_
   rintro e w' ⟨rfl,rfl⟩
   try unfold d5
   go_wp2;first|(go_end0;exact⟨B,rfl⟩)|exact⟨rfl,eH.no B⟩
 .rw[decide_eq_false h0];clear a;have⟨B,K⟩:=ec w #[.int .u64 n,ag s,.slice ma q3 mc,ag m.unk] 55;have⟨b,c⟩:=K.I;go_in
  go_wp2_with fail;first|refine(iy _).V ?_|refine(io _).V ?_
  rintro e w' ⟨rfl,rfl⟩
  try unfold d5
  go_wp2;first|(go_end0;exact⟨B,rfl⟩)|exact⟨rfl,eH.no B⟩
def Qg (x:PV)(mv:Value):Calls prog 323 #[gj x mv] w (eH (decide (x.1=0)&&ox x.2.1) w):=by
 obtain⟨n,s,m⟩:=x;unfold gj ox;simp only;by_cases h0:n=0
 .subst h0;simp only[decide_true];have⟨B,K⟩:=ec w #[.int .u64 0,ag s,mv,ag m.unk] 55;have⟨a,b⟩:=K.I;cases h1:s.toList.isEmpty
  all_goals
   go_in
   go_wp2_with fail;first|refine(iy _).V ?_|refine(io _).V ?_
   rintro e w' ⟨rfl,rfl⟩
   try unfold d5
   go_wp2;first|(go_end0;exact⟨B,rfl⟩)|exact⟨rfl,eH.no B⟩
 .rw[decide_eq_false h0];have⟨B,K⟩:=ec w #[.int .u64 n,ag s,mv,ag m.unk] 55;have⟨a,b⟩:=K.I;go_in
  go_wp2_with fail;first|refine(iy _).V ?_|refine(io _).V ?_
  rintro e w' ⟨rfl,rfl⟩
  try unfold d5
  go_wp2;first|(go_end0;exact⟨B,rfl⟩)|exact⟨rfl,eH.no B⟩
end
def zH (k:Nat)(n:Int):Bool:=
 if k=0\/k=4\/k=9\/k=15 then n==mQ n else if k=2\/k=7\/k=11 then n==n%4294967296 else if k=6 then n==(if 0<n then 1 else 0)else true
def AS {k:Nat}(a:k<=16):k=0\/k=1\/k=2\/k=3\/k=4\/k=5\/k=6\/k=7\/k=8\/k=9\/k=10\/k=11\/k=12\/k=13\/k=14\/k=15\/k=16:=Vv
def Gf (w:aw)(k:Nat)(n:Int)(i:k<=16)(h:0<=n):Calls prog 327 #[aa k,.int .u64 n] w λe w'=>e= .returned (.bool (zH k n))/\w'=w:=by
 have d:=px w n;have f:=sY w n;have g:=wI w n h;unfold zH;generalize mQ n=a at*;generalize n%4294967296=b at*;generalize(if 0<n then(1:Int)else 0)=c at*;rcases AS i with rfl|rfl|rfl|rfl|rfl|rfl|rfl|rfl|rfl|rfl|rfl|rfl|rfl|rfl|rfl|rfl|rfl
 all_goals
  go_in
  go_wp2_with (first|(go_at_call 347;refine d.V ?_;rintro e w2 ⟨rfl,rfl⟩)|(go_at_call 348;refine f.V ?_;rintro e w2 ⟨rfl,rfl⟩)|(go_at_call 351;refine g.V ?_;rintro e w2 ⟨rfl,rfl⟩))
  go_ret;simp
def fB (S:eF)(f:fw):Nat:=if f.isMap then 16 else S.base f.ty
def iN (S:eF)(f:fw):Bool:=f.isRep&&fo (fB S f)
def oZ (S:eF)(f:fw):Int:=if iN S f then 2 else eM (fB S f)
def o0 (S:eF)(d:MT)(num kind:Int):Bool:=
 match ed d.fs num with
 |none=>false
 |some f=>(kind==(eM (fB S f):Int))||((kind==2)&&iN S f)
def gp (S:eF)(R:MT->PM->ap)(f:fw)(v:PV):ap:=
 if fB S f=16 then fI (match fC S f with|some t=>R t v.2.2|none=> [])
 else if fB S f=13\/fB S f=14 then fI v.2.1.data.toList
 else if fB S f=7\/fB S f=9\/fB S f=11 then ph 4 v.1
 else if fB S f=8\/fB S f=10\/fB S f=12 then ph 8 v.1
 else if fB S f=4\/fB S f=5 then vi (Cq v.1)else vi v.1
def nH (S:eF)(R:MT->PM->ap)(f:fw)(l:List PV):ap:=l.flatMap (gp S R f)
def kN (S:eF)(R:MT->PM->ap)(f:fw)(l:List PV):ap:=
 if iN S f then fH f.num (oZ S f)++fI (nH S R f l)else l.flatMap λv=>fH f.num (oZ S f)++gp S R f v
def kj (S:eF)(R:MT->PM->ap)(d:MT)(x:PF):ap:=
 match ed d.fs x.1 with
 |none=> []
 |some f=>kN S R f x.2
def eI (S:eF):Nat->MT->PM->ap
 |0,_,_=> []
 |n+1,d,m=>m.fs.flatMap (kj S (eI S n) d)++m.unk.data.toList
def eE (S:eF)(R:MT->PM->Bool)(f:fw)(v:PV):Bool:=
 if fB S f=16 then(decide (v.1=0)&&ox v.2.1)&&(match fC S f with|some t=>R t v.2.2|none=>false)
 else if fB S f=13 then(decide (v.1=0)&&zG v.2.2)&&Lib.validD v.2.1.data.toList
 else if fB S f=14 then decide (v.1=0)&&zG v.2.2
 else(ox v.2.1&&zG v.2.2)&&zH (fB S f) v.1
def Rc (e:PV):PV:=
 match e.2.2.fs with
 |(_,k::_)::_=>k
 |_=>PV.none
def tI (sg:Bool)(e:PV):LV:=FQ sg ((Rc e).1,(Rc e).2.1)
def jI (sg:Bool):Option LV->List PV->Bool
 |_,[]=>true
 |last,e::l=>((e.2.2.fs.length==2)&&ox e.2.2.unk)&&(match last with|none=>true|some k=>decide (yw k (tI sg e)<0))&&jI sg (some (tI sg e)) l
def nR (f:fw)(l:List PV):Bool:=(l.length==1)||((f.isRep||f.isMap)&&decide (1<l.length))
def ku (S:eF)(f:fw)(l:List PV):Bool:=
 if f.isMap then jI (iM (S.base f.key)) none l else if gQ f.how eS=true/\fB S f≠16 then(match l with|x::_=> !(decide (x.1=0)&&ox x.2.1)| []=>true)else true
def fG (S:eF)(R:MT->PM->Bool)(f:fw)(l:List PV):Bool:=nR f l&&l.all (eE S R f)&&ku S f l
def kx (riv:ar)(n:Int)(ahead:List PF):Bool:=ahead.all λy=>decide (y.1<n)&& !decide (y.1∈riv)
def gX (S:eF)(R:MT->PM->Bool)(d:MT):List PF->List PF->Bool
 |_,[]=>true
 |ahead,x::l=>(match ed d.fs x.1 with|none=>false|some f=>kx (lx d f) x.1 ahead&&fG S R f x.2)&&gX S R d (ahead++ [x]) l
def L7 (G:Nat->Bool):Fx (Unit×Nat)->Bool
 | .error _=>false
 | .ok y=>G y.2
def OW (fit:Int->Int->Bool)(s:au)(G:Nat->Bool):Fx ((Int×Int)×Nat)->Bool
 | .error _=>false
 | .ok x=> !(fit x.1.1 x.1.2)&&L7 G (mf s x.2 x.1.2)
def nS (fit:Int->Int->Bool)(s:au):Nat->Nat->Bool
 |0,_=>false
 |F+1,a=>if a<s.size then OW fit s (nS fit s F) (jY s a)else true
def pW (fit:Int->Int->Bool)(s:au):Bool:=nS fit s (s.size+1) 0
def d6 (S:eF):Nat->MT->PM->Bool
 |0,_,_=>false
 |n+1,d,m=>gX S (d6 S n) d [] m.fs&&pW (o0 S d) m.unk
def pi:Nat->PM->Prop
 |0,_=>False
 |k+1,m=>m.fs.length<=4398046511104/\m.unk.size<=4398046511104/\∀x∈m.fs,x.2.length<=4398046511104/\∀v∈x.2,0<=v.1/\v.1<2^64/\v.2.1.size<=4398046511104/\pi k v.2.2
end
end Go.Proofs.YtfebdimolnobaaaGreatDoor
