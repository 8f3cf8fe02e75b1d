import Derived.Test.YtfebdimolnobaaaGreatDoorPlZ
set_option maxRecDepth 100000
set_option maxHeartbeats 8000000
set_option linter.all false
namespace Go.Proofs.YtfebdimolnobaaaGreatDoor
open Go.RowKit Go.Proofs.Tryz
section
open Go.ChangeShapes Go.WideShapes Go.ChangeAt Go.RowKit Go.Proofs.YtfebdimolnobaaaGreatDoor.Rows
noncomputable def G3 (os:Os):aw:=
 {World.doorLaid prog 400 os with heap:=(World.doorLaid prog 400 os).heap.modify 2 fun
  | .cells _ t fr=> .cells (Lib.firstTab.map λz=>Value.int .u8 z).toArray t fr
  |o=>o}
def BQ:laidOutB prog=true:=Tj
def Mh (os:Os)(args:aq):laidMetH prog decodesUptoRow.laid ((G3 os).forCall (λ_ _=>0) ⟨#[],args,[]⟩).memory:=
 laidMetH_of_parts3 (fuel:=8) (laidMet_of_run' 8 Tj Tj) Tj Tj
def D4 (os:Os){H:Type}(enc:TypeId×Value->H):
  (OpenSpec.upto decodesSpec).preRow enc prog f4 decodesUptoRow.domain false decodesUptoRow.laid ((G3 os).forCall (λ_ _=>0) ⟨#[],#[ah,ah],[]⟩).memory #[ah,ah]:=by
 have c:(DataW.whole enc prog ((G3 os).forCall (λ_ _=>0) ⟨#[],#[ah,ah],[]⟩).memory f4.params.toList (OpenSpec.upto decodesSpec).vars false #[Value.slice none 0 0,ah].toList 8).map (λx=>(x.1,x.2.1))=
   some ([.nil,.nil],[]):=Tj
 have⟨⟨e,f,g⟩,d,a⟩:=bg.1 c;simp only[Prod.mk.injEq]at a;obtain⟨rfl,rfl⟩:=a;refine OpenSpec.preRow_of_cond 8 d Tj (λk b=> ?_) Tj (Mh os _);obtain rfl:uptoSmall=k:=Option.some.inj b;rfl
def Fp (os:Os)(started:os.Started)(H:Type)(enc:TypeId×Value->H)(F:Stop.Interp):
  ReturnsInHanded {} Tryz.checked os 4 .any ((OpenSpec.upto decodesSpec).preRow enc prog f4 decodesUptoRow.domain false decodesUptoRow.laid) (((OpenSpec.upto decodesSpec).at F).post enc prog f4 false true false false):=by
 refine returnsInHanded_of_row (C:=Tryz.checked) (s:=OpenSpec.upto decodesSpec) own started Tj func4
  (witness_row_atRef (enc:=enc) (C:=Tryz.checked) false (G3 os) #[ah,ah] rfl Tj Tj Tj (D4 os enc)) ?_
 intro W base args N a before i y _ G _ O _ _;have b:∀(j:Nat) t v,f4.params[j]?=some t->args[j]?=some v->Value.okWide prog W .any base t v:=i;have k:=y;obtain⟨p,q,m,n,rfl,_,_⟩:=y;have w:DataW.TrodAll enc prog W 0 (λ_=>true) true f4.params.toList args.toList N p:=m;rw[params4]at w b;obtain⟨Z,a,d,f,z,A,rfl,rfl,rfl,r,u⟩:=trodAll_two w;obtain⟨rfl,rfl⟩:=trodVars_none n;obtain⟨J,c,L,rfl⟩:=okWide_slice underlying30 (b 0 30 Z rfl rfl);obtain⟨K,c,M,rfl⟩:=okWide_slice underlying46 (b 1 46 a rfl rfl);obtain⟨ss,rfl,Q,X,I⟩:=Md r;obtain⟨B,rfl,P,T,D,U⟩:=Oo u;have a:uptoBulk d+(uptoBulk f+0)<=1048576:=(by have:=G uptoSmall rfl;exact dI this);have⟨R,E,Y⟩:=DZ O;clear m n i;refine(t_Decodes W J K L M ss B Q P Te Te (λs V=>by have:=I s V;omega) (λo S=>by have:=D o S;omega) Te R E Y).V ?_;rintro e a ⟨rfl,c⟩;have g:((OpenSpec.upto decodesSpec).at F).fn H ([d,f]++ [])={results:= [.lit (.bool true)],args:= [d,f]}:=rfl;have l:∀x∈z++A,x.block<W.heap.size:=λx a=>by simpa using k.lt x (by simpa using a)
 refine⟨_,rfl,_,_,_,[],z++A,[],k,?_,?_,?_,c.frame _,λh=>by cases h⟩;.rw[g];exact trodAll_mk1 (shut_bool underlying4 _)
 .rw[g];exact trodAll_mk2 (Below.trod BQ Tj (dI Tj) r c λx a=>l x (by simp[a])) (Below.trod BQ Tj (dI Tj) u c λx a=>l x (by simp[a]))
 .rw[g];rfl
end
end Go.Proofs.YtfebdimolnobaaaGreatDoor
