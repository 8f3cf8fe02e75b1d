import Derived.Test.YtfebdimolnobaaaGreatDoorBgA
set_option maxRecDepth 100000
set_option maxHeartbeats 8000000
set_option linter.all false
namespace Go.Proofs.YtfebdimolnobaaaGreatDoor
open Go.RowKit Go.Proofs.Tryz
section
open Go.ChangeShapes Go.WideShapes Go.ChangeAt Go.RowKit Go.Proofs.YtfebdimolnobaaaGreatDoor.Rows
noncomputable def IN (os:Os):aw:=
 {World.doorLaid prog 400 os with heap:=(World.doorLaid prog 400 os).heap.modify 2 fun
  | .cells _ t fr=> .cells (Lib.firstTab.map λz=>Value.int .u8 z).toArray t fr
  |o=>o}
def Dg:laidOutB prog=true:=VA
def NM (os:Os)(args:aq):laidMetH prog backRow.laid ((IN os).forCall (λ_ _=>0) ⟨#[],args,[]⟩).memory:=
 laidMetH_of_parts3 (fuel:=8) (laidMet_of_run' 8 VA VA) VA VA
def Fd (os:Os){H:Type}(enc:TypeId×Value->H):
  (OpenSpec.ofChange backSpec).preRow enc prog f7 backRow.domain false backRow.laid ((IN os).forCall (λ_ _=>0) ⟨#[],#[ai,ai],[]⟩).memory #[ai,ai]:=by
 have c:(DataW.whole enc prog ((IN os).forCall (λ_ _=>0) ⟨#[],#[ai,ai],[]⟩).memory f7.params.toList (OpenSpec.ofChange backSpec).vars false #[Value.slice none 0 0,ai].toList 8).map (λx=>(x.1,x.2.1))=
   some ([.nil,.nil],[]):=VA
 have⟨⟨e,f,g⟩,d,a⟩:=bi.1 c;simp only[Prod.mk.injEq]at a;obtain⟨rfl,rfl⟩:=a;refine OpenSpec.preRow_of_cond 8 d VA (λk b=>by cases b) VA (NM os _)
def Fe (os:Os)(started:os.Started)(H:Type)(enc:TypeId×Value->H)(F:Stop.Interp):
  ReturnsInHanded {} Tryz.checked os 7 .any ((OpenSpec.ofChange backSpec).preRow enc prog f7 backRow.domain false backRow.laid) (((OpenSpec.ofChange backSpec).at F).post enc prog f7 false true false false):=by
 refine returnsInHanded_of_row (C:=Tryz.checked) (s:=OpenSpec.ofChange backSpec) own started VA func7
  (witness_row_atRef (enc:=enc) (C:=Tryz.checked) false (IN os) #[ai,ai] rfl VA VA VA (Fd os enc)) ?_
 intro W base args Q a before g y _ _ _ R _ _;have c:∀(j:Nat) t v,f7.params[j]?=some t->args[j]?=some v->Value.okWide prog W .any base t v:=g;have i:=y;obtain⟨p,q,l,m,rfl,_,_⟩:=y;have w:DataW.TrodAll enc prog W 0 (λ_=>true) true f7.params.toList args.toList Q p:=l;rw[params7]at w c;obtain⟨X,Y,n,o,z,A,rfl,rfl,rfl,r,u⟩:=trodAll_two w;obtain⟨rfl,rfl⟩:=trodVars_none m;obtain⟨M,U,O,rfl⟩:=okWide_slice underlying35 (c 0 35 X rfl rfl);have⟨B,f,E,G⟩:=Fa r;obtain⟨N,V,P,rfl⟩:=okWide_slice underlying35 (c 1 35 Y rfl rfl);have⟨D,I,J,K⟩:=Fa u;have⟨S,L,T⟩:=Fc R;clear l m g;refine(Sl W (.slice M U O) (.slice N V P) B D S L T f E G I J K).V ?_;rintro e Z ⟨rfl,a⟩;have d:((OpenSpec.ofChange backSpec).at F).fn H ([n,o]++ [])={results:= [.lit (.bool true)],args:= [n,o]}:=rfl;have k:∀x∈z++A,x.block<W.heap.size:=λx b=>by simpa using i.lt x (by simpa using b)
 refine⟨_,rfl,_,_,_,[],z++A,[],i,?_,?_,?_,a.frame _,λh=>by cases h⟩;.rw[d];exact trodAll_mk1 (shut_bool underlying4 _)
 .rw[d];exact trodAll_mk2 (Below.trod Dg VA (of_decide_eq_true VA) r a λx b=>k x (by simp[b])) (Below.trod Dg VA (of_decide_eq_true VA) u a λx b=>k x (by simp[b]))
 .rw[d];rfl
end
end Go.Proofs.YtfebdimolnobaaaGreatDoor
