/- Steps of a frame whose operations are all tame. -/
import Derived.Test.YtgeoffpcmkofkaaKk
namespace Go.Proofs.Ytgeoffpcmkofkaa
open Go

section
variable (G : Nat) (FS : FuncId → Prop) (P : Program)
/-- Code that this calculus bears. -/
def CodeT : Code → Prop
  | .region _ ops _ => ∀ o ∈ ops.toList, OpTame G FS P o.op
  | .seq a b => CodeT a ∧ CodeT b
  | .cond c a b => OperOK G FS c ∧ CodeT a ∧ CodeT b
  | .block _ b | .loop b | .scope b => CodeT b
  | .rangeFunc .. => False
  | _ => True
def ItemT : Item → Prop
  | .code c => CodeT G FS P c
  | .inLoop b | .inScope b => CodeT G FS P b
  | .inBlock _ => True
  | .inRegion ops _ => ∀ o ∈ ops.toList, OpTame G FS P o.op
  | _ => False
/-- All functions of the set: their bodies and their results. -/
structure BodiesOK : Prop where
  body : ∀ f, FS f → ∀ fn, P.funcs[f]? = some fn → ∀ c, fn.body = some c → CodeT G FS P c
  res : ∀ f, FS f → ∀ fn, P.funcs[f]? = some fn → ∀ r ∈ fn.results.toList, ∃ t, r = .tmp t
  loud : ∀ f, FS f → ∀ fn, P.funcs[f]? = some fn → fn.norace = false
  there : ∀ f, FS f → ∃ fn, P.funcs[f]? = some fn
structure FT (fr : Frame) : Prop where
  fn : FS fr.fn
  todo : ∀ i ∈ fr.todo, ItemT G FS P i
  defers : fr.defers = []
  kind : fr.kind = .normal
  round : fr.roundOf = none
/-- Two frames that differ in the numbers of blocks alone. -/
structure FR (B : BR) (fr fr' : Frame) : Prop where
  ft : FT G FS P fr
  tmps : VRs G FS B fr.tmps.toList fr'.tmps.toList
  eq : fr' = { fr with tmps := fr'.tmps }
inductive FRs (B : BR) : List Frame → List Frame → Prop
  | nil : FRs B [] []
  | cons {fr fr' : Frame} {l l' : List Frame} : FR G FS P B fr fr' → fr.mode = .run → (∃ ops i rest k, fr.todo = .inRegion ops (i :: rest) :: k) → FRs B l l' → FRs B (fr :: l) (fr' :: l')
end

/-- A step that leaves memory alone. -/
def ctl (fr : Frame) : Option Frame :=
  match fr.todo with
  | [] => some { fr with mode := .returning }
  | .code .ret :: _ => some { fr with mode := .returning }
  | .code .skip :: k => some { fr with todo := k }
  | .code (.label _) :: k => some { fr with todo := k }
  | .inBlock _ :: k => some { fr with todo := k }
  | .inScope _ :: k => some { fr with todo := k }
  | .code (.seq a b) :: k => some { fr with todo := .code a :: .code b :: k }
  | .code (.cond c a b) :: k => match fr.eval c with
    | .bool true => some { fr with todo := .code a :: k }
    | .bool false => some { fr with todo := .code b :: k }
    | _ => none
  | .code (.block id b) :: k => some { fr with todo := .code b :: .inBlock id :: k }
  | .code (.loop b) :: k => some { fr with todo := .code b :: .inLoop b :: k }
  | .inLoop b :: k => some { fr with todo := .code b :: .inLoop b :: k }
  | .code (.scope b) :: k => some { fr with todo := .code b :: .inScope b :: k }
  | .code (.exit id) :: k => (exitTo id k).map fun k => { fr with todo := k }
  | .code (.goto l) :: k => (gotoIn l k).map fun k => { fr with todo := k }
  | .code (.region _ ops false) :: k => some { fr with todo := .inRegion ops (List.range ops.size) :: k }
  | .inRegion _ [] :: k => some { fr with todo := k }
  | .inRegion ops (i :: _) :: _ => if ((ops[i]?).map (Region.wanted · (yielded ops fr.tmps))).getD false then none else some (fr.finish undef)
  | _ => none
/-- What follows an operation. -/
def after (P : Program) (fr : Frame) (cs : List Frame) : Next → Option (Frame × List Frame)
  | .value v => some (fr.finish v, cs)
  | .skip => some (fr.finish undef, cs)
  | .enter f args => some (Frame.enter P f args .normal, fr :: cs)
  | _ => none
inductive Step1 (P : Program) : Frame → List Frame → World → Frame → List Frame → World → Array Event → Prop
  | ctl {fr fr1 : Frame} {cs : List Frame} {w : World} : fr.mode = .run → ctl fr = some fr1 → Step1 P fr cs w fr1 cs w #[]
  | draw {fr : Frame} {cs : List Frame} {w w1 : World} {id : Nat} {ops : Array Oper} {k : List Item} {t : Nat} : fr.mode = .run → fr.todo = .code (.region id ops true) :: k → (choose (.order fr.fn id)).run P w = .ok t w1 → Step1 P fr cs w { fr with todo := .inRegion ops (Region.schedule (P.follows .mixedOrders) ops t) :: k } cs w1 #[]
  | oper {fr fr1 : Frame} {cs cs1 : List Frame} {w w1 : World} {ops : Array Oper} {i : Nat} {rest : List Nat} {k : List Item} {o : Oper} {n : Next} {es : Array Event} : fr.mode = .run → fr.todo = .inRegion ops (i :: rest) :: k → ops[i]? = some o → Region.wanted o (yielded ops fr.tmps) = true → (execOp fr.eval o).runT P w #[] = (.ok n w1, es) → after P fr cs n = some (fr1, cs1) → Step1 P fr cs w fr1 cs1 w1 (seen P fr.fn es)
  | ret {fr c : Frame} {cs : List Frame} {w : World} {fn : Func} {v : Value} : fr.mode = .returning → P.funcs[fr.fn]? = some fn → (results fn fr.tmps).runT P w #[] = (.ok v w, #[]) → Step1 P fr (c :: cs) w (c.finish v) cs w #[]
end Go.Proofs.Ytgeoffpcmkofkaa
