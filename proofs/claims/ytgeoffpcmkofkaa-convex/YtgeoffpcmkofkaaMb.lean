/- Operations of one alone: none waits, none speaks to the world outside. -/
import Derived.Test.YtgeoffpcmkofkaaMa
namespace Go.Proofs.Ytgeoffpcmkofkaa
open Go Go.Conc
set_option linter.unusedSimpArgs false

section
variable {P : Program} {α β : Type}
abbrev PT (P : Program) {α : Type} (s : Sem α) : Prop := Plain P (fun _ => True) s
theorem p_pure {a : α} {Q : α → Prop} (h : Q a) : Plain P Q (pure a : Sem α) := .pure h
theorem p_bnd {s : Sem β} {f : β → Sem α} {Q : α → Prop} (h : PT P s) (hf : ∀ b, Plain P Q (f b)) : Plain P Q (s >>= f) := p_bind h fun b _ => hf b
theorem p_ite {c : Prop} [Decidable c] {a b : Sem α} {Q : α → Prop} (h1 : Plain P Q a) (h2 : Plain P Q b) : Plain P Q (if c then a else b) := by
  split
  · exact h1
  · exact h2
theorem pt_stuck {Q : α → Prop} (s : String) : Plain P Q (stuck s : Sem α) := .dead (dead_stuck _)
theorem pt_unsupported {Q : α → Prop} (s : Unsupported) : Plain P Q (unsupported s : Sem α) := .dead (dead_unsupported _)
theorem pt_rp {Q : α → Prop} (e : RuntimeError) : Plain P Q (runtimePanic e : Sem α) := .dead (dead_runtimePanic _)
theorem pt_bp {Q : α → Prop} (k : IntKind) (x y : Int) (c : BoundsCode) : Plain P Q (boundsPanic k x y c : Sem α) := by
  unfold boundsPanic
  dsimp only
  split
  · exact p_bnd (p_bnd (.choose fun _ => .pure trivial) fun _ => .pure trivial) fun _ => pt_rp _
  · exact p_bnd (.pure trivial) fun _ => pt_rp _
theorem pt_load (a : Addr) (m : Mode) : PT P (load a m) := .load fun _ => .pure trivial
theorem pt_store (a : Addr) (v : Value) (m : Mode) : PT P (store a v m) := .store (.pure trivial)
theorem pt_new (o : Obj) : PT P (newObj o) := .new fun _ => .pure trivial
theorem pt_program : PT P program := .program (.pure trivial)
theorem pt_choose (q : Question) : PT P (choose q) := .choose fun _ => .pure trivial
theorem pt_shape (r : Nat) : PT P (shape r) := .shape fun _ => .pure trivial
theorem pt_frozen (a : Addr) : PT P (frozen a) := .frozen fun _ => .pure trivial
theorem pt_get (r : Nat) : PT P (getObj r) := .getObj fun _ => .pure trivial
theorem pt_set (r : Nat) (o : Obj) : PT P (setObj r o) := .setObj (.pure trivial)
theorem pt_room (n : Nat) : PT P (askRoom n) := by
  unfold askRoom
  split
  · exact .mark (.inl rfl) (.pure trivial)
  · exact .pure trivial
theorem pt_typeInfo (t : TypeId) : PT P (typeInfo t) := by
  unfold typeInfo
  refine p_bnd pt_program fun p => ?_
  split
  · exact .pure trivial
  · exact pt_stuck _
theorem pt_underlying (t : TypeId) : PT P (underlying t) := by
  unfold underlying
  refine p_bnd pt_program fun p => ?_
  split
  · exact .pure trivial
  · exact pt_stuck _
theorem pt_sizeOf (t : TypeId) : PT P (sizeOf t) := p_bnd (pt_typeInfo t) fun _ => .pure trivial
theorem pt_zero (t : TypeId) : PT P (zeroValue t) := by
  unfold zeroValue
  refine p_bnd (pt_typeInfo t) fun p => ?_
  split
  · exact .pure trivial
  · exact pt_unsupported _
theorem pt_isAgg (t : TypeId) : PT P (isAgg t) := by
  unfold isAgg
  refine p_bnd (pt_underlying t) fun p => ?_
  split <;> exact .pure trivial
theorem pt_asIntOf (v : Value) : PT P (asIntOf v) := by
  unfold asIntOf
  split
  · exact .pure trivial
  · exact pt_unsupported _
  · exact pt_stuck _
theorem pt_asInt (v : Value) : PT P (asInt v) := p_bnd (pt_asIntOf v) fun _ => .pure trivial
theorem pt_asBool (v : Value) : PT P (asBool v) := by
  unfold asBool
  split
  · exact .pure trivial
  · exact pt_stuck _
theorem pt_asAddr (v : Value) : PT P (asAddr v) := by
  unfold asAddr
  split
  · exact .pure trivial
  · exact pt_rp _
  · exact pt_stuck _
theorem pt_loadCellsFrom (a : Addr) : ∀ (n i : Nat) (acc : Array Value), PT P (loadCellsFrom a i n acc)
  | 0, _, _ => .pure trivial
  | n + 1, i, _ => p_bnd (pt_load _ _) fun _ => pt_loadCellsFrom a n (i + 1) _
theorem pt_loadCells (a : Addr) (n : Nat) : PT P (loadCells a n) := pt_loadCellsFrom a n 0 _
theorem pt_storeCells (a : Addr) : ∀ (vs : List Value) (i : Nat), PT P (storeCells a vs i)
  | [], _ => .pure trivial
  | _ :: vs, i => p_bnd (pt_store _ _ _) fun _ => pt_storeCells a vs (i + 1)
theorem pt_newRow (e : TypeId) (c : Array Value) : PT P (newRow e c) := p_bnd (pt_new _) fun _ => .pure trivial
theorem pt_forIn {σ γ : Type} (f : γ → σ → Sem (ForInStep σ)) (h : ∀ a b, PT P (f a b)) : ∀ (l : List γ) (s : σ), PT P (forIn l s f)
  | [], s => .pure trivial
  | a :: l, s => by
    rw [List.forIn_cons]
    refine p_bnd (h a s) fun r => ?_
    cases r with
    | done s => exact .pure trivial
    | yield s => exact pt_forIn f h l s
theorem pt_forInA {σ γ : Type} (f : γ → σ → Sem (ForInStep σ)) (h : ∀ a b, PT P (f a b)) (l : Array γ) (s : σ) : PT P (forIn l s f) := by
  rw [← Array.forIn_toList]
  exact pt_forIn f h _ _
theorem pt_forInR {σ : Type} (f : Nat → σ → Sem (ForInStep σ)) (h : ∀ a b, PT P (f a b)) (n : Nat) (s : σ) : PT P (forIn [0:n] s f) := by
  rw [Std.Legacy.Range.forIn_eq_forIn_range']
  exact pt_forIn f h _ _
theorem pt_loadVar (t : TypeId) (a : Addr) : PT P (loadVar t a) := by
  unfold loadVar
  repeat' (first | with_reducible assumption | with_reducible exact p_pure trivial | with_reducible exact pt_stuck _ | with_reducible exact pt_unsupported _ | with_reducible exact pt_rp _ | with_reducible exact pt_bp _ _ _ _ | with_reducible exact pt_load _ _ | with_reducible exact pt_store _ _ _ | with_reducible exact pt_new _ | with_reducible exact pt_program | with_reducible exact pt_choose _ | with_reducible exact pt_shape _ | with_reducible exact pt_frozen _ | with_reducible exact pt_get _ | with_reducible exact pt_set _ _ | with_reducible exact pt_room _ | with_reducible exact pt_typeInfo _ | with_reducible exact pt_underlying _ | with_reducible exact pt_sizeOf _ | with_reducible exact pt_zero _ | with_reducible exact pt_isAgg _ | with_reducible exact pt_asIntOf _ | with_reducible exact pt_asInt _ | with_reducible exact pt_asBool _ | with_reducible exact pt_asAddr _ | with_reducible exact pt_loadCells _ _ | with_reducible exact pt_storeCells _ _ _ | with_reducible exact pt_newRow _ _ | (with_reducible refine p_bnd ?_ fun _ => ?_) | (with_reducible refine p_ite ?_ ?_) | (dsimp only) | split)
theorem pt_storeVar (t : TypeId) (a : Addr) (v : Value) : PT P (storeVar t a v) := by
  unfold storeVar
  repeat' (first | with_reducible assumption | with_reducible exact p_pure trivial | with_reducible exact pt_stuck _ | with_reducible exact pt_unsupported _ | with_reducible exact pt_rp _ | with_reducible exact pt_bp _ _ _ _ | with_reducible exact pt_load _ _ | with_reducible exact pt_store _ _ _ | with_reducible exact pt_new _ | with_reducible exact pt_program | with_reducible exact pt_choose _ | with_reducible exact pt_shape _ | with_reducible exact pt_frozen _ | with_reducible exact pt_get _ | with_reducible exact pt_set _ _ | with_reducible exact pt_room _ | with_reducible exact pt_typeInfo _ | with_reducible exact pt_underlying _ | with_reducible exact pt_sizeOf _ | with_reducible exact pt_zero _ | with_reducible exact pt_isAgg _ | with_reducible exact pt_asIntOf _ | with_reducible exact pt_asInt _ | with_reducible exact pt_asBool _ | with_reducible exact pt_asAddr _ | with_reducible exact pt_loadCells _ _ | with_reducible exact pt_storeCells _ _ _ | with_reducible exact pt_newRow _ _ | (with_reducible refine p_bnd ?_ fun _ => ?_) | (with_reducible refine p_ite ?_ ?_) | (dsimp only) | split)
theorem pt_part (t : TypeId) (c : Array Value) (n : Nat) : PT P (part t c n) := by
  unfold part
  repeat' (first | with_reducible assumption | with_reducible exact p_pure trivial | with_reducible exact pt_stuck _ | with_reducible exact pt_unsupported _ | with_reducible exact pt_rp _ | with_reducible exact pt_bp _ _ _ _ | with_reducible exact pt_load _ _ | with_reducible exact pt_store _ _ _ | with_reducible exact pt_new _ | with_reducible exact pt_program | with_reducible exact pt_choose _ | with_reducible exact pt_shape _ | with_reducible exact pt_frozen _ | with_reducible exact pt_get _ | with_reducible exact pt_set _ _ | with_reducible exact pt_room _ | with_reducible exact pt_typeInfo _ | with_reducible exact pt_underlying _ | with_reducible exact pt_sizeOf _ | with_reducible exact pt_zero _ | with_reducible exact pt_isAgg _ | with_reducible exact pt_asIntOf _ | with_reducible exact pt_asInt _ | with_reducible exact pt_asBool _ | with_reducible exact pt_asAddr _ | with_reducible exact pt_loadCells _ _ | with_reducible exact pt_storeCells _ _ _ | with_reducible exact pt_newRow _ _ | (with_reducible refine p_bnd ?_ fun _ => ?_) | (with_reducible refine p_ite ?_ ?_) | (dsimp only) | split)
theorem pt_sure (v : Value) : PT P (Instr.sureAddr v) := by
  unfold Instr.sureAddr
  repeat' (first | with_reducible assumption | with_reducible exact p_pure trivial | with_reducible exact pt_stuck _ | with_reducible exact pt_unsupported _ | with_reducible exact pt_rp _ | with_reducible exact pt_bp _ _ _ _ | with_reducible exact pt_load _ _ | with_reducible exact pt_store _ _ _ | with_reducible exact pt_new _ | with_reducible exact pt_program | with_reducible exact pt_choose _ | with_reducible exact pt_shape _ | with_reducible exact pt_frozen _ | with_reducible exact pt_get _ | with_reducible exact pt_set _ _ | with_reducible exact pt_room _ | with_reducible exact pt_typeInfo _ | with_reducible exact pt_underlying _ | with_reducible exact pt_sizeOf _ | with_reducible exact pt_zero _ | with_reducible exact pt_isAgg _ | with_reducible exact pt_asIntOf _ | with_reducible exact pt_asInt _ | with_reducible exact pt_asBool _ | with_reducible exact pt_asAddr _ | with_reducible exact pt_loadCells _ _ | with_reducible exact pt_storeCells _ _ _ | with_reducible exact pt_newRow _ _ | (with_reducible refine p_bnd ?_ fun _ => ?_) | (with_reducible refine p_ite ?_ ?_) | (dsimp only) | split)
theorem pt_alloc (e : TypeId) (h : Bool) (v : Value) : PT P (Instr.alloc e h v) := by
  unfold Instr.alloc newVar
  repeat' (first | with_reducible assumption | with_reducible exact p_pure trivial | with_reducible exact pt_stuck _ | with_reducible exact pt_unsupported _ | with_reducible exact pt_rp _ | with_reducible exact pt_bp _ _ _ _ | with_reducible exact pt_load _ _ | with_reducible exact pt_store _ _ _ | with_reducible exact pt_new _ | with_reducible exact pt_program | with_reducible exact pt_choose _ | with_reducible exact pt_shape _ | with_reducible exact pt_frozen _ | with_reducible exact pt_get _ | with_reducible exact pt_set _ _ | with_reducible exact pt_room _ | with_reducible exact pt_typeInfo _ | with_reducible exact pt_underlying _ | with_reducible exact pt_sizeOf _ | with_reducible exact pt_zero _ | with_reducible exact pt_isAgg _ | with_reducible exact pt_asIntOf _ | with_reducible exact pt_asInt _ | with_reducible exact pt_asBool _ | with_reducible exact pt_asAddr _ | with_reducible exact pt_loadCells _ _ | with_reducible exact pt_storeCells _ _ _ | with_reducible exact pt_newRow _ _ | with_reducible exact pt_loadVar _ _ | with_reducible exact pt_storeVar _ _ _ | with_reducible exact pt_part _ _ _ | with_reducible exact pt_sure _ | (with_reducible refine p_bnd ?_ fun _ => ?_) | (with_reducible refine p_ite ?_ ?_) | (dsimp only) | split)
theorem pt_box (e : TypeId) (v : Value) : PT P (Instr.box e v) := p_bnd (pt_newRow _ _) fun _ => .pure trivial
theorem pt_buildSlice (e : TypeId) (n : Nat) (v : Array (Nat × Value)) : PT P (Instr.buildSlice e n v) := by
  unfold Instr.buildSlice
  repeat' (first | with_reducible assumption | with_reducible exact p_pure trivial | with_reducible exact pt_stuck _ | with_reducible exact pt_unsupported _ | with_reducible exact pt_rp _ | with_reducible exact pt_bp _ _ _ _ | with_reducible exact pt_load _ _ | with_reducible exact pt_store _ _ _ | with_reducible exact pt_new _ | with_reducible exact pt_program | with_reducible exact pt_choose _ | with_reducible exact pt_shape _ | with_reducible exact pt_frozen _ | with_reducible exact pt_get _ | with_reducible exact pt_set _ _ | with_reducible exact pt_room _ | with_reducible exact pt_typeInfo _ | with_reducible exact pt_underlying _ | with_reducible exact pt_sizeOf _ | with_reducible exact pt_zero _ | with_reducible exact pt_isAgg _ | with_reducible exact pt_asIntOf _ | with_reducible exact pt_asInt _ | with_reducible exact pt_asBool _ | with_reducible exact pt_asAddr _ | with_reducible exact pt_loadCells _ _ | with_reducible exact pt_storeCells _ _ _ | with_reducible exact pt_newRow _ _ | with_reducible exact pt_loadVar _ _ | with_reducible exact pt_storeVar _ _ _ | with_reducible exact pt_part _ _ _ | with_reducible exact pt_sure _ | (with_reducible refine p_bnd ?_ fun _ => ?_) | (with_reducible refine p_ite ?_ ?_) | (dsimp only) | split)
theorem pt_loadAt (e : TypeId) (v : Value) : PT P (Instr.loadAt e v) := by
  unfold Instr.loadAt
  repeat' (first | with_reducible assumption | with_reducible exact p_pure trivial | with_reducible exact pt_stuck _ | with_reducible exact pt_unsupported _ | with_reducible exact pt_rp _ | with_reducible exact pt_bp _ _ _ _ | with_reducible exact pt_load _ _ | with_reducible exact pt_store _ _ _ | with_reducible exact pt_new _ | with_reducible exact pt_program | with_reducible exact pt_choose _ | with_reducible exact pt_shape _ | with_reducible exact pt_frozen _ | with_reducible exact pt_get _ | with_reducible exact pt_set _ _ | with_reducible exact pt_room _ | with_reducible exact pt_typeInfo _ | with_reducible exact pt_underlying _ | with_reducible exact pt_sizeOf _ | with_reducible exact pt_zero _ | with_reducible exact pt_isAgg _ | with_reducible exact pt_asIntOf _ | with_reducible exact pt_asInt _ | with_reducible exact pt_asBool _ | with_reducible exact pt_asAddr _ | with_reducible exact pt_loadCells _ _ | with_reducible exact pt_storeCells _ _ _ | with_reducible exact pt_newRow _ _ | with_reducible exact pt_loadVar _ _ | with_reducible exact pt_storeVar _ _ _ | with_reducible exact pt_part _ _ _ | with_reducible exact pt_sure _ | (with_reducible refine p_bnd ?_ fun _ => ?_) | (with_reducible refine p_ite ?_ ?_) | (dsimp only) | split)
theorem pt_storeAt (e : TypeId) (v x : Value) : PT P (Instr.storeAt e v x) := by
  unfold Instr.storeAt
  repeat' (first | with_reducible assumption | with_reducible exact p_pure trivial | with_reducible exact pt_stuck _ | with_reducible exact pt_unsupported _ | with_reducible exact pt_rp _ | with_reducible exact pt_bp _ _ _ _ | with_reducible exact pt_load _ _ | with_reducible exact pt_store _ _ _ | with_reducible exact pt_new _ | with_reducible exact pt_program | with_reducible exact pt_choose _ | with_reducible exact pt_shape _ | with_reducible exact pt_frozen _ | with_reducible exact pt_get _ | with_reducible exact pt_set _ _ | with_reducible exact pt_room _ | with_reducible exact pt_typeInfo _ | with_reducible exact pt_underlying _ | with_reducible exact pt_sizeOf _ | with_reducible exact pt_zero _ | with_reducible exact pt_isAgg _ | with_reducible exact pt_asIntOf _ | with_reducible exact pt_asInt _ | with_reducible exact pt_asBool _ | with_reducible exact pt_asAddr _ | with_reducible exact pt_loadCells _ _ | with_reducible exact pt_storeCells _ _ _ | with_reducible exact pt_newRow _ _ | with_reducible exact pt_loadVar _ _ | with_reducible exact pt_storeVar _ _ _ | with_reducible exact pt_part _ _ _ | with_reducible exact pt_sure _ | (with_reducible refine p_bnd ?_ fun _ => ?_) | (with_reducible refine p_ite ?_ ?_) | (dsimp only) | split)
theorem pt_extract (v : Value) (n : Nat) : PT P (Instr.extract v n) := by
  unfold Instr.extract
  repeat' (first | with_reducible assumption | with_reducible exact p_pure trivial | with_reducible exact pt_stuck _ | with_reducible exact pt_unsupported _ | with_reducible exact pt_rp _ | with_reducible exact pt_bp _ _ _ _ | with_reducible exact pt_load _ _ | with_reducible exact pt_store _ _ _ | with_reducible exact pt_new _ | with_reducible exact pt_program | with_reducible exact pt_choose _ | with_reducible exact pt_shape _ | with_reducible exact pt_frozen _ | with_reducible exact pt_get _ | with_reducible exact pt_set _ _ | with_reducible exact pt_room _ | with_reducible exact pt_typeInfo _ | with_reducible exact pt_underlying _ | with_reducible exact pt_sizeOf _ | with_reducible exact pt_zero _ | with_reducible exact pt_isAgg _ | with_reducible exact pt_asIntOf _ | with_reducible exact pt_asInt _ | with_reducible exact pt_asBool _ | with_reducible exact pt_asAddr _ | with_reducible exact pt_loadCells _ _ | with_reducible exact pt_storeCells _ _ _ | with_reducible exact pt_newRow _ _ | with_reducible exact pt_loadVar _ _ | with_reducible exact pt_storeVar _ _ _ | with_reducible exact pt_part _ _ _ | with_reducible exact pt_sure _ | (with_reducible refine p_bnd ?_ fun _ => ?_) | (with_reducible refine p_ite ?_ ?_) | (dsimp only) | split)
theorem pt_mkIface (e : TypeId) (v : Value) : PT P (Instr.makeInterface e v) := by
  unfold Instr.makeInterface
  repeat' (first | with_reducible assumption | with_reducible exact p_pure trivial | with_reducible exact pt_stuck _ | with_reducible exact pt_unsupported _ | with_reducible exact pt_rp _ | with_reducible exact pt_bp _ _ _ _ | with_reducible exact pt_load _ _ | with_reducible exact pt_store _ _ _ | with_reducible exact pt_new _ | with_reducible exact pt_program | with_reducible exact pt_choose _ | with_reducible exact pt_shape _ | with_reducible exact pt_frozen _ | with_reducible exact pt_get _ | with_reducible exact pt_set _ _ | with_reducible exact pt_room _ | with_reducible exact pt_typeInfo _ | with_reducible exact pt_underlying _ | with_reducible exact pt_sizeOf _ | with_reducible exact pt_zero _ | with_reducible exact pt_isAgg _ | with_reducible exact pt_asIntOf _ | with_reducible exact pt_asInt _ | with_reducible exact pt_asBool _ | with_reducible exact pt_asAddr _ | with_reducible exact pt_loadCells _ _ | with_reducible exact pt_storeCells _ _ _ | with_reducible exact pt_newRow _ _ | with_reducible exact pt_loadVar _ _ | with_reducible exact pt_storeVar _ _ _ | with_reducible exact pt_part _ _ _ | with_reducible exact pt_sure _ | (with_reducible refine p_bnd ?_ fun _ => ?_) | (with_reducible refine p_ite ?_ ?_) | (dsimp only) | split)
theorem pt_makeSlice (e : TypeId) (v x : Value) : PT P (Instr.makeSlice e v x) := by
  unfold Instr.makeSlice
  repeat' (first | with_reducible assumption | with_reducible exact p_pure trivial | with_reducible exact pt_stuck _ | with_reducible exact pt_unsupported _ | with_reducible exact pt_rp _ | with_reducible exact pt_bp _ _ _ _ | with_reducible exact pt_load _ _ | with_reducible exact pt_store _ _ _ | with_reducible exact pt_new _ | with_reducible exact pt_program | with_reducible exact pt_choose _ | with_reducible exact pt_shape _ | with_reducible exact pt_frozen _ | with_reducible exact pt_get _ | with_reducible exact pt_set _ _ | with_reducible exact pt_room _ | with_reducible exact pt_typeInfo _ | with_reducible exact pt_underlying _ | with_reducible exact pt_sizeOf _ | with_reducible exact pt_zero _ | with_reducible exact pt_isAgg _ | with_reducible exact pt_asIntOf _ | with_reducible exact pt_asInt _ | with_reducible exact pt_asBool _ | with_reducible exact pt_asAddr _ | with_reducible exact pt_loadCells _ _ | with_reducible exact pt_storeCells _ _ _ | with_reducible exact pt_newRow _ _ | with_reducible exact pt_loadVar _ _ | with_reducible exact pt_storeVar _ _ _ | with_reducible exact pt_part _ _ _ | with_reducible exact pt_sure _ | (with_reducible refine p_bnd ?_ fun _ => ?_) | (with_reducible refine p_ite ?_ ?_) | (dsimp only) | split)
theorem pt_indexAt (e : TypeId) (v x : Value) : PT P (Instr.indexAt e v x) := by
  unfold Instr.indexAt
  repeat' (first | with_reducible assumption | with_reducible exact p_pure trivial | with_reducible exact pt_stuck _ | with_reducible exact pt_unsupported _ | with_reducible exact pt_rp _ | with_reducible exact pt_bp _ _ _ _ | with_reducible exact pt_load _ _ | with_reducible exact pt_store _ _ _ | with_reducible exact pt_new _ | with_reducible exact pt_program | with_reducible exact pt_choose _ | with_reducible exact pt_shape _ | with_reducible exact pt_frozen _ | with_reducible exact pt_get _ | with_reducible exact pt_set _ _ | with_reducible exact pt_room _ | with_reducible exact pt_typeInfo _ | with_reducible exact pt_underlying _ | with_reducible exact pt_sizeOf _ | with_reducible exact pt_zero _ | with_reducible exact pt_isAgg _ | with_reducible exact pt_asIntOf _ | with_reducible exact pt_asInt _ | with_reducible exact pt_asBool _ | with_reducible exact pt_asAddr _ | with_reducible exact pt_loadCells _ _ | with_reducible exact pt_storeCells _ _ _ | with_reducible exact pt_newRow _ _ | with_reducible exact pt_loadVar _ _ | with_reducible exact pt_storeVar _ _ _ | with_reducible exact pt_part _ _ _ | with_reducible exact pt_sure _ | (with_reducible refine p_bnd ?_ fun _ => ?_) | (with_reducible refine p_ite ?_ ?_) | (dsimp only) | split)
theorem pt_index (e : TypeId) (v x : Value) : PT P (Instr.index e v x) := by
  unfold Instr.index
  repeat' (first | with_reducible assumption | with_reducible exact p_pure trivial | with_reducible exact pt_stuck _ | with_reducible exact pt_unsupported _ | with_reducible exact pt_rp _ | with_reducible exact pt_bp _ _ _ _ | with_reducible exact pt_load _ _ | with_reducible exact pt_store _ _ _ | with_reducible exact pt_new _ | with_reducible exact pt_program | with_reducible exact pt_choose _ | with_reducible exact pt_shape _ | with_reducible exact pt_frozen _ | with_reducible exact pt_get _ | with_reducible exact pt_set _ _ | with_reducible exact pt_room _ | with_reducible exact pt_typeInfo _ | with_reducible exact pt_underlying _ | with_reducible exact pt_sizeOf _ | with_reducible exact pt_zero _ | with_reducible exact pt_isAgg _ | with_reducible exact pt_asIntOf _ | with_reducible exact pt_asInt _ | with_reducible exact pt_asBool _ | with_reducible exact pt_asAddr _ | with_reducible exact pt_loadCells _ _ | with_reducible exact pt_storeCells _ _ _ | with_reducible exact pt_newRow _ _ | with_reducible exact pt_loadVar _ _ | with_reducible exact pt_storeVar _ _ _ | with_reducible exact pt_part _ _ _ | with_reducible exact pt_sure _ | (with_reducible refine p_bnd ?_ fun _ => ?_) | (with_reducible refine p_ite ?_ ?_) | (dsimp only) | split)
theorem pt_sliceBound (v : Value) (n : Nat) (c : BoundsCode) : PT P (Instr.sliceBound v n c) := by
  unfold Instr.sliceBound
  repeat' (first | with_reducible assumption | with_reducible exact p_pure trivial | with_reducible exact pt_stuck _ | with_reducible exact pt_unsupported _ | with_reducible exact pt_rp _ | with_reducible exact pt_bp _ _ _ _ | with_reducible exact pt_load _ _ | with_reducible exact pt_store _ _ _ | with_reducible exact pt_new _ | with_reducible exact pt_program | with_reducible exact pt_choose _ | with_reducible exact pt_shape _ | with_reducible exact pt_frozen _ | with_reducible exact pt_get _ | with_reducible exact pt_set _ _ | with_reducible exact pt_room _ | with_reducible exact pt_typeInfo _ | with_reducible exact pt_underlying _ | with_reducible exact pt_sizeOf _ | with_reducible exact pt_zero _ | with_reducible exact pt_isAgg _ | with_reducible exact pt_asIntOf _ | with_reducible exact pt_asInt _ | with_reducible exact pt_asBool _ | with_reducible exact pt_asAddr _ | with_reducible exact pt_loadCells _ _ | with_reducible exact pt_storeCells _ _ _ | with_reducible exact pt_newRow _ _ | with_reducible exact pt_loadVar _ _ | with_reducible exact pt_storeVar _ _ _ | with_reducible exact pt_part _ _ _ | with_reducible exact pt_sure _ | (with_reducible refine p_bnd ?_ fun _ => ?_) | (with_reducible refine p_ite ?_ ?_) | (dsimp only) | split)
theorem pt_sliceBounds (b : Bool) (n m : Nat) (x y z : Option Value) : PT P (Instr.sliceBounds b n m x y z) := by
  unfold Instr.sliceBounds
  repeat' (first | with_reducible assumption | with_reducible exact p_pure trivial | with_reducible exact pt_stuck _ | with_reducible exact pt_unsupported _ | with_reducible exact pt_rp _ | with_reducible exact pt_bp _ _ _ _ | with_reducible exact pt_load _ _ | with_reducible exact pt_store _ _ _ | with_reducible exact pt_new _ | with_reducible exact pt_program | with_reducible exact pt_choose _ | with_reducible exact pt_shape _ | with_reducible exact pt_frozen _ | with_reducible exact pt_get _ | with_reducible exact pt_set _ _ | with_reducible exact pt_room _ | with_reducible exact pt_typeInfo _ | with_reducible exact pt_underlying _ | with_reducible exact pt_sizeOf _ | with_reducible exact pt_zero _ | with_reducible exact pt_isAgg _ | with_reducible exact pt_asIntOf _ | with_reducible exact pt_asInt _ | with_reducible exact pt_asBool _ | with_reducible exact pt_asAddr _ | with_reducible exact pt_loadCells _ _ | with_reducible exact pt_storeCells _ _ _ | with_reducible exact pt_newRow _ _ | with_reducible exact pt_loadVar _ _ | with_reducible exact pt_storeVar _ _ _ | with_reducible exact pt_part _ _ _ | with_reducible exact pt_sure _ | with_reducible exact pt_sliceBound _ _ _ | (with_reducible refine p_bnd ?_ fun _ => ?_) | (with_reducible refine p_ite ?_ ?_) | (dsimp only) | split)
theorem pt_slice (e : TypeId) (v : Value) (x y z : Option Value) : PT P (Instr.slice e v x y z) := by
  unfold Instr.slice
  repeat' (first | with_reducible assumption | with_reducible exact p_pure trivial | with_reducible exact pt_stuck _ | with_reducible exact pt_unsupported _ | with_reducible exact pt_rp _ | with_reducible exact pt_bp _ _ _ _ | with_reducible exact pt_load _ _ | with_reducible exact pt_store _ _ _ | with_reducible exact pt_new _ | with_reducible exact pt_program | with_reducible exact pt_choose _ | with_reducible exact pt_shape _ | with_reducible exact pt_frozen _ | with_reducible exact pt_get _ | with_reducible exact pt_set _ _ | with_reducible exact pt_room _ | with_reducible exact pt_typeInfo _ | with_reducible exact pt_underlying _ | with_reducible exact pt_sizeOf _ | with_reducible exact pt_zero _ | with_reducible exact pt_isAgg _ | with_reducible exact pt_asIntOf _ | with_reducible exact pt_asInt _ | with_reducible exact pt_asBool _ | with_reducible exact pt_asAddr _ | with_reducible exact pt_loadCells _ _ | with_reducible exact pt_storeCells _ _ _ | with_reducible exact pt_newRow _ _ | with_reducible exact pt_loadVar _ _ | with_reducible exact pt_storeVar _ _ _ | with_reducible exact pt_part _ _ _ | with_reducible exact pt_sure _ | with_reducible exact pt_sliceBound _ _ _ | with_reducible exact pt_sliceBounds _ _ _ _ _ _ | (with_reducible refine p_bnd ?_ fun _ => ?_) | (with_reducible refine p_ite ?_ ?_) | (dsimp only) | split)
theorem pt_sliceAt (e : TypeId) (v : Value) (x y z : Option Value) : PT P (Instr.sliceAt e v x y z) := by
  unfold Instr.sliceAt
  repeat' (first | with_reducible assumption | with_reducible exact p_pure trivial | with_reducible exact pt_stuck _ | with_reducible exact pt_unsupported _ | with_reducible exact pt_rp _ | with_reducible exact pt_bp _ _ _ _ | with_reducible exact pt_load _ _ | with_reducible exact pt_store _ _ _ | with_reducible exact pt_new _ | with_reducible exact pt_program | with_reducible exact pt_choose _ | with_reducible exact pt_shape _ | with_reducible exact pt_frozen _ | with_reducible exact pt_get _ | with_reducible exact pt_set _ _ | with_reducible exact pt_room _ | with_reducible exact pt_typeInfo _ | with_reducible exact pt_underlying _ | with_reducible exact pt_sizeOf _ | with_reducible exact pt_zero _ | with_reducible exact pt_isAgg _ | with_reducible exact pt_asIntOf _ | with_reducible exact pt_asInt _ | with_reducible exact pt_asBool _ | with_reducible exact pt_asAddr _ | with_reducible exact pt_loadCells _ _ | with_reducible exact pt_storeCells _ _ _ | with_reducible exact pt_newRow _ _ | with_reducible exact pt_loadVar _ _ | with_reducible exact pt_storeVar _ _ _ | with_reducible exact pt_part _ _ _ | with_reducible exact pt_sure _ | with_reducible exact pt_sliceBound _ _ _ | with_reducible exact pt_sliceBounds _ _ _ _ _ _ | with_reducible exact pt_slice _ _ _ _ _ | (with_reducible refine p_bnd ?_ fun _ => ?_) | (with_reducible refine p_ite ?_ ?_) | (dsimp only) | split)
theorem pt_makeMap (e : TypeId) (v : Option Value) : PT P (Instr.makeMap e v) := by
  unfold Instr.makeMap
  repeat' (first | with_reducible assumption | with_reducible exact p_pure trivial | with_reducible exact pt_stuck _ | with_reducible exact pt_unsupported _ | with_reducible exact pt_rp _ | with_reducible exact pt_bp _ _ _ _ | with_reducible exact pt_load _ _ | with_reducible exact pt_store _ _ _ | with_reducible exact pt_new _ | with_reducible exact pt_program | with_reducible exact pt_choose _ | with_reducible exact pt_shape _ | with_reducible exact pt_frozen _ | with_reducible exact pt_get _ | with_reducible exact pt_set _ _ | with_reducible exact pt_room _ | with_reducible exact pt_typeInfo _ | with_reducible exact pt_underlying _ | with_reducible exact pt_sizeOf _ | with_reducible exact pt_zero _ | with_reducible exact pt_isAgg _ | with_reducible exact pt_asIntOf _ | with_reducible exact pt_asInt _ | with_reducible exact pt_asBool _ | with_reducible exact pt_asAddr _ | with_reducible exact pt_loadCells _ _ | with_reducible exact pt_storeCells _ _ _ | with_reducible exact pt_newRow _ _ | with_reducible exact pt_loadVar _ _ | with_reducible exact pt_storeVar _ _ _ | with_reducible exact pt_part _ _ _ | with_reducible exact pt_sure _ | with_reducible exact pt_sliceBound _ _ _ | with_reducible exact pt_sliceBounds _ _ _ _ _ _ | with_reducible exact pt_slice _ _ _ _ _ | (with_reducible refine p_bnd ?_ fun _ => ?_) | (with_reducible refine p_ite ?_ ?_) | (dsimp only) | split)
theorem pt_mapM {γ δ : Type} (f : γ → Sem δ) (h : ∀ a, PT P (f a)) (l : Array γ) : PT P (l.mapM f) := by
  rw [Array.mapM_eq_foldlM, ← Array.foldlM_toList]
  generalize (#[] : Array δ) = acc
  generalize l.toList = l
  induction l generalizing acc with
  | nil => exact .pure trivial
  | cons a l ih =>
    rw [List.foldlM_cons]
    refine p_bnd ?_ fun b => ih b
    exact p_bnd (h a) fun b => .pure trivial
theorem pt_mapS (l : Array Field) : PT P (l.mapM fun f => do pure (f.offset, ← sizeOf f.type)) := pt_mapM _ (fun _ => p_bnd (pt_sizeOf _) fun _ => .pure trivial) _
theorem pt_build (e : TypeId) (v : Array (Nat × Value)) : PT P (Instr.build e v) := by
  unfold Instr.build
  repeat' (first | with_reducible assumption | with_reducible exact p_pure trivial | with_reducible exact pt_stuck _ | with_reducible exact pt_unsupported _ | with_reducible exact pt_rp _ | with_reducible exact pt_bp _ _ _ _ | with_reducible exact pt_load _ _ | with_reducible exact pt_store _ _ _ | with_reducible exact pt_new _ | with_reducible exact pt_program | with_reducible exact pt_choose _ | with_reducible exact pt_shape _ | with_reducible exact pt_frozen _ | with_reducible exact pt_get _ | with_reducible exact pt_set _ _ | with_reducible exact pt_room _ | with_reducible exact pt_typeInfo _ | with_reducible exact pt_underlying _ | with_reducible exact pt_sizeOf _ | with_reducible exact pt_zero _ | with_reducible exact pt_isAgg _ | with_reducible exact pt_asIntOf _ | with_reducible exact pt_asInt _ | with_reducible exact pt_asBool _ | with_reducible exact pt_asAddr _ | with_reducible exact pt_loadCells _ _ | with_reducible exact pt_storeCells _ _ _ | with_reducible exact pt_newRow _ _ | with_reducible exact pt_loadVar _ _ | with_reducible exact pt_storeVar _ _ _ | with_reducible exact pt_part _ _ _ | with_reducible exact pt_sure _ | with_reducible exact pt_sliceBound _ _ _ | with_reducible exact pt_sliceBounds _ _ _ _ _ _ | with_reducible exact pt_slice _ _ _ _ _ | with_reducible exact pt_mapS _ | (with_reducible refine p_bnd ?_ fun _ => ?_) | (with_reducible refine p_ite ?_ ?_) | (dsimp only) | split)
end
end Go.Proofs.Ytgeoffpcmkofkaa
