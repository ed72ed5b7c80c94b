import PyProof.Rows.All
import Wide.All
import OpenK.AllK
import Wide.FinOn
import HandS.ForMost
import HandS.Zip
import HandS.IsInst
import HandS.Wide
import HandS.More
import HandS.Evl
import HandS.EndBits
import HandS.Flow
import HandS.Style
import HandS.Conv
import HandS.Walk
import HandS.Strs
import HandS.SetFor
import HandS.DictComp
import HandS.Rev
import HandS.Defaults
import PyProof.Laws
import HandS.Text
import HandS.FStr
import HandS.Codes
import KE.KUnpackStar
import HandS.Exc
import PySem.Challenge.RW_pickline_k08_line_texts
import KE.KExcSuper
import HandS.ExcInit
import HandS.ExcField
import HandS.WordsExc
import HandS.TryOnly
import HandS.ExcOwn
set_option Elab.async false
set_option linter.all false
section
set_option maxRecDepth 100000
set_option maxHeartbeats 4000000
namespace Sm
open PySem L2

/-! ### footprints, heaps -/
abbrev Ft := Addr → Prop
abbrev Ex (H H' : Hp) : Prop := Evl.Ex H H'
def nw (S : Ft) (H : Hp) : Ft := fun a => S a ∨ H a = none
def dom (H : Hp) : Ft := fun a => H a ≠ none
def all : Ft := fun _ => True
def non : Ft := fun _ => False
/-- lists and tuples of S stay as they are read -/
def Fv (S : Ft) (H H' : Hp) : Prop := ∀ a, S a → (∀ xs, H a = some (.lst xs) → H' a = some (.lst xs)) ∧ (∀ xs, H a = some (.tup xs) → H' a = some (.tup xs)) ∧ (∀ o xs, H a = some (.frz o (.lst xs)) → H' a = some (.frz o (.lst xs))) ∧ ∀ C dx fs, H a = some (.ins C dx fs) → H' a = some (.ins C dx fs)
def Fr (S : Ft) (H H' : Hp) : Prop := ∀ a o, S a → H a = some o → H' a = some o
theorem Fr.v {S : Ft} {H H' : Hp} (h : Fr S H H') : Fv S H H' := fun a sa => ⟨fun _ e => h a _ sa e, fun _ e => h a _ sa e, fun _ _ e => h a _ sa e, fun _ _ _ e => h a _ sa e⟩
theorem fr_ex {S : Ft} {H H' : Hp} (h : Ex H H') : Fr S H H' := fun a o _ e => h a o e
theorem fv_ex {S : Ft} {H H' : Hp} (h : Ex H H') : Fv S H H' := (fr_ex h).v

/-! ### values that are represented -/
class Rp (α : Type) where
  r : PySem.W.Frag → Ft → Hp → V → α → Prop
  fr : ∀ {K : PySem.W.Frag} {S S' : Ft} {H H' : Hp} {v : V} {x : α}, (∀ a, S a → H a ≠ none → S' a) → Fv S H H' → r K S H v x → r K S' H' v x
theorem Rp.ex {α : Type} [Rp α] {K : PySem.W.Frag} {S : Ft} {H H' : Hp} {v : V} {x : α} (e : Ex H H') (h : Rp.r K S H v x) : Rp.r K S H' v x := Rp.fr (fun _ s _ => s) (fv_ex e) h
theorem Rp.up {α : Type} [Rp α] {K : PySem.W.Frag} {S S' : Ft} {H : Hp} {v : V} {x : α} (e : ∀ a, S a → H a ≠ none → S' a) (h : Rp.r K S H v x) : Rp.r K S' H v x := Rp.fr e (fv_ex (Evl.Ex.refl H)) h
theorem Rp.all {α : Type} [Rp α] {K : PySem.W.Frag} {S : Ft} {H : Hp} {v : V} {x : α} (h : Rp.r K S H v x) : Rp.r K all H v x := Rp.up (fun _ _ _ => trivial) h
theorem Rp.exall {α : Type} [Rp α] {K : PySem.W.Frag} {S : Ft} {H H' : Hp} {v : V} {x : α} (e : Ex H H') (h : Rp.r K S H v x) : Rp.r K Sm.all H' v x := Rp.all (Rp.ex e h)
/-- what is one flat value -/
class Lit (α : Type) where
  e : α → V
  inj : ∀ {x y : α}, e x = e y → x = y
  flat : ∀ x, flatV (e x) = true
  eqv : ∀ x y : α, eqV (e x) (e y) = true ↔ x = y
instance (priority := 900) rpLit {α : Type} [Lit α] : Rp α := ⟨fun _ _ _ v x => v = Lit.e x, fun _ _ h => h⟩
instance litInt : Lit Int := ⟨V.int, fun h => by cases h; rfl, fun _ => rfl, fun x y => by show (x == y) = true ↔ _; exact beq_iff_eq⟩
instance litBool : Lit Bool := ⟨V.bl, fun h => by cases h; rfl, fun _ => rfl, fun x y => by show (x == y) = true ↔ _; exact beq_iff_eq⟩
instance litStr : Lit Str := ⟨V.str, fun h => by cases h; rfl, fun _ => rfl, fun x y => by show (x == y) = true ↔ _; exact beq_iff_eq⟩
instance litUnit : Lit Unit := ⟨fun _ => V.non, fun _ => rfl, fun _ => rfl, fun _ _ => ⟨fun _ => rfl, fun _ => rfl⟩⟩
def optV : Option Str → V
  | none => .non
  | some s => .str s
instance litOpt : Lit (Option Str) := ⟨optV, fun {x y} h => by cases x <;> cases y <;> first | rfl | (cases h; done) | (cases h; rfl), fun x => by cases x <;> rfl,
  fun x y => by cases x <;> cases y <;> simp [optV, eqV]⟩
theorem Lit.is {α : Type} [Lit α] {K : PySem.W.Frag} {S : Ft} {H : Hp} {v : V} {x : α} (h : Rp.r K S H v x) : v = Lit.e x := h
theorem Lit.of {α : Type} [Lit α] {K : PySem.W.Frag} {S : Ft} {H : Hp} {x : α} : Rp.r K S H (Lit.e x) x := rfl

theorem paired_mono {α β : Type} {F G : α → β → Prop} {xs : List α} {ys : List β} (h : PySem.Paired F xs ys) (k : ∀ a b, F a b → G a b) : PySem.Paired G xs ys := by
  induction h with
  | nil => exact .nil
  | cons a _ ih => exact .cons (k _ _ a) ih
instance rpList {α : Type} [Rp α] : Rp (List α) where
  r K S H v xs := ∃ a vs, v = .ref a ∧ S a ∧ H a = some (.lst vs) ∧ PySem.Paired (Rp.r K S H) vs xs
  fr := fun hs hf ⟨a, vs, e, sa, ha, hp⟩ => ⟨a, vs, e, hs a sa (by rw [ha]; simp), (hf a sa).1 vs ha, paired_mono hp fun _ _ => Rp.fr hs hf⟩
structure T2 (α β : Type) where
  a : α
  b : β
deriving Inhabited
structure T3 (α β γ : Type) where
  a : α
  b : β
  c : γ
deriving Inhabited
structure T5 (α β γ δ ε : Type) where
  a : α
  b : β
  c : γ
  d : δ
  e : ε
deriving Inhabited
instance rpT2 {α β : Type} [Rp α] [Rp β] : Rp (T2 α β) where
  r K S H v x := ∃ p v1 v2, v = .ref p ∧ S p ∧ H p = some (.tup [v1, v2]) ∧ Rp.r K S H v1 x.a ∧ Rp.r K S H v2 x.b
  fr := fun hs hf ⟨p, v1, v2, e, sp, hp, h1, h2⟩ => ⟨p, v1, v2, e, hs p sp (by rw [hp]; simp), (hf p sp).2.1 _ hp, Rp.fr hs hf h1, Rp.fr hs hf h2⟩
instance rpT3 {α β γ : Type} [Rp α] [Rp β] [Rp γ] : Rp (T3 α β γ) where
  r K S H v x := ∃ p v1 v2 v3, v = .ref p ∧ S p ∧ H p = some (.tup [v1, v2, v3]) ∧ Rp.r K S H v1 x.a ∧ Rp.r K S H v2 x.b ∧ Rp.r K S H v3 x.c
  fr := fun hs hf ⟨p, v1, v2, v3, e, sp, hp, h1, h2, h3⟩ => ⟨p, v1, v2, v3, e, hs p sp (by rw [hp]; simp), (hf p sp).2.1 _ hp, Rp.fr hs hf h1, Rp.fr hs hf h2, Rp.fr hs hf h3⟩
instance rpT5 {α β γ δ ε : Type} [Rp α] [Rp β] [Rp γ] [Rp δ] [Rp ε] : Rp (T5 α β γ δ ε) where
  r K S H v x := ∃ p v1 v2 v3 v4 v5, v = .ref p ∧ S p ∧ H p = some (.tup [v1, v2, v3, v4, v5]) ∧ Rp.r K S H v1 x.a ∧ Rp.r K S H v2 x.b ∧ Rp.r K S H v3 x.c ∧ Rp.r K S H v4 x.d ∧ Rp.r K S H v5 x.e
  fr := fun hs hf ⟨p, v1, v2, v3, v4, v5, e, sp, hp, h1, h2, h3, h4, h5⟩ => ⟨p, v1, v2, v3, v4, v5, e, hs p sp (by rw [hp]; simp), (hf p sp).2.1 _ hp, Rp.fr hs hf h1, Rp.fr hs hf h2, Rp.fr hs hf h3, Rp.fr hs hf h4, Rp.fr hs hf h5⟩
/-- the script: a list of ints that stands wherever -/
structure Scr where
  ns : List Int
instance rpScr : Rp Scr where
  r K S H v x := ∃ a, v = .ref a ∧ ((∃ o, S a ∧ H a = some (.frz o (.lst (x.ns.map V.int)))) ∨ (S a ∧ H a = some (.lst (x.ns.map V.int))) ∨ SqL K (fun _ => none) a (x.ns.map V.int))
  fr := fun hs hf ⟨a, e, h⟩ => ⟨a, e, by
    rcases h with ⟨o, sa, h⟩ | ⟨sa, h⟩ | h
    · exact .inl ⟨o, hs a sa (by rw [h]; simp), (hf a sa).2.2.1 _ _ h⟩
    · exact .inr (.inl ⟨hs a sa (by rw [h]; simp), (hf a sa).1 _ h⟩)
    · exact .inr (.inr h)⟩
theorem Scr.sq {K : PySem.W.Frag} {S : Ft} {H : Hp} {v : V} {x : Scr} (h : Rp.r K S H v x) : ∃ a, v = .ref a ∧ SqL K H a (x.ns.map V.int) := by
  obtain ⟨a, e, h⟩ := h
  refine ⟨a, e, ?_⟩
  rcases h with ⟨o, sa, h⟩ | ⟨sa, h⟩ | h
  · exact .inl (.inr ⟨o, h⟩)
  · exact .inl (.inl h)
  · rcases h with (h | ⟨_, h⟩) | h
    · cases h
    · cases h
    · exact .inr h

/-! ### dicts with text keys -/
abbrev Dct (α : Type) := List (Str × α)
def RpD {α : Type} [Rp α] (K : PySem.W.Frag) (S : Ft) (H : Hp) (kvs : List (Key × V)) (ps : Dct α) : Prop := PySem.Paired (fun (kv : Key × V) (p : Str × α) => kv.1 = Sum.inr p.1 ∧ Rp.r K S H kv.2 p.2) kvs ps
theorem RpD.fr {α : Type} [Rp α] {K : PySem.W.Frag} {S S' : Ft} {H H' : Hp} {kvs : List (Key × V)} {ps : Dct α} (hs : ∀ a, S a → H a ≠ none → S' a) (hf : Fv S H H') (h : RpD K S H kvs ps) : RpD K S' H' kvs ps :=
  paired_mono h fun _ _ q => ⟨q.1, Rp.fr hs hf q.2⟩
def dget {α : Type} (ps : Dct α) (k : Str) : Option α := ps.lookup k
def dput {α : Type} (ps : Dct α) (k : Str) (v : α) : Dct α := if (ps.any fun p => decide (p.1 = k)) = true then ps.map (fun p => if p.1 = k then (p.1, v) else p) else ps ++ [(k, v)]
def ddrop {α : Type} (ps : Dct α) (k : Str) : Dct α := ps.filter fun p => decide (p.1 ≠ k)
def dhas {α : Type} (ps : Dct α) (k : Str) : Bool := (ps.lookup k).isSome

/-! ### slots -/
inductive Sl : Type 1
  | no
  | val {α : Type} (i : Rp α) (x : α)
  | own {α : Type} (i : Rp α) (xs : List α)
  | dct {α : Type} (i : Rp α) (ps : Dct α)
  | dcf {α : Type} (i : Rp α) (ps : Dct α)
  | odc {α : Type} (i : Rp α) (ps : Dct α)
def Sl.isOwn : Sl → Bool
  | .own _ _ => true
  | .odc _ _ => true
  | _ => false
def SlotR (K : PySem.W.Frag) (S : Ft) (H : Hp) (o : Option V) : Sl → Prop
  | .no => True
  | .val i x => ∃ v, o = some v ∧ i.r K S H v x
  | .own i xs => ∃ l vs, o = some (.ref l) ∧ ¬ S l ∧ H l = some (.lst vs) ∧ PySem.Paired (i.r K S H) vs xs
  | @Sl.dct α i ps => ∃ l kvs, o = some (.ref l) ∧ S l ∧ H l = some (.dK kvs) ∧ @RpD α i K S H kvs ps
  | @Sl.dcf α i ps => ∃ l kvs, o = some (.ref l) ∧ S l ∧ Rd H l (.dK kvs) ∧ @RpD α i K S H kvs ps
  | @Sl.odc α i ps => ∃ l kvs, o = some (.ref l) ∧ ¬ S l ∧ H l = some (.dK kvs) ∧ @RpD α i K S H kvs ps
/-- the value of slot j -/
def at_ (σ : L2.St) (j : Nat) : Option V := σ[j]?.join
structure StR (K : PySem.W.Frag) (S0 : Ft) (H0 : Hp) (S : Ft) (Γ : List Sl) (σ : L2.St) (H : Hp) : Prop where
  len : σ.length = Γ.length
  sl : ∀ j s, Γ[j]? = some s → SlotR K S H (at_ σ j) s
  dm : ∀ a, S a → H a ≠ none
  ap : ∀ i j s t l, i ≠ j → Γ[i]? = some s → Γ[j]? = some t → s.isOwn = true → t.isOwn = true → at_ σ i = some (.ref l) → at_ σ j = some (.ref l) → False
  ow : ∀ j s l, Γ[j]? = some s → s.isOwn = true → at_ σ j = some (.ref l) → H0 l = none
  ex : Ex H0 H
  sr : ∀ a, S a → nw S0 H0 a
theorem at_some {σ : L2.St} {j : Nat} {v : V} (h : at_ σ j = some v) : σ[j]? = some (some v) := by
  unfold at_ at h
  cases e : σ[j]? with
  | none => rw [e] at h; cases h
  | some o =>
    rw [e] at h
    have h : o = some v := h
    rw [h]
inductive Md
  | fr
  | vl
  | an
deriving DecidableEq
def Md.sup : Md → Md → Md
  | .fr, b => b
  | a, .fr => a
  | .vl, .vl => .vl
  | .an, _ => .an
  | _, .an => .an
def Sof (md : Md) (S : Ft) (H : Hp) : Ft := match md with
  | .fr => non
  | .vl => S
  | .an => all
theorem Sof.l {a b : Md} {S : Ft} {H : Hp} : ∀ x, Sof a S H x → Sof (a.sup b) S H x := by
  intro x h
  cases a <;> cases b <;> first | exact h | exact trivial | exact h.elim
theorem Sof.r {a b : Md} {S : Ft} {H : Hp} : ∀ x, Sof b S H x → Sof (a.sup b) S H x := by
  intro x h
  cases a <;> cases b <;> first | exact h | exact trivial | exact h.elim

/-! ### the static context -/
structure Stc where
  P : Program
  w : World
  K : PySem.W.Frag
  mg : Str → Option Value
  base : Heap
  N : List Str
  sc : Scope
  fn : Str → Bool
  k : Nat
structure Fam (c : Stc) (X : Cx) : Prop where
  hP : X.prog = c.P
  hw : X.w = c.w
  hK : X.K = c.K
  hmg : X.mg = c.mg
  hb : X.base = c.base
  hN : X.N = c.N
  hsc : X.env.scope = c.sc
  hfn : X.fn = c.fn
  calm : X.calm = true
  room : Room c.k X.A
  hxe : X.xe = fun _ _ => False
def Stc.blk (c : Stc) (scope : Scope) : Stc := { c with sc := relS scope c.sc, fn := fun x => scope.names.lookup x == some .cell }
theorem Fam.blk {c : Stc} {X : Cx} (F : Fam c X) (scope : Scope) (s : Shared) (H : Hp) (C : Addr) (cl : List (Str × Addr)) (fp : List Addr) : Fam (c.blk scope) (X.blk s H scope (compEnvC scope cl C X.env) fp) :=
  ⟨F.hP, F.hw, F.hK, F.hmg, F.hb, F.hN, by
    show relS scope X.env.scope = relS scope c.sc
    rw [F.hsc], rfl, F.calm, F.room, rfl⟩
theorem Fam.hu {c : Stc} {X : Cx} (F : Fam c X) : X.A.units + 1 < cLine := hu_of F.room
theorem Fam.hu64 {c : Stc} {X : Cx} (F : Fam c X) : X.A.units + 64 < cLine := F.room.units

/-! ### expressions -/
def EvF {α : Type} [Rp α] (K : PySem.W.Frag) (te : TE) (σ : L2.St) (H : Hp) (S : Ft) (x : α) : Prop := ∀ H1, Ex H H1 → ∀ Q : VK, (∀ v H2, Ex H1 H2 → Rp.r K (nw S H1) H2 v x → Q v H2) → te σ H1 Q
def EvB (tt : TT) (σ : L2.St) (H : Hp) (b : Bool) : Prop := ∀ H1, Ex H H1 → ∀ Q : Bool → Hp → Prop, (∀ H2, Ex H1 H2 → Q b H2) → tt σ H1 Q
structure JE {α : Type} [Rp α] (c : Stc) (e : Expr) (te : TE) (Γ : List Sl) (md : Md) (m : Option α) : Prop where
  pe : ∀ X, Fam c X → PE X e te
  ev : ∀ S0 H0 S σ H, StR c.K S0 H0 S Γ σ H → ∀ x, m = some x → EvF c.K te σ H (Sof md S H) x
structure JT (c : Stc) (e : Expr) (tt : TT) (Γ : List Sl) (m : Option Bool) : Prop where
  pt : ∀ X, Fam c X → PT X e tt
  ev : ∀ S0 H0 S σ H, StR c.K S0 H0 S Γ σ H → ∀ b, m = some b → EvB tt σ H b
theorem nw_up {S S' : Ft} {H : Hp} (h : ∀ a, S a → S' a) : ∀ a, nw S H a → nw S' H a := fun a z => z.imp (h a) id
theorem nw_ex {S : Ft} {H H' : Hp} (e : Ex H H') : ∀ a, nw S H' a → nw S H a := fun _ z => z.imp id fun q => Evl.fresh_back e q
/-- a fresh-mode or a wider mode -/
theorem JE.up {α : Type} [Rp α] {c : Stc} {e : Expr} {te : TE} {Γ : List Sl} {a : Md} (b : Md) {m : Option α} (h : JE c e te Γ a m) : JE c e te Γ (a.sup b) m :=
  ⟨h.pe, fun S0 H0 S σ H R x hx H1 e1 Q q => h.ev S0 H0 S σ H R x hx H1 e1 Q fun v H2 e2 r => q v H2 e2 (Rp.up (fun a z _ => nw_up Sof.l a z) r)⟩
theorem JE.an {α : Type} [Rp α] {c : Stc} {e : Expr} {te : TE} {Γ : List Sl} {a : Md} {m : Option α} (h : JE c e te Γ a m) : JE c e te Γ .an m :=
  ⟨h.pe, fun S0 H0 S σ H R x hx H1 e1 Q q => h.ev S0 H0 S σ H R x hx H1 e1 Q fun v H2 e2 r => q v H2 e2 (Rp.up (fun a z _ => nw_up (fun _ _ => trivial) a z) r)⟩
/-- a flat value is fresh in every mode -/
theorem JE.lit {α : Type} [Lit α] {c : Stc} {e : Expr} {te : TE} {Γ : List Sl} {a : Md} {m : Option α} (h : JE c e te Γ a m) (b : Md) : JE c e te Γ b m :=
  ⟨h.pe, fun S0 H0 S σ H R x hx H1 e1 Q q => h.ev S0 H0 S σ H R x hx H1 e1 Q fun v H2 e2 r => q v H2 e2 r⟩
theorem JE.cong {α : Type} [Rp α] {c : Stc} {e : Expr} {te : TE} {Γ : List Sl} {a : Md} {m m' : Option α} (h : JE c e te Γ a m) (hm : m = m') : JE c e te Γ a m' := hm ▸ h

theorem je_int {c : Stc} {Γ : List Sl} {i : Int} {j pos} : JE c (.Constant (.int i) j pos) (tC (.int i)) Γ .fr (some i) :=
  ⟨fun _ _ => pe_int, fun _ _ _ _ _ _ x hx H1 _ Q q => by cases hx; exact q _ H1 (Evl.Ex.refl H1) rfl⟩
theorem je_bl {c : Stc} {Γ : List Sl} {i : Bool} {j pos} : JE c (.Constant (.bool i) j pos) (tC (.bl i)) Γ .fr (some i) :=
  ⟨fun _ _ => pe_bl, fun _ _ _ _ _ _ x hx H1 _ Q q => by cases hx; exact q _ H1 (Evl.Ex.refl H1) rfl⟩
theorem je_str {c : Stc} {Γ : List Sl} {i : Str} {j pos} : JE c (.Constant (.str i) j pos) (tC (.str i)) Γ .fr (some i) :=
  ⟨fun _ _ => pe_str, fun _ _ _ _ _ _ x hx H1 _ Q q => by cases hx; exact q _ H1 (Evl.Ex.refl H1) rfl⟩
theorem je_non {c : Stc} {Γ : List Sl} {j pos} : JE c (.Constant .none j pos) (tC .non) Γ .fr (some (none : Option Str)) :=
  ⟨fun _ _ => pe_non, fun _ _ _ _ _ _ x hx H1 _ Q q => by cases hx; exact q _ H1 (Evl.Ex.refl H1) rfl⟩
def GlS (sc : Scope) (x : Str) : Prop := sc.names.lookup x = some .globalImplicit
theorem Fam.gl {c : Stc} {X : Cx} (F : Fam c X) {x : Str} (h : GlS c.sc x) : Gl X x := by
  show X.env.scope.names.lookup x = _
  rw [F.hsc]; exact h
theorem Fam.vis {c : Stc} {X : Cx} (F : Fam c X) {x : Str} (h : Vis c.sc x) : Vis X.env.scope x := by rw [F.hsc]; exact h
theorem je_glob {c : Stc} {Γ : List Sl} {x : Str} {i : Int} {t pos} (hm : c.mg x = some (.int i t)) (hg : GlS c.sc x := by rfl) (hd : (x == ("__debug__" : Str)) = false := by decide) : JE c (.Name x pos) (tC (.int i)) Γ .fr (some i) :=
  ⟨fun X F => pe_glob (F.gl hg) (by rw [F.hmg]; exact hm) ⟨_, rfl⟩ hd, fun _ _ _ _ _ _ x hx H1 _ Q q => by cases hx; exact q _ H1 (Evl.Ex.refl H1) rfl⟩
theorem je_var {c : Stc} {Γ : List Sl} {x : Str} {pos : Pos} (j : Nat) {α : Type} [i : Rp α] {v : α} (hs : Γ[j]? = some (.val i v) := by rfl) (hN : c.N[j]? = some x := by rfl) (hv : Vis c.sc x := by first | exact Or.inl rfl | exact Or.inr (Or.inl rfl) | exact Or.inr (Or.inr rfl))
    (hd : (x == ("__debug__" : Str)) = false := by decide) (hcd : (x == ("__classdict__" : Str)) = false := by decide) : JE c (.Name x pos) (tVar j) Γ .vl (some v) :=
  ⟨fun X F => pe_var (by rw [F.hN]; exact hN) (F.vis hv) hd hcd, fun S0 H0 S σ H R y hy H1 e1 Q q => by
    cases hy
    obtain ⟨u, hu, r⟩ := R.sl j _ hs
    exact ⟨u, at_some hu, q u H1 (Evl.Ex.refl H1) (Rp.up (fun _ z _ => .inl z) (Rp.ex e1 r))⟩⟩
/-- a list that is being made, read -/
theorem je_own {c : Stc} {Γ : List Sl} {x : Str} {pos : Pos} (j : Nat) {α : Type} [i : Rp α] {v : List α} (hs : Γ[j]? = some (.own i v) := by rfl) (hN : c.N[j]? = some x := by rfl) (hv : Vis c.sc x := by first | exact Or.inl rfl | exact Or.inr (Or.inl rfl) | exact Or.inr (Or.inr rfl))
    (hd : (x == ("__debug__" : Str)) = false := by decide) (hcd : (x == ("__classdict__" : Str)) = false := by decide) : JE c (.Name x pos) (tVar j) Γ .an (some v) :=
  ⟨fun X F => pe_var (by rw [F.hN]; exact hN) (F.vis hv) hd hcd, fun S0 H0 S σ H R y hy H1 e1 Q q => by
    cases hy
    obtain ⟨l, vs, hu, _, hl, hp⟩ := R.sl j _ hs
    refine ⟨_, at_some hu, q _ H1 (Evl.Ex.refl H1) ⟨l, vs, rfl, .inl trivial, e1 l _ hl, paired_mono hp fun a b z => Rp.up (fun a z _ => .inl trivial) (Rp.ex e1 z)⟩⟩⟩
end Sm
end

section
set_option maxRecDepth 100000
set_option maxHeartbeats 4000000
namespace Sm
open PySem L2
section
variable {c : Stc} {Γ : List Sl} {a b e' e : Expr} {ta tb te : TE} {ma mb : Md} {pos : Pos}

/-! ### operators -/
theorem je_op {α β γ : Type} [Rp α] [Rp β] [Lit γ] {m1 : Option α} {m2 : Option β} {r : R2} (g : α → β → Option γ) (mk : ∀ X, Fam c X → PE X a ta → PE X b tb → PE X e' (tOp r ta tb))
    (hr : ∀ x y z v u H, Rp.r c.K all H v x → Rp.r c.K all H u y → g x y = some z → ∀ Q : VK, Q (Lit.e z) H → r v u H Q)
    (ha : JE c a ta Γ ma m1) (hb : JE c b tb Γ mb m2) : JE c e' (tOp r ta tb) Γ .fr (m1.bind fun x => m2.bind fun y => g x y) :=
  ⟨fun X F => mk X F (ha.pe X F) (hb.pe X F), fun S0 H0 S σ H R z hz H1 e1 Q q => by
    cases h1 : m1 with
    | none => rw [h1] at hz; cases hz
    | some x =>
      cases h2 : m2 with
      | none => rw [h1, h2] at hz; cases hz
      | some y =>
        rw [h1, h2] at hz
        refine ha.ev S0 H0 S σ H R x h1 H1 e1 _ fun v H2 e2 r1 => ?_
        refine hb.ev S0 H0 S σ H R y h2 H2 (e1.trans e2) _ fun u H3 e3 r2 => ?_
        exact hr x y z v u H3 (Rp.exall e3 r1) (Rp.all r2) hz Q (q _ H3 (e2.trans e3) rfl)⟩
theorem g_I0 {K : PySem.W.Frag} {γ : Type} [Lit γ] (f : Int → Int → γ) (x y : Int) (z : γ) (v u : V) (H : Hp) (h1 : Rp.r K all H v x) (h2 : Rp.r K all H u y) (h : some (f x y) = some z) (Q : VK) (q : Q (Lit.e z) H) : rI0 (fun i j => Lit.e (f i j)) v u H Q := by
  cases h; exact ⟨x, y, h1, h2, q⟩
theorem g_I {K : PySem.W.Frag} {γ : Type} [Lit γ] {C : Int → Int → Prop} [∀ i j, Decidable (C i j)] (f : Int → Int → γ) (x y : Int) (z : γ) (v u : V) (H : Hp) (h1 : Rp.r K all H v x) (h2 : Rp.r K all H u y) (h : (if C x y then some (f x y) else none) = some z) (Q : VK) (q : Q (Lit.e z) H) : rI C (fun i j => Lit.e (f i j)) v u H Q := by
  by_cases hc : C x y
  · rw [if_pos hc] at h; cases h; exact ⟨x, y, h1, h2, hc, q⟩
  · rw [if_neg hc] at h; cases h
instance decDivW (i j : Int) : Decidable (CDivW i j) := inferInstanceAs (Decidable (_ ∧ _))
/-- * where both are of at most some two million bits together -/
def CMulS (i j : Int) : Prop := i.natAbs.log2 + j.natAbs.log2 < 2000000
theorem few_bits (x : Int) : Builtin.Int.intBits x ≤ x.natAbs.log2 + 1 := by
  unfold Builtin.Int.intBits
  by_cases e : (x == 0) = true
  · rw [if_pos e]; exact Nat.zero_le _
  · rw [if_neg e]; exact Nat.le_refl _
theorem mulS_fits {i j : Int} (h : CMulS i j) : IntMulOk i j := by
  intro both
  have late : Builtin.Int.intTooBig (Builtin.Int.intBits i + Builtin.Int.intBits j : Int) = true := (Bool.and_eq_true _ _ ▸ both).2
  have hl : (2000002 : Nat) ≤ bitsLine := by decide
  have hi := few_bits i
  have hj := few_bits j
  have hs : i.natAbs.log2 + j.natAbs.log2 < 2000000 := h
  have far : ((bitsLine : Nat) : Int) < (Builtin.Int.intBits i + Builtin.Int.intBits j : Int) := of_decide_eq_true late
  omega
theorem op_mulS {X : Cx} : OpR X (binaryOp .Mult) (rI CMulS fun i j => Lit.e (i * j)) := opI fun i j _ _ _ _ _ hc done => PyProof.Rows.mul_int done (mulS_fits hc)
instance decMulS (i j : Int) : Decidable (CMulS i j) := inferInstanceAs (Decidable (_ < _))
instance decPow (i j : Int) : Decidable (CPow i j) := inferInstanceAs (Decidable (_ ∧ _ ∧ _))
instance decPos (i j : Int) : Decidable ((fun (_ j : Int) => 0 < j) i j) := inferInstanceAs (Decidable (0 < j))
def oAdd (i j : Int) : Option Int := some (i + j)
def oSub (i j : Int) : Option Int := some (i - j)
def oMul (i j : Int) : Option Int := if CMulS i j then some (i * j) else none
def oDiv (i j : Int) : Option Int := if CDivW i j then some (i / j) else none
def oMod (i j : Int) : Option Int := if 0 < j then some (i % j) else none
def oPow (i j : Int) : Option Int := if CPow i j then some (i ^ j.toNat) else none
def oLt (i j : Int) : Option Bool := some (decide (i < j))
def oLe (i j : Int) : Option Bool := some (decide (i ≤ j))
def oGt (i j : Int) : Option Bool := some (decide (j < i))
def oGe (i j : Int) : Option Bool := some (decide (j ≤ i))
section
variable {m1 m2 : Option Int}
theorem je_add (ha : JE c a ta Γ ma m1) (hb : JE c b tb Γ mb m2) : JE c (.BinOp a .Add b pos) (tOp (rI0 fun i j => Lit.e (i + j)) ta tb) Γ .fr (m1.bind fun x => m2.bind fun y => oAdd x y) := je_op oAdd (fun X F p q => pe_op op_add p q) (g_I0 fun i j => i + j) ha hb
theorem je_sub (ha : JE c a ta Γ ma m1) (hb : JE c b tb Γ mb m2) : JE c (.BinOp a .Sub b pos) (tOp (rI0 fun i j => Lit.e (i - j)) ta tb) Γ .fr (m1.bind fun x => m2.bind fun y => oSub x y) := je_op oSub (fun X F p q => pe_op op_sub p q) (g_I0 fun i j => i - j) ha hb
theorem je_mul (ha : JE c a ta Γ ma m1) (hb : JE c b tb Γ mb m2) : JE c (.BinOp a .Mult b pos) (tOp (rI CMulS fun i j => Lit.e (i * j)) ta tb) Γ .fr (m1.bind fun x => m2.bind fun y => oMul x y) := je_op oMul (fun X F p q => pe_op op_mulS p q) (g_I (C := CMulS) fun i j => i * j) ha hb
theorem je_div (ha : JE c a ta Γ ma m1) (hb : JE c b tb Γ mb m2) : JE c (.BinOp a .FloorDiv b pos) (tOp (rI CDivW fun i j => Lit.e (i / j)) ta tb) Γ .fr (m1.bind fun x => m2.bind fun y => oDiv x y) := je_op oDiv (fun X F p q => pe_op op_fdivW p q) (g_I (C := CDivW) fun i j => i / j) ha hb
theorem je_mod (ha : JE c a ta Γ ma m1) (hb : JE c b tb Γ mb m2) : JE c (.BinOp a .Mod b pos) (tOp (rI (fun _ j => 0 < j) fun i j => Lit.e (i % j)) ta tb) Γ .fr (m1.bind fun x => m2.bind fun y => oMod x y) := je_op oMod (fun X F p q => pe_op op_mod p q) (g_I (C := fun _ j => 0 < j) fun i j => i % j) ha hb
theorem je_pow (ha : JE c a ta Γ ma m1) (hb : JE c b tb Γ mb m2) : JE c (.BinOp a .Pow b pos) (tOp (rI CPow fun i j => Lit.e (i ^ j.toNat)) ta tb) Γ .fr (m1.bind fun x => m2.bind fun y => oPow x y) := je_op oPow (fun X F p q => pe_op op_pow p q) (g_I (C := CPow) fun i j => i ^ j.toNat) ha hb
theorem je_lt (ha : JE c a ta Γ ma m1) (hb : JE c b tb Γ mb m2) : JE c (.Compare a [.Lt] [b] pos) (tOp (rI0 fun i j => Lit.e (decide (i < j))) ta tb) Γ .fr (m1.bind fun x => m2.bind fun y => oLt x y) := je_op oLt (fun X F p q => pe_cmpR op_lt p q (nomark _)) (g_I0 fun i j => decide (i < j)) ha hb
theorem je_le (ha : JE c a ta Γ ma m1) (hb : JE c b tb Γ mb m2) : JE c (.Compare a [.LtE] [b] pos) (tOp (rI0 fun i j => Lit.e (decide (i ≤ j))) ta tb) Γ .fr (m1.bind fun x => m2.bind fun y => oLe x y) := je_op oLe (fun X F p q => pe_cmpR op_le p q (nomark _)) (g_I0 fun i j => decide (i ≤ j)) ha hb
theorem je_gt (ha : JE c a ta Γ ma m1) (hb : JE c b tb Γ mb m2) : JE c (.Compare a [.Gt] [b] pos) (tOp (rI0 fun i j => Lit.e (decide (j < i))) ta tb) Γ .fr (m1.bind fun x => m2.bind fun y => oGt x y) := je_op oGt (fun X F p q => pe_cmpR op_gt p q (nomark _)) (g_I0 fun i j => decide (j < i)) ha hb
theorem je_ge (ha : JE c a ta Γ ma m1) (hb : JE c b tb Γ mb m2) : JE c (.Compare a [.GtE] [b] pos) (tOp (rI0 fun i j => Lit.e (decide (j ≤ i))) ta tb) Γ .fr (m1.bind fun x => m2.bind fun y => oGe x y) := je_op oGe (fun X F p q => pe_cmpR op_ge p q (nomark _)) (g_I0 fun i j => decide (j ≤ i)) ha hb
end
/-- == of two flat values of a kind -/
class Eqs (α : Type) [Lit α] where
  sc : ∀ x y : α, scal (Lit.e x) (Lit.e y) = true
  q : α → α → Bool
  qe : ∀ x y, q x y = true ↔ x = y
instance eqsInt : Eqs Int := { sc := fun _ _ => rfl, q := fun x y => decide (x = y), qe := fun _ _ => decide_eq_true_iff }
instance eqsBool : Eqs Bool := { sc := fun _ _ => rfl, q := fun x y => decide (x = y), qe := fun _ _ => decide_eq_true_iff }
instance eqsStr : Eqs Str := { sc := fun _ _ => rfl, q := fun x y => decide (x = y), qe := fun _ _ => decide_eq_true_iff }
instance eqsOpt : Eqs (Option Str) := { sc := fun x y => by cases x <;> cases y <;> rfl, q := fun x y => decide (x = y), qe := fun _ _ => decide_eq_true_iff }
theorem lit_dec {α : Type} [Lit α] [Eqs α] (x y : α) : decide ((Lit.e x : V) = Lit.e y) = Eqs.q x y := by
  rw [Bool.eq_iff_iff, decide_eq_true_eq, Eqs.qe]
  exact ⟨fun h => Lit.inj h, fun h => by rw [h]⟩
def oEq {α : Type} [Lit α] [Eqs α] (x y : α) : Option Bool := some (Eqs.q x y)
def oNe {α : Type} [Lit α] [Eqs α] (x y : α) : Option Bool := some (!Eqs.q x y)
theorem je_eq {α : Type} [Lit α] [Eqs α] {m1 m2 : Option α} (ha : JE c a ta Γ ma m1) (hb : JE c b tb Γ mb m2) : JE c (.Compare a [.Eq] [b] pos) (tOp (rEq) ta tb) Γ .fr (m1.bind fun x => m2.bind fun y => oEq x y) :=
  je_op oEq (fun X F p q => pe_cmpR op_eq p q (nomark _)) (fun x y z v u H h1 h2 h Q q => by
    cases h1; cases h2; cases h
    refine ⟨Eqs.sc x y, ?_⟩
    rw [lit_dec]; exact q) ha hb
theorem je_ne {α : Type} [Lit α] [Eqs α] {m1 m2 : Option α} (ha : JE c a ta Γ ma m1) (hb : JE c b tb Γ mb m2) : JE c (.Compare a [.NotEq] [b] pos) (tOp (rNe) ta tb) Γ .fr (m1.bind fun x => m2.bind fun y => oNe x y) :=
  je_op oNe (fun X F p q => pe_cmpR op_ne p q (nomark _)) (fun x y z v u H h1 h2 h Q q => by
    cases h1; cases h2; cases h
    refine ⟨Eqs.sc x y, ?_⟩
    rw [lit_dec]; exact q) ha hb
/-- is None -/
theorem optN (x : Option Str) : decide ((optV x : V) = V.non) = x.isNone := by cases x <;> rfl
theorem je_isN {m : Option (Option Str)} {k p} (ha : JE c a ta Γ ma m) : JE c (.Compare a [.Is] [.Constant .none k p] pos) (tOp (fun x y H Q => y = .non ∧ Q (.bl (decide (x = .non))) H) ta (tC .non)) Γ .fr (m.bind fun x => some x.isNone) :=
  ⟨fun X F => pe_cmpR op_isN (ha.pe X F) pe_non (nomark _), fun S0 H0 S σ H R z hz H1 e1 Q q => by
    cases h : m with
    | none => rw [h] at hz; cases hz
    | some x =>
      rw [h] at hz; cases hz
      refine ha.ev S0 H0 S σ H R x h H1 e1 _ fun v H2 e2 r => ?_
      have r : v = optV x := r
      refine ⟨rfl, ?_⟩
      rw [r, optN]
      exact q _ H2 e2 rfl⟩
theorem je_notN {m : Option (Option Str)} {k p} (ha : JE c a ta Γ ma m) : JE c (.Compare a [.IsNot] [.Constant .none k p] pos) (tOp (fun x y H Q => y = .non ∧ Q (.bl (!decide (x = .non))) H) ta (tC .non)) Γ .fr (m.bind fun x => some !x.isNone) :=
  ⟨fun X F => pe_cmpR op_notN (ha.pe X F) pe_non (nomark _), fun S0 H0 S σ H R z hz H1 e1 Q q => by
    cases h : m with
    | none => rw [h] at hz; cases hz
    | some x =>
      rw [h] at hz; cases hz
      refine ha.ev S0 H0 S σ H R x h H1 e1 _ fun v H2 e2 r => ?_
      have r : v = optV x := r
      refine ⟨rfl, ?_⟩
      rw [r, optN]
      exact q _ H2 e2 rfl⟩
/-- a text where a text or None stood, and back -/
theorem je_unopt {m : Option (Option Str)} (h : JE c a ta Γ ma m) : JE c a ta Γ .fr (m.bind fun x => x) :=
  ⟨h.pe, fun S0 H0 S σ H R z hz H1 e1 Q q => by
    cases h1 : m with
    | none => rw [h1] at hz; cases hz
    | some x =>
      rw [h1] at hz
      have hz : x = some z := hz
      subst hz
      exact h.ev S0 H0 S σ H R _ h1 H1 e1 Q fun v H2 e2 r => q v H2 e2 r⟩
theorem je_opt {m : Option Str} (h : JE c a ta Γ ma m) : JE c a ta Γ .fr (m.bind fun x => some (some x)) :=
  ⟨h.pe, fun S0 H0 S σ H R z hz H1 e1 Q q => by
    cases h1 : m with
    | none => rw [h1] at hz; cases hz
    | some x =>
      rw [h1] at hz; cases hz
      exact h.ev S0 H0 S σ H R _ h1 H1 e1 Q fun v H2 e2 r => q v H2 e2 r⟩

/-! ### lists: in, items, length, +, slices -/
theorem paired_lit {α : Type} [Lit α] {K : PySem.W.Frag} {S : Ft} {H : Hp} {vs : List V} {xs : List α} (h : PySem.Paired (Rp.r K S H) vs xs) : vs = xs.map Lit.e := by
  induction h with
  | nil => rfl
  | cons a _ ih => rw [List.map_cons, ← ih]; exact congrArg (· :: _) a
theorem lit_paired {α : Type} [Lit α] {K : PySem.W.Frag} {S : Ft} {H : Hp} : ∀ xs : List α, PySem.Paired (Rp.r K S H) (xs.map Lit.e) xs
  | [] => .nil
  | _ :: r => .cons rfl (lit_paired r)
def oIn {α : Type} [Lit α] [Eqs α] (x : α) (xs : List α) : Option Bool := some (xs.any fun y => Eqs.q y x)
def oNi {α : Type} [Lit α] [Eqs α] (x : α) (xs : List α) : Option Bool := some (!xs.any fun y => Eqs.q y x)
theorem lit_any {α : Type} [Lit α] [Eqs α] (x : α) (xs : List α) : inV (Lit.e x) (xs.map Lit.e) = xs.any fun y => Eqs.q y x := by
  rw [Bool.eq_iff_iff]
  unfold inV
  rw [List.any_eq_true, List.any_eq_true]
  constructor
  · rintro ⟨v, hv, e⟩
    obtain ⟨y, hy, rfl⟩ := List.mem_map.mp hv
    exact ⟨y, hy, (Eqs.qe y x).mpr ((Lit.eqv y x).mp e)⟩
  · rintro ⟨y, hy, e⟩
    have e := (Eqs.qe y x).mp e
    subst e
    exact ⟨Lit.e y, List.mem_map.mpr ⟨y, hy, rfl⟩, (Lit.eqv y y).mpr rfl⟩
theorem flat_map {α : Type} [Lit α] (xs : List α) : (xs.map (Lit.e : α → V)).all flatV = true := by
  rw [List.all_map, List.all_eq_true]
  exact fun x _ => Lit.flat x
theorem je_in {α : Type} [Lit α] [Eqs α] {m1 : Option α} {m2 : Option (List α)} (ha : JE c a ta Γ ma m1) (hb : JE c b tb Γ mb m2) (hm : behindInMarks .In b = false := by with_unfolding_all rfl) : JE c (.Compare a [.In] [b] pos) (tOp (rIn c.K false) ta tb) Γ .fr (m1.bind fun x => m2.bind fun y => oIn x y) :=
  je_op oIn (fun X F p q => by rw [← F.hK]; exact pe_cmpR op_in_seq p q hm) (fun x y z v u H h1 h2 h Q q => by
    obtain ⟨p, vs, rfl, _, hp, pr⟩ := h2
    have e := paired_lit pr
    subst e
    have h1 : v = Lit.e x := h1
    subst h1
    cases h
    refine ⟨p, _, rfl, .inl (SqL.of hp), Lit.flat x, flat_map _, ?_⟩
    show Q (.bl (inV _ _)) H
    rw [lit_any]; exact q) ha hb
theorem je_ni {α : Type} [Lit α] [Eqs α] {m1 : Option α} {m2 : Option (List α)} (ha : JE c a ta Γ ma m1) (hb : JE c b tb Γ mb m2) (hm : behindInMarks .NotIn b = false := by with_unfolding_all rfl) : JE c (.Compare a [.NotIn] [b] pos) (tOp (rIn c.K true) ta tb) Γ .fr (m1.bind fun x => m2.bind fun y => oNi x y) :=
  je_op oNi (fun X F p q => by rw [← F.hK]; exact pe_cmpR op_notIn_seq p q hm) (fun x y z v u H h1 h2 h Q q => by
    obtain ⟨p, vs, rfl, _, hp, pr⟩ := h2
    have e := paired_lit pr
    subst e
    have h1 : v = Lit.e x := h1
    subst h1
    cases h
    refine ⟨p, _, rfl, .inl (SqL.of hp), Lit.flat x, flat_map _, ?_⟩
    show Q (.bl (!inV _ _)) H
    rw [lit_any]; exact q) ha hb
theorem paired_at {α β : Type} {F : α → β → Prop} : ∀ {xs : List α} {ys : List β} {j : Nat} {y : β}, PySem.Paired F xs ys → ys[j]? = some y → ∃ x, xs[j]? = some x ∧ F x y
  | _, _, j, y, .nil, h => by simp at h
  | _, _, 0, y, .cons a _, h => by
    have h := Option.some.inj (by simpa using h)
    subst h
    exact ⟨_, rfl, a⟩
  | _, _, j + 1, y, .cons _ t, h => by
    obtain ⟨x, hx, hf⟩ := paired_at (j := j) t (by simpa using h)
    exact ⟨x, by simpa using hx, hf⟩
/-- xs[i] -/
def oIx {α : Type} (xs : List α) (i : Int) : Option α := atI xs i
theorem je_ix {α : Type} [Rp α] {m1 : Option (List α)} {m2 : Option Int} (ha : JE c a ta Γ ma m1) (hb : JE c b tb Γ mb m2) (hs : PlainIx b := by intro _ _; rfl) : JE c (.Subscript a b pos) (tOp (rIxL c.K) ta tb) Γ ma (m1.bind fun x => m2.bind fun y => oIx x y) :=
  ⟨fun X F => by rw [← F.hK]; exact pe_ix ix_list (ha.pe X F) (hb.pe X F) hs, fun S0 H0 S σ H R z hz H1 e1 Q q => by
    cases h1 : m1 with
    | none => rw [h1] at hz; cases hz
    | some x =>
      cases h2 : m2 with
      | none => rw [h1, h2] at hz; cases hz
      | some y =>
        rw [h1, h2] at hz
        refine ha.ev S0 H0 S σ H R x h1 H1 e1 _ fun v H2 e2 r1 => ?_
        refine hb.ev S0 H0 S σ H R y h2 H2 (e1.trans e2) _ fun u H3 e3 r2 => ?_
        obtain ⟨p, vs, rfl, _, hp, pr⟩ := r1
        have r2 : u = .int y := r2
        subst r2
        have hz : atI x y = some z := hz
        unfold atI at hz
        cases hj : ixN x.length y with
        | none => rw [hj] at hz; cases hz
        | some j =>
          rw [hj] at hz
          have hz : x[j]? = some z := hz
          obtain ⟨w, hw, rw_⟩ := paired_at pr hz
          refine ⟨p, vs, y, w, rfl, rfl, SqL.of (e3 p _ hp), ?_, q w H3 (e2.trans e3) (Rp.ex e3 rw_)⟩
          unfold atI
          rw [pr.length, hj]
          exact hw⟩
/-- a tuple's places -/
theorem ixT {α β : Type} [Rp α] [Rp β] {m1 : Option α} {n : Int} {k p} (g : α → β)
    (hr : ∀ S H v x, Rp.r c.K S H v x → ∃ p vs w, v = .ref p ∧ H p = some (.tup vs) ∧ atI vs n = some w ∧ Rp.r c.K S H w (g x)) (ha : JE c a ta Γ ma m1) :
    JE c (.Subscript a (.Constant (.int n) k p) pos) (tOp (rIxT c.K) ta (tC (.int n))) Γ ma (m1.bind fun x => some (g x)) :=
  ⟨fun X F => by rw [← F.hK]; exact pe_ix ix_tup (ha.pe X F) pe_int (fun _ _ => rfl), fun S0 H0 S σ H R z hz H1 e1 Q q => by
    cases h1 : m1 with
    | none => rw [h1] at hz; cases hz
    | some x =>
      rw [h1] at hz; cases hz
      refine ha.ev S0 H0 S σ H R x h1 H1 e1 _ fun v H2 e2 r1 => ?_
      obtain ⟨p, vs, w, rfl, hp, hi, rw_⟩ := hr _ _ _ _ r1
      exact ⟨p, vs, n, w, rfl, rfl, SqT.of hp, hi, q w H2 e2 rw_⟩⟩
theorem ixTg {α β : Type} [Rp α] [Rp β] {m1 : Option α} {n : Int} {x : Str} {t p} (g : α → β) (hm : c.mg x = some (.int n t))
    (hr : ∀ S H v x, Rp.r c.K S H v x → ∃ p vs w, v = .ref p ∧ H p = some (.tup vs) ∧ atI vs n = some w ∧ Rp.r c.K S H w (g x)) (ha : JE c a ta Γ ma m1) (hg : GlS c.sc x := by rfl) (hd : (x == ("__debug__" : Str)) = false := by decide) :
    JE c (.Subscript a (.Name x p) pos) (tOp (rIxT c.K) ta (tC (.int n))) Γ ma (m1.bind fun x => some (g x)) :=
  ⟨fun X F => by rw [← F.hK]; exact pe_ix ix_tup (ha.pe X F) (pe_glob (F.gl hg) (by rw [F.hmg]; exact hm) ⟨_, rfl⟩ hd) (fun _ _ => rfl), fun S0 H0 S σ H R z hz H1 e1 Q q => by
    cases h1 : m1 with
    | none => rw [h1] at hz; cases hz
    | some x =>
      rw [h1] at hz; cases hz
      refine ha.ev S0 H0 S σ H R x h1 H1 e1 _ fun v H2 e2 r1 => ?_
      obtain ⟨p, vs, w, rfl, hp, hi, rw_⟩ := hr _ _ _ _ r1
      exact ⟨p, vs, n, w, rfl, rfl, SqT.of hp, hi, q w H2 e2 rw_⟩⟩
section
variable {K : PySem.W.Frag} {α β γ δ ε : Type} [Rp α] [Rp β] [Rp γ] [Rp δ] [Rp ε]
theorem t2a (S : Ft) (H : Hp) (v : V) (x : T2 α β) (h : Rp.r K S H v x) : ∃ p vs w, v = .ref p ∧ H p = some (.tup vs) ∧ atI vs 0 = some w ∧ Rp.r K S H w x.a := by obtain ⟨p, v1, v2, e, _, hp, h1, h2⟩ := h; exact ⟨p, _, v1, e, hp, rfl, h1⟩
theorem t2b (S : Ft) (H : Hp) (v : V) (x : T2 α β) (h : Rp.r K S H v x) : ∃ p vs w, v = .ref p ∧ H p = some (.tup vs) ∧ atI vs 1 = some w ∧ Rp.r K S H w x.b := by obtain ⟨p, v1, v2, e, _, hp, h1, h2⟩ := h; exact ⟨p, _, v2, e, hp, rfl, h2⟩
theorem t3a (S : Ft) (H : Hp) (v : V) (x : T3 α β γ) (h : Rp.r K S H v x) : ∃ p vs w, v = .ref p ∧ H p = some (.tup vs) ∧ atI vs 0 = some w ∧ Rp.r K S H w x.a := by obtain ⟨p, v1, v2, v3, e, _, hp, h1, h2, h3⟩ := h; exact ⟨p, _, v1, e, hp, rfl, h1⟩
theorem t3b (S : Ft) (H : Hp) (v : V) (x : T3 α β γ) (h : Rp.r K S H v x) : ∃ p vs w, v = .ref p ∧ H p = some (.tup vs) ∧ atI vs 1 = some w ∧ Rp.r K S H w x.b := by obtain ⟨p, v1, v2, v3, e, _, hp, h1, h2, h3⟩ := h; exact ⟨p, _, v2, e, hp, rfl, h2⟩
theorem t3c (S : Ft) (H : Hp) (v : V) (x : T3 α β γ) (h : Rp.r K S H v x) : ∃ p vs w, v = .ref p ∧ H p = some (.tup vs) ∧ atI vs 2 = some w ∧ Rp.r K S H w x.c := by obtain ⟨p, v1, v2, v3, e, _, hp, h1, h2, h3⟩ := h; exact ⟨p, _, v3, e, hp, rfl, h3⟩
theorem t5a (S : Ft) (H : Hp) (v : V) (x : T5 α β γ δ ε) (h : Rp.r K S H v x) : ∃ p vs w, v = .ref p ∧ H p = some (.tup vs) ∧ atI vs 0 = some w ∧ Rp.r K S H w x.a := by obtain ⟨p, v1, v2, v3, v4, v5, e, _, hp, h1, h2, h3, h4, h5⟩ := h; exact ⟨p, _, v1, e, hp, rfl, h1⟩
theorem t5b (S : Ft) (H : Hp) (v : V) (x : T5 α β γ δ ε) (h : Rp.r K S H v x) : ∃ p vs w, v = .ref p ∧ H p = some (.tup vs) ∧ atI vs 1 = some w ∧ Rp.r K S H w x.b := by obtain ⟨p, v1, v2, v3, v4, v5, e, _, hp, h1, h2, h3, h4, h5⟩ := h; exact ⟨p, _, v2, e, hp, rfl, h2⟩
theorem t5c (S : Ft) (H : Hp) (v : V) (x : T5 α β γ δ ε) (h : Rp.r K S H v x) : ∃ p vs w, v = .ref p ∧ H p = some (.tup vs) ∧ atI vs 2 = some w ∧ Rp.r K S H w x.c := by obtain ⟨p, v1, v2, v3, v4, v5, e, _, hp, h1, h2, h3, h4, h5⟩ := h; exact ⟨p, _, v3, e, hp, rfl, h3⟩
theorem t5d (S : Ft) (H : Hp) (v : V) (x : T5 α β γ δ ε) (h : Rp.r K S H v x) : ∃ p vs w, v = .ref p ∧ H p = some (.tup vs) ∧ atI vs 3 = some w ∧ Rp.r K S H w x.d := by obtain ⟨p, v1, v2, v3, v4, v5, e, _, hp, h1, h2, h3, h4, h5⟩ := h; exact ⟨p, _, v4, e, hp, rfl, h4⟩
theorem t5e (S : Ft) (H : Hp) (v : V) (x : T5 α β γ δ ε) (h : Rp.r K S H v x) : ∃ p vs w, v = .ref p ∧ H p = some (.tup vs) ∧ atI vs 4 = some w ∧ Rp.r K S H w x.e := by obtain ⟨p, v1, v2, v3, v4, v5, e, _, hp, h1, h2, h3, h4, h5⟩ := h; exact ⟨p, _, v5, e, hp, rfl, h5⟩
end
theorem paired_append {α β : Type} {F : α → β → Prop} {xs xs' : List α} {ys ys' : List β} (h : PySem.Paired F xs ys) (h' : PySem.Paired F xs' ys') : PySem.Paired F (xs ++ xs') (ys ++ ys') := by
  induction h with
  | nil => exact h'
  | cons a _ ih => exact .cons a ih
theorem paired_take {α β : Type} {F : α → β → Prop} : ∀ {xs : List α} {ys : List β} (n : Nat), PySem.Paired F xs ys → PySem.Paired F (xs.take n) (ys.take n)
  | _, _, 0, _ => by simp; exact .nil
  | _, _, n + 1, .nil => .nil
  | _, _, n + 1, .cons a t => by rw [List.take_succ_cons, List.take_succ_cons]; exact .cons a (paired_take n t)
theorem paired_drop {α β : Type} {F : α → β → Prop} : ∀ {xs : List α} {ys : List β} (n : Nat), PySem.Paired F xs ys → PySem.Paired F (xs.drop n) (ys.drop n)
  | _, _, 0, h => h
  | _, _, n + 1, .nil => .nil
  | _, _, n + 1, .cons a t => by rw [List.drop_succ_cons, List.drop_succ_cons]; exact paired_drop n t
/-- xs + ys -/
def oCat {α : Type} (xs ys : List α) : Option (List α) := if xs.length + ys.length ≤ 100000 then some (xs ++ ys) else none
theorem je_cat {α : Type} [Rp α] {m1 m2 : Option (List α)} (ha : JE c a ta Γ ma m1) (hb : JE c b tb Γ mb m2) : JE c (.BinOp a .Add b pos) (tOp rCat ta tb) Γ (ma.sup mb) (m1.bind fun x => m2.bind fun y => oCat x y) :=
  ⟨fun X F => pe_op op_cat (ha.pe X F) (hb.pe X F), fun S0 H0 S σ H R z hz H1 e1 Q q => by
    cases h1 : m1 with
    | none => rw [h1] at hz; cases hz
    | some x =>
      cases h2 : m2 with
      | none => rw [h1, h2] at hz; cases hz
      | some y =>
        rw [h1, h2] at hz
        have hz : oCat x y = some z := hz
        unfold oCat at hz
        by_cases hl : x.length + y.length ≤ 100000
        · rw [if_pos hl] at hz; cases hz
          refine ha.ev S0 H0 S σ H R x h1 H1 e1 _ fun v H2 e2 r1 => ?_
          refine hb.ev S0 H0 S σ H R y h2 H2 (e1.trans e2) _ fun u H3 e3 r2 => ?_
          have r1 := Rp.ex e3 (Rp.up (fun a z _ => nw_up (Sof.l (b := mb)) a z) r1)
          have r2 := Rp.up (fun a z _ => nw_ex e2 a (nw_up (Sof.r (a := ma)) a z)) r2
          obtain ⟨p, vs, rfl, _, hp, pr⟩ := r1
          obtain ⟨p', us, rfl, _, hp', pr'⟩ := r2
          refine ⟨p, p', vs, us, rfl, rfl, hp, hp', by rw [pr.length, pr'.length]; exact Evl.sz_of hl, fun l hl => ?_⟩
          have ex : Ex H3 (upd H3 l (.lst (vs ++ us))) := Evl.Ex.new hl
          exact q _ _ ((e2.trans e3).trans ex) ⟨l, _, rfl, .inr (Evl.fresh_back (e2.trans e3) hl), upd_same, paired_append (paired_mono pr fun _ _ => Rp.ex ex) (paired_mono pr' fun _ _ => Rp.ex ex)⟩
        · rw [if_neg hl] at hz; cases hz⟩
def rLenS (K : PySem.W.Frag) : List V → Hp → VK → Prop := fun xs H Q => ∃ p ys, xs = [.ref p] ∧ (SqL K H p ys ∨ SqT K H p ys) ∧ Q (.int ys.length) H
/-- len(xs) -/
theorem je_len {α : Type} [Rp α] {m : Option (List α)} {p : Pos} (hm : c.mg "len" = none) (ha : JE c a ta Γ ma m) (hg : GlS c.sc "len" := by rfl) (hs : ∀ env, starEach (a :: []) env = (false, eval a env) :: starEach [] env := by intro _; rfl)
    (hpl : ∀ (env : Env) (p : Pos), (backTo p (starEach [] env)).any (·.1) = false := by intro _ _; rfl) :
    JE c (.Call (.Name "len" p) [a] [] pos) (tCB (rLenS c.K) (tCons ta tNil)) Γ .fr (m.bind fun x => some (x.length : Int)) :=
  ⟨fun X F => by rw [← F.hK]; exact pe_callB call_len_seq (F.gl hg) (by rw [F.hmg]; exact hm) PySem.boot_len (pa_cons (ha.pe X F) pa_nil (hs _)) (by decide) (by decide) (hs _) (hpl _ _), fun S0 H0 S σ H R z hz H1 e1 Q q => by
    cases h : m with
    | none => rw [h] at hz; cases hz
    | some x =>
      rw [h] at hz; cases hz
      refine ha.ev S0 H0 S σ H R x h H1 e1 _ fun v H2 e2 r => ?_
      obtain ⟨p, vs, rfl, _, hp, pr⟩ := r
      refine ⟨p, vs, rfl, .inl (SqL.of hp), ?_⟩
      rw [pr.length]
      exact q _ H2 e2 rfl⟩
end
end Sm
end

section
set_option maxRecDepth 100000
set_option maxHeartbeats 4000000
namespace Sm
open PySem L2
section
variable {c : Stc} {Γ : List Sl} {a b d e' e : Expr} {ta tb td te : TE} {tt tu : TT} {ma mb md : Md} {pos : Pos}

/-! ### tests -/
theorem jt_op {α β : Type} [Rp α] [Rp β] {m1 : Option α} {m2 : Option β} {r : R2} (g : α → β → Option Bool) (mk : ∀ X, Fam c X → PE X a ta → PE X b tb → PT X e' (tTest (tOp r ta tb)))
    (hj : JE c d te Γ .fr (m1.bind fun x => m2.bind fun y => g x y)) (ht : te = tOp r ta tb)
    (ha : JE c a ta Γ ma m1) (hb : JE c b tb Γ mb m2) : JT c e' (tTest (tOp r ta tb)) Γ (m1.bind fun x => m2.bind fun y => g x y) :=
  ⟨fun X F => mk X F (ha.pe X F) (hb.pe X F), fun S0 H0 S σ H R z hz H1 e1 Q q => by
    subst ht
    exact hj.ev S0 H0 S σ H R z hz H1 e1 _ fun v H2 e2 r => ⟨z, r, q H2 e2⟩⟩

theorem jt_lt {m1 m2 : Option Int} (ha : JE c a ta Γ ma m1) (hb : JE c b tb Γ mb m2) : JT c (.Compare a [.Lt] [b] pos) (tTest (tOp (rI0 fun i j => Lit.e (decide (i < j))) ta tb)) Γ (m1.bind fun x => m2.bind fun y => oLt x y) :=
  jt_op oLt (fun X F p q => pt_cmpR op_lt p q (nomark _)) (je_lt (pos := pos) ha hb) rfl ha hb

theorem jt_le {m1 m2 : Option Int} (ha : JE c a ta Γ ma m1) (hb : JE c b tb Γ mb m2) : JT c (.Compare a [.LtE] [b] pos) (tTest (tOp (rI0 fun i j => Lit.e (decide (i ≤ j))) ta tb)) Γ (m1.bind fun x => m2.bind fun y => oLe x y) :=
  jt_op oLe (fun X F p q => pt_cmpR op_le p q (nomark _)) (je_le (pos := pos) ha hb) rfl ha hb

theorem jt_gt {m1 m2 : Option Int} (ha : JE c a ta Γ ma m1) (hb : JE c b tb Γ mb m2) : JT c (.Compare a [.Gt] [b] pos) (tTest (tOp (rI0 fun i j => Lit.e (decide (j < i))) ta tb)) Γ (m1.bind fun x => m2.bind fun y => oGt x y) :=
  jt_op oGt (fun X F p q => pt_cmpR op_gt p q (nomark _)) (je_gt (pos := pos) ha hb) rfl ha hb

theorem jt_ge {m1 m2 : Option Int} (ha : JE c a ta Γ ma m1) (hb : JE c b tb Γ mb m2) : JT c (.Compare a [.GtE] [b] pos) (tTest (tOp (rI0 fun i j => Lit.e (decide (j ≤ i))) ta tb)) Γ (m1.bind fun x => m2.bind fun y => oGe x y) :=
  jt_op oGe (fun X F p q => pt_cmpR op_ge p q (nomark _)) (je_ge (pos := pos) ha hb) rfl ha hb

theorem jt_eq {α : Type} [Lit α] [Eqs α] {m1 m2 : Option α} (ha : JE c a ta Γ ma m1) (hb : JE c b tb Γ mb m2) : JT c (.Compare a [.Eq] [b] pos) (tTest (tOp rEq ta tb)) Γ (m1.bind fun x => m2.bind fun y => oEq x y) :=
  jt_op oEq (fun X F p q => pt_cmpR op_eq p q (nomark _)) (je_eq (pos := pos) ha hb) rfl ha hb

theorem jt_ne {α : Type} [Lit α] [Eqs α] {m1 m2 : Option α} (ha : JE c a ta Γ ma m1) (hb : JE c b tb Γ mb m2) : JT c (.Compare a [.NotEq] [b] pos) (tTest (tOp rNe ta tb)) Γ (m1.bind fun x => m2.bind fun y => oNe x y) :=
  jt_op oNe (fun X F p q => pt_cmpR op_ne p q (nomark _)) (je_ne (pos := pos) ha hb) rfl ha hb

theorem jt_in {α : Type} [Lit α] [Eqs α] {m1 : Option α} {m2 : Option (List α)} (ha : JE c a ta Γ ma m1) (hb : JE c b tb Γ mb m2) (hm : behindInMarks .In b = false := by with_unfolding_all rfl) : JT c (.Compare a [.In] [b] pos) (tTest (tOp (rIn c.K false) ta tb)) Γ (m1.bind fun x => m2.bind fun y => oIn x y) :=
  jt_op oIn (fun X F p q => by rw [← F.hK]; exact pt_cmpR op_in_seq p q hm) (je_in (pos := pos) ha hb hm) rfl ha hb

theorem jt_ni {α : Type} [Lit α] [Eqs α] {m1 : Option α} {m2 : Option (List α)} (ha : JE c a ta Γ ma m1) (hb : JE c b tb Γ mb m2) (hm : behindInMarks .NotIn b = false := by with_unfolding_all rfl) : JT c (.Compare a [.NotIn] [b] pos) (tTest (tOp (rIn c.K true) ta tb)) Γ (m1.bind fun x => m2.bind fun y => oNi x y) :=
  jt_op oNi (fun X F p q => by rw [← F.hK]; exact pt_cmpR op_notIn_seq p q hm) (je_ni (pos := pos) ha hb hm) rfl ha hb

theorem jt_isN {m : Option (Option Str)} {k p} (ha : JE c a ta Γ ma m) : JT c (.Compare a [.Is] [.Constant .none k p] pos) (tTest (tOp (fun x y H Q => y = .non ∧ Q (.bl (decide (x = .non))) H) ta (tC .non))) Γ (m.bind fun x => some (x.isNone)) :=
  ⟨fun X F => pt_cmpR op_isN (ha.pe X F) pe_non (nomark _), fun S0 H0 S σ H R z hz H1 e1 Q q =>
    (je_isN (pos := pos) (k := k) (p := p) ha).ev S0 H0 S σ H R z hz H1 e1 _ fun v H2 e2 r => ⟨z, r, q H2 e2⟩⟩

theorem jt_notN {m : Option (Option Str)} {k p} (ha : JE c a ta Γ ma m) : JT c (.Compare a [.IsNot] [.Constant .none k p] pos) (tTest (tOp (fun x y H Q => y = .non ∧ Q (.bl (!decide (x = .non))) H) ta (tC .non))) Γ (m.bind fun x => some (!x.isNone)) :=
  ⟨fun X F => pt_cmpR op_notN (ha.pe X F) pe_non (nomark _), fun S0 H0 S σ H R z hz H1 e1 Q q =>
    (je_notN (pos := pos) (k := k) (p := p) ha).ev S0 H0 S σ H R z hz H1 e1 _ fun v H2 e2 r => ⟨z, r, q H2 e2⟩⟩


/-- a call, a name .. that is True or False -/
theorem jt_val {m : Option Bool} (h : JE c e te Γ ma m) (he : ∀ (env : Env) (whole : Sem Value), isTrue e env whole = (do let v ← whole; standAt e.pos; holding [v] (truthy v)) := by intro _ _; rfl) : JT c e (tB te) Γ m :=
  ⟨fun X F => pt_val (h.pe X F) (he X.env), fun S0 H0 S σ H R z hz H1 e1 Q q => h.ev S0 H0 S σ H R z hz H1 e1 _ fun v H2 e2 r => ⟨z, r, q H2 e2⟩⟩
theorem jt_not {m : Option Bool} (h : JT c e tt Γ m) : JT c (.UnaryOp .Not e pos) (tNot tt) Γ (m.bind fun b => some !b) :=
  ⟨fun X F => pt_not (h.pt X F), fun S0 H0 S σ H R z hz H1 e1 Q q => by
    cases h1 : m with
    | none => rw [h1] at hz; cases hz
    | some b =>
      rw [h1] at hz; cases hz
      exact h.ev S0 H0 S σ H R b h1 H1 e1 _ fun H2 e2 => q H2 e2⟩
/-- a list's truth -/
theorem jt_truth {α : Type} [Rp α] {m : Option (List α)} (h : JE c e te Γ ma m) (he : ∀ (env : Env) (whole : Sem Value), isTrue e env whole = (do let v ← whole; standAt e.pos; holding [v] (truthy v)) := by intro _ _; rfl) :
    JT c e (fun σ H Q => te σ H fun x H' => ∃ k, TruV c.K x H' k ∧ Q k H') Γ (m.bind fun x => some !x.isEmpty) :=
  ⟨fun X F => by rw [← F.hK]; exact pt_truth (h.pe X F) (he X.env), fun S0 H0 S σ H R z hz H1 e1 Q q => by
    cases h1 : m with
    | none => rw [h1] at hz; cases hz
    | some x =>
      rw [h1] at hz; cases hz
      refine h.ev S0 H0 S σ H R x h1 H1 e1 _ fun v H2 e2 r => ?_
      obtain ⟨p, vs, rfl, _, hp, pr⟩ := r
      refine ⟨!x.isEmpty, .inl ⟨vs, SqL.of hp, ?_⟩, q H2 e2⟩
      cases pr <;> rfl⟩
/-- and, or as tests -/
structure JW (c : Stc) (e : Expr) (tt : TT) (Γ : List Sl) (m : Option Bool) : Prop where
  pw : ∀ X, Fam c X → PW X e tt
  ev : ∀ S0 H0 S σ H, StR c.K S0 H0 S Γ σ H → ∀ b, m = some b → EvB tt σ H b
theorem jw_and1 {m : Option Bool} (h : JT c e tt Γ m) : JW c (.BoolOp .And [e] pos) tt Γ m := ⟨fun X F => pw_and1 (h.pt X F), h.ev⟩
theorem jw_or1 {m : Option Bool} (h : JT c e tt Γ m) : JW c (.BoolOp .Or [e] pos) tt Γ m := ⟨fun X F => pw_or1 (h.pt X F), h.ev⟩
theorem jw_and {es : List Expr} {m1 m2 : Option Bool} (h : JT c e tt Γ m1) (h2 : JW c (.BoolOp .And (a :: es) pos) tu Γ m2) : JW c (.BoolOp .And (e :: a :: es) pos) (tAnd tt tu) Γ (m1.bind fun x => if x then m2 else some false) :=
  ⟨fun X F => pw_and (h.pt X F) (h2.pw X F), fun S0 H0 S σ H R z hz H1 e1 Q q => by
    cases h1 : m1 with
    | none => rw [h1] at hz; cases hz
    | some x =>
      rw [h1] at hz
      refine h.ev S0 H0 S σ H R x h1 H1 e1 _ fun H2 e2 => ?_
      cases x with
      | true =>
        refine iteT (h2.ev S0 H0 S σ H R z hz H2 (e1.trans e2) _ fun H3 e3 => q H3 (e2.trans e3))
      | false =>
        cases hz
        exact iteF (q H2 e2)⟩
theorem jw_or {es : List Expr} {m1 m2 : Option Bool} (h : JT c e tt Γ m1) (h2 : JW c (.BoolOp .Or (a :: es) pos) tu Γ m2) : JW c (.BoolOp .Or (e :: a :: es) pos) (tOr tt tu) Γ (m1.bind fun x => if x then some true else m2) :=
  ⟨fun X F => pw_or (h.pt X F) (h2.pw X F), fun S0 H0 S σ H R z hz H1 e1 Q q => by
    cases h1 : m1 with
    | none => rw [h1] at hz; cases hz
    | some x =>
      rw [h1] at hz
      refine h.ev S0 H0 S σ H R x h1 H1 e1 _ fun H2 e2 => ?_
      cases x with
      | true =>
        cases hz
        exact iteT (q H2 e2)
      | false =>
        refine iteF (h2.ev S0 H0 S σ H R z hz H2 (e1.trans e2) _ fun H3 e3 => q H3 (e2.trans e3))⟩
theorem jt_w {m : Option Bool} (h : JW c e tt Γ m) : JT c e tt Γ m := ⟨fun X F => (h.pw X F).pt, h.ev⟩

/-! ### and, or, not, if as values -/
theorem je_one {op} {m : Option Bool} (h : JE c e te Γ ma m) : JE c (.BoolOp op [e] pos) te Γ .fr m := ⟨fun X F => pe_one (h.pe X F), (h.lit .fr).ev⟩
theorem je_and {es : List Expr} {m1 m2 : Option Bool} (h : JE c e te Γ ma m1) (h2 : JE c (.BoolOp .And (a :: es) pos) ta Γ mb m2) : JE c (.BoolOp .And (e :: a :: es) pos) (tAndV te ta) Γ .fr (m1.bind fun x => if x then m2 else some false) :=
  ⟨fun X F => pe_and (h.pe X F) (h2.pe X F), fun S0 H0 S σ H R z hz H1 e1 Q q => by
    cases h1 : m1 with
    | none => rw [h1] at hz; cases hz
    | some x =>
      rw [h1] at hz
      refine h.ev S0 H0 S σ H R x h1 H1 e1 _ fun v H2 e2 r => ⟨x, r, ?_⟩
      cases x with
      | true =>
        refine iteT (h2.ev S0 H0 S σ H R z hz H2 (e1.trans e2) _ fun v H3 e3 r => q v H3 (e2.trans e3) r)
      | false =>
        cases hz
        exact iteF (q _ H2 e2 rfl)⟩
theorem je_or {es : List Expr} {m1 m2 : Option Bool} (h : JE c e te Γ ma m1) (h2 : JE c (.BoolOp .Or (a :: es) pos) ta Γ mb m2) : JE c (.BoolOp .Or (e :: a :: es) pos) (tOrV te ta) Γ .fr (m1.bind fun x => if x then some true else m2) :=
  ⟨fun X F => pe_or (h.pe X F) (h2.pe X F), fun S0 H0 S σ H R z hz H1 e1 Q q => by
    cases h1 : m1 with
    | none => rw [h1] at hz; cases hz
    | some x =>
      rw [h1] at hz
      refine h.ev S0 H0 S σ H R x h1 H1 e1 _ fun v H2 e2 r => ⟨x, r, ?_⟩
      cases x with
      | true =>
        cases hz
        exact iteT (q _ H2 e2 rfl)
      | false =>
        refine iteF (h2.ev S0 H0 S σ H R z hz H2 (e1.trans e2) _ fun v H3 e3 r => q v H3 (e2.trans e3) r)⟩
theorem je_not {m : Option Bool} (h : JE c e te Γ ma m) : JE c (.UnaryOp .Not e pos) (tNotV te) Γ .fr (m.bind fun b => some !b) :=
  ⟨fun X F => pe_not (h.pe X F), fun S0 H0 S σ H R z hz H1 e1 Q q => by
    cases h1 : m with
    | none => rw [h1] at hz; cases hz
    | some b =>
      rw [h1] at hz; cases hz
      exact h.ev S0 H0 S σ H R b h1 H1 e1 _ fun v H2 e2 r => ⟨b, r, q _ H2 e2 rfl⟩⟩
theorem je_notL {α : Type} [Rp α] {m : Option (List α)} (h : JE c e te Γ ma m) : JE c (.UnaryOp .Not e pos) (tNotT c.K te) Γ .fr (m.bind fun x => some x.isEmpty) :=
  ⟨fun X F => by rw [← F.hK]; exact pe_notT (h.pe X F), fun S0 H0 S σ H R z hz H1 e1 Q q => by
    cases h1 : m with
    | none => rw [h1] at hz; cases hz
    | some x =>
      rw [h1] at hz; cases hz
      refine h.ev S0 H0 S σ H R x h1 H1 e1 _ fun v H2 e2 r => ?_
      obtain ⟨p, vs, rfl, _, hp, pr⟩ := r
      refine ⟨!x.isEmpty, .inl ⟨vs, SqL.of hp, ?_⟩, q _ H2 e2 ?_⟩
      · cases pr <;> rfl
      · cases x <;> rfl⟩
theorem je_if {α : Type} [Rp α] {m : Option Bool} {m1 m2 : Option α} (h : JT c e tt Γ m) (ha : JE c a ta Γ ma m1) (hb : JE c b tb Γ mb m2) : JE c (.IfExp e a b pos) (tIf tt ta tb) Γ (ma.sup mb) (m.bind fun x => if x then m1 else m2) :=
  ⟨fun X F => pe_ifExp (h.pt X F) (ha.pe X F) (hb.pe X F), fun S0 H0 S σ H R z hz H1 e1 Q q => by
    cases h1 : m with
    | none => rw [h1] at hz; cases hz
    | some x =>
      rw [h1] at hz
      refine h.ev S0 H0 S σ H R x h1 H1 e1 _ fun H2 e2 => ?_
      cases x with
      | true => exact iteT (ha.ev S0 H0 S σ H R z hz H2 (e1.trans e2) _ fun v H3 e3 r => q v H3 (e2.trans e3) (Rp.up (fun a z _ => nw_ex e2 a (nw_up (Sof.l) a z)) r))
      | false => exact iteF (hb.ev S0 H0 S σ H R z hz H2 (e1.trans e2) _ fun v H3 e3 r => q v H3 (e2.trans e3) (Rp.up (fun a z _ => nw_ex e2 a (nw_up (Sof.r) a z)) r))⟩

/-! ### chains -/
theorem je_chain {α β γ : Type} [Rp α] [Rp β] [Rp γ] {op op' : CmpOp} {m1 : Option α} {m2 : Option β} {m3 : Option γ} {r r' : R2} (g : α → β → Bool) (g' : β → γ → Bool) (ho : ∀ X, Fam c X → OpR X (compareOp op) r) (ho' : ∀ X, Fam c X → OpR X (compareOp op') r')
    (hr : ∀ x y v u H, Rp.r c.K all H v x → Rp.r c.K all H u y → ∀ Q : VK, Q (.bl (g x y)) H → r v u H Q) (hr' : ∀ x y v u H, Rp.r c.K all H v x → Rp.r c.K all H u y → ∀ Q : VK, Q (.bl (g' x y)) H → r' v u H Q)
    (ha : JE c a ta Γ ma m1) (hb : JE c b tb Γ mb m2) (hd : JE c d td Γ md m3) (hm : lastMarks [op, op'] [b, d] = false) : JE c (.Compare a [op, op'] [b, d] pos) (tChain r r' ta tb td) Γ .fr (m1.bind fun x => m2.bind fun y => if g x y then m3.bind fun z => some (g' y z) else some false) :=
  ⟨fun X F => pe_chain (ho X F) (ho' X F) (ha.pe X F) (hb.pe X F) (hd.pe X F) hm, fun S0 H0 S σ H R z hz H1 e1 Q q => by
    cases h1 : m1 with
    | none => rw [h1] at hz; cases hz
    | some x =>
      cases h2 : m2 with
      | none => rw [h1, h2] at hz; cases hz
      | some y =>
        rw [h1, h2] at hz
        have hz : (if g x y then m3.bind fun z => some (g' y z) else some false) = some z := hz
        refine ha.ev S0 H0 S σ H R x h1 H1 e1 _ fun v H2 e2 r1 => ?_
        refine hb.ev S0 H0 S σ H R y h2 H2 (e1.trans e2) _ fun u H3 e3 r2 => ?_
        refine hr x y v u H3 (Rp.exall e3 r1) (Rp.all r2) _ ⟨_, rfl, ?_⟩
        cases hg : g x y with
        | true =>
          rw [hg] at hz
          refine iteT ?_
          cases h3 : m3 with
          | none => rw [h3] at hz; cases hz
          | some w =>
            rw [h3] at hz
            have hz : some (g' y w) = some z := hz
            cases hz
            refine hd.ev S0 H0 S σ H R w h3 H3 ((e1.trans e2).trans e3) _ fun t H4 e4 r3 => ?_
            exact hr' y w u t H4 (Rp.exall e4 r2) (Rp.all r3) _ (q _ H4 ((e2.trans e3).trans e4) rfl)
        | false =>
          rw [hg] at hz
          cases hz
          exact iteF (q _ H3 (e2.trans e3) rfl)⟩
theorem jt_chain {op op' : CmpOp} {m : Option Bool} {r r' : R2} (h : JE c (.Compare a [op, op'] [b, d] pos) (tChain r r' ta tb td) Γ ma m) (ho : ∀ X, Fam c X → OpR X (compareOp op) r) (ho' : ∀ X, Fam c X → OpR X (compareOp op') r') (ha : ∀ X, Fam c X → PE X a ta) (hb : ∀ X, Fam c X → PE X b tb) (hd : ∀ X, Fam c X → PE X d td)
    (hm : lastMarks [op, op'] [b, d] = false) : JT c (.Compare a [op, op'] [b, d] pos) (tTest (tChain r r' ta tb td)) Γ m :=
  ⟨fun X F => pt_chain (ho X F) (ho' X F) (ha X F) (hb X F) (hd X F) hm, fun S0 H0 S σ H R z hz H1 e1 Q q => h.ev S0 H0 S σ H R z hz H1 e1 _ fun v H2 e2 r => ⟨z, r, q H2 e2⟩⟩
theorem je_leLe {m1 m2 m3 : Option Int} (ha : JE c a ta Γ ma m1) (hb : JE c b tb Γ mb m2) (hd : JE c d td Γ md m3) (hm : lastMarks [.LtE, .LtE] [b, d] = false := by with_unfolding_all rfl) :
    JE c (.Compare a [.LtE, .LtE] [b, d] pos) (tChain (rI0 fun i j => .bl (decide (i ≤ j))) (rI0 fun i j => .bl (decide (i ≤ j))) ta tb td) Γ .fr (m1.bind fun x => m2.bind fun y => if (decide (x ≤ y)) then m3.bind fun z => some (decide (y ≤ z)) else some false) :=
  je_chain (fun x y => decide (x ≤ y)) (fun x y => decide (x ≤ y)) (fun _ _ => op_le) (fun _ _ => op_le) (fun x y v u H h1 h2 Q q => ⟨x, y, h1, h2, q⟩) (fun x y v u H h1 h2 Q q => ⟨x, y, h1, h2, q⟩) ha hb hd hm
theorem jt_leLe {m1 m2 m3 : Option Int} (ha : JE c a ta Γ ma m1) (hb : JE c b tb Γ mb m2) (hd : JE c d td Γ md m3) (hm : lastMarks [.LtE, .LtE] [b, d] = false := by with_unfolding_all rfl) :
    JT c (.Compare a [.LtE, .LtE] [b, d] pos) (tTest (tChain (rI0 fun i j => .bl (decide (i ≤ j))) (rI0 fun i j => .bl (decide (i ≤ j))) ta tb td)) Γ (m1.bind fun x => m2.bind fun y => if (decide (x ≤ y)) then m3.bind fun z => some (decide (y ≤ z)) else some false) :=
  jt_chain (je_leLe ha hb hd hm) (fun _ _ => op_le) (fun _ _ => op_le) ha.pe hb.pe hd.pe hm
def sLe (x y : Str) : Bool := !decide (y.cps.toList < x.cps.toList)
theorem je_sleSle {m1 m2 m3 : Option Str} (ha : JE c a ta Γ ma m1) (hb : JE c b tb Γ mb m2) (hd : JE c d td Γ md m3) (hm : lastMarks [.LtE, .LtE] [b, d] = false := by with_unfolding_all rfl) :
    JE c (.Compare a [.LtE, .LtE] [b, d] pos) (tChain (fun x y H Q => ∃ i j, x = .str i ∧ y = .str j ∧ Q (.bl (!decide (j.cps.toList < i.cps.toList))) H) (fun x y H Q => ∃ i j, x = .str i ∧ y = .str j ∧ Q (.bl (!decide (j.cps.toList < i.cps.toList))) H) ta tb td) Γ .fr (m1.bind fun x => m2.bind fun y => if sLe x y then m3.bind fun z => some (sLe y z) else some false) :=
  je_chain sLe sLe (fun _ _ => op_le_str) (fun _ _ => op_le_str) (fun x y v u H h1 h2 Q q => ⟨x, y, h1, h2, q⟩) (fun x y v u H h1 h2 Q q => ⟨x, y, h1, h2, q⟩) ha hb hd hm

/-! ### displays, slices -/
structure JA (c : Stc) (es : List Expr) (ta : TA) (Γ : List Sl) (md : Md) {P : Type} (m : Option P) (G : PySem.W.Frag → Ft → Hp → List V → P → Prop) : Prop where
  pa : ∀ X, Fam c X → PA X es ta
  ev : ∀ S0 H0 S σ H, StR c.K S0 H0 S Γ σ H → ∀ x, m = some x → ∀ H1, Ex H H1 → ∀ Q : List V → Hp → Prop, (∀ vs H2, Ex H1 H2 → G c.K (nw (Sof md S H) H1) H2 vs x → Q vs H2) → ta σ H1 Q
def GN : PySem.W.Frag → Ft → Hp → List V → Unit → Prop := fun _ _ _ vs _ => vs = []
def GC (α : Type) [Rp α] {P : Type} (G : PySem.W.Frag → Ft → Hp → List V → P → Prop) : PySem.W.Frag → Ft → Hp → List V → (α × P) → Prop := fun K S H vs x => ∃ v r, vs = v :: r ∧ Rp.r K S H v x.1 ∧ G K S H r x.2
/-- what a G keeps -/
class Gk {P : Type} (G : PySem.W.Frag → Ft → Hp → List V → P → Prop) : Prop where
  fr : ∀ {K : PySem.W.Frag} {S S' : Ft} {H H' : Hp} {vs : List V} {x : P}, (∀ a, S a → H a ≠ none → S' a) → Ex H H' → G K S H vs x → G K S' H' vs x
instance gkN : Gk GN := ⟨fun _ _ h => h⟩
instance gkC {α : Type} [Rp α] {P : Type} {G : PySem.W.Frag → Ft → Hp → List V → P → Prop} [Gk G] : Gk (GC α G) := ⟨fun hs e ⟨v, r, ev, h, g⟩ => ⟨v, r, ev, Rp.fr hs (fv_ex e) h, Gk.fr hs e g⟩⟩
theorem ja_nil : JA c [] tNil Γ .fr (some ()) GN := ⟨fun X F => pa_nil, fun S0 H0 S σ H R x hx H1 e1 Q q => q [] H1 (Evl.Ex.refl H1) rfl⟩
theorem ja_cons {α P : Type} [Rp α] {G : PySem.W.Frag → Ft → Hp → List V → P → Prop} [Gk G] {es : List Expr} {tr : TA} {m1 : Option α} {m2 : Option P} (h : JE c e te Γ ma m1) (h2 : JA c es tr Γ mb m2 G) (hs : ∀ env, starEach (e :: es) env = (false, eval e env) :: starEach es env := by intro _; rfl) :
    JA c (e :: es) (tCons te tr) Γ (ma.sup mb) (m1.bind fun x => m2.bind fun y => some (x, y)) (GC α G) :=
  ⟨fun X F => pa_cons (h.pe X F) (h2.pa X F) (hs _), fun S0 H0 S σ H R z hz H1 e1 Q q => by
    cases h1 : m1 with
    | none => rw [h1] at hz; cases hz
    | some x =>
      cases hh : m2 with
      | none => rw [h1, hh] at hz; cases hz
      | some y =>
        rw [h1, hh] at hz
        have hz : some (x, y) = some z := hz
        cases hz
        refine h.ev S0 H0 S σ H R x h1 H1 e1 _ fun v H2 e2 r1 => ?_
        refine h2.ev S0 H0 S σ H R y hh H2 (e1.trans e2) _ fun vs H3 e3 r2 => ?_
        exact q _ H3 (e2.trans e3) ⟨v, vs, rfl, Rp.ex e3 (Rp.up (fun a z _ => nw_up (Sof.l) a z) r1), Gk.fr (fun a z _ => nw_ex e2 a (nw_up (Sof.r) a z)) (Evl.Ex.refl H3) r2⟩⟩
theorem je_disp {α P : Type} [Rp α] {G : PySem.W.Frag → Ft → Hp → List V → P → Prop} [Gk G] {es : List Expr} {tr : TA} {m : Option P} {x1} (g : P → α) (h : JA c es tr Γ ma m G)
    (hg : ∀ K S H vs x p, G K S H vs x → S p → H p = some (.tup vs) → vs.length ≤ 100000 ∧ Rp.r K S H (.ref p) (g x)) (hl : ∀ K S H vs x, G K S H vs x → vs.length ≤ 100000) : JE c (.Tuple es x1 pos) (tTup tr) Γ ma (m.bind fun x => some (g x)) :=
  ⟨fun X F => pe_tup (h.pa X F), fun S0 H0 S σ H R z hz H1 e1 Q q => by
    cases h1 : m with
    | none => rw [h1] at hz; cases hz
    | some x =>
      rw [h1] at hz; cases hz
      refine h.ev S0 H0 S σ H R x h1 H1 e1 _ fun vs H2 e2 r => ⟨Evl.sz_of (hl _ _ _ _ _ r), fun p hp => ?_⟩
      have ex : Ex H2 (upd H2 p (.tup vs)) := Evl.Ex.new hp
      exact q _ _ (e2.trans ex) (hg _ _ _ _ _ _ (Gk.fr (fun _ z _ => z) ex r) (.inr (Evl.fresh_back e2 hp)) upd_same).2⟩
theorem je_t2 {α β : Type} [Rp α] [Rp β] {es : List Expr} {tr : TA} {m : Option (α × β × Unit)} {x1} (h : JA c es tr Γ ma m (GC α (GC β GN))) : JE c (.Tuple es x1 pos) (tTup tr) Γ ma (m.bind fun x => some (T2.mk x.1 x.2.1)) :=
  je_disp _ h (by
    rintro K S H vs x p ⟨v1, _, rfl, h1, v2, _, rfl, h2, rfl⟩ sp hp
    exact ⟨by show 2 ≤ 100000; decide, p, v1, v2, rfl, sp, hp, h1, h2⟩) (by rintro K S H vs x ⟨v1, _, rfl, h1, v2, _, rfl, h2, rfl⟩; show 2 ≤ 100000; decide)
theorem je_t3 {α β γ : Type} [Rp α] [Rp β] [Rp γ] {es : List Expr} {tr : TA} {m : Option (α × β × γ × Unit)} {x1} (h : JA c es tr Γ ma m (GC α (GC β (GC γ GN)))) : JE c (.Tuple es x1 pos) (tTup tr) Γ ma (m.bind fun x => some (T3.mk x.1 x.2.1 x.2.2.1)) :=
  je_disp _ h (by
    rintro K S H vs x p ⟨v1, _, rfl, h1, v2, _, rfl, h2, v3, _, rfl, h3, rfl⟩ sp hp
    exact ⟨by show 3 ≤ 100000; decide, p, v1, v2, v3, rfl, sp, hp, h1, h2, h3⟩) (by rintro K S H vs x ⟨v1, _, rfl, h1, v2, _, rfl, h2, v3, _, rfl, h3, rfl⟩; show 3 ≤ 100000; decide)
theorem je_t5 {α β γ δ ε : Type} [Rp α] [Rp β] [Rp γ] [Rp δ] [Rp ε] {es : List Expr} {tr : TA} {m : Option (α × β × γ × δ × ε × Unit)} {x1} (h : JA c es tr Γ ma m (GC α (GC β (GC γ (GC δ (GC ε GN)))))) : JE c (.Tuple es x1 pos) (tTup tr) Γ ma (m.bind fun x => some (T5.mk x.1 x.2.1 x.2.2.1 x.2.2.2.1 x.2.2.2.2.1)) :=
  je_disp _ h (by
    rintro K S H vs x p ⟨v1, _, rfl, h1, v2, _, rfl, h2, v3, _, rfl, h3, v4, _, rfl, h4, v5, _, rfl, h5, rfl⟩ sp hp
    exact ⟨by show 5 ≤ 100000; decide, p, v1, v2, v3, v4, v5, rfl, sp, hp, h1, h2, h3, h4, h5⟩) (by rintro K S H vs x ⟨v1, _, rfl, h1, v2, _, rfl, h2, v3, _, rfl, h3, v4, _, rfl, h4, v5, _, rfl, h5, rfl⟩; show 5 ≤ 100000; decide)
/-- a written list: its items as a list -/
structure JL (c : Stc) (es : List Expr) (ta : TA) (Γ : List Sl) (md : Md) {α : Type} [Rp α] (m : Option (List α)) : Prop where
  pa : ∀ X, Fam c X → PA X es ta
  ev : ∀ S0 H0 S σ H, StR c.K S0 H0 S Γ σ H → ∀ xs, m = some xs → ∀ H1, Ex H H1 → ∀ Q : List V → Hp → Prop, (∀ vs H2, Ex H1 H2 → PySem.Paired (Rp.r c.K (nw (Sof md S H) H1) H2) vs xs → Q vs H2) → ta σ H1 Q
theorem jl_nil {α : Type} [Rp α] : JL c [] tNil Γ .fr (some ([] : List α)) := ⟨fun X F => pa_nil, fun S0 H0 S σ H R x hx H1 e1 Q q => by cases hx; exact q [] H1 (Evl.Ex.refl H1) .nil⟩
theorem jl_cons {α : Type} [Rp α] {es : List Expr} {tr : TA} {m1 : Option α} {m2 : Option (List α)} (h : JE c e te Γ ma m1) (h2 : JL c es tr Γ mb m2) (hs : ∀ env, starEach (e :: es) env = (false, eval e env) :: starEach es env := by intro _; rfl) :
    JL c (e :: es) (tCons te tr) Γ (ma.sup mb) (m1.bind fun x => m2.bind fun y => some (x :: y)) :=
  ⟨fun X F => pa_cons (h.pe X F) (h2.pa X F) (hs _), fun S0 H0 S σ H R z hz H1 e1 Q q => by
    cases h1 : m1 with
    | none => rw [h1] at hz; cases hz
    | some x =>
      cases hh : m2 with
      | none => rw [h1, hh] at hz; cases hz
      | some y =>
        rw [h1, hh] at hz
        have hz : some (x :: y) = some z := hz
        cases hz
        refine h.ev S0 H0 S σ H R x h1 H1 e1 _ fun v H2 e2 r1 => ?_
        refine h2.ev S0 H0 S σ H R y hh H2 (e1.trans e2) _ fun vs H3 e3 r2 => ?_
        exact q _ H3 (e2.trans e3) (.cons (Rp.ex e3 (Rp.up (fun a z _ => nw_up (Sof.l) a z) r1)) (paired_mono r2 fun _ _ z => Rp.up (fun a z _ => nw_ex e2 a (nw_up (Sof.r) a z)) z))⟩
theorem je_list {α : Type} [Rp α] {es : List Expr} {tr : TA} {m : Option (List α)} (h : JL c es tr Γ ma m) : JE c (.List es pos) (tLst tr) Γ ma (m.bind fun x => if x.length ≤ 100000 then some x else none) :=
  ⟨fun X F => pe_lst (h.pa X F), fun S0 H0 S σ H R z hz H1 e1 Q q => by
    cases h1 : m with
    | none => rw [h1] at hz; cases hz
    | some x =>
      rw [h1] at hz
      have hz : (if x.length ≤ 100000 then some x else none) = some z := hz
      by_cases hl : x.length ≤ 100000
      · rw [if_pos hl] at hz; have hz := Option.some.inj hz; subst hz
        refine h.ev S0 H0 S σ H R x h1 H1 e1 _ fun vs H2 e2 r => ⟨by rw [r.length]; exact Evl.sz_of hl, fun p hp => ?_⟩
        have ex : Ex H2 (upd H2 p (.lst vs)) := Evl.Ex.new hp
        exact q _ _ (e2.trans ex) ⟨p, vs, rfl, .inr (Evl.fresh_back e2 hp), upd_same, paired_mono r fun _ _ => Rp.ex ex⟩
      · rw [if_neg hl] at hz; cases hz⟩
theorem je_nil {α : Type} [Rp α] : JE c (.List [] pos) (tLst tNil) Γ .fr (some ([] : List α)) := je_list jl_nil
end
end Sm
end

section
set_option maxRecDepth 100000
set_option maxHeartbeats 4000000
namespace Sm
open PySem L2
section
variable {c : Stc} {Γ : List Sl} {a b d e' e : Expr} {ta tb td te : TE} {tt tu : TT} {ma mb md : Md} {pos : Pos}

/-! ### slices -/
structure JO (c : Stc) (e : Option Expr) (to : TO) (Γ : List Sl) (m : Option (Option Int)) : Prop where
  po : ∀ X, Fam c X → PO X e to
  ev : ∀ S0 H0 S σ H, StR c.K S0 H0 S Γ σ H → ∀ x, m = some x → ∀ H1, Ex H H1 → ∀ Q : Option Int → Hp → Prop, (∀ H2, Ex H1 H2 → Q x H2) → to σ H1 Q
theorem jo_none : JO c none tNoPart Γ (some none) := ⟨fun _ _ => po_none, fun _ _ _ _ _ _ x hx H1 _ Q q => by cases hx; exact q H1 (Evl.Ex.refl H1)⟩
theorem jo_some {m : Option Int} (h : JE c e te Γ ma m) : JO c (some e) (tPart te) Γ (m.bind fun x => some (some x)) :=
  ⟨fun X F => po_some (h.pe X F), fun S0 H0 S σ H R z hz H1 e1 Q q => by
    cases h1 : m with
    | none => rw [h1] at hz; cases hz
    | some x =>
      rw [h1] at hz; cases hz
      exact h.ev S0 H0 S σ H R x h1 H1 e1 _ fun v H2 e2 r => ⟨x, r, q H2 e2⟩⟩
def cut {α : Type} (xs : List α) (lo hi : Option Int) : List α := (xs.drop (HT.sIx xs.length 0 lo)).take (HT.sIx xs.length xs.length hi - HT.sIx xs.length 0 lo)
theorem paired_cut {α : Type} {F : V → α → Prop} {vs : List V} {xs : List α} (h : PySem.Paired F vs xs) (lo hi : Option Int) : PySem.Paired F (cutV vs lo hi) (cut xs lo hi) := by
  unfold cutV cut
  rw [h.length]
  exact paired_take _ (paired_drop _ h)
theorem je_slice {α : Type} [Rp α] {m : Option (List α)} {lo hi : Option Expr} {tl th : TO} {m1 m2 : Option (Option Int)} {p2} (h : JE c e te Γ ma m) (hl : JO c lo tl Γ m1) (hh : JO c hi th Γ m2) :
    JE c (.Subscript e (.Slice lo hi none p2) pos) (tSl (rSlL c.K) te tl th) Γ ma (m.bind fun x => m1.bind fun l => m2.bind fun u => some (cut x l u)) :=
  ⟨fun X F => by rw [← F.hK]; exact pe_slice sl_list (h.pe X F) (hl.po X F) (hh.po X F), fun S0 H0 S σ H R z hz H1 e1 Q q => by
    cases h1 : m with
    | none => rw [h1] at hz; cases hz
    | some x =>
      cases h2 : m1 with
      | none => rw [h1, h2] at hz; cases hz
      | some l =>
        cases h3 : m2 with
        | none => rw [h1, h2, h3] at hz; cases hz
        | some u =>
          rw [h1, h2, h3] at hz
          have hz := Option.some.inj hz
          subst hz
          refine h.ev S0 H0 S σ H R x h1 H1 e1 _ fun v H2 e2 r => ?_
          refine hl.ev S0 H0 S σ H R l h2 H2 (e1.trans e2) _ fun H3 e3 => ?_
          refine hh.ev S0 H0 S σ H R u h3 H3 ((e1.trans e2).trans e3) _ fun H4 e4 => ?_
          obtain ⟨p, vs, rfl, _, hp, pr⟩ := r
          refine ⟨p, vs, rfl, SqL.of (e4 p _ (e3 p _ hp)), fun l' hl' => ?_⟩
          have ex : Ex H2 (upd H4 l' (.lst (cutV vs l u))) := (e3.trans e4).trans (Evl.Ex.new hl')
          exact q _ _ (e2.trans ex) ⟨l', _, rfl, .inr (Evl.fresh_back ((e2.trans e3).trans e4) hl'), upd_same, paired_cut (paired_mono pr fun _ _ => Rp.ex ex) l u⟩⟩
theorem paired_rev {α β : Type} {F : α → β → Prop} {xs : List α} {ys : List β} (h : PySem.Paired F xs ys) : PySem.Paired F xs.reverse ys.reverse := by
  induction h with
  | nil => exact .nil
  | cons a _ ih => rw [List.reverse_cons, List.reverse_cons]; exact paired_append ih (.cons a .nil)
theorem je_rev {α : Type} [Rp α] {m : Option (List α)} {k p1 p2 p3} (h : JE c e te Γ ma m) :
    JE c (.Subscript e (.Slice none none (some (.UnaryOp .USub (.Constant (.int 1) k p1) p2)) p3) pos) (tRevL c.K te) Γ ma (m.bind fun x => some x.reverse) :=
  ⟨fun X F => by rw [← F.hK]; exact pe_revL (h.pe X F), fun S0 H0 S σ H R z hz H1 e1 Q q => by
    cases h1 : m with
    | none => rw [h1] at hz; cases hz
    | some x =>
      rw [h1] at hz
      have hz := Option.some.inj hz
      subst hz
      refine h.ev S0 H0 S σ H R x h1 H1 e1 _ fun v H2 e2 r => ?_
      obtain ⟨p, vs, rfl, _, hp, pr⟩ := r
      refine ⟨p, vs, rfl, SqL.of hp, fun l' hl' => ?_⟩
      have ex : Ex H2 (upd H2 l' (.lst vs.reverse)) := Evl.Ex.new hl'
      exact q _ _ (e2.trans ex) ⟨l', _, rfl, .inr (Evl.fresh_back e2 hl'), upd_same, paired_rev (paired_mono pr fun _ _ => Rp.ex ex)⟩⟩

/-! ### built-ins of one argument, a list of truth values or of texts; max -/
theorem je_cb {α γ : Type} [Rp α] [Lit γ] {m : Option α} {id : String} {x : Str} {p : Pos} {r : List V → Hp → VK → Prop} (g : α → Option γ) (hc : ∀ X, Fam c X → CallR X (.builtin id) r) (hm : c.mg x = none) (hv : bootBuiltins x = some (.builtin id))
    (hr : ∀ y z v H, Rp.r c.K all H v y → g y = some z → ∀ Q : VK, Q (Lit.e z) H → r [v] H Q) (h : JE c e te Γ ma m) (hg : GlS c.sc x) (hs : ∀ env, starEach (e :: []) env = (false, eval e env) :: starEach [] env)
    (hn : x ≠ "__name__") (hdb : (x == ("__debug__" : Str)) = false) : JE c (.Call (.Name x p) [e] [] pos) (tCB r (tCons te tNil)) Γ .fr (m.bind g) :=
  ⟨fun X F => pe_callB (hc X F) (F.gl hg) (by rw [F.hmg]; exact hm) hv (pa_cons (h.pe X F) pa_nil (hs _)) hn hdb (hs _) rfl, fun S0 H0 S σ H R z hz H1 e1 Q q => by
    cases h1 : m with
    | none => rw [h1] at hz; cases hz
    | some y =>
      rw [h1] at hz
      refine h.ev S0 H0 S σ H R y h1 H1 e1 _ fun v H2 e2 rr => ?_
      exact hr y z v H2 (Rp.all rr) hz Q (q _ H2 e2 rfl)⟩
theorem je_all {m : Option (List Bool)} {p : Pos} (hm : c.mg "all" = none) (h : JE c e te Γ ma m) (hg : GlS c.sc "all" := by rfl) (hs : ∀ env, starEach (e :: []) env = (false, eval e env) :: starEach [] env := by intro _; rfl) :
    JE c (.Call (.Name "all" p) [e] [] pos) (tCB (rAll c.K) (tCons te tNil)) Γ .fr (m.bind fun x => some (x.all id)) :=
  je_cb (id := "all") _ (fun X F => by rw [← F.hK]; exact cr_all F.calm) hm (by decide +kernel) (fun y z v H r hz Q q => by
    have hz := Option.some.inj hz
    subst hz
    obtain ⟨p, vs, rfl, _, hp, pr⟩ := r
    have e := paired_lit pr
    subst e
    exact ⟨p, y, rfl, SqL.of hp, q⟩) h hg hs (by decide) (by decide)
theorem je_any {m : Option (List Bool)} {p : Pos} (hm : c.mg "any" = none) (h : JE c e te Γ ma m) (hg : GlS c.sc "any" := by rfl) (hs : ∀ env, starEach (e :: []) env = (false, eval e env) :: starEach [] env := by intro _; rfl) :
    JE c (.Call (.Name "any" p) [e] [] pos) (tCB (rAny c.K) (tCons te tNil)) Γ .fr (m.bind fun x => some (x.any id)) :=
  je_cb (id := "any") _ (fun X F => by rw [← F.hK]; exact cr_any F.calm) hm (by decide +kernel) (fun y z v H r hz Q q => by
    have hz := Option.some.inj hz
    subst hz
    obtain ⟨p, vs, rfl, _, hp, pr⟩ := r
    have e := paired_lit pr
    subst e
    exact ⟨p, y, rfl, SqL.of hp, q⟩) h hg hs (by decide) (by decide)
theorem je_lenS {m : Option Str} {p : Pos} (hm : c.mg "len" = none) (h : JE c e te Γ ma m) (hg : GlS c.sc "len" := by rfl) (hs : ∀ env, starEach (e :: []) env = (false, eval e env) :: starEach [] env := by intro _; rfl) :
    JE c (.Call (.Name "len" p) [e] [] pos) (tCB (fun xs H Q => ∃ z : Str, xs = [.str z] ∧ z.length ≤ sizeLine ∧ Q (.int z.length) H) (tCons te tNil)) Γ .fr (m.bind fun x => if x.length ≤ 100000 then some (x.length : Int) else none) :=
  je_cb (id := "len") _ (fun X F => call_len_str) hm PySem.boot_len (fun y z v H r hz Q q => by
    by_cases hl : y.length ≤ 100000
    · rw [if_pos hl] at hz
      have hz := Option.some.inj hz
      subst hz
      exact ⟨y, by rw [r] <;> rfl, Evl.sz_of hl, q⟩
    · rw [if_neg hl] at hz; cases hz) h hg hs (by decide) (by decide)
theorem je_lenScr {m : Option Scr} {p : Pos} (hm : c.mg "len" = none) (h : JE c e te Γ ma m) (hg : GlS c.sc "len" := by rfl) (hs : ∀ env, starEach (e :: []) env = (false, eval e env) :: starEach [] env := by intro _; rfl) :
    JE c (.Call (.Name "len" p) [e] [] pos) (tCB (rLenS c.K) (tCons te tNil)) Γ .fr (m.bind fun x => some (x.ns.length : Int)) :=
  je_cb (id := "len") _ (fun X F => by rw [← F.hK]; exact call_len_seq) hm PySem.boot_len (fun y z v H r hz Q q => by
    have hz := Option.some.inj hz
    subst hz
    obtain ⟨a, rfl, hs⟩ := Scr.sq r
    refine ⟨a, _, rfl, .inl hs, ?_⟩
    rw [List.length_map]
    exact q) h hg hs (by decide) (by decide)
theorem je_ixScr {m1 : Option Scr} {m2 : Option Int} (ha : JE c a ta Γ ma m1) (hb : JE c b tb Γ mb m2) (hs : PlainIx b := by intro _ _; rfl) : JE c (.Subscript a b pos) (tOp (rIxL c.K) ta tb) Γ .fr (m1.bind fun x => m2.bind fun y => oIx x.ns y) :=
  je_op (fun (x : Scr) y => oIx x.ns y) (fun X F p q => by rw [← F.hK]; exact pe_ix ix_list p q hs) (fun x y z v u H h1 h2 hz Q q => by
    obtain ⟨p, rfl, hs⟩ := Scr.sq h1
    cases h2
    have hz : atI x.ns y = some z := hz
    refine ⟨p, _, y, .int z, rfl, rfl, hs, ?_, q⟩
    unfold atI at hz ⊢
    rw [List.length_map]
    cases hj : ixN x.ns.length y with
    | none => rw [hj] at hz; cases hz
    | some j =>
      rw [hj] at hz
      have hz : x.ns[j]? = some z := hz
      show (x.ns.map V.int)[j]? = _
      rw [List.getElem?_map, hz] <;> rfl) ha hb
/-- max(a, b) -/
theorem je_max {m1 m2 : Option Int} {p : Pos} (hm : c.mg "max" = none) (ha : JE c a ta Γ ma m1) (hb : JE c b tb Γ mb m2) (hg : GlS c.sc "max" := by rfl) (hs : ∀ env, starEach (a :: b :: []) env = (false, eval a env) :: starEach (b :: []) env := by intro _; rfl) (hs2 : ∀ env, starEach (b :: []) env = (false, eval b env) :: starEach [] env := by intro _; rfl)
    (hpl : ∀ (env : Env) (p : Pos), (backTo p (starEach (b :: []) env)).any (·.1) = false := by intro _ _; rfl) :
    JE c (.Call (.Name "max" p) [a, b] [] pos) (tCB (fun xs H Q => ∃ i j : Int, xs = [.int i, .int j] ∧ Q (.int (if j > i then j else i)) H) (tCons ta (tCons tb tNil))) Γ .fr (m1.bind fun x => m2.bind fun y => some (if y > x then y else x)) :=
  ⟨fun X F => pe_callB (call_max2 F.calm) (F.gl hg) (by rw [F.hmg]; exact hm) (by decide +kernel) (pa_cons (ha.pe X F) (pa_cons (hb.pe X F) pa_nil (hs2 _)) (hs _)) (by decide) (by decide) (hs _) (hpl _ _), fun S0 H0 S σ H R z hz H1 e1 Q q => by
    cases h1 : m1 with
    | none => rw [h1] at hz; cases hz
    | some x =>
      cases h2 : m2 with
      | none => rw [h1, h2] at hz; cases hz
      | some y =>
        rw [h1, h2] at hz
        have hz := Option.some.inj hz
        subst hz
        refine ha.ev S0 H0 S σ H R x h1 H1 e1 _ fun v H2 e2 r1 => ?_
        refine hb.ev S0 H0 S σ H R y h2 H2 (e1.trans e2) _ fun u H3 e3 r2 => ?_
        cases r1; cases r2
        exact ⟨x, y, rfl, q _ H3 (e2.trans e3) rfl⟩⟩
/-! ### dicts that are read -/
structure JD (c : Stc) (e : Expr) (te : TE) (Γ : List Sl) {α : Type} [Rp α] (ps : Dct α) : Prop where
  pe : ∀ X, Fam c X → PE X e te
  ev : ∀ S0 H0 S σ H, StR c.K S0 H0 S Γ σ H → ∀ H1, Ex H H1 → ∀ Q : VK, (∀ l kvs, Rd H l (.dK kvs) → Rd H1 l (.dK kvs) → RpD c.K S H1 kvs ps → Q (.ref l) H1) → te σ H1 Q
theorem rd_ex {H H' : Hp} {l : Addr} {u : HO} (e : Ex H H') (h : Rd H l u) : Rd H' l u := Evl.ex_rd e h
theorem jd_dct {x : Str} (j : Nat) {α : Type} [i : Rp α] {v : Dct α} (hs : Γ[j]? = some (.dct i v) := by rfl) (hN : c.N[j]? = some x := by rfl) (hv : Vis c.sc x := by first | exact Or.inl rfl | exact Or.inr (Or.inl rfl) | exact Or.inr (Or.inr rfl))
    (hd : (x == ("__debug__" : Str)) = false := by decide) (hcd : (x == ("__classdict__" : Str)) = false := by decide) : JD c (.Name x pos) (tVar j) Γ v :=
  ⟨fun X F => pe_var (by rw [F.hN]; exact hN) (F.vis hv) hd hcd, fun S0 H0 S σ H R H1 e1 Q q => by
    obtain ⟨l, kvs, hu, _, hl, r⟩ := R.sl j _ hs
    exact ⟨_, at_some hu, q l kvs (.inl hl) (.inl (e1 l _ hl)) (RpD.fr (fun _ z _ => z) (fv_ex e1) r)⟩⟩
theorem jd_dcf {x : Str} (j : Nat) {α : Type} [i : Rp α] {v : Dct α} (hs : Γ[j]? = some (.dcf i v) := by rfl) (hN : c.N[j]? = some x := by rfl) (hv : Vis c.sc x := by first | exact Or.inl rfl | exact Or.inr (Or.inl rfl) | exact Or.inr (Or.inr rfl))
    (hd : (x == ("__debug__" : Str)) = false := by decide) (hcd : (x == ("__classdict__" : Str)) = false := by decide) : JD c (.Name x pos) (tVar j) Γ v :=
  ⟨fun X F => pe_var (by rw [F.hN]; exact hN) (F.vis hv) hd hcd, fun S0 H0 S σ H R H1 e1 Q q => by
    obtain ⟨l, kvs, hu, _, hl, r⟩ := R.sl j _ hs
    exact ⟨_, at_some hu, q l kvs hl (rd_ex e1 hl) (RpD.fr (fun _ z _ => z) (fv_ex e1) r)⟩⟩
theorem jd_odc {x : Str} (j : Nat) {α : Type} [i : Rp α] {v : Dct α} (hs : Γ[j]? = some (.odc i v) := by rfl) (hN : c.N[j]? = some x := by rfl) (hv : Vis c.sc x := by first | exact Or.inl rfl | exact Or.inr (Or.inl rfl) | exact Or.inr (Or.inr rfl))
    (hd : (x == ("__debug__" : Str)) = false := by decide) (hcd : (x == ("__classdict__" : Str)) = false := by decide) : JD c (.Name x pos) (tVar j) Γ v :=
  ⟨fun X F => pe_var (by rw [F.hN]; exact hN) (F.vis hv) hd hcd, fun S0 H0 S σ H R H1 e1 Q q => by
    obtain ⟨l, kvs, hu, _, hl, r⟩ := R.sl j _ hs
    exact ⟨_, at_some hu, q l kvs (.inl hl) (.inl (e1 l _ hl)) (RpD.fr (fun _ z _ => z) (fv_ex e1) r)⟩⟩
theorem rpd_get {α : Type} [Rp α] {K : PySem.W.Frag} {S : Ft} {H : Hp} {kvs : List (Key × V)} {ps : Dct α} (h : RpD K S H kvs ps) (k : Str) :
    (dget ps k = none ∧ valV kvs (Sum.inr k) = none) ∨ ∃ x v, dget ps k = some x ∧ valV kvs (Sum.inr k) = some v ∧ Rp.r K S H v x := by
  induction h with
  | nil => exact .inl ⟨rfl, rfl⟩
  | @cons kv p _ _ a t ih =>
    obtain ⟨k1, v1⟩ := kv
    obtain ⟨k2, x2⟩ := p
    obtain ⟨e, r⟩ := a
    have e : k1 = Sum.inr k2 := e
    subst e
    by_cases hk : k2 = k
    · subst hk
      refine .inr ⟨x2, v1, ?_, ?_, r⟩
      · show List.lookup k2 ((k2, x2) :: _) = _
        simp [List.lookup]
      · unfold valV
        rw [List.find?_cons_of_pos (by simp)] <;> rfl
    · have e1 : ∀ l, dget ((k2, x2) :: l) k = dget l k := fun l => by
        show List.lookup k ((k2, x2) :: l) = List.lookup k l
        have hb : (k == k2) = false := by rw [beq_eq_false_iff_ne]; exact fun h => hk h.symm
        simp [List.lookup, hb]
      have e2 : ∀ l, valV ((Sum.inr k2, v1) :: l) (Sum.inr k : Key) = valV l (Sum.inr k) := fun l => by
        unfold valV
        rw [List.find?_cons_of_neg (by simpa using hk)]
      rcases ih with ⟨h1, h2⟩ | ⟨x, v, h1, h2, h3⟩
      · exact .inl ⟨(e1 _).trans h1, (e2 _).trans h2⟩
      · exact .inr ⟨x, v, (e1 _).trans h1, (e2 _).trans h2, h3⟩
theorem DGet.rd {H : Hp} {a : Addr} {kvs : List (Key × V)} {k : Key} (h : Rd H a (.dK kvs)) : DGet H a (kV k) (valV kvs k) := .inl ⟨kvs, k, h, rfl, rfl⟩
/-- d[k] -/
theorem je_dget {α : Type} [Rp α] {ps : Dct α} {m : Option Str} (hd : JD c a ta Γ ps) (hb : JE c b tb Γ mb m) (hs : NoSl b := by intro _ _; rfl) : JE c (.Subscript a b pos) (tDGet ta tb) Γ .vl (m.bind fun k => dget ps k) :=
  ⟨fun X F => pe_dget F.hu (hd.pe X F) (hb.pe X F) hs, fun S0 H0 S σ H R z hz H1 e1 Q q => by
    cases h1 : m with
    | none => rw [h1] at hz; cases hz
    | some k =>
      rw [h1] at hz
      have hz : dget ps k = some z := hz
      refine hd.ev S0 H0 S σ H R H1 e1 _ fun l kvs _ hl r => ?_
      refine hb.ev S0 H0 S σ H R k h1 H1 e1 _ fun u H2 e2 r2 => ?_
      cases r2
      rcases rpd_get r k with ⟨h, _⟩ | ⟨x, v, h, hv, rv⟩
      · rw [h] at hz; cases hz
      · rw [h] at hz; cases hz
        refine ⟨l, v, rfl, ?_, q v H2 e2 (Rp.up (fun _ z _ => .inl z) (Rp.ex e2 rv))⟩
        rw [← hv]
        exact DGet.rd (k := Sum.inr k) (rd_ex e2 hl)⟩
/-- k in d, k not in d -/
theorem je_din {α : Type} [Rp α] {ps : Dct α} {m : Option Str} (hb : JE c b tb Γ mb m) (hd : JD c a ta Γ ps) (h1 : behindInMarks .In a = false := by rfl) : JE c (.Compare b [.In] [a] pos) (tDIn tb ta) Γ .fr (m.bind fun k => some (dhas ps k)) :=
  ⟨fun X F => pe_cmp (pc_din F.hu (hb.pe X F) (hd.pe X F)) h1, fun S0 H0 S σ H R z hz H1 e1 Q q => by
    cases h1 : m with
    | none => rw [h1] at hz; cases hz
    | some k =>
      rw [h1] at hz
      have hz := Option.some.inj hz
      subst hz
      refine hb.ev S0 H0 S σ H R k h1 H1 e1 _ fun u H2 e2 r2 => ?_
      refine hd.ev S0 H0 S σ H R H2 (e1.trans e2) _ fun l kvs _ hl r => ?_
      cases r2
      refine ⟨l, _, rfl, DGet.rd (k := Sum.inr k) hl, q _ H2 e2 ?_⟩
      show V.bl _ = V.bl _
      unfold dhas
      rcases rpd_get r k with ⟨h, hv⟩ | ⟨x, v, h, hv, rv⟩
      · rw [hv]; unfold dget at h; rw [h]; rfl
      · rw [hv]; unfold dget at h; rw [h]; rfl⟩
theorem je_dni {α : Type} [Rp α] {ps : Dct α} {m : Option Str} (hb : JE c b tb Γ mb m) (hd : JD c a ta Γ ps) (h1 : behindInMarks .NotIn a = false := by rfl) : JE c (.Compare b [.NotIn] [a] pos) (tDNotIn tb ta) Γ .fr (m.bind fun k => some (!dhas ps k)) :=
  ⟨fun X F => pe_cmp (pc_dnotin F.hu (hb.pe X F) (hd.pe X F)) h1, fun S0 H0 S σ H R z hz H1 e1 Q q => by
    cases h1 : m with
    | none => rw [h1] at hz; cases hz
    | some k =>
      rw [h1] at hz
      have hz := Option.some.inj hz
      subst hz
      refine hb.ev S0 H0 S σ H R k h1 H1 e1 _ fun u H2 e2 r2 => ?_
      refine hd.ev S0 H0 S σ H R H2 (e1.trans e2) _ fun l kvs _ hl r => ?_
      cases r2
      refine ⟨l, _, rfl, DGet.rd (k := Sum.inr k) hl, q _ H2 e2 ?_⟩
      show V.bl _ = V.bl _
      unfold dhas
      rcases rpd_get r k with ⟨h, hv⟩ | ⟨x, v, h, hv, rv⟩
      · rw [hv]; unfold dget at h; rw [h]; rfl
      · rw [hv]; unfold dget at h; rw [h]; rfl⟩
theorem jt_din {α : Type} [Rp α] {ps : Dct α} {m : Option Str} (hb : JE c b tb Γ mb m) (hd : JD c a ta Γ ps) (h1 : behindInMarks .In a = false := by rfl) : JT c (.Compare b [.In] [a] pos) (tB (tDIn tb ta)) Γ (m.bind fun k => some (dhas ps k)) :=
  ⟨fun X F => pt_cmp (pc_din F.hu (hb.pe X F) (hd.pe X F)) h1, fun S0 H0 S σ H R z hz H1 e1 Q q => (je_din (pos := pos) hb hd h1).ev S0 H0 S σ H R z hz H1 e1 _ fun v H2 e2 r => ⟨z, r, q H2 e2⟩⟩
theorem jt_dni {α : Type} [Rp α] {ps : Dct α} {m : Option Str} (hb : JE c b tb Γ mb m) (hd : JD c a ta Γ ps) (h1 : behindInMarks .NotIn a = false := by rfl) : JT c (.Compare b [.NotIn] [a] pos) (tB (tDNotIn tb ta)) Γ (m.bind fun k => some (!dhas ps k)) :=
  ⟨fun X F => pt_cmp (pc_dnotin F.hu (hb.pe X F) (hd.pe X F)) h1, fun S0 H0 S σ H R z hz H1 e1 Q q => (je_dni (pos := pos) hb hd h1).ev S0 H0 S σ H R z hz H1 e1 _ fun v H2 e2 r => ⟨z, r, q H2 e2⟩⟩
/-- d.get(k, i): an int -/
theorem je_dget2 {ps : Dct Int} {m : Option Str} {m2 : Option Int} {apos : Pos} (hd : JD c a ta Γ ps) (hb : JE c b tb Γ mb m) (hx : JE c d td Γ md m2) (hbase : ∀ env, attributeBase a "get" env (eval a env) = eval a env := by intro _; rfl)
    (hM : ∀ X : Cx, M2 X a "get" apos b d pos := by exact fun _ => ⟨rfl, rfl, rfl, rfl⟩) : JE c (.Call (.Attribute a "get" apos) [b, d] [] pos) (tDGet2 ta tb td) Γ .fr (m.bind fun k => m2.bind fun x => some ((dget ps k).getD x)) :=
  ⟨fun X F => pe_dget2 F.hu (hd.pe X F) (hb.pe X F) (hx.pe X F) (hM X), fun S0 H0 S σ H R z hz H1 e1 Q q => by
    cases h1 : m with
    | none => rw [h1] at hz; cases hz
    | some k =>
      cases h2 : m2 with
      | none => rw [h1, h2] at hz; cases hz
      | some x =>
        rw [h1, h2] at hz
        have hz := Option.some.inj hz
        subst hz
        refine hd.ev S0 H0 S σ H R H1 e1 _ fun l kvs _ hl r => ⟨l, rfl, .inl ⟨kvs, hl⟩, ?_⟩
        refine hb.ev S0 H0 S σ H R k h1 H1 e1 _ fun u H2 e2 r2 => ?_
        refine hx.ev S0 H0 S σ H R x h2 H2 (e1.trans e2) _ fun w H3 e3 r3 => ?_
        cases r2; cases r3
        refine ⟨_, DGet.rd (k := Sum.inr k) (rd_ex e3 (rd_ex e2 hl)), ?_⟩
        rcases rpd_get r k with ⟨h, hv⟩ | ⟨y, v, h, hv, rv⟩
        · rw [h] at q
          rw [hv]
          exact q _ H3 (e2.trans e3) rfl
        · rw [h] at q
          rw [hv]
          exact q v H3 (e2.trans e3) rv⟩
/-- len(d), list(d) -/
theorem je_lenD {α : Type} [Rp α] {ps : Dct α} {x : Str} {p p' : Pos} (j : Nat) (hs : Γ[j]? = some (.dct ‹Rp α› ps) := by rfl) (hm : c.mg "len" = none) (hN : c.N[j]? = some x := by rfl) (hv : Vis c.sc x := by first | exact Or.inl rfl | exact Or.inr (Or.inl rfl) | exact Or.inr (Or.inr rfl))
    (hd : (x == ("__debug__" : Str)) = false := by decide) (hcd : (x == ("__classdict__" : Str)) = false := by decide) (hg : GlS c.sc "len" := by rfl) :
    JE c (.Call (.Name "len" p) [.Name x p'] [] pos) (tCB (fun xs H Q => ∃ a kvs, xs = [V.ref a] ∧ H a = some (.dK kvs) ∧ Q (.int kvs.length) H) (tCons (tVar j) tNil)) Γ .fr (some (ps.length : Int)) :=
  ⟨fun X F => pe_callB call_lenD (F.gl hg) (by rw [F.hmg]; exact hm) PySem.boot_len (pa_cons (pe_var (by rw [F.hN]; exact hN) (F.vis hv) hd hcd) pa_nil), fun S0 H0 S σ H R z hz H1 e1 Q q => by
    have hz := Option.some.inj hz
    subst hz
    obtain ⟨l, kvs, hu, _, hl, r⟩ := R.sl j _ hs
    refine ⟨_, at_some hu, l, kvs, rfl, e1 l _ hl, ?_⟩
    rw [r.length]
    exact q _ H1 (Evl.Ex.refl H1) rfl⟩
theorem keys_of {α : Type} [Rp α] {K : PySem.W.Frag} {S : Ft} {H : Hp} {kvs : List (Key × V)} {ps : Dct α} (h : RpD K S H kvs ps) : (kvs.map fun kv => kV kv.1) = (ps.map (·.1)).map V.str := by
  induction h with
  | nil => rfl
  | cons a _ ih => rw [List.map_cons, List.map_cons, List.map_cons, ih, a.1] <;> rfl
theorem je_listD {α : Type} [Rp α] {ps : Dct α} {x : Str} {p p' : Pos} (j : Nat) (hs : Γ[j]? = some (.dct ‹Rp α› ps) := by rfl) (hm : c.mg "list" = none) (hN : c.N[j]? = some x := by rfl) (hv : Vis c.sc x := by first | exact Or.inl rfl | exact Or.inr (Or.inl rfl) | exact Or.inr (Or.inr rfl))
    (hd : (x == ("__debug__" : Str)) = false := by decide) (hcd : (x == ("__classdict__" : Str)) = false := by decide) (hg : GlS c.sc "list" := by rfl) :
    JE c (.Call (.Name "list" p) [.Name x p'] [] pos) (tCB rListD (tCons (tVar j) tNil)) Γ .fr (some (ps.map (·.1))) :=
  ⟨fun X F => pe_callTy (call_list_dK F.calm) (F.gl hg) (by rw [F.hmg]; exact hm) (by decide +kernel) (pa_cons (pe_var (by rw [F.hN]; exact hN) (F.vis hv) hd hcd) pa_nil), fun S0 H0 S σ H R z hz H1 e1 Q q => by
    have hz := Option.some.inj hz
    subst hz
    obtain ⟨l, kvs, hu, _, hl, r⟩ := R.sl j _ hs
    refine ⟨_, at_some hu, l, kvs, rfl, e1 l _ hl, fun p hp => ?_⟩
    rw [keys_of r]
    exact q _ _ (Evl.Ex.new hp) ⟨p, _, rfl, .inr hp, upd_same, lit_paired (ps.map (·.1))⟩⟩
/-- list(xs) -/
theorem je_listL {α : Type} [Rp α] {m : Option (List α)} {p : Pos} (h : JE c e te Γ ma m) (hm : c.mg "list" = none) (hg : GlS c.sc "list" := by rfl) (hs : ∀ env, starEach (e :: []) env = (false, eval e env) :: starEach [] env := by intro _; rfl) :
    JE c (.Call (.Name "list" p) [e] [] pos) (tCB (fun xs H Q => ∃ p ys, xs = [.ref p] ∧ (SqL c.K H p ys ∨ SqT c.K H p ys) ∧ ∀ l, H l = none → Q (.ref l) (upd H l (.lst ys))) (tCons te tNil)) Γ ma m :=
  ⟨fun X F => by rw [← F.hK]; exact pe_callTy call_list_of (F.gl hg) (by rw [F.hmg]; exact hm) (by decide +kernel) (pa_cons (h.pe X F) pa_nil (hs _)) (by decide) (by decide) (hs _) rfl, fun S0 H0 S σ H R z hz H1 e1 Q q => by
    refine h.ev S0 H0 S σ H R z hz H1 e1 _ fun v H2 e2 r => ?_
    obtain ⟨p, vs, rfl, _, hp, pr⟩ := r
    refine ⟨p, vs, rfl, .inl (SqL.of hp), fun l hl => ?_⟩
    have ex : Ex H2 (upd H2 l (.lst vs)) := Evl.Ex.new hl
    exact q _ _ (e2.trans ex) ⟨l, vs, rfl, .inr (Evl.fresh_back e2 hl), upd_same, paired_mono pr fun _ _ => Rp.ex ex⟩⟩
end
end Sm
end

section
set_option maxRecDepth 100000
set_option maxHeartbeats 4000000
namespace Sm
open PySem L2

/-! ### slots set, wiped, borrowed -/
theorem at_set_self {σ : L2.St} {j : Nat} {o : Option V} (h : j < σ.length) : at_ (σ.set j o) j = o := by
  unfold at_
  rw [List.getElem?_set_self h] <;> rfl
theorem at_set_ne {σ : L2.St} {i j : Nat} {o : Option V} (h : i ≠ j) : at_ (σ.set j o) i = at_ σ i := by
  unfold at_
  rw [List.getElem?_set_ne (Ne.symm h)]
theorem SlotR.fr {K : PySem.W.Frag} {S S' : Ft} {H H' : Hp} {o : Option V} {s : Sl} (hs : ∀ a, S a → H a ≠ none → S' a) (hn : s.isOwn = true → ∀ l, o = some (.ref l) → ¬ S l → ¬ S' l) (hw : s.isOwn = true → ∀ l u, o = some (.ref l) → H l = some u → H' l = some u) (hf : Fr S H H') (h : SlotR K S H o s) : SlotR K S' H' o s := by
  cases s with
  | no => exact trivial
  | val i x => obtain ⟨v, e, r⟩ := h; exact ⟨v, e, i.fr hs hf.v r⟩
  | own i xs => obtain ⟨l, vs, e, n, hl, r⟩ := h; exact ⟨l, vs, e, hn rfl l e n, hw rfl l _ e hl, paired_mono r fun _ _ => i.fr hs hf.v⟩
  | dct i ps => obtain ⟨l, kvs, e, n, hl, r⟩ := h; exact ⟨l, kvs, e, hs l n (by rw [hl]; simp), hf l _ n hl, @RpD.fr _ i _ _ _ _ _ _ _ hs hf.v r⟩
  | dcf i ps =>
    obtain ⟨l, kvs, e, n, hl, r⟩ := h
    refine ⟨l, kvs, e, hs l n ?_, ?_, @RpD.fr _ i _ _ _ _ _ _ _ hs hf.v r⟩
    · rcases hl with hl | ⟨_, hl⟩ <;> (rw [hl]; simp)
    · rcases hl with hl | ⟨o, hl⟩
      · exact .inl (hf l _ n hl)
      · exact .inr ⟨o, hf l _ n hl⟩
  | odc i ps => obtain ⟨l, kvs, e, n, hl, r⟩ := h; exact ⟨l, kvs, e, hn rfl l e n, hw rfl l _ e hl, @RpD.fr _ i _ _ _ _ _ _ _ hs hf.v r⟩
theorem StR.set {K : PySem.W.Frag} {S0 : Ft} {H0 : Hp} {S : Ft} {Γ : List Sl} {σ : L2.St} {H : Hp} (R : StR K S0 H0 S Γ σ H) {α : Type} [i : Rp α] {v : V} {x : α} (j : Nat) (h : Rp.r K S H v x) : StR K S0 H0 S (Γ.set j (.val i x)) (σ.set j (some v)) H where
  len := by rw [List.length_set, List.length_set, R.len]
  sl := fun k s hk => by
    by_cases e : k = j
    · subst e
      have hl : k < Γ.length := by
        have := (List.getElem?_eq_some_iff.mp hk).1
        rwa [List.length_set] at this
      rw [List.getElem?_set_self hl] at hk
      cases hk
      rw [at_set_self (by rw [R.len]; exact hl)]
      exact ⟨v, rfl, h⟩
    · rw [List.getElem?_set_ne (Ne.symm e)] at hk
      rw [at_set_ne e]
      exact R.sl k s hk
  dm := R.dm
  ap := fun a b s t l ab ha hb os ot h1 h2 => by
    have na : a ≠ j := fun e => by
      subst e
      have hl : a < Γ.length := by
        have := (List.getElem?_eq_some_iff.mp ha).1
        rwa [List.length_set] at this
      rw [List.getElem?_set_self hl] at ha; cases ha; cases os
    have nb : b ≠ j := fun e => by
      subst e
      have hl : b < Γ.length := by
        have := (List.getElem?_eq_some_iff.mp hb).1
        rwa [List.length_set] at this
      rw [List.getElem?_set_self hl] at hb; cases hb; cases ot
    rw [List.getElem?_set_ne (Ne.symm na)] at ha
    rw [List.getElem?_set_ne (Ne.symm nb)] at hb
    rw [at_set_ne na] at h1
    rw [at_set_ne nb] at h2
    exact R.ap a b s t l ab ha hb os ot h1 h2
  ow := fun a s l ha os h1 => by
    have na : a ≠ j := fun e => by
      subst e
      have hl : a < Γ.length := by
        have := (List.getElem?_eq_some_iff.mp ha).1
        rwa [List.length_set] at this
      rw [List.getElem?_set_self hl] at ha; cases ha; cases os
    rw [List.getElem?_set_ne (Ne.symm na)] at ha
    rw [at_set_ne na] at h1
    exact R.ow a s l ha os h1
  ex := R.ex
  sr := R.sr
def wipeG (Γ : List Sl) : List Nat → List Sl
  | [] => Γ
  | v :: vs => (wipeG Γ vs).set v .no
theorem wipe_get {σ : L2.St} {i : Nat} : ∀ vs : List Nat, (wipe σ vs)[i]? = if i ∈ vs then (σ[i]?).map fun _ => none else σ[i]?
  | [] => by simp [wipe]
  | v :: vs => by
    show ((wipe σ vs).set v none)[i]? = _
    by_cases e : v = i
    · subst e
      rw [if_pos List.mem_cons_self]
      by_cases hl : v < σ.length
      · rw [List.getElem?_set_self (by rw [wipe_length]; exact hl), List.getElem?_eq_getElem hl] <;> rfl
      · rw [List.getElem?_eq_none (by rw [List.length_set, wipe_length]; omega), List.getElem?_eq_none (by omega)] <;> rfl
    · rw [List.getElem?_set_ne e, wipe_get vs]
      have : i ∈ v :: vs ↔ i ∈ vs := by simp [Ne.symm e]
      by_cases hm : i ∈ vs
      · rw [if_pos hm, if_pos (this.mpr hm)]
      · rw [if_neg hm, if_neg fun z => hm (this.mp z)]
theorem wipe_set {σ : L2.St} {j : Nat} {o : Option V} {vs : List Nat} (h : j ∈ vs) : wipe (σ.set j o) vs = wipe σ vs := by
  apply List.ext_getElem?
  intro i
  rw [wipe_get, wipe_get]
  by_cases hm : i ∈ vs
  · rw [if_pos hm, if_pos hm]
    by_cases e : j = i
    · subst e
      by_cases hl : j < σ.length
      · rw [List.getElem?_set_self hl, List.getElem?_eq_getElem hl] <;> rfl
      · rw [List.getElem?_eq_none (by rw [List.length_set]; omega), List.getElem?_eq_none (by omega)]
    · rw [List.getElem?_set_ne e]
  · rw [if_neg hm, if_neg hm, List.getElem?_set_ne (show j ≠ i from fun e => hm (e ▸ h))]
theorem wipe_idem {σ : L2.St} {vs : List Nat} : wipe (wipe σ vs) vs = wipe σ vs := by
  apply List.ext_getElem?
  intro i
  rw [wipe_get, wipe_get]
  by_cases hm : i ∈ vs
  · rw [if_pos hm, if_pos hm]
    cases σ[i]? <;> rfl
  · rw [if_neg hm, if_neg hm]
theorem wipeG_get {Γ : List Sl} {i : Nat} {s : Sl} : ∀ {vs : List Nat}, (wipeG Γ vs)[i]? = some s → s = .no ∨ Γ[i]? = some s ∧ i ∉ vs
  | [], h => .inr ⟨h, by simp⟩
  | v :: vs, h => by
    have h : ((wipeG Γ vs).set v .no)[i]? = some s := h
    by_cases e : v = i
    · subst e
      by_cases hl : v < (wipeG Γ vs).length
      · rw [List.getElem?_set_self hl] at h; cases h; exact .inl rfl
      · rw [List.getElem?_eq_none (by rw [List.length_set]; omega)] at h; cases h
    · rw [List.getElem?_set_ne e] at h
      rcases wipeG_get h with h | ⟨h, n⟩
      · exact .inl h
      · exact .inr ⟨h, by simp [Ne.symm e, n]⟩
theorem wipeG_len (Γ : List Sl) : ∀ vs : List Nat, (wipeG Γ vs).length = Γ.length
  | [] => rfl
  | v :: vs => by show ((wipeG Γ vs).set v .no).length = _; rw [List.length_set, wipeG_len]
def Sl.bor : Sl → Sl
  | @Sl.own α i xs => @Sl.val (List α) (@rpList α i) xs
  | .odc i ps => .dct i ps
  | s => s
def Sl.frz : Sl → Sl
  | @Sl.own α i xs => @Sl.val (List α) (@rpList α i) xs
  | .odc i ps => .dcf i ps
  | .dct i ps => .dcf i ps
  | s => s
/-- a state that nothing is made in: all that stands may be read -/
structure Brw (K : PySem.W.Frag) (Γ : List Sl) (σ : L2.St) (H : Hp) : Prop where
  st : ∀ S : Ft, (∀ a, H a ≠ none → S a) → ∀ H', Fr (dom H) H H' → (∀ a, S a → H' a ≠ none) → StR K all H' S Γ σ H'
theorem brw_of {K : PySem.W.Frag} {S0 : Ft} {H0 : Hp} {S : Ft} {Γ : List Sl} {σ : L2.St} {H : Hp} (R : StR K S0 H0 S Γ σ H) (vs : List Nat) : Brw K (wipeG (Γ.map Sl.bor) vs) (wipe σ vs) H := by
  have no : ∀ {j : Nat} {s : Sl}, (wipeG (Γ.map Sl.bor) vs)[j]? = some s → s.isOwn = false := fun {j s} h => by
    rcases wipeG_get h with rfl | ⟨h, _⟩
    · rfl
    · rw [List.getElem?_map] at h
      cases e : Γ[j]? with
      | none => rw [e] at h; cases h
      | some t =>
        rw [e] at h
        have h := Option.some.inj h
        subst h
        cases t <;> rfl
  refine ⟨fun S' hS H' hf hd => ⟨by rw [wipe_length, wipeG_len, List.length_map, R.len], fun j s h => ?_, hd, fun a b s t l _ ha _ os _ _ _ => (by rw [no ha] at os; cases os), fun j s l h os _ => (by rw [no h] at os; cases os), Evl.Ex.refl H', fun _ _ => .inl trivial⟩⟩
  rcases wipeG_get h with rfl | ⟨h, n⟩
  · exact trivial
  rw [List.getElem?_map] at h
  cases e : Γ[j]? with
  | none => rw [e] at h; cases h
  | some t =>
    rw [e] at h
    have h := Option.some.inj h
    subst h
    have q := R.sl j t e
    have ea : at_ (wipe σ vs) j = at_ σ j := by
      unfold at_
      rw [wipe_get, if_neg n]
    rw [ea]
    have up : ∀ a, S a → H a ≠ none → S' a := fun a _ z => hS a z
    have hv : Fv S H H' := fun a sa => ⟨fun xs z => hf a _ (R.dm a sa) z, fun xs z => hf a _ (R.dm a sa) z, fun _ _ z => hf a _ (R.dm a sa) z, fun _ _ _ z => hf a _ (R.dm a sa) z⟩
    have dm : ∀ {l u}, H l = some u → H' l = some u := fun {l u} z => hf l _ (by show H l ≠ none; rw [z]; simp) z
    cases t with
    | no => exact trivial
    | val i x => obtain ⟨v, ev, r⟩ := q; exact ⟨v, ev, i.fr up hv r⟩
    | own i xs => obtain ⟨l, us, ev, _, hl, r⟩ := q; exact ⟨_, ev, l, us, rfl, hS l (by rw [hl]; simp), dm hl, paired_mono r fun _ _ => i.fr up hv⟩
    | dct i ps => obtain ⟨l, us, ev, sl, hl, r⟩ := q; exact ⟨l, us, ev, hS l (by rw [hl]; simp), dm hl, @RpD.fr _ i _ _ _ _ _ _ _ up hv r⟩
    | dcf i ps =>
      obtain ⟨l, us, ev, sl, hl, r⟩ := q
      refine ⟨l, us, ev, hS l (R.dm l sl), ?_, @RpD.fr _ i _ _ _ _ _ _ _ up hv r⟩
      rcases hl with hl | ⟨o, hl⟩
      · exact .inl (dm hl)
      · exact .inr ⟨o, dm hl⟩
    | odc i ps => obtain ⟨l, us, ev, _, hl, r⟩ := q; exact ⟨l, us, ev, hS l (by rw [hl]; simp), dm hl, @RpD.fr _ i _ _ _ _ _ _ _ up hv r⟩
/-- the same with the dict at d locked -/
theorem brw_frz {K : PySem.W.Frag} {S0 : Ft} {H0 : Hp} {S : Ft} {Γ : List Sl} {σ : L2.St} {H : Hp} (R : StR K S0 H0 S Γ σ H) (vs : List Nat) {H1 : Hp} (e1 : Ex H H1) {d : Addr} {kvd : List (Key × V)} (hd1 : H1 d = some (.dK kvd)) (od : Obj) : Brw K (wipeG (Γ.map Sl.frz) vs) (wipe σ vs) (upd H1 d (.frz od (.dK kvd))) := by
  have no : ∀ {j : Nat} {s : Sl}, (wipeG (Γ.map Sl.frz) vs)[j]? = some s → s.isOwn = false := fun {j s} h => by
    rcases wipeG_get h with rfl | ⟨h, _⟩
    · rfl
    · rw [List.getElem?_map] at h
      cases e : Γ[j]? with
      | none => rw [e] at h; cases h
      | some t =>
        rw [e] at h
        have h := Option.some.inj h
        subst h
        cases t <;> rfl
  refine ⟨fun S' hS H' hf hd => ⟨by rw [wipe_length, wipeG_len, List.length_map, R.len], fun j s h => ?_, hd, fun a b s t l _ ha _ os _ _ _ => (by rw [no ha] at os; cases os), fun j s l h os _ => (by rw [no h] at os; cases os), Evl.Ex.refl H', fun _ _ => .inl trivial⟩⟩
  rcases wipeG_get h with rfl | ⟨h, n⟩
  · exact trivial
  rw [List.getElem?_map] at h
  cases e : Γ[j]? with
  | none => rw [e] at h; cases h
  | some t =>
    rw [e] at h
    have h := Option.some.inj h
    subst h
    have q := R.sl j t e
    have ea : at_ (wipe σ vs) j = at_ σ j := by
      unfold at_
      rw [wipe_get, if_neg n]
    rw [ea]
    have keep : ∀ {a u}, H a = some u → (a = d ∧ u = .dK kvd) ∨ H' a = some u := fun {a u} z => by
      by_cases ad : a = d
      · left
        subst ad
        have := e1 a _ z
        rw [hd1] at this
        exact ⟨rfl, (Option.some.inj this).symm⟩
      · right
        refine hf a u ?_ ?_
        · show upd _ _ _ _ ≠ none
          rw [upd_ne ad, e1 a _ z]; simp
        · rw [upd_ne ad]; exact e1 a _ z
    have hd' : H' d = some (.frz od (.dK kvd)) := hf d _ (by show upd _ _ _ _ ≠ none; rw [upd_same]; simp) upd_same
    have inS : ∀ {a}, H a ≠ none → S' a := fun {a} z => hS a (by
      by_cases ad : a = d
      · subst ad; rw [upd_same]; simp
      · rw [upd_ne ad]
        cases q : H a with
        | none => exact absurd q z
        | some u => rw [e1 a _ q]; simp)
    have up : ∀ a, S a → H a ≠ none → S' a := fun a _ z => inS z
    have hv : Fv S H H' := fun a _ => ⟨fun xs z => (keep z).elim (fun z => nomatch z.2) id, fun xs z => (keep z).elim (fun z => nomatch z.2) id, fun _ _ z => (keep z).elim (fun z => nomatch z.2) id, fun _ _ _ z => (keep z).elim (fun z => nomatch z.2) id⟩
    have dk : ∀ {l us}, H l = some (.dK us) → Rd H' l (.dK us) := fun {l us} z => by
      rcases keep z with ⟨rfl, ee⟩ | z
      · cases ee; exact .inr ⟨od, hd'⟩
      · exact .inl z
    cases t with
    | no => exact trivial
    | val i x => obtain ⟨v, ev, r⟩ := q; exact ⟨v, ev, i.fr up hv r⟩
    | own i xs => obtain ⟨l, us, ev, _, hl, r⟩ := q; exact ⟨_, ev, l, us, rfl, inS (by rw [hl]; simp), (keep hl).elim (fun z => nomatch z.2) id, paired_mono r fun _ _ => i.fr up hv⟩
    | dct i ps => obtain ⟨l, us, ev, sl, hl, r⟩ := q; exact ⟨l, us, ev, inS (by rw [hl]; simp), dk hl, @RpD.fr _ i _ _ _ _ _ _ _ up hv r⟩
    | dcf i ps =>
      obtain ⟨l, us, ev, sl, hl, r⟩ := q
      refine ⟨l, us, ev, inS (R.dm l sl), ?_, @RpD.fr _ i _ _ _ _ _ _ _ up hv r⟩
      rcases hl with hl | ⟨o, hl⟩
      · exact dk hl
      · exact .inr ⟨o, (keep hl).elim (fun z => nomatch z.2) id⟩
    | odc i ps => obtain ⟨l, us, ev, _, hl, r⟩ := q; exact ⟨l, us, ev, inS (by rw [hl]; simp), dk hl, @RpD.fr _ i _ _ _ _ _ _ _ up hv r⟩

/-! ### what is walked -/
def SI {α : Type} [Rp α] (K : PySem.W.Frag) (wi : TI) (σ : L2.St) (Hs : Hp) (E : Ft) (xs : List α) : Prop :=
  ∀ R : It → Hp → Prop, (∀ (J : It) (H2 : Hp) (G : Hp → Prop) (Y : Nat → Hp → V → Hp → Prop), Ex Hs H2 → Walk J xs.length G Y → (∀ H3, Fr (fun a => E a ∨ Hs a = none) H2 H3 → G H3) →
    (∀ i x, xs[i]? = some x → ∀ H3 v H4, Fr (fun a => E a ∨ Hs a = none) H2 H3 → Y i H3 v H4 → Ex H3 H4 ∧ Rp.r K (fun a => ((E a ∨ Hs a = none) ∧ H2 a ≠ none) ∨ H3 a = none) H4 v x) → R J H2) → wi σ Hs R
structure JI (c : Stc) (tg iter : Expr) (wi : TI) (Γ : List Sl) (md : Md) {α : Type} [Rp α] (m : Option (List α)) : Prop where
  pi : ∀ X, Fam c X → PI X tg iter wi
  ev : ∀ S0 H0 S σ H, StR c.K S0 H0 S Γ σ H → ∀ xs, m = some xs → ∀ H1, Ex H H1 → SI c.K wi σ H1 (Sof md S H) xs
section
variable {c : Stc} {Γ : List Sl} {tg e : Expr} {te : TE} {ma md : Md} {α : Type} [Rp α]
theorem ji_list {m : Option (List α)} (h : JE c e te Γ ma m) : JI c tg e (iList c.K te) Γ ma m :=
  ⟨fun X F => by rw [← F.hK]; exact pi_list (h.pe X F), fun S0 H0 S σ H R xs hx H1 e1 Rr q => by
    refine h.ev S0 H0 S σ H R xs hx H1 e1 _ fun v H2 e2 r => ?_
    obtain ⟨p, vs, rfl, sp, hp, pr⟩ := r
    refine ⟨p, rfl, ⟨vs, SqL.of hp⟩, ?_⟩
    have hl : vs.length = xs.length := pr.length
    refine q _ H2 (fun H => SqL c.K H p vs) (YAt vs) e2 (hl ▸ walk_list) (fun H3 f => SqL.of (f p _ sp hp)) fun i x hi H3 v H4 f y => ?_
    obtain ⟨rfl, hv⟩ := y
    refine ⟨Evl.Ex.refl _, ?_⟩
    obtain ⟨w, hw, rw_⟩ := paired_at pr hi
    rw [hw] at hv
    have hv := Option.some.inj hv
    subst hv
    exact Rp.fr (fun a z z2 => .inl ⟨z, z2⟩) f.v rw_⟩
theorem ji_enum {m : Option (List α)} {p pos tpos : Pos} {elts : List Expr} {kk : Nat} (hm : c.mg "enumerate" = none) (h : JE c e te Γ ma m) (hg : GlS c.sc "enumerate" := by rfl) (hs : ∀ env, starEach [e] env = (false, eval e env) :: starEach [] env := by intro _; rfl) :
    JI c (.Tuple elts kk tpos) (.Call (.Name "enumerate" p) [e] [] pos) (iEnum c.K (tCons te tNil)) Γ ma (m.bind fun xs => some (xs.zipIdx.map fun p => T2.mk (p.2 : Int) p.1)) :=
  ⟨fun X F => by rw [← F.hK]; exact pi_enum (F.gl hg) (by rw [F.hmg]; exact hm) (pa_cons (h.pe X F) pa_nil (hs _)) (hs _), fun S0 H0 S σ H R zs hx H1 e1 Rr q => by
    cases h1 : m with
    | none => rw [h1] at hx; cases hx
    | some xs =>
      rw [h1] at hx
      have hx := Option.some.inj hx
      subst hx
      refine h.ev S0 H0 S σ H R xs h1 H1 e1 _ fun v H2 e2 r => ?_
      obtain ⟨p, vs, rfl, sp, hp, pr⟩ := r
      refine ⟨p, vs, rfl, SqL.of hp, ?_⟩
      have hl : (xs.zipIdx.map fun p => T2.mk (p.2 : Int) p.1).length = vs.length := by rw [List.length_map, List.length_zipIdx]; exact pr.length.symm
      refine q _ H2 (fun H => SqL c.K H p vs) _ e2 (by rw [hl]; exact walk_enum) (fun H3 f => SqL.of (f p _ sp hp)) fun i x hi H3 v H4 f y => ?_
      obtain ⟨T, a, b, rfl, hT, rfl, ha, hb⟩ := y
      have ex : Ex H3 (upd H3 T (.tup [a, b])) := Evl.Ex.new hT
      refine ⟨ex, ?_⟩
      rw [List.getElem?_map, List.getElem?_zipIdx] at hi
      cases hxi : xs[i]? with
      | none => rw [hxi] at hi; cases hi
      | some y =>
        rw [hxi] at hi
        have hi := Option.some.inj hi
        subst hi
        have ha := Option.some.inj ha
        subst ha
        obtain ⟨w, hw, rw_⟩ := paired_at pr hxi
        have hb : vs[i]? = some b := hb
        rw [hw] at hb
        have hb := Option.some.inj hb
        subst hb
        refine ⟨T, _, _, rfl, .inr hT, upd_same, ?_, ?_⟩
        · show V.int _ = V.int _
          congr 1
          show ((i : Nat) : Int) = (((0 + i : Nat)) : Int)
          omega
        · exact Rp.ex ex (Rp.fr (fun a z z2 => .inl ⟨z, z2⟩) f.v rw_)⟩
end

/-! ### comprehensions -/
def lcM {α β : Type} (f : α → Option Bool) (h : α → Option β) : List α → Option (List β)
  | [] => some []
  | x :: xs => (f x).bind fun b => if b then (h x).bind fun y => (lcM f h xs).bind fun ys => some (y :: ys) else lcM f h xs
def lcO {α β : Type} (f : α → Option Bool) (h : α → Option β) (xs : List α) : Option (List β) := if xs.length ≤ 40000 then lcM f h xs else none
def yes {α : Type} (_ : α) : Option Bool := some true
structure TgOk {α : Type} [Rp α] (K : PySem.W.Frag) (g : TG) (vs : List Nat) (Γ : List Sl) (Γ' : α → List Sl) : Prop where
  run : ∀ S0 H0 S σ H v x, StR K S0 H0 S Γ σ H → Rp.r K S H v x → ∀ Q : L2.St → Hp → Prop, (∀ σ', StR K S0 H0 S (Γ' x) σ' H → wipe σ' vs = wipe σ vs → Q σ' H) → g v σ H Q
section
variable {K : PySem.W.Frag} {α β γ δ ε : Type} [iα : Rp α] [iβ : Rp β] [iγ : Rp γ] [iδ : Rp δ] [iε : Rp ε] {vs : List Nat} {Γ : List Sl}
theorem tg_n (j : Nat) (hj : j ∈ vs := by decide) : TgOk (α := α) K (gName j) vs Γ (fun x => Γ.set j (.val iα x)) :=
  ⟨fun S0 H0 S σ H v x R r Q q => q _ (R.set j r) (wipe_set hj)⟩
theorem tg_t2 {t1 t2 : TG} {Γ1 : α → List Sl} {Γ2 : α → β → List Sl} (h1 : TgOk (α := α) K t1 vs Γ Γ1) (h2 : ∀ x, TgOk (α := β) K t2 vs (Γ1 x) (Γ2 x)) : TgOk (α := T2 α β) K (gTup K 2 (gCons t1 (gCons t2 gNil))) vs Γ (fun x => Γ2 x.a x.b) :=
  ⟨fun S0 H0 S σ H v x R r Q q => by
    obtain ⟨p, v1, v2, rfl, _, hp, r1, r2⟩ := r
    refine ⟨p, _, rfl, SqT.of hp, rfl, v1, _, rfl, h1.run S0 H0 S σ H v1 x.a R r1 _ fun σ1 R1 w1 => ⟨v2, _, rfl, (h2 x.a).run S0 H0 S σ1 H v2 x.b R1 r2 _ fun σ2 R2 w2 => ⟨rfl, q σ2 R2 (w2.trans w1)⟩⟩⟩⟩
theorem tg_t3 {t1 t2 t3 : TG} {Γ1 : α → List Sl} {Γ2 : α → β → List Sl} {Γ3 : α → β → γ → List Sl} (h1 : TgOk (α := α) K t1 vs Γ Γ1) (h2 : ∀ x, TgOk (α := β) K t2 vs (Γ1 x) (Γ2 x)) (h3 : ∀ x y, TgOk (α := γ) K t3 vs (Γ2 x y) (Γ3 x y)) :
    TgOk (α := T3 α β γ) K (gTup K 3 (gCons t1 (gCons t2 (gCons t3 gNil)))) vs Γ (fun x => Γ3 x.a x.b x.c) :=
  ⟨fun S0 H0 S σ H v x R r Q q => by
    obtain ⟨p, v1, v2, v3, rfl, _, hp, r1, r2, r3⟩ := r
    refine ⟨p, _, rfl, SqT.of hp, rfl, v1, _, rfl, h1.run S0 H0 S σ H v1 x.a R r1 _ fun σ1 R1 w1 => ⟨v2, _, rfl, (h2 x.a).run S0 H0 S σ1 H v2 x.b R1 r2 _ fun σ2 R2 w2 =>
      ⟨v3, _, rfl, (h3 x.a x.b).run S0 H0 S σ2 H v3 x.c R2 r3 _ fun σ3 R3 w3 => ⟨rfl, q σ3 R3 (w3.trans (w2.trans w1))⟩⟩⟩⟩⟩
theorem tg_t5 {t1 t2 t3 t4 t5 : TG} {Γ1 : α → List Sl} {Γ2 : α → β → List Sl} {Γ3 : α → β → γ → List Sl} {Γ4 : α → β → γ → δ → List Sl} {Γ5 : α → β → γ → δ → ε → List Sl} (h1 : TgOk (α := α) K t1 vs Γ Γ1) (h2 : ∀ x, TgOk (α := β) K t2 vs (Γ1 x) (Γ2 x)) (h3 : ∀ x y, TgOk (α := γ) K t3 vs (Γ2 x y) (Γ3 x y))
    (h4 : ∀ x y z, TgOk (α := δ) K t4 vs (Γ3 x y z) (Γ4 x y z)) (h5 : ∀ x y z u, TgOk (α := ε) K t5 vs (Γ4 x y z u) (Γ5 x y z u)) :
    TgOk (α := T5 α β γ δ ε) K (gTup K 5 (gCons t1 (gCons t2 (gCons t3 (gCons t4 (gCons t5 gNil)))))) vs Γ (fun x => Γ5 x.a x.b x.c x.d x.e) :=
  ⟨fun S0 H0 S σ H v x R r Q q => by
    obtain ⟨p, v1, v2, v3, v4, v5, rfl, _, hp, r1, r2, r3, r4, r5⟩ := r
    refine ⟨p, _, rfl, SqT.of hp, rfl, v1, _, rfl, h1.run S0 H0 S σ H v1 x.a R r1 _ fun σ1 R1 w1 => ⟨v2, _, rfl, (h2 x.a).run S0 H0 S σ1 H v2 x.b R1 r2 _ fun σ2 R2 w2 =>
      ⟨v3, _, rfl, (h3 x.a x.b).run S0 H0 S σ2 H v3 x.c R2 r3 _ fun σ3 R3 w3 => ⟨v4, _, rfl, (h4 x.a x.b x.c).run S0 H0 S σ3 H v4 x.d R3 r4 _ fun σ4 R4 w4 =>
      ⟨v5, _, rfl, (h5 x.a x.b x.c x.d).run S0 H0 S σ4 H v5 x.e R4 r5 _ fun σ5 R5 w5 => ⟨rfl, q σ5 R5 (w5.trans (w4.trans (w3.trans (w2.trans w1))))⟩⟩⟩⟩⟩⟩⟩
end
/-- the tests of a comprehension -/
structure JTs (c : Stc) (ifs : List Expr) (tt : TT) (Γ : List Sl) (m : Option Bool) : Prop where
  pt : ∀ X, Fam c X → PTs X ifs tt
  ev : ∀ S0 H0 S σ H, StR c.K S0 H0 S Γ σ H → ∀ b, m = some b → EvB tt σ H b
theorem jts_nil {c : Stc} {Γ : List Sl} : JTs c [] tYes Γ (some true) := ⟨fun _ _ => pts_nil, fun _ _ _ _ _ _ _ hb H1 _ _ q => by cases hb; exact q H1 (Evl.Ex.refl H1)⟩
theorem jts_one {c : Stc} {Γ : List Sl} {e : Expr} {tt : TT} {m : Option Bool} (h : JT c e tt Γ m) : JTs c [e] tt Γ m := ⟨fun X F => pts_one (h.pt X F), h.ev⟩
def lcS (me : Md) : Ft := match me with
  | .fr => non
  | _ => all
def lcMd (me : Md) : Md := match me with
  | .fr => .fr
  | _ => .an
theorem lc_main {α β : Type} [Rp α] [Rp β] {c : Stc} {e : Expr} {ifs : List Expr} {wi : TI} {g : TG} {tt : TT} {te : TE} {vs : List Nat} {Γb : List Sl} {Γ' : α → List Sl} {f : α → Option Bool} {h : α → Option β} {me : Md} {σ : L2.St} {Hs : Hp} {E : Ft} {xs : List α} {zs : List β} {Q : VK}
    (si : SI c.K wi σ Hs E xs) (bw : Brw c.K Γb (wipe σ vs) Hs) (tg : TgOk c.K g vs Γb Γ') (ht : ∀ x, JTs c ifs tt (Γ' x) (f x)) (he : ∀ x, JE c e te (Γ' x) me (h x)) (hme : me ≠ .an) (hz : lcO f h xs = some zs)
    (q : ∀ v H', Ex Hs H' → Rp.r c.K (nw (lcS me) Hs) H' v zs → Q v H') : tLc wi g tt te vs σ Hs Q := by
  unfold lcO at hz
  by_cases hn : ¬ xs.length ≤ 40000
  · rw [if_neg hn] at hz; cases hz
  have hl : xs.length ≤ 40000 := Decidable.not_not.mp hn
  rw [if_pos hl] at hz
  refine si _ fun J H2 G Y e2 w st it => fun Dl hD => ?_
  -- what is made so far: cells of H2, or new ones, not the list itself
  let A : Ft := fun a => (match me with | .fr => non a | _ => H2 a ≠ none) ∨ (H2 a = none ∧ a ≠ Dl)
  refine lc_it w (D := Dl) (fun i Hi => ∃ acc ys rest, Ex H2 Hi ∧ Hi Dl = some (.lst acc) ∧ lcM f h (xs.drop i) = some rest ∧ zs = ys ++ rest ∧ acc.length ≤ i ∧ PySem.Paired (Rp.r c.K A Hi) acc ys)
    ⟨[], [], zs, Evl.Ex.new hD, upd_same, hz, rfl, Nat.le_refl _, .nil⟩ (fun i Hi _ ⟨_, _, _, ex, _⟩ => st Hi (fr_ex ex)) ?_ ?_
  · rintro i v Hi H4 hi ⟨acc, ys, rest, ex, hDl, hr, hzs, hal, hp⟩ y
    have hxi : xs[i]? = some xs[i] := List.getElem?_eq_getElem hi
    rw [List.drop_eq_getElem_cons hi] at hr
    obtain ⟨ex4, rv⟩ := it i _ hxi Hi v H4 (fr_ex ex) y
    have ex24 : Ex H2 H4 := ex.trans ex4
    -- the state in the turn
    have hDl4 : H4 Dl = some (.lst acc) := ex4 _ _ hDl
    let S : Ft := fun a => H4 a ≠ none ∧ a ≠ Dl
    have dmS : ∀ a, H2 a ≠ none → S a := fun a z => by
      cases q2 : H2 a with
      | none => exact absurd q2 z
      | some o => exact ⟨by rw [ex24 a o q2]; simp, fun ed => by rw [ed, hD] at q2; cases q2⟩
    have R : StR c.K all H4 S Γb (wipe σ vs) H4 := bw.st S (fun a z => dmS a (by
      cases q2 : Hs a with
      | none => exact absurd q2 z
      | some o => rw [e2 a o q2]; simp)) H4 (fr_ex (e2.trans ex24)) (fun a z => z.1)
    have rv' : Rp.r c.K S H4 v xs[i] := Rp.up (fun a z z4 => by
      rcases z with ⟨_, z⟩ | z
      · exact dmS a z
      · exact ⟨z4, fun ed => by rw [ed, hDl] at z; cases z⟩) rv
    refine tg.run all H4 S (wipe σ vs) H4 v _ R rv' _ fun σ' R' hw => ?_
    refine ⟨hw.trans wipe_idem, ?_⟩
    have hr : (f xs[i]).bind (fun b => if b then (h xs[i]).bind fun y => (lcM f h (xs.drop (i + 1))).bind fun ys => some (y :: ys) else lcM f h (xs.drop (i + 1))) = some rest := hr
    cases hf : f xs[i] with
    | none => rw [hf] at hr; cases hr
    | some b =>
      rw [hf] at hr
      refine (ht xs[i]).ev all H4 S σ' H4 R' b hf H4 (Evl.Ex.refl H4) _ fun H5 e5 => ?_
      have mono : ∀ {H6}, Ex H4 H6 → PySem.Paired (Rp.r c.K A H6) acc ys := fun {H6} e6 => paired_mono hp fun _ _ => Rp.ex (ex4.trans e6)
      cases b with
      | false =>
        refine iteF ⟨acc, ys, rest, ex24.trans e5, e5 _ _ hDl4, hr, hzs, by omega, mono e5⟩
      | true =>
        refine iteT ?_
        cases hh : h xs[i] with
        | none => rw [hh] at hr; cases hr
        | some y' =>
          rw [hh] at hr
          cases hm : lcM f h (xs.drop (i + 1)) with
          | none => rw [hm] at hr; cases hr
          | some rest' =>
            rw [hm] at hr
            have hr := Option.some.inj hr
            refine (he xs[i]).ev all H4 S σ' H4 R' y' hh H5 e5 _ fun u H6 e6 r6 => ?_
            refine ⟨acc, e6 _ _ (e5 _ _ hDl4), Evl.sz_lt (by omega), ?_⟩
            have ex6 : Ex H2 (upd H6 Dl (.lst (acc ++ [u]))) := Evl.Ex.mut ((ex24.trans e5).trans e6) hD
            -- nothing that is made so far speaks of the list itself
            have nA : ¬ A Dl := fun z => by
              rcases z with z | z
              · cases me with
                | fr => exact z
                | vl => exact z hD
                | an => exact z hD
              · exact z.2 rfl
            have fv : Fv A H6 (upd H6 Dl (.lst (acc ++ [u]))) := fun a za => by
              have nd : a ≠ Dl := fun ed => nA (ed ▸ za)
              exact ⟨fun _ z => by rw [upd_ne nd]; exact z, fun _ z => by rw [upd_ne nd]; exact z, fun _ _ z => by rw [upd_ne nd]; exact z, fun _ _ _ z => by rw [upd_ne nd]; exact z⟩
            have inA : ∀ a, nw (Sof me S H4) H5 a → H6 a ≠ none → A a := fun a z z6 => by
              have nd : a ≠ Dl := fun ed => by
                subst ed
                rcases z with z | z
                · cases me with
                  | fr => exact z
                  | vl => exact z.2 rfl
                  | an => exact hme rfl
                · rw [e5 _ _ hDl4] at z; cases z
              cases q2 : H2 a with
              | none => exact .inr ⟨q2, nd⟩
              | some o =>
                rcases z with z | z
                · cases me with
                  | fr => exact z.elim
                  | vl => exact .inl (by show H2 a ≠ none; rw [q2]; simp)
                  | an => exact absurd rfl hme
                · rw [e5 _ _ (ex24 _ _ q2)] at z; cases z
            refine ⟨acc ++ [u], ys ++ [y'], rest', ex6, upd_same, rfl, by rw [hzs, ← hr, List.append_assoc] <;> rfl, by rw [List.length_append]; show acc.length + 1 ≤ i + 1; omega, ?_⟩
            exact PySem.Paired.snoc (paired_mono (mono (e5.trans e6)) fun _ _ => Rp.fr (fun _ z _ => z) fv) (Rp.fr (fun _ z _ => z) fv (Rp.up inA r6))
  · rintro Hi ⟨acc, ys, rest, ex, hDl, hr, hzs, _, hp⟩
    rw [List.drop_length] at hr
    cases hr
    rw [List.append_nil] at hzs
    subst hzs
    refine q _ Hi (e2.trans ex) ⟨Dl, acc, rfl, .inr (Evl.fresh_back e2 hD), hDl, paired_mono hp fun _ _ => Rp.up fun a z _ => ?_⟩
    rcases z with z | z
    · cases me with
      | fr => exact z.elim
      | vl => exact .inl trivial
      | an => exact .inl trivial
    · exact .inr (Evl.fresh_back e2 z.1)
section
variable {c : Stc} {Γ : List Sl} {α β : Type} [Rp α] [Rp β] [Inhabited α] {elt tg iter : Expr} {ifs : List Expr} {scope : Scope} {pos : Pos} {wi : TI} {g : TG} {tt : TT} {te : TE} {ma me : Md} {m : Option (List α)} {f : α → Option Bool} {h : α → Option β} {Γ' : α → List Sl}
theorem je_lc (own : List (Str × Nat)) (hN : c.N.Nodup) (hi : JI c tg iter wi Γ ma m) (ok : blkC c.N c.sc scope own = true) (hg : ∀ X, Fam (c.blk scope) X → PG X tg g) (tgo : TgOk c.K g (own.map (·.2)) (wipeG (Γ.map Sl.bor) (own.map (·.2))) Γ')
    (ht : ∀ x, JTs (c.blk scope) ifs tt (Γ' x) (f x)) (he : ∀ x, JE (c.blk scope) elt te (Γ' x) me (h x)) (hme : me ≠ .an := by decide) (hs : ∀ (env : Env) x, foldedSetIterable iter env x = pure x := by intro _ _; rfl) :
    JE c (.ListComp elt [⟨tg, iter, ifs, 0⟩] scope pos) (tLc wi g tt te (own.map (·.2))) Γ (lcMd me) (m.bind (lcO f h)) :=
  ⟨fun X F => pe_lc F.calm (by rw [F.hN]; exact hN) (hi.pi X F) (by rw [F.hN, F.hsc]; exact blkOk_by ok) (fun s H C cl fp => hg _ (F.blk scope s H C cl fp)) (fun s H C cl fp => (ht default).pt _ (F.blk scope s H C cl fp)) (fun s H C cl fp => (he default).pe _ (F.blk scope s H C cl fp)) (fun x => hs _ x), fun S0 H0 S σ H R z hz H1 e1 Q q => by
    cases h1 : m with
    | none => rw [h1] at hz; cases hz
    | some xs =>
      rw [h1] at hz
      have bw : Brw c.K (wipeG (Γ.map Sl.bor) (own.map (·.2))) (wipe σ (own.map (·.2))) H1 := ⟨fun S' hS H' hf hd => (brw_of R (own.map (·.2))).st S' (fun a z => hS a (by
        cases q2 : H a with
        | none => exact absurd q2 z
        | some o => rw [e1 a o q2]; simp)) H' (fun a o z z2 => hf a o (by show H1 a ≠ none; rw [e1 a o z2]; simp) (e1 a o z2)) hd⟩
      refine lc_main (c := c.blk scope) (hi.ev S0 H0 S σ H R xs h1 H1 e1) bw tgo ht he hme hz fun v H' e' r => q v H' e' (Rp.up (fun a z _ => nw_up (fun a z => ?_) a z) r)
      cases me <;> exact z⟩
end
end Sm
end

section
set_option maxRecDepth 100000
set_option maxHeartbeats 4000000
namespace Sm
open PySem L2

/-! ### comprehensions over a dict's keys -/
section
variable {c : Stc} {Γ : List Sl} {α β : Type} [Rp α] [Rp β] {elt tg : Expr} {ifs : List Expr} {scope : Scope} {pos pos' : Pos} {g : TG} {tt : TT} {te : TE} {me : Md} {f : Str → Option Bool} {h : Str → Option β} {Γ' : Str → List Sl}
theorem key_at {α : Type} [Rp α] {K : PySem.W.Frag} {S : Ft} {H : Hp} {kvs : List (Key × V)} {ps : Dct α} (r : RpD K S H kvs ps) {i : Nat} {x : Str} (hi : (ps.map (·.1))[i]? = some x) {k : Key} {v : V} (hk : kvs[i]? = some (k, v)) : k = Sum.inr x := by
  rw [List.getElem?_map] at hi
  cases hp : ps[i]? with
  | none => rw [hp] at hi; cases hi
  | some p =>
    rw [hp] at hi
    have hi := Option.some.inj hi
    obtain ⟨kv, hkv, e, _⟩ := paired_at r hp
    rw [hk] at hkv
    have hkv := Option.some.inj hkv
    subst hkv
    have e : k = Sum.inr p.1 := e
    rw [e, ← hi]
theorem si_keys {α : Type} [Rp α] {K : PySem.W.Frag} {S : Ft} {σ : L2.St} {H H1 : Hp} {d : Addr} {od : Obj} {kvs : List (Key × V)} {ps : Dct α} {j : Nat} (hd : H1 d = some (.frz od (.dK kvs))) (r : RpD K S H kvs ps) (hσ : σ[j]? = some (some (.ref d))) (E : Ft) (hE : E d) : SI K (iKeys (tVar j)) σ H1 E (ps.map (·.1)) := fun R q => by
  refine ⟨_, hσ, d, od, rfl, .inl ⟨kvs, hd, ?_⟩⟩
  have hl : (ps.map (·.1)).length = kvs.length := by rw [List.length_map]; exact r.length.symm
  refine q _ H1 _ _ (Evl.Ex.refl H1) (by rw [hl]; exact walk_keys) (fun H3 f => f d _ (.inl hE) hd) fun i x hi H3 v H4 f y => ?_
  obtain ⟨rfl, k, u, hk, rfl⟩ := y
  refine ⟨Evl.Ex.refl _, ?_⟩
  rw [key_at r hi hk]
  exact rfl
theorem je_lcK {α : Type} [iα : Rp α] (own : List (Str × Nat)) {x : Str} {ps : Dct α} (j : Nat) (hs' : Γ[j]? = some (.dct iα ps) := by rfl) (hN : c.N.Nodup) (ok : blkC c.N c.sc scope own = true) (hg : ∀ X, Fam (c.blk scope) X → PG X tg g) (tgo : TgOk c.K g (own.map (·.2)) (wipeG (Γ.map Sl.frz) (own.map (·.2))) Γ')
    (ht : ∀ x, JTs (c.blk scope) ifs tt (Γ' x) (f x)) (he : ∀ x, JE (c.blk scope) elt te (Γ' x) me (h x)) (hme : me ≠ .an := by decide) (hs : ∀ (env : Env) v, foldedSetIterable (.Name x pos') env v = pure v := by intro _ _; rfl)
    (hx : c.N[j]? = some x := by rfl) (hv : Vis c.sc x := by first | exact Or.inl rfl | exact Or.inr (Or.inl rfl) | exact Or.inr (Or.inr rfl)) (hd : (x == ("__debug__" : Str)) = false := by decide) (hcd : (x == ("__classdict__" : Str)) = false := by decide) :
    JE c (.ListComp elt [⟨tg, .Name x pos', ifs, 0⟩] scope pos) (tLockE (tLc (iKeys (tVar j)) g tt te (own.map (·.2)))) Γ (lcMd me) (lcO f h (ps.map (·.1))) :=
  ⟨fun X F => pe_lock (pe_lc F.calm (by rw [F.hN]; exact hN) (pi_keys (pe_var (by rw [F.hN]; exact hx) (F.vis hv) hd hcd)) (by rw [F.hN, F.hsc]; exact blkOk_by ok) (fun s H C cl fp => hg _ (F.blk scope s H C cl fp)) (fun s H C cl fp => (ht default).pt _ (F.blk scope s H C cl fp)) (fun s H C cl fp => (he default).pe _ (F.blk scope s H C cl fp)) (fun x => hs _ x)), fun S0 H0 S σ H R z hz H1 e1 Q q => by
    obtain ⟨d, kvs, hσ, sd, hd', r⟩ := R.sl j _ hs'
    refine ⟨d, .dK kvs, e1 d _ hd', trivial, fun od => ?_⟩
    have hfz : upd H1 d (.frz od (.dK kvs)) d = some (.frz od (.dK kvs)) := upd_same
    refine lc_main (c := c.blk scope) (si_keys (S := S) (H := H) hfz r (at_some hσ) all trivial) (brw_frz R _ e1 (e1 d _ hd') od) tgo ht he hme hz fun v H' e' rr => ?_
    refine ⟨e' d _ hfz, ?_⟩
    have ex : Ex H1 (upd H' d (.dK kvs)) := fun a o ha => by
      by_cases ad : a = d
      · subst ad
        rw [e1 a _ hd'] at ha
        rw [upd_same]; exact ha
      · rw [upd_ne ad]
        exact e' a o (by rw [upd_ne ad]; exact ha)
    refine q v _ ex (Rp.fr (S := nw (lcS me) (upd H1 d (.frz od (.dK kvs)))) (fun a z z2 => ?_) (fun a _ => ?_) rr)
    · rcases z with z | z
      · cases me <;> exact .inl z
      · refine .inr ?_
        by_cases ad : a = d
        · subst ad; rw [upd_same] at z; cases z
        · rw [upd_ne ad] at z; exact z
    · have keep : ∀ u, H' a = some u → (∀ kv, u ≠ .frz od (.dK kv)) → upd H' d (.dK kvs) a = some u := fun u hu hne => by
        by_cases ad : a = d
        · subst ad
          rw [e' a _ hfz] at hu
          exact absurd (Option.some.inj hu).symm (hne kvs)
        · rw [upd_ne ad]; exact hu
      exact ⟨fun xs z => keep _ z (fun _ e => nomatch e), fun xs z => keep _ z (fun _ e => nomatch e), fun o xs z => keep _ z (fun _ e => nomatch e), fun _ _ _ z => keep _ z (fun _ e => nomatch e)⟩⟩
end

/-! ### over a text, sign by sign -/
def sign (k : Nat) : Str := ⟨#[k]⟩
section
variable {c : Stc} {Γ : List Sl} {e : Expr} {te : TE} {ma : Md}
theorem ji_str {tg : Expr} {m : Option Str} (h : JE c e te Γ ma m) : JI c tg e (iStr te) Γ .fr (m.bind fun s => some (s.cps.toList.map sign)) :=
  ⟨fun X F => pi_str (h.pe X F), fun S0 H0 S σ H R xs hx H1 e1 Rr q => by
    cases h1 : m with
    | none => rw [h1] at hx; cases hx
    | some s =>
      rw [h1] at hx
      have hx := Option.some.inj hx
      subst hx
      refine h.ev S0 H0 S σ H R s h1 H1 e1 _ fun v H2 e2 r => ⟨s, r, ?_⟩
      have hl : (s.cps.toList.map sign).length = s.cps.size := by rw [List.length_map]; exact Array.length_toList
      refine q _ H2 _ _ e2 (by rw [hl]; exact walk_str) (fun _ _ => trivial) fun i x hi H3 v H4 f y => ?_
      obtain ⟨rfl, k, hk, rfl⟩ := y
      refine ⟨Evl.Ex.refl _, ?_⟩
      rw [List.getElem?_map, Array.getElem?_toList, hk] at hi
      have hi := Option.some.inj hi
      subst hi
      exact rfl⟩
/-- range(a, b), range(n) -/
def rng (lo hi : Int) : List Int := (List.range (hi - lo).toNat).map fun i => lo + (i : Nat)
theorem ji_range1 {tg : Expr} {m : Option Int} {p pos : Pos} (hm : c.mg "range" = none) (h : JE c e te Γ ma m) (hg : GlS c.sc "range" := by rfl) (hs : ∀ env, starEach [e] env = (false, eval e env) :: starEach [] env := by intro _; rfl) :
    JI c tg (.Call (.Name "range" p) [e] [] pos) (iRng1 (tCons te tNil)) Γ .fr (m.bind fun n => if 0 ≤ n ∧ n ≤ 100000 then some (rng 0 n) else none) :=
  ⟨fun X F => pi_range1 (F.gl hg) (by rw [F.hmg]; exact hm) (pa_cons (h.pe X F) pa_nil (hs _)) (hs _), fun S0 H0 S σ H R xs hx H1 e1 Rr q => by
    cases h1 : m with
    | none => rw [h1] at hx; cases hx
    | some n =>
      rw [h1] at hx
      have hx : (if 0 ≤ n ∧ n ≤ 100000 then some (rng 0 n) else none) = some xs := hx
      by_cases hn : ¬ (0 ≤ n ∧ n ≤ 100000)
      · rw [if_neg hn] at hx; cases hx
      have hn := Decidable.not_not.mp hn
      rw [if_pos hn] at hx
      have hx := Option.some.inj hx
      subst hx
      refine h.ev S0 H0 S σ H R n h1 H1 e1 _ fun v H2 e2 r => ?_
      cases r
      · refine ⟨n, rfl, by omega, by omega, ?_⟩
        have hl : (rng 0 n).length = n.toNat := by unfold rng; rw [List.length_map, List.length_range]; omega
        refine q _ H2 _ _ e2 (by rw [hl]; exact walk_range) (fun _ _ => trivial) fun i x hi H3 v H4 f y => ?_
        obtain ⟨rfl, rfl⟩ := y
        refine ⟨Evl.Ex.refl _, ?_⟩
        unfold rng at hi
        rw [List.getElem?_map] at hi
        cases hri : (List.range (n - 0).toNat)[i]? with
        | none => rw [hri] at hi; cases hi
        | some k =>
          rw [hri] at hi
          have hi := Option.some.inj hi
          obtain ⟨hk, ek⟩ := List.getElem?_eq_some_iff.mp hri
          rw [List.getElem_range] at ek
          subst ek
          subst hi
          exact rfl⟩
end

/-! ### data compared -/
class Dat (α : Type) [Rp α] where
  d : α → PyData
  ok : α → Bool
  dp : Nat
  q : α → α → Bool
  tod : ∀ {K : PySem.W.Frag} {S : Ft} {H : Hp} {v : V} {x : α}, Rp.r K S H v x → Dp K H v (d x)
  lay : ∀ x, ok x = true → (d x).canLay0 = true
  deep : ∀ x, (d x).depth ≤ dp
  eqd : ∀ x y, PyData.eqv (d x) (d y) = q x y
instance datInt : Dat Int := { d := .int, ok := fun _ => true, dp := 0, q := fun x y => x == y, tod := fun h => by cases h; exact .int _, lay := fun _ _ => by simp [PyData.canLay0], deep := fun _ => by simp [PyData.depth], eqd := fun x y => by simp [PyData.eqv] }
instance datBool : Dat Bool := { d := .bool, ok := fun _ => true, dp := 0, q := fun x y => x == y, tod := fun h => by cases h; exact .bl _, lay := fun _ _ => by simp [PyData.canLay0], deep := fun _ => by simp [PyData.depth], eqd := fun x y => by simp [PyData.eqv] }
instance datStr : Dat Str := { d := .str, ok := PyData.strOk, dp := 0, q := fun x y => x == y, tod := fun h => by cases h; exact .str _, lay := fun x h => by simpa [PyData.canLay0] using h, deep := fun _ => by simp [PyData.depth], eqd := fun x y => by simp [PyData.eqv] }
def optD : Option Str → PyData
  | none => .none
  | some s => .str s
instance datOpt : Dat (Option Str) := { d := optD, ok := fun x => match x with | none => true | some s => PyData.strOk s, dp := 0, q := fun x y => x == y, tod := fun {K S H v x} h => by cases h; cases x with | none => exact .non | some s => exact .str s, lay := fun x h => by cases x <;> simp_all [PyData.canLay0, optD], deep := fun x => by cases x <;> simp [PyData.depth, optD], eqd := fun x y => by cases x <;> cases y <;> simp [PyData.eqv, optD] }
def qAll {α : Type} (q : α → α → Bool) : List α → List α → Bool
  | [], [] => true
  | x :: xs, y :: ys => q x y && qAll q xs ys
  | _, _ => false
theorem dpAll_of {α : Type} [Rp α] [i : Dat α] {K : PySem.W.Frag} {S : Ft} {H : Hp} {vs : List V} {xs : List α} (h : PySem.Paired (Rp.r K S H) vs xs) : DpAll K H vs (xs.map i.d) := by
  induction h with
  | nil => exact .nil
  | cons a _ ih => exact .cons (i.tod a) ih
theorem canAll_of {α : Type} [Rp α] [i : Dat α] : ∀ xs : List α, xs.all i.ok = true → PyData.canLayAll0 (xs.map i.d) = true
  | [], _ => by simp [PyData.canLayAll0]
  | x :: xs, h => by
    rw [List.all_cons, Bool.and_eq_true] at h
    rw [List.map_cons]
    simp [PyData.canLayAll0, i.lay x h.1, canAll_of xs h.2]
theorem depAll_of {α : Type} [Rp α] [i : Dat α] : ∀ xs : List α, PyData.depthAll (xs.map i.d) ≤ i.dp
  | [] => by simp [PyData.depthAll]
  | x :: xs => by
    rw [List.map_cons]
    have h1 := i.deep x
    have h2 := depAll_of xs
    simp only [PyData.depthAll]
    omega
theorem eqvAll_of {α : Type} [Rp α] [i : Dat α] : ∀ xs ys : List α, PyData.eqvAll (xs.map i.d) (ys.map i.d) = qAll i.q xs ys
  | [], [] => by simp [PyData.eqvAll, qAll]
  | [], _ :: _ => by simp [PyData.eqvAll, qAll]
  | _ :: _, [] => by simp [PyData.eqvAll, qAll]
  | x :: xs, y :: ys => by
    simp only [List.map_cons, PyData.eqvAll, qAll]
    rw [i.eqd x y, eqvAll_of xs ys]
instance datList {α : Type} [Rp α] [i : Dat α] : Dat (List α) where
  d xs := .list (xs.map i.d)
  ok xs := xs.all i.ok
  dp := i.dp + 1
  q := qAll i.q
  tod := fun ⟨a, vs, e, _, ha, p⟩ => e ▸ .lst (SqL.of ha) (dpAll_of p)
  lay := fun xs h => by simp only [PyData.canLay0]; exact canAll_of xs h
  deep := fun xs => by have h := depAll_of (i := i) xs; simp only [PyData.depth]; omega
  eqd := fun xs ys => by simp only [PyData.eqv]; exact eqvAll_of xs ys
instance datT2 {α β : Type} [Rp α] [Rp β] [i : Dat α] [j : Dat β] : Dat (T2 α β) where
  d x := .tuple [i.d x.a, j.d x.b]
  ok x := i.ok x.a && j.ok x.b
  dp := max i.dp j.dp + 1
  q x y := i.q x.a y.a && j.q x.b y.b
  tod := fun ⟨p, v1, v2, e, _, hp, h1, h2⟩ => e ▸ .tup (SqT.of hp) (.cons (i.tod h1) (.cons (j.tod h2) .nil))
  lay := fun x h => by
    simp only [Bool.and_eq_true] at h
    simp [PyData.canLay0, PyData.canLayAll0, i.lay _ h.1, j.lay _ h.2]
  deep := fun x => by have h1 := i.deep x.a; have h2 := j.deep x.b; simp only [PyData.depth, PyData.depthAll]; omega
  eqd := fun x y => by simp [PyData.eqv, PyData.eqvAll, i.eqd, j.eqd]
instance datT3 {α β γ : Type} [Rp α] [Rp β] [Rp γ] [i : Dat α] [j : Dat β] [k : Dat γ] : Dat (T3 α β γ) where
  d x := .tuple [i.d x.a, j.d x.b, k.d x.c]
  ok x := i.ok x.a && (j.ok x.b && k.ok x.c)
  dp := max i.dp (max j.dp k.dp) + 1
  q x y := i.q x.a y.a && (j.q x.b y.b && k.q x.c y.c)
  tod := fun ⟨p, v1, v2, v3, e, _, hp, h1, h2, h3⟩ => e ▸ .tup (SqT.of hp) (.cons (i.tod h1) (.cons (j.tod h2) (.cons (k.tod h3) .nil)))
  lay := fun x h => by
    simp only [Bool.and_eq_true] at h
    simp [PyData.canLay0, PyData.canLayAll0, i.lay _ h.1, j.lay _ h.2.1, k.lay _ h.2.2]
  deep := fun x => by have h1 := i.deep x.a; have h2 := j.deep x.b; have h3 := k.deep x.c; simp only [PyData.depth, PyData.depthAll]; omega
  eqd := fun x y => by simp [PyData.eqv, PyData.eqvAll, i.eqd, j.eqd, k.eqd]
instance datT5 {α β γ δ ε : Type} [Rp α] [Rp β] [Rp γ] [Rp δ] [Rp ε] [i : Dat α] [j : Dat β] [k : Dat γ] [l : Dat δ] [n : Dat ε] : Dat (T5 α β γ δ ε) where
  d x := .tuple [i.d x.a, j.d x.b, k.d x.c, l.d x.d, n.d x.e]
  ok x := i.ok x.a && (j.ok x.b && (k.ok x.c && (l.ok x.d && n.ok x.e)))
  dp := max i.dp (max j.dp (max k.dp (max l.dp n.dp))) + 1
  q x y := i.q x.a y.a && (j.q x.b y.b && (k.q x.c y.c && (l.q x.d y.d && n.q x.e y.e)))
  tod := fun ⟨p, v1, v2, v3, v4, v5, e, _, hp, h1, h2, h3, h4, h5⟩ => e ▸ .tup (SqT.of hp) (.cons (i.tod h1) (.cons (j.tod h2) (.cons (k.tod h3) (.cons (l.tod h4) (.cons (n.tod h5) .nil)))))
  lay := fun x h => by
    simp only [Bool.and_eq_true] at h
    simp [PyData.canLay0, PyData.canLayAll0, i.lay _ h.1, j.lay _ h.2.1, k.lay _ h.2.2.1, l.lay _ h.2.2.2.1, n.lay _ h.2.2.2.2]
  deep := fun x => by have h1 := i.deep x.a; have h2 := j.deep x.b; have h3 := k.deep x.c; have h4 := l.deep x.d; have h5 := n.deep x.e; simp only [PyData.depth, PyData.depthAll]; omega
  eqd := fun x y => by simp [PyData.eqv, PyData.eqvAll, i.eqd, j.eqd, k.eqd, l.eqd, n.eqd]
def dEq {α : Type} [Rp α] [i : Dat α] (x y : α) : Option Bool := if i.ok x && i.ok y then some (i.q x y) else none
def dNe {α : Type} [Rp α] [i : Dat α] (x y : α) : Option Bool := if i.ok x && i.ok y then some (!i.q x y) else none
section
variable {c : Stc} {Γ : List Sl} {a b : Expr} {ta tb : TE} {ma mb : Md} {pos : Pos} {α : Type}
theorem shaped_of [Rp α] [i : Dat α] {x : α} (h : i.ok x = true) (hd : i.dp ≤ 64) : SeqAt.shaped (i.d x) = true := by
  unfold SeqAt.shaped
  have h2 := i.deep x
  rw [i.lay x h, Bool.true_and, decide_eq_true_eq]
  omega
theorem je_eqD [Rp α] [i : Dat α] {m1 m2 : Option α} (hd : i.dp ≤ 64 := by decide) (ha : JE c a ta Γ ma m1) (hb : JE c b tb Γ mb m2) : JE c (.Compare a [.Eq] [b] pos) (tOp (rEqD c.K) ta tb) Γ .fr (m1.bind fun x => m2.bind fun y => dEq x y) :=
  je_op dEq (fun X F p q => by rw [← F.hK]; exact pe_cmpR (op_eqD F.hu64) p q (nomark _)) (fun x y z v u H h1 h2 h Q q => by
    unfold dEq at h
    by_cases hk : (i.ok x && i.ok y) = true
    · rw [if_pos hk] at h
      have h := Option.some.inj h
      rw [Bool.and_eq_true] at hk
      exact ⟨_, _, i.tod h1, i.tod h2, shaped_of hk.1 hd, shaped_of hk.2 hd, by rw [i.eqd, h]; exact q⟩
    · rw [if_neg hk] at h; cases h) ha hb
theorem je_neD [Rp α] [i : Dat α] {m1 m2 : Option α} (hd : i.dp ≤ 64 := by decide) (ha : JE c a ta Γ ma m1) (hb : JE c b tb Γ mb m2) : JE c (.Compare a [.NotEq] [b] pos) (tOp (rNeD c.K) ta tb) Γ .fr (m1.bind fun x => m2.bind fun y => dNe x y) :=
  je_op dNe (fun X F p q => by rw [← F.hK]; exact pe_cmpR (op_neD F.hu64) p q (nomark _)) (fun x y z v u H h1 h2 h Q q => by
    unfold dNe at h
    by_cases hk : (i.ok x && i.ok y) = true
    · rw [if_pos hk] at h
      have h := Option.some.inj h
      rw [Bool.and_eq_true] at hk
      exact ⟨_, _, i.tod h1, i.tod h2, shaped_of hk.1 hd, shaped_of hk.2 hd, by rw [i.eqd]; rw [← h] at q; exact q⟩
    · rw [if_neg hk] at h; cases h) ha hb
theorem jt_eqD [Rp α] [i : Dat α] {m1 m2 : Option α} (hd : i.dp ≤ 64 := by decide) (ha : JE c a ta Γ ma m1) (hb : JE c b tb Γ mb m2) : JT c (.Compare a [.Eq] [b] pos) (tTest (tOp (rEqD c.K) ta tb)) Γ (m1.bind fun x => m2.bind fun y => dEq x y) :=
  jt_op dEq (fun X F p q => by rw [← F.hK]; exact pt_cmpR (op_eqD F.hu64) p q (nomark _)) (je_eqD (pos := pos) hd ha hb) rfl ha hb
theorem jt_neD [Rp α] [i : Dat α] {m1 m2 : Option α} (hd : i.dp ≤ 64 := by decide) (ha : JE c a ta Γ ma m1) (hb : JE c b tb Γ mb m2) : JT c (.Compare a [.NotEq] [b] pos) (tTest (tOp (rNeD c.K) ta tb)) Γ (m1.bind fun x => m2.bind fun y => dNe x y) :=
  jt_op dNe (fun X F p q => by rw [← F.hK]; exact pt_cmpR (op_neD F.hu64) p q (nomark _)) (je_neD (pos := pos) hd ha hb) rfl ha hb
/-- script == [] -/
theorem je_eqScr {m1 : Option Scr} {p : Pos} (ha : JE c a ta Γ ma m1) : JE c (.Compare a [.Eq] [.List [] p] pos) (tOp (rEqD c.K) ta (tLst tNil)) Γ .fr (m1.bind fun x => some x.ns.isEmpty) :=
  ⟨fun X F => by rw [← F.hK]; exact pe_cmpR (op_eqD F.hu64) (ha.pe X F) (pe_lst pa_nil) (nomark _), fun S0 H0 S σ H R z hz H1 e1 Q q => by
    cases h : m1 with
    | none => rw [h] at hz; cases hz
    | some x =>
      rw [h] at hz
      have hz := Option.some.inj hz
      subst hz
      refine ha.ev S0 H0 S σ H R x h H1 e1 _ fun v H2 e2 r => ?_
      obtain ⟨p, rfl, hs⟩ := Scr.sq r
      refine ⟨Nat.zero_le _, fun l hl => ?_⟩
      have ex : Ex H2 (upd H2 l (.lst [])) := Evl.Ex.new hl
      refine ⟨.list (x.ns.map .int), .list [], .lst (Evl.ex_l ex hs) ?_, .lst (SqL.of upd_same) .nil, ?_, by decide, ?_⟩
      · have : ∀ ns : List Int, DpAll c.K (upd H2 l (.lst [])) (ns.map V.int) (ns.map .int) := fun ns => by
          induction ns with
          | nil => exact .nil
          | cons a r ih => exact .cons (.int a) ih
        exact this _
      · have := shaped_of (i := datList (α := Int)) (x := x.ns) (by show x.ns.all (fun _ => true) = true; simp) (by decide)
        exact this
      · have hq : PyData.eqv (.list (x.ns.map .int)) (.list []) = x.ns.isEmpty := by cases x.ns <;> simp [PyData.eqv, PyData.eqvAll]
        rw [hq]
        exact q _ _ (e2.trans ex) rfl⟩
theorem jt_eqScr {m1 : Option Scr} {p : Pos} (ha : JE c a ta Γ ma m1) : JT c (.Compare a [.Eq] [.List [] p] pos) (tTest (tOp (rEqD c.K) ta (tLst tNil))) Γ (m1.bind fun x => some x.ns.isEmpty) :=
  ⟨fun X F => by rw [← F.hK]; exact pt_cmpR (op_eqD F.hu64) (ha.pe X F) (pe_lst pa_nil) (nomark _), fun S0 H0 S σ H R z hz H1 e1 Q q => (je_eqScr (pos := pos) (p := p) ha).ev S0 H0 S σ H R z hz H1 e1 _ fun v H2 e2 r => ⟨z, r, q H2 e2⟩⟩
end

/-! ### isinstance, the kind known -/
class Knd (α : Type) [Rp α] where
  ty : String
  is : ∀ {K : PySem.W.Frag} {S : Ft} {H : Hp} {v : V} {x : α}, Rp.r K S H v x → TyX K H v (.type ty)
instance kndInt : Knd Int := { ty := "int", is := fun h => by cases h; exact .base (.int _) }
instance kndBool : Knd Bool := { ty := "bool", is := fun h => by cases h; exact .base (.bl _) }
instance kndStr : Knd Str := { ty := "str", is := fun h => by cases h; exact .base (.str _) }
instance kndList {α : Type} [Rp α] : Knd (List α) := { ty := "list", is := fun ⟨a, vs, e, _, ha, _⟩ => e ▸ .base (.lst ha) }
instance kndT2 {α β : Type} [Rp α] [Rp β] : Knd (T2 α β) := { ty := "tuple", is := fun ⟨p, v1, v2, e, _, hp, _⟩ => e ▸ .base (.tup hp) }
instance kndT3 {α β γ : Type} [Rp α] [Rp β] [Rp γ] : Knd (T3 α β γ) := { ty := "tuple", is := fun ⟨p, v1, v2, v3, e, _, hp, _⟩ => e ▸ .base (.tup hp) }
instance kndT5 {α β γ δ ε : Type} [Rp α] [Rp β] [Rp γ] [Rp δ] [Rp ε] : Knd (T5 α β γ δ ε) := { ty := "tuple", is := fun ⟨p, v1, v2, v3, v4, v5, e, _, hp, _⟩ => e ▸ .base (.tup hp) }
theorem je_isi {c : Stc} {Γ : List Sl} {e : Expr} {te : TE} {ma : Md} {α : Type} [Rp α] [k : Knd α] {m : Option α} {T : String} {tn : Str} (b : Bool) {p p2 pos : Pos} (hm : c.mg "isinstance" = none) (hm2 : c.mg tn = none) (hv : bootBuiltins tn = some (.type T)) (hb : kitB k.ty T = some b) (h : JE c e te Γ ma m) (hg : GlS c.sc "isinstance" := by rfl) (hg2 : GlS c.sc tn := by rfl)
    (hs : ∀ env, starEach (e :: [.Name tn p2]) env = (false, eval e env) :: starEach [.Name tn p2] env := by intro _; rfl) (hd : (tn == ("__debug__" : Str)) = false := by decide) (hn : tn ≠ "__name__" := by decide) :
    JE c (.Call (.Name "isinstance" p) [e, .Name tn p2] [] pos) (tCB (rIsi c.K) (tCons te (tCons (tC (.ty T)) tNil))) Γ .fr (m.bind fun _ => some b) :=
  ⟨fun X F => by rw [← F.hK]; exact pe_callB call_isi (F.gl hg) (by rw [F.hmg]; exact hm) (by decide +kernel) (pa_cons (h.pe X F) (pa_cons (pe_bltn (F.gl hg2) (by rw [F.hmg]; exact hm2) hv rfl (hd := hd) (hn := hn)) pa_nil) (hs _)) (by decide) (by decide) (hs _), fun S0 H0 S σ H R z hz H1 e1 Q q => by
    cases h1 : m with
    | none => rw [h1] at hz; cases hz
    | some x =>
      rw [h1] at hz
      have hz := Option.some.inj hz
      subst hz
      refine h.ev S0 H0 S σ H R x h1 H1 e1 _ fun v H2 e2 r => ?_
      exact ⟨v, .ty T, .type k.ty, .type T, b, rfl, .ty T, k.is r, kit_ty hb, q _ H2 e2 rfl⟩⟩
end Sm
end

section
set_option maxRecDepth 100000
set_option maxHeartbeats 4000000
namespace Sm
open PySem L2

/-! ### what a def promises, calls -/
def rFt (fr : Bool) (S : Ft) : Ft := if fr = true then non else S
def spOf {P ρ : Type} [Rp ρ] (K : PySem.W.Frag) (G : PySem.W.Frag → Ft → Hp → List V → P → Prop) (fr : Bool) (m : P → Option ρ) : Sp := fun vs H Q _ =>
  ∃ p r S, m p = some r ∧ (∀ a, S a → H a ≠ none) ∧ G K S H vs p ∧ ∀ v H', Ex H H' → Rp.r K (nw (rFt fr S) H) H' v r → Q v H'
/-- the same where a new dict is handed back -/
def spOfD {P ρ : Type} [Rp ρ] (K : PySem.W.Frag) (G : PySem.W.Frag → Ft → Hp → List V → P → Prop) (m : P → Option (Dct ρ)) : Sp := fun vs H Q _ =>
  ∃ p r S, m p = some r ∧ (∀ a, S a → H a ≠ none) ∧ G K S H vs p ∧ ∀ l kvs H', Ex H H' → H l = none → H' l = some (.dK kvs) → RpD K (nw S H) H' kvs r → Q (.ref l) H'
def GD (α : Type) [Rp α] {P : Type} (G : PySem.W.Frag → Ft → Hp → List V → P → Prop) : PySem.W.Frag → Ft → Hp → List V → (Dct α × P) → Prop := fun K S H vs x => ∃ l kvs r, vs = .ref l :: r ∧ S l ∧ H l = some (.dK kvs) ∧ RpD K S H kvs x.1 ∧ G K S H r x.2
instance gkD {α : Type} [Rp α] {P : Type} {G : PySem.W.Frag → Ft → Hp → List V → P → Prop} [Gk G] : Gk (GD α G) := ⟨fun hs e ⟨l, kvs, r, ev, sl, hl, h, g⟩ => ⟨l, kvs, r, ev, hs l sl (by rw [hl]; simp), e l _ hl, RpD.fr hs (fv_ex e) h, Gk.fr hs e g⟩⟩
/-- a def by its name -/
def Dn (P : Program) (w : World) (K : PySem.W.Frag) (mg : Str → Option Value) (base : Heap) (x : Str) (k : Nat) (sp : Sp) : Prop :=
  ∃ f fd ps, FnOk P w K mg base CX0 k f fd ps sp ∧ mg x = some (.ref f) ∧ PySem.W.keepIn K (.ref f) = true ∧ Binds K fd ps []
section
variable {c : Stc} {Γ : List Sl} {e : Expr} {es : List Expr} {te : TE} {ta : TA} {ma mb : Md} {pos : Pos}
theorem ja_dct {α P : Type} [i : Rp α] {G : PySem.W.Frag → Ft → Hp → List V → P → Prop} [Gk G] {tr : TA} {m2 : Option P} {x : Str} {ps : Dct α} {p : Pos} (j : Nat) (hs' : Γ[j]? = some (.dct i ps) := by rfl) (h2 : JA c es tr Γ mb m2 G) (hN : c.N[j]? = some x := by rfl) (hv : Vis c.sc x := by first | exact Or.inl rfl | exact Or.inr (Or.inl rfl) | exact Or.inr (Or.inr rfl))
    (hd : (x == ("__debug__" : Str)) = false := by decide) (hcd : (x == ("__classdict__" : Str)) = false := by decide) : JA c (.Name x p :: es) (tCons (tVar j) tr) Γ (Md.vl.sup mb) (m2.bind fun y => some (ps, y)) (GD α G) :=
  ⟨fun X F => pa_cons (pe_var (by rw [F.hN]; exact hN) (F.vis hv) hd hcd) (h2.pa X F), fun S0 H0 S σ H R z hz H1 e1 Q q => by
    cases hh : m2 with
    | none => rw [hh] at hz; cases hz
    | some y =>
      rw [hh] at hz
      have hz := Option.some.inj hz
      subst hz
      obtain ⟨l, kvs, hu, sl, hl, r⟩ := R.sl j _ hs'
      refine ⟨_, at_some hu, ?_⟩
      refine h2.ev S0 H0 S σ H R y hh H1 e1 _ fun vs H3 e3 r2 => ?_
      have e13 := e1.trans e3
      have up : ∀ a, S a → nw (Sof (Md.vl.sup mb) S H) H1 a := fun a z => .inl (by cases mb <;> first | exact z | exact trivial)
      exact q _ H3 e3 ⟨l, kvs, vs, rfl, up l sl, e13 l _ hl, RpD.fr (fun a z _ => up a z) (fv_ex e13) r, Gk.fr (fun a z _ => nw_up Sof.r a z) (Evl.Ex.refl H3) r2⟩⟩
theorem ja_odc {α P : Type} [i : Rp α] {G : PySem.W.Frag → Ft → Hp → List V → P → Prop} [Gk G] {tr : TA} {m2 : Option P} {x : Str} {ps : Dct α} {p : Pos} (j : Nat) (hs' : Γ[j]? = some (.odc i ps) := by rfl) (h2 : JA c es tr Γ mb m2 G) (hN : c.N[j]? = some x := by rfl) (hv : Vis c.sc x := by first | exact Or.inl rfl | exact Or.inr (Or.inl rfl) | exact Or.inr (Or.inr rfl))
    (hd : (x == ("__debug__" : Str)) = false := by decide) (hcd : (x == ("__classdict__" : Str)) = false := by decide) : JA c (.Name x p :: es) (tCons (tVar j) tr) Γ .an (m2.bind fun y => some (ps, y)) (GD α G) :=
  ⟨fun X F => pa_cons (pe_var (by rw [F.hN]; exact hN) (F.vis hv) hd hcd) (h2.pa X F), fun S0 H0 S σ H R z hz H1 e1 Q q => by
    cases hh : m2 with
    | none => rw [hh] at hz; cases hz
    | some y =>
      rw [hh] at hz
      have hz := Option.some.inj hz
      subst hz
      obtain ⟨l, kvs, hu, sl, hl, r⟩ := R.sl j _ hs'
      refine ⟨_, at_some hu, ?_⟩
      refine h2.ev S0 H0 S σ H R y hh H1 e1 _ fun vs H3 e3 r2 => ?_
      have e13 := e1.trans e3
      exact q _ H3 e3 ⟨l, kvs, vs, rfl, .inl trivial, e13 l _ hl, RpD.fr (fun a z _ => .inl trivial) (fv_ex e13) r, Gk.fr (fun a z _ => .inl trivial) (Evl.Ex.refl H3) r2⟩⟩
def cMd (fr : Bool) (ma : Md) : Md := if fr = true then .fr else ma
theorem pe_dn {X : Cx} (Fm : Fam c X) {k : Nat} {x : Str} {sp : Sp} {p : Pos} (D : Dn c.P c.w c.K c.mg c.base x k sp) (hk : k ≤ c.k) (ha : PA X (e :: es) ta) (hg : GlS c.sc x) (hd : (x == ("__debug__" : Str)) = false) (he : ∀ env, starEach (e :: es) env = (false, eval e env) :: starEach es env)
    (hpl : ∀ (env : Env) (p : Pos), (backTo p (starEach es env)).any (·.1) = false) : PE X (.Call (.Name x p) (e :: es) [] pos) (tCall sp [] E0 ta) := by
  obtain ⟨f, fd, ps, F, hm, kp, b⟩ := D
  have F' : FnOk X.prog X.w X.K X.mg X.base CX0 k f fd ps sp := by
    rw [Fm.hP, Fm.hw, Fm.hK, Fm.hmg, Fm.hb]; exact F
  have b' : Binds X.K fd ps [] := by rw [Fm.hK]; exact b
  exact pe_call F' (Fm.room.mono hk) (Fm.gl hg) (by rw [Fm.hmg]; exact hm) (by rw [Fm.hK]; exact kp) b' .nil pass0 ha hd (he _) (hpl _ _)
theorem je_call {P ρ : Type} [Rp ρ] {G : PySem.W.Frag → Ft → Hp → List V → P → Prop} [Gk G] {fr : Bool} {m : P → Option ρ} {mp : Option P} {x : Str} {k : Nat} {p : Pos} (D : Dn c.P c.w c.K c.mg c.base x k (spOf c.K G fr m)) (ha : JA c (e :: es) ta Γ ma mp G) (hk : k ≤ c.k := by exact Nat.le_of_ble_eq_true rfl) (hg : GlS c.sc x := by rfl)
    (hd : (x == ("__debug__" : Str)) = false := by decide) (he : ∀ env, starEach (e :: es) env = (false, eval e env) :: starEach es env := by intro _; rfl) (hpl : ∀ (env : Env) (p : Pos), (backTo p (starEach es env)).any (·.1) = false := by intro _ _; rfl) :
    JE c (.Call (.Name x p) (e :: es) [] pos) (tCall (spOf c.K G fr m) [] E0 ta) Γ (cMd fr ma) (mp.bind m) :=
  ⟨fun X F => pe_dn F D hk (ha.pa X F) hg hd he hpl, fun S0 H0 S σ H R z hz H1 e1 Q q => by
    cases h1 : mp with
    | none => rw [h1] at hz; cases hz
    | some y =>
      rw [h1] at hz
      refine ha.ev S0 H0 S σ H R y h1 H1 e1 _ fun vs H2 e2 r => ?_
      refine ⟨y, z, fun a => nw (Sof ma S H) H1 a ∧ H2 a ≠ none, hz, fun a z => z.2, by rw [List.append_nil]; exact Gk.fr (fun a z z2 => ⟨z, z2⟩) (Evl.Ex.refl H2) r, fun v H3 e3 r3 => ?_⟩
      refine q v H3 (e2.trans e3) (Rp.up (fun a z _ => ?_) r3)
      rcases z with z | z
      · cases fr with
        | true => exact z.elim
        | false => exact z.1
      · exact .inr (Evl.fresh_back e2 z)⟩
end

/-! ### statements -/
/-- what a def hands back -/
class Rt (ρ : Type) where
  r : PySem.W.Frag → Bool → Ft → Hp → Hp → V → ρ → Prop
instance rtRp {ρ : Type} [i : Rp ρ] : Rt ρ := ⟨fun K fr S0 H0 H v x => i.r K (nw (rFt fr S0) H0) H v x⟩
/-- a new dict handed back -/
structure DD (α : Type) where
  ps : Dct α
instance rtDD {α : Type} [Rp α] : Rt (DD α) := ⟨fun K _ S0 H0 H v x => ∃ l kvs, v = .ref l ∧ H0 l = none ∧ H l = some (.dK kvs) ∧ RpD K (nw S0 H0) H kvs x.ps⟩
inductive Out (τ ρ : Type)
  | nx (s : τ)
  | rt (r : ρ)
def Out.go {τ τ' ρ : Type} (k : τ → Option (Out τ' ρ)) : Out τ ρ → Option (Out τ' ρ)
  | .nx s => k s
  | .rt r => some (.rt r)
def OutOk {τ ρ : Type} [Rt ρ] (K : PySem.W.Frag) (S0 : Ft) (H0 : Hp) (S : Ft) (H : Hp) (fr : Bool) (Γf : τ → List Sl) (D : Ends) : Out τ ρ → Prop
  | .nx s => ∀ S' σ' H', StR K S0 H0 S' (Γf s) σ' H' → (∀ a, S a → S' a) → Fr S H H' → D.nx σ' H'
  | .rt r => ∀ v H', Ex H0 H' → Fr S H H' → Rt.r K fr S0 H0 H' v r → D.rt v H'
theorem out_keep {τ ρ : Type} [Rt ρ] {K : PySem.W.Frag} {S0 : Ft} {H0 : Hp} {S S1 : Ft} {H H1 : Hp} {fr : Bool} {Γf : τ → List Sl} {D : Ends} {o : Out τ ρ} (up : ∀ a, S a → S1 a) (f : Fr S H H1) (q : OutOk K S0 H0 S H fr Γf D o) : OutOk K S0 H0 S1 H1 fr Γf D o := by
  cases o with
  | rt r => exact fun v H' ex f2 z => q v H' ex (fun a o sa ha => f2 a o (up a sa) (f a o sa ha)) z
  | nx s2 => exact fun S2 σ2 H2 R2 up2 f2 => q S2 σ2 H2 R2 (fun a z => up2 a (up a z)) fun a o z z2 => f2 a o (up a z) (f a o z z2)
structure JS (c : Stc) (sts : List Stmt) (ts : TS) (Γ : List Sl) {τ ρ : Type} [Rt ρ] (fr : Bool) (Γf : τ → List Sl) (m : Option (Out τ ρ)) : Prop where
  ps : ∀ X, Fam c X → PSs X sts ts
  ev : ∀ S0 H0 S σ H, StR c.K S0 H0 S Γ σ H → ∀ o, m = some o → ∀ D : Ends, OutOk c.K S0 H0 S H fr Γf D o → ts D σ H
/-- what is left out is forgotten -/
inductive Sub : List Sl → List Sl → Prop
  | nil : Sub [] []
  | same {s : Sl} {a b : List Sl} : Sub a b → Sub (s :: a) (s :: b)
  | drop {s : Sl} {a b : List Sl} : Sub a b → Sub (s :: a) (.no :: b)
theorem Sub.get : ∀ {a b : List Sl} {j : Nat} {s : Sl}, Sub a b → b[j]? = some s → s = .no ∨ a[j]? = some s
  | _, _, _, _, .nil, h => by simp at h
  | _, _, 0, s, .same _, h => .inr h
  | _, _, j + 1, s, .same t, h => by
    rw [List.getElem?_cons_succ] at h ⊢
    exact t.get h
  | _, _, 0, s, .drop _, h => .inl (Option.some.inj h).symm
  | _, _, j + 1, s, .drop t, h => by
    rw [List.getElem?_cons_succ] at h ⊢
    exact t.get h
theorem Sub.len {a b : List Sl} (h : Sub a b) : a.length = b.length := by
  induction h with
  | nil => rfl
  | same _ ih => exact congrArg (· + 1) ih
  | drop _ ih => exact congrArg (· + 1) ih
theorem Sub.refl : ∀ Γ : List Sl, Sub Γ Γ
  | [] => .nil
  | _ :: r => .same (Sub.refl r)
theorem StR.sub {K : PySem.W.Frag} {S0 : Ft} {H0 : Hp} {S : Ft} {Γ Γ' : List Sl} {σ : L2.St} {H : Hp} (R : StR K S0 H0 S Γ σ H) (h : Sub Γ Γ') : StR K S0 H0 S Γ' σ H where
  len := R.len.trans h.len
  sl := fun j s hs => by
    rcases h.get hs with rfl | hs
    · exact trivial
    · exact R.sl j s hs
  dm := R.dm
  ap := fun i j s t l ij hi hj os ot h1 h2 => by
    rcases h.get hi with rfl | hi
    · cases os
    rcases h.get hj with rfl | hj
    · cases ot
    exact R.ap i j s t l ij hi hj os ot h1 h2
  ow := fun j s l hj os h1 => by
    rcases h.get hj with rfl | hj
    · cases os
    exact R.ow j s l hj os h1
  ex := R.ex
  sr := R.sr
/-- the heap has grown: what is new may be kept -/
def grw (S : Ft) (H H1 : Hp) : Ft := fun a => H1 a ≠ none ∧ (S a ∨ H a = none)
theorem own_ref {K : PySem.W.Frag} {S : Ft} {H : Hp} {o : Option V} {s : Sl} (os : s.isOwn = true) (h : SlotR K S H o s) : ∃ l u, o = some (.ref l) ∧ ¬ S l ∧ H l = some u := by
  cases s with
  | own i xs => obtain ⟨l, vs, e, n, hl, _⟩ := h; exact ⟨l, _, e, n, hl⟩
  | odc i ps => obtain ⟨l, vs, e, n, hl, _⟩ := h; exact ⟨l, _, e, n, hl⟩
  | _ => cases os
theorem StR.grow {K : PySem.W.Frag} {S0 : Ft} {H0 : Hp} {S : Ft} {Γ : List Sl} {σ : L2.St} {H H1 : Hp} (R : StR K S0 H0 S Γ σ H) (e : Ex H H1) : StR K S0 H0 (grw S H H1) Γ σ H1 where
  len := R.len
  sl := fun j s hs => by
    refine SlotR.fr (fun a sa _ => ?_) (fun os l eo nl z => ?_) (fun os l u eo hl => e l u hl) (fr_ex e) (R.sl j s hs)
    · cases q : H a with
      | none => exact absurd q (R.dm a sa)
      | some o => exact ⟨by rw [e a o q]; simp, .inl sa⟩
    · obtain ⟨l', u, e2, _, hl⟩ := own_ref os (R.sl j s hs)
      rw [eo] at e2
      cases e2
      rcases z.2 with z | z
      · exact nl z
      · rw [hl] at z; cases z
  dm := fun a z => z.1
  ap := R.ap
  ow := R.ow
  ex := R.ex.trans e
  sr := fun a z => z.2.elim (R.sr a) fun z => .inr (Evl.fresh_back R.ex z)
theorem grw_up {S : Ft} {H H1 : Hp} (d : ∀ a, S a → H a ≠ none) (e : Ex H H1) : ∀ a, S a → grw S H H1 a := fun a sa => by
  cases q : H a with
  | none => exact absurd q (d a sa)
  | some o => exact ⟨by rw [e a o q]; simp, .inl sa⟩
section
variable {c : Stc} {Γ : List Sl} {τ τ' ρ : Type} [Rt ρ] {fr : Bool} {Γf : τ → List Sl} {Γ1 : τ' → List Sl} {rest : List Stmt} {tu : TS}
theorem js_nil (s : τ) (h : Sub Γ (Γf s)) : JS c [] tNext Γ (ρ := ρ) fr Γf (some (.nx s)) :=
  ⟨fun _ _ => pss_nil, fun S0 H0 S σ H R o ho D q => by
    cases ho
    exact q S σ H (R.sub h) (fun _ z => z) (fun _ _ _ z => z)⟩
/-- one statement ahead -/
theorem js_cons {st : Stmt} {t : TS} {m1 : Option (Out τ' ρ)} {k : τ' → Option (Out τ ρ)} (hp : ∀ X, Fam c X → PS X st t)
    (h1 : ∀ S0 H0 S σ H, StR c.K S0 H0 S Γ σ H → ∀ o, m1 = some o → ∀ D : Ends, OutOk c.K S0 H0 S H fr Γ1 D o → t D σ H) (s0 : τ') (h2 : ∀ s, JS c rest tu (Γ1 s) fr Γf (k s)) :
    JS c (st :: rest) (tSeq t tu) Γ fr Γf (m1.bind (Out.go k)) :=
  ⟨fun X F => pss_cons (hp X F) ((h2 s0).ps X F), fun S0 H0 S σ H R o ho D q => by
    cases hm : m1 with
    | none => rw [hm] at ho; cases ho
    | some o1 =>
      rw [hm] at ho
      cases o1 with
      | rt r =>
        cases ho
        exact h1 S0 H0 S σ H R (.rt r) hm _ q
      | nx s =>
        refine h1 S0 H0 S σ H R (.nx s) hm _ fun S' σ' H' R' up f => ?_
        exact (h2 s).ev S0 H0 S' σ' H' R' o ho D (out_keep up f q)⟩
/-- x = e -/
theorem js_asg {α : Type} [i : Rp α] [Inhabited α] {x : Str} {p pos : Pos} {e : Expr} {te : TE} {md : Md} {me : Option α} {k : α → Option (Out τ ρ)} (j : Nat) (hp : ∀ X, Fam c X → PS X (.Assign [.Name x p] e pos) (tAsg te (gName j)))
    (he : JE c e te Γ md me) (hk : ∀ v, JS c rest tu (Γ.set j (.val i v)) fr Γf (k v)) (hmd : md ≠ .an := by decide) : JS c (.Assign [.Name x p] e pos :: rest) (tSeq (tAsg te (gName j)) tu) Γ fr Γf (me.bind k) :=
  ⟨fun X F => pss_cons (hp X F) ((hk default).ps X F), fun S0 H0 S σ H R o ho D q => by
    cases hm : me with
    | none => rw [hm] at ho; cases ho
    | some y =>
      rw [hm] at ho
      refine he.ev S0 H0 S σ H R y hm H (Evl.Ex.refl H) _ fun v H1 e1 r => ?_
      have R1 := (R.grow e1).set (i := i) (v := v) (x := y) j (Rp.up (fun a z z1 => ⟨z1, by
        rcases z with z | z
        · cases md with
          | fr => exact z.elim
          | vl => exact .inl z
          | an => exact absurd rfl hmd
        · exact .inr z⟩) r)
      refine (hk y).ev S0 H0 _ _ H1 R1 o ho D ?_
      exact out_keep (grw_up R.dm e1) (fr_ex e1) q⟩
theorem js_set {α : Type} [i : Rp α] [Inhabited α] {x : Str} {p pos : Pos} {e : Expr} {te : TE} {md : Md} {me : Option α} {k : α → Option (Out τ ρ)} (j : Nat) (hN : c.N.Nodup) (he : JE c e te Γ md me) (hk : ∀ v, JS c rest tu (Γ.set j (.val i v)) fr Γf (k v)) (hmd : md ≠ .an := by decide)
    (hx : c.N[j]? = some x := by rfl) (hl : Loc c.sc x := by first | exact Or.inl rfl | exact Or.inr rfl) (hf : c.fn x = true := by rfl) (hs : ∀ env, swapsWith e (some (.Name x p)) pos.line env = pure false := by intro _; rfl) : JS c (.Assign [.Name x p] e pos :: rest) (tSeq (tAsg te (gName j)) tu) Γ fr Γf (me.bind k) :=
  js_asg j (fun X F => ps_set (by rw [F.hN]; exact hN) (by rw [F.hN]; exact hx) (by rw [F.hsc]; exact hl) (he.pe X F) (hs _) (.inl (by rw [F.hfn]; exact hf))) he hk hmd
/-- a value of any mode, nothing being made -/
def noOwn (Γ : List Sl) : Bool := Γ.all fun s => !s.isOwn
theorem StR.dom {K : PySem.W.Frag} {S0 : Ft} {H0 : Hp} {S : Ft} {Γ : List Sl} {σ : L2.St} {H : Hp} (R : StR K S0 H0 S Γ σ H) (h : noOwn Γ = true) (h0 : ∀ a, H a ≠ none → nw S0 H0 a) : StR K S0 H0 (dom H) Γ σ H where
  len := R.len
  sl := fun j s hs => by
    have no : s.isOwn = false := by
      have := List.all_eq_true.mp h s (List.mem_of_getElem? hs)
      simpa using this
    exact SlotR.fr (fun a _ z => z) (fun os => by rw [no] at os; cases os) (fun os => by rw [no] at os; cases os) (fun _ _ _ z => z) (R.sl j s hs)
  dm := fun _ z => z
  ap := fun i j s t l ij hi hj os ot _ _ => by
    have := List.all_eq_true.mp h s (List.mem_of_getElem? hi)
    rw [os] at this; cases this
  ow := fun j s l hj os _ => by
    have := List.all_eq_true.mp h s (List.mem_of_getElem? hj)
    rw [os] at this; cases this
  ex := R.ex
  sr := h0
def retOk : Bool → Md → Bool
  | _, .fr => true
  | false, .vl => true
  | _, _ => false
/-- return e -/
theorem js_ret {ρ : Type} [Rp ρ] {e : Expr} {te : TE} {md : Md} {me : Option ρ} {pos : Pos} (he : JE c e te Γ md me) (hmd : retOk fr md = true := by rfl) : JS c (.Return (some e) pos :: []) (tRet te) Γ fr Γf (me.bind fun r => some (.rt r)) :=
  ⟨fun X F => pss_one (ps_ret (he.pe X F)), fun S0 H0 S σ H R o ho D q => by
    cases hm : me with
    | none => rw [hm] at ho; cases ho
    | some y =>
      rw [hm] at ho
      cases ho
      refine he.ev S0 H0 S σ H R y hm H (Evl.Ex.refl H) _ fun v H1 e1 r => q v H1 (R.ex.trans e1) (fr_ex e1) (Rp.up (fun a z _ => ?_) r)
      rcases z with z | z
      · cases md with
        | fr => exact z.elim
        | vl =>
          cases fr with
          | false => exact R.sr a z
          | true => cases hmd
        | an => cases fr <;> cases hmd
      · exact .inr (Evl.fresh_back R.ex z)⟩
/-- return of the list that was made -/
theorem js_retO {α : Type} [i : Rp α] {x : Str} {p pos : Pos} {xs : List α} {Γf : τ → List Sl} (j : Nat) (hs : Γ[j]? = some (.own i xs) := by rfl) (hN : c.N[j]? = some x := by rfl) (hv : Vis c.sc x := by first | exact Or.inl rfl | exact Or.inr (Or.inl rfl) | exact Or.inr (Or.inr rfl))
    (hd : (x == ("__debug__" : Str)) = false := by decide) (hcd : (x == ("__classdict__" : Str)) = false := by decide) : JS c (.Return (some (.Name x p)) pos :: []) (tRet (tVar j)) Γ (ρ := List α) false Γf (some (.rt xs)) :=
  ⟨fun X F => pss_one (ps_ret (pe_var (by rw [F.hN]; exact hN) (F.vis hv) hd hcd)), fun S0 H0 S σ H R o ho D q => by
    cases ho
    obtain ⟨l, vs, hu, nl, hl, r⟩ := R.sl j _ hs
    have h0 := R.ow j _ l hs rfl hu
    exact ⟨_, at_some hu, q _ H R.ex (fun _ _ _ z => z) ⟨l, vs, rfl, .inr h0, hl, paired_mono r fun _ _ => Rp.up fun a z _ => R.sr a z⟩⟩⟩
theorem js_retOl {α : Type} [i : Lit α] {x : Str} {p pos : Pos} {xs : List α} {Γf : τ → List Sl} (j : Nat) (hs : Γ[j]? = some (.own rpLit xs) := by rfl) (hN : c.N[j]? = some x := by rfl) (hv : Vis c.sc x := by first | exact Or.inl rfl | exact Or.inr (Or.inl rfl) | exact Or.inr (Or.inr rfl))
    (hd : (x == ("__debug__" : Str)) = false := by decide) (hcd : (x == ("__classdict__" : Str)) = false := by decide) : JS c (.Return (some (.Name x p)) pos :: []) (tRet (tVar j)) Γ (ρ := List α) true Γf (some (.rt xs)) :=
  ⟨fun X F => pss_one (ps_ret (pe_var (by rw [F.hN]; exact hN) (F.vis hv) hd hcd)), fun S0 H0 S σ H R o ho D q => by
    cases ho
    obtain ⟨l, vs, hu, nl, hl, r⟩ := R.sl j _ hs
    have h0 := R.ow j _ l hs rfl hu
    exact ⟨_, at_some hu, q _ H R.ex (fun _ _ _ z => z) ⟨l, vs, rfl, .inr h0, hl, paired_mono r fun _ _ z => z⟩⟩⟩
/-- e, its value dropped -/
theorem js_expr {α : Type} [Rp α] {e : Expr} {te : TE} {md : Md} {me : Option α} {pos : Pos} {k : Option (Out τ ρ)} (he : JE c e te Γ md me) (hk : JS c rest tu Γ fr Γf k) (hs : ∀ env, swapsWith e none pos.line env = pure false := by intro _; rfl) : JS c (.Expr e pos :: rest) (tSeq (tDrop te) tu) Γ fr Γf (me.bind fun _ => k) :=
  ⟨fun X F => pss_cons (ps_expr (he.pe X F) (hs _)) (hk.ps X F), fun S0 H0 S σ H R o ho D q => by
    cases hm : me with
    | none => rw [hm] at ho; cases ho
    | some y =>
      rw [hm] at ho
      refine he.ev S0 H0 S σ H R y hm H (Evl.Ex.refl H) _ fun v H1 e1 r => ?_
      refine hk.ev S0 H0 _ _ H1 (R.grow e1) o ho D ?_
      exact out_keep (grw_up R.dm e1) (fr_ex e1) q⟩
/-- if -/
theorem js_if {e : Expr} {tt : TT} {ta tb : TS} {A B : List Stmt} {pos : Pos} {mc : Option Bool} {m1 m2 : Option (Out τ' ρ)} {k : τ' → Option (Out τ ρ)} [Inhabited τ'] (hc : JT c e tt Γ mc) (h1 : JS c A ta Γ fr Γ1 m1) (h2 : JS c B tb Γ fr Γ1 m2) (hk : ∀ s, JS c rest tu (Γ1 s) fr Γf (k s)) :
    JS c (.If e A B pos :: rest) (tSeq (tIfS tt ta tb) tu) Γ fr Γf ((mc.bind fun b => if b then m1 else m2).bind (Out.go k)) :=
  js_cons (Γ1 := Γ1) (fun X F => ps_if (hc.pt X F) (h1.ps X F) (h2.ps X F)) (fun S0 H0 S σ H R o ho D q => by
    cases hm : mc with
    | none => rw [hm] at ho; cases ho
    | some b =>
      rw [hm] at ho
      refine hc.ev S0 H0 S σ H R b hm H (Evl.Ex.refl H) _ fun H1 e1 => ?_
      have q' : OutOk c.K S0 H0 (grw S H H1) H1 fr Γ1 D o := out_keep (grw_up R.dm e1) (fr_ex e1) q
      cases b with
      | true => exact iteT (h1.ev S0 H0 _ _ H1 (R.grow e1) o ho D q')
      | false => exact iteF (h2.ev S0 H0 _ _ H1 (R.grow e1) o ho D q')) default hk
/-- the last statement of a block: an if of which every way returns -/
theorem js_ifR {e : Expr} {tt : TT} {ta tb : TS} {A B : List Stmt} {pos : Pos} {mc : Option Bool} {m1 m2 : Option (Out τ ρ)} (hc : JT c e tt Γ mc) (h1 : JS c A ta Γ fr Γf m1) (h2 : JS c B tb Γ fr Γf m2) :
    JS c (.If e A B pos :: []) (tIfS tt ta tb) Γ fr Γf (mc.bind fun b => if b then m1 else m2) :=
  ⟨fun X F => pss_one (ps_if (hc.pt X F) (h1.ps X F) (h2.ps X F)), fun S0 H0 S σ H R o ho D q => by
    cases hm : mc with
    | none => rw [hm] at ho; cases ho
    | some b =>
      rw [hm] at ho
      refine hc.ev S0 H0 S σ H R b hm H (Evl.Ex.refl H) _ fun H1 e1 => ?_
      have q' : OutOk c.K S0 H0 (grw S H H1) H1 fr Γf D o := out_keep (grw_up R.dm e1) (fr_ex e1) q
      cases b with
      | true => exact iteT (h1.ev S0 H0 _ _ H1 (R.grow e1) o ho D q')
      | false => exact iteF (h2.ev S0 H0 _ _ H1 (R.grow e1) o ho D q')⟩
/-- a statement that is never reached -/
theorem js_never {sts : List Stmt} : JS (τ := τ) (ρ := ρ) c sts tNever Γ fr Γf none := ⟨fun _ _ => pss_never, fun _ _ _ _ _ _ o ho => by cases ho⟩
end
end Sm
end

section
set_option maxRecDepth 100000
set_option maxHeartbeats 4000000
namespace Sm
open PySem L2

/-! ### what is made in a def -/
theorem StR.keep {K : PySem.W.Frag} {S0 : Ft} {H0 : Hp} {S : Ft} {Γ : List Sl} {σ : L2.St} {H H1 : Hp} (R : StR K S0 H0 S Γ σ H) (e : Ex H H1) : StR K S0 H0 S Γ σ H1 where
  len := R.len
  sl := fun j s hs => SlotR.fr (fun _ z _ => z) (fun _ _ _ z => z) (fun _ l u _ hl => e l u hl) (fr_ex e) (R.sl j s hs)
  dm := fun a z => by
    cases q : H a with
    | none => exact absurd q (R.dm a z)
    | some o => rw [e a o q]; simp
  ap := R.ap
  ow := R.ow
  ex := R.ex.trans e
  sr := R.sr
/-- slot j becomes a thing of the def's own at l -/
theorem StR.made {K : PySem.W.Frag} {S0 : Ft} {H0 : Hp} {S : Ft} {Γ : List Sl} {σ : L2.St} {H : Hp} (R : StR K S0 H0 S Γ σ H) (j : Nat) (s : Sl) (os : s.isOwn = true) {l : Addr} (hs : SlotR K S H (some (.ref l)) s) (h0 : H0 l = none)
    (hf : ∀ i t, i ≠ j → Γ[i]? = some t → t.isOwn = true → at_ σ i ≠ some (.ref l)) : StR K S0 H0 S (Γ.set j s) (σ.set j (some (.ref l))) H where
  len := by rw [List.length_set, List.length_set, R.len]
  sl := fun k t hk => by
    by_cases e : k = j
    · subst e
      have hl : k < Γ.length := by
        have := (List.getElem?_eq_some_iff.mp hk).1
        rwa [List.length_set] at this
      rw [List.getElem?_set_self hl] at hk
      cases hk
      rw [at_set_self (by rw [R.len]; exact hl)]
      exact hs
    · rw [List.getElem?_set_ne (Ne.symm e)] at hk
      rw [at_set_ne e]
      exact R.sl k t hk
  dm := R.dm
  ap := fun a b s1 s2 l' ab ha hb o1 o2 h1 h2 => by
    by_cases ea : a = j
    · subst ea
      have eb : b ≠ a := Ne.symm ab
      have hl : a < σ.length := by
        have := (List.getElem?_eq_some_iff.mp ha).1
        rw [List.length_set] at this
        rw [R.len]; exact this
      rw [at_set_self hl] at h1
      rw [at_set_ne eb] at h2
      rw [List.getElem?_set_ne ab] at hb
      cases h1
      exact hf b s2 eb hb o2 h2
    · rw [at_set_ne ea] at h1
      rw [List.getElem?_set_ne (Ne.symm ea)] at ha
      by_cases eb : b = j
      · subst eb
        have hl : b < σ.length := by
          have := (List.getElem?_eq_some_iff.mp hb).1
          rw [List.length_set] at this
          rw [R.len]; exact this
        rw [at_set_self hl] at h2
        cases h2
        exact hf a s1 ea ha o1 h1
      · rw [at_set_ne eb] at h2
        rw [List.getElem?_set_ne (Ne.symm eb)] at hb
        exact R.ap a b s1 s2 l' ab ha hb o1 o2 h1 h2
  ow := fun k t l' hk ot h1 => by
    by_cases e : k = j
    · subst e
      have hl : k < σ.length := by
        have := (List.getElem?_eq_some_iff.mp hk).1
        rw [List.length_set] at this
        rw [R.len]; exact this
      rw [at_set_self hl] at h1
      cases h1; exact h0
    · rw [List.getElem?_set_ne (Ne.symm e)] at hk
      rw [at_set_ne e] at h1
      exact R.ow k t l' hk ot h1
  ex := R.ex
  sr := R.sr
theorem set_at {σ : L2.St} {j : Nat} {v : V} (h : at_ σ j = some v) : σ.set j (some v) = σ := by
  have h := at_some h
  apply List.ext_getElem?
  intro i
  by_cases e : j = i
  · subst e
    have hl := (List.getElem?_eq_some_iff.mp h).1
    rw [List.getElem?_set_self hl, h]
  · rw [List.getElem?_set_ne e]
/-- what stands at the own address of slot j is changed -/
theorem StR.put {K : PySem.W.Frag} {S0 : Ft} {H0 : Hp} {S : Ft} {Γ : List Sl} {σ : L2.St} {H : Hp} (R : StR K S0 H0 S Γ σ H) {j : Nat} {s s' : Sl} (hj : Γ[j]? = some s) (os : s.isOwn = true) (os' : s'.isOwn = true) {l : Addr} {u : HO} (hl : at_ σ j = some (.ref l))
    (hs : SlotR K S (upd H l u) (some (.ref l)) s') : StR K S0 H0 S (Γ.set j s') σ (upd H l u) := by
  obtain ⟨l', u0, e0, nS, hH⟩ := own_ref os (R.sl j s hj)
  rw [hl] at e0
  cases e0
  have h0 : H0 l = none := R.ow j s l hj os hl
  have f : Fr S H (upd H l u) := fun a o sa ha => by
    rw [upd_ne (show a ≠ l from fun e => nS (e ▸ sa))]; exact ha
  refine ⟨by rw [List.length_set, R.len], fun k t hk => ?_, fun a sa => ?_, fun a b s1 s2 l' ab ha hb o1 o2 h1 h2 => ?_, fun k t l' hk ot h1 => ?_, fun a o ha => ?_, R.sr⟩
  · by_cases e : k = j
    · subst e
      have hlt : k < Γ.length := (List.getElem?_eq_some_iff.mp hj).1
      rw [List.getElem?_set_self hlt] at hk
      cases hk
      rw [hl]; exact hs
    · rw [List.getElem?_set_ne (Ne.symm e)] at hk
      refine SlotR.fr (fun _ z _ => z) (fun _ _ _ z => z) (fun ot l' u' eo hu => ?_) f (R.sl k t hk)
      rw [upd_ne (show l' ≠ l from fun e2 => R.ap k j t s l' e hk hj ot os eo (e2 ▸ hl))]
      exact hu
  · by_cases e : a = l
    · rw [e, upd_same]; simp
    · rw [upd_ne e]; exact R.dm a sa
  · have : ∀ {k : Nat} {t : Sl}, (Γ.set j s')[k]? = some t → t.isOwn = true → ∃ t' : Sl, Γ[k]? = some t' ∧ t'.isOwn = true := fun {k t} hk ot => by
      by_cases e : k = j
      · subst e; exact ⟨s, hj, os⟩
      · rw [List.getElem?_set_ne (Ne.symm e)] at hk; exact ⟨t, hk, ot⟩
    obtain ⟨t1, g1, p1⟩ := this ha o1
    obtain ⟨t2, g2, p2⟩ := this hb o2
    exact R.ap a b t1 t2 l' ab g1 g2 p1 p2 h1 h2
  · by_cases e : k = j
    · subst e
      rw [hl] at h1; cases h1; exact h0
    · rw [List.getElem?_set_ne (Ne.symm e)] at hk
      exact R.ow k t l' hk ot h1
  · rw [upd_ne (show a ≠ l from fun e => by rw [e, h0] at ha; cases ha)]
    exact R.ex a o ha
theorem fresh_own {K : PySem.W.Frag} {S0 : Ft} {H0 : Hp} {S : Ft} {Γ : List Sl} {σ : L2.St} {H : Hp} (R : StR K S0 H0 S Γ σ H) {l : Addr} (hl : H l = none) : ∀ i t, Γ[i]? = some t → t.isOwn = true → at_ σ i ≠ some (.ref l) := fun i t hi ot e => by
  obtain ⟨l', u, e2, _, hu⟩ := own_ref ot (R.sl i t hi)
  rw [e] at e2
  cases e2
  rw [hl] at hu; cases hu
section
variable {c : Stc} {Γ : List Sl} {τ τ' ρ : Type} [Rt ρ] {fr : Bool} {Γf : τ → List Sl} {Γ1 : τ' → List Sl} {rest : List Stmt} {tu : TS}
/-- x = [] -/
theorem js_own {α : Type} (i : Rp α) {x : Str} {p q pos : Pos} {k : Option (Out τ ρ)} (j : Nat) (hN : c.N.Nodup) (hk : JS c rest tu (Γ.set j (.own i [])) fr Γf k) (hx : c.N[j]? = some x := by rfl) (hl : Loc c.sc x := by first | exact Or.inl rfl | exact Or.inr rfl) (hf : c.fn x = true := by rfl) :
    JS c (.Assign [.Name x p] (.List [] q) pos :: rest) (tSeq (tAsg (tLst tNil) (gName j)) tu) Γ fr Γf k :=
  ⟨fun X F => pss_cons (ps_set (by rw [F.hN]; exact hN) (by rw [F.hN]; exact hx) (by rw [F.hsc]; exact hl) (pe_lst pa_nil) rfl (.inl (by rw [F.hfn]; exact hf))) (hk.ps X F), fun S0 H0 S σ H R o ho D q => by
    refine ⟨Nat.zero_le _, fun l hl => ?_⟩
    have ex : Ex H (upd H l (.lst [])) := Evl.Ex.new hl
    have nS : ¬ S l := fun z => R.dm l z hl
    refine hk.ev S0 H0 _ _ _ ((R.keep ex).made j (.own i []) rfl ⟨l, [], rfl, nS, upd_same, .nil⟩ (Evl.fresh_back R.ex hl) fun i t _ => fresh_own R hl i t) o ho D (out_keep (fun _ z => z) (fr_ex ex) q)⟩
/-- x = {} -/
theorem js_odc {α : Type} (i : Rp α) {x : Str} {p q pos : Pos} {k : Option (Out τ ρ)} (j : Nat) (hN : c.N.Nodup) (hk : JS c rest tu (Γ.set j (.odc i [])) fr Γf k) (hx : c.N[j]? = some x := by rfl) (hl : Loc c.sc x := by first | exact Or.inl rfl | exact Or.inr rfl) (hf : c.fn x = true := by rfl) :
    JS c (.Assign [.Name x p] (.Dict [] [] q) pos :: rest) (tSeq (tAsg tDNewK (gName j)) tu) Γ fr Γf k :=
  ⟨fun X F => pss_cons (ps_set (by rw [F.hN]; exact hN) (by rw [F.hN]; exact hx) (by rw [F.hsc]; exact hl) pe_dnewK rfl (.inl (by rw [F.hfn]; exact hf))) (hk.ps X F), fun S0 H0 S σ H R o ho D q => by
    refine fun l hl => ?_
    have ex : Ex H (upd H l (.dK [])) := Evl.Ex.new hl
    have nS : ¬ S l := fun z => R.dm l z hl
    refine hk.ev S0 H0 _ _ _ ((R.keep ex).made j (.odc i []) rfl ⟨l, [], rfl, nS, upd_same, .nil⟩ (Evl.fresh_back R.ex hl) fun i t _ => fresh_own R hl i t) o ho D (out_keep (fun _ z => z) (fr_ex ex) q)⟩
theorem grw_in {S : Ft} {H H1 : Hp} {md : Md} (hmd : md ≠ .an) : ∀ a, nw (Sof md S H) H a → H1 a ≠ none → grw S H H1 a := fun a z z1 => ⟨z1, by
  rcases z with z | z
  · cases md with
    | fr => exact z.elim
    | vl => exact .inl z
    | an => exact absurd rfl hmd
  · exact .inr z⟩
theorem grw_fr {S : Ft} {H H1 : Hp} {l : Addr} {u : HO} (d : ∀ a, S a → H a ≠ none) (e : Ex H H1) (nS : ¬ S l) : Fr S H (upd H1 l u) := fun a o sa ha => by
  rw [upd_ne (show a ≠ l from fun e => nS (e ▸ sa))]; exact e a o ha
/-- x.append(e) -/
theorem js_app {α : Type} [i : Rp α] {xs : List α} {x : Str} {e : Expr} {te : TE} {md : Md} {me : Option α} {p q r pos : Pos} {k : α → Option (Out τ ρ)} [Inhabited α] (j : Nat) (hs : Γ[j]? = some (.own i xs) := by rfl) (he : JE c e te Γ md me)
    (hk : ∀ v, JS c rest tu (Γ.set j (.own i (xs ++ [v]))) fr Γf (k v)) (hmd : md ≠ .an := by decide) (hN : c.N[j]? = some x := by rfl) (hv : Vis c.sc x := by first | exact Or.inl rfl | exact Or.inr (Or.inl rfl) | exact Or.inr (Or.inr rfl))
    (hd : (x == ("__debug__" : Str)) = false := by decide) (hcd : (x == ("__classdict__" : Str)) = false := by decide)
    (hpe : ∀ X, Fam c X → PE X e te → PE X (.Call (.Attribute (.Name x p) "append" q) [e] [] r) (tBM X.K "list" rAppend (tVar j) (tCons te tNil)) := by intro X F h; exact pe_bm PySem.F.plainAttrs_list PySem.F.slot_list_append PySem.F.type_list_append mt_append (pe_var (by rw [F.hN]; rfl) (F.vis (by first | exact Or.inl rfl | exact Or.inr (Or.inl rfl) | exact Or.inr (Or.inr rfl)))) (pa_cons h pa_nil))
    (hsw : ∀ env, swapsWith (.Call (.Attribute (.Name x p) "append" q) [e] [] r) none pos.line env = pure false := by intro _; rfl) :
    JS c (.Expr (.Call (.Attribute (.Name x p) "append" q) [e] [] r) pos :: rest) (tSeq (tDrop (tBM c.K "list" rAppend (tVar j) (tCons te tNil))) tu) Γ fr Γf (me.bind fun v => if xs.length < 50000 then k v else none) :=
  ⟨fun X F => pss_cons (ps_expr (by rw [← F.hK]; exact hpe X F (he.pe X F)) (hsw _)) ((hk default).ps X F), fun S0 H0 S σ H R o ho D qq => by
    cases hm : me with
    | none => rw [hm] at ho; cases ho
    | some y =>
      rw [hm] at ho
      have ho : (if xs.length < 50000 then k y else none) = some o := ho
      by_cases hn : ¬ xs.length < 50000
      · rw [if_neg hn] at ho; cases ho
      have hn := Decidable.not_not.mp hn
      rw [if_pos hn] at ho
      obtain ⟨l, vs, hu, nS, hl, r0⟩ := R.sl j _ hs
      refine ⟨_, at_some hu, .inl ⟨rfl, vs, SqL.of hl⟩, ?_⟩
      refine he.ev S0 H0 S σ H R y hm H (Evl.Ex.refl H) _ fun v H1 e1 r1 => ?_
      refine ⟨l, vs, v, rfl, rfl, e1 l _ hl, Evl.sz_lt (by rw [r0.length]; omega), ?_⟩
      have R1 := R.grow e1
      have nl : ¬ grw S H H1 l := fun z => z.2.elim nS fun z => by rw [hl] at z; cases z
      have fv : Fv (grw S H H1) H1 (upd H1 l (.lst (vs ++ [v]))) := fun a za => by
        have nd : a ≠ l := fun ed => nl (ed ▸ za)
        exact ⟨fun _ z => by rw [upd_ne nd]; exact z, fun _ z => by rw [upd_ne nd]; exact z, fun _ _ z => by rw [upd_ne nd]; exact z, fun _ _ _ z => by rw [upd_ne nd]; exact z⟩
      obtain ⟨l2, vs2, hu2, _, hl2, r2⟩ := R1.sl j _ hs
      rw [hu] at hu2
      cases hu2
      rw [e1 l _ hl] at hl2
      cases hl2
      refine (hk y).ev S0 H0 _ σ _ (R1.put hs rfl rfl hu ⟨l, _, rfl, nl, upd_same, PySem.Paired.snoc (paired_mono r2 fun _ _ => Rp.fr (fun _ z _ => z) fv) (Rp.fr (fun _ z _ => z) fv (Rp.up (grw_in hmd) r1))⟩) o ho D ?_
      exact out_keep (grw_up R.dm e1) (grw_fr R.dm e1 nS) qq⟩
theorem rpd_any {α : Type} [Rp α] {K : PySem.W.Frag} {S : Ft} {H : Hp} {kvs : List (Key × V)} {ps : Dct α} (h : RpD K S H kvs ps) (k : Str) : (kvs.any fun kv => decide (kv.1 = Sum.inr k)) = ps.any fun p => decide (p.1 = k) := by
  induction h with
  | nil => rfl
  | @cons kv p _ _ a _ ih =>
    rw [List.any_cons, List.any_cons, ih, a.1]
    congr 1
    rw [Bool.eq_iff_iff]
    simp
theorem rpd_put {α : Type} [Rp α] {K : PySem.W.Frag} {S : Ft} {H : Hp} {kvs : List (Key × V)} {ps : Dct α} (h : RpD K S H kvs ps) (k : Str) {v : V} {x : α} (r : Rp.r K S H v x) : RpD K S H (putK kvs (Sum.inr k) v) (dput ps k x) := by
  unfold putK dput
  rw [rpd_any h k]
  by_cases hk : (ps.any fun p => decide (p.1 = k)) = true
  · rw [if_pos hk, if_pos hk]
    clear hk
    induction h with
    | nil => exact .nil
    | @cons kv p _ _ a _ ih =>
      rw [List.map_cons, List.map_cons]
      refine .cons ?_ ih
      by_cases e : p.1 = k
      · rw [if_pos e, if_pos (by rw [a.1, e])]
        exact ⟨a.1, r⟩
      · rw [if_neg e, if_neg (by rw [a.1]; exact fun z => e (Sum.inr.inj z))]
        exact a
  · rw [if_neg hk, if_neg hk]
    exact PySem.Paired.snoc h ⟨rfl, r⟩
theorem rpd_drop {α : Type} [Rp α] {K : PySem.W.Frag} {S : Ft} {H : Hp} {kvs : List (Key × V)} {ps : Dct α} (h : RpD K S H kvs ps) (k : Str) : RpD K S H (dropK kvs (Sum.inr k)) (ddrop ps k) := by
  unfold dropK ddrop
  induction h with
  | nil => exact .nil
  | @cons kv p _ _ a _ ih =>
    have e1 : kv.1 = Sum.inr p.1 := a.1
    by_cases e : p.1 = k
    · rw [List.filter_cons_of_neg (by simp [e1, e]), List.filter_cons_of_neg (by simp [e])]
      exact ih
    · rw [List.filter_cons_of_pos (by simp [e1, e]), List.filter_cons_of_pos (by simp [e])]
      exact .cons a ih
/-- d[k] = v, d the def's own -/
theorem js_dput {α : Type} [i : Rp α] [Inhabited α] {ps : Dct α} {x : Str} {e kx : Expr} {te tk : TE} {md mk : Md} {me : Option α} {mkk : Option Str} {p q pos : Pos} {k : α → Str → Option (Out τ ρ)} (j : Nat) (hs : Γ[j]? = some (.odc i ps) := by rfl) (he : JE c e te Γ md me) (hkx : JE c kx tk Γ mk mkk)
    (hk : ∀ v s, JS c rest tu (Γ.set j (.odc i (dput ps s v))) fr Γf (k v s)) (hmd : md ≠ .an := by decide) (hN : c.N[j]? = some x := by rfl) (hv : Vis c.sc x := by first | exact Or.inl rfl | exact Or.inr (Or.inl rfl) | exact Or.inr (Or.inr rfl))
    (hd : (x == ("__debug__" : Str)) = false := by decide) (hcd : (x == ("__classdict__" : Str)) = false := by decide) (hsw : ∀ env, swapsWith e (some (.Subscript (.Name x p) kx q)) pos.line env = pure false := by intro _; rfl) :
    JS c (.Assign [.Subscript (.Name x p) kx q] e pos :: rest) (tSeq (sDPut (tVar j) tk te) tu) Γ fr Γf (me.bind fun v => mkk.bind fun s => if ps.length < 50000 then k v s else none) :=
  ⟨fun X F => pss_cons (ps_dput F.hu (pe_var (by rw [F.hN]; exact hN) (F.vis hv) hd hcd) (hkx.pe X F) (he.pe X F) (hsw _)) ((hk default default).ps X F), fun S0 H0 S σ H R o ho D qq => by
    cases hm : me with
    | none => rw [hm] at ho; cases ho
    | some y =>
      cases hm2 : mkk with
      | none => rw [hm, hm2] at ho; cases ho
      | some s =>
        rw [hm, hm2] at ho
        have ho : (if ps.length < 50000 then k y s else none) = some o := ho
        by_cases hn : ¬ ps.length < 50000
        · rw [if_neg hn] at ho; cases ho
        have hn := Decidable.not_not.mp hn
        rw [if_pos hn] at ho
        obtain ⟨l, kvs, hu, nS, hl, r0⟩ := R.sl j _ hs
        refine he.ev S0 H0 S σ H R y hm H (Evl.Ex.refl H) _ fun v H1 e1 r1 => ?_
        refine ⟨_, at_some hu, ?_⟩
        refine hkx.ev S0 H0 S σ H R s hm2 H1 e1 _ fun u H2 e2 r2 => ?_
        cases r2
        have e12 := e1.trans e2
        refine ⟨l, _, rfl, DPut.k (k := Sum.inr s) (e12 l _ hl) (Evl.sz_lt (by rw [r0.length]; omega)), ?_⟩
        have R1 := R.grow e12
        have nl : ¬ grw S H H2 l := fun z => z.2.elim nS fun z => by rw [hl] at z; cases z
        have fv : Fv (grw S H H2) H2 (upd H2 l (.dK (putK kvs (Sum.inr s) v))) := fun a za => by
          have nd : a ≠ l := fun ed => nl (ed ▸ za)
          exact ⟨fun _ z => by rw [upd_ne nd]; exact z, fun _ z => by rw [upd_ne nd]; exact z, fun _ _ z => by rw [upd_ne nd]; exact z, fun _ _ _ z => by rw [upd_ne nd]; exact z⟩
        obtain ⟨l2, vs2, hu2, _, hl2, r3⟩ := R1.sl j _ hs
        rw [hu] at hu2
        cases hu2
        rw [e12 l _ hl] at hl2
        cases hl2
        refine (hk y s).ev S0 H0 _ σ _ (R1.put hs rfl rfl hu ⟨l, _, rfl, nl, upd_same, rpd_put (RpD.fr (fun _ z _ => z) fv r3) s (Rp.fr (fun _ z _ => z) fv (Rp.up (fun a z z2 => grw_in (H1 := H2) hmd a z z2) (Rp.ex e2 r1)))⟩) o ho D ?_
        exact out_keep (grw_up R.dm e12) (grw_fr R.dm e12 nS) qq⟩
/-- x = f(..), f hands back a new dict -/
theorem js_setD {α P : Type} [i : Rp α] {G : PySem.W.Frag → Ft → Hp → List V → P → Prop} [Gk G] {m : P → Option (Dct α)} {mp : Option P} {x y : Str} {e : Expr} {es : List Expr} {ta : TA} {ma : Md} {kk : Nat} {p p2 p3 pos : Pos} {k : Dct α → Option (Out τ ρ)} (j : Nat) (hNd : c.N.Nodup) (Dd : Dn c.P c.w c.K c.mg c.base y kk (spOfD c.K G m)) (ha : JA c (e :: es) ta Γ ma mp G)
    (hk : ∀ v, JS c rest tu (Γ.set j (.dct i v)) fr Γf (k v)) (hma : ma ≠ .an := by decide) (hkk : kk ≤ c.k := by exact Nat.le_of_ble_eq_true rfl) (hg : GlS c.sc y := by rfl) (hx : c.N[j]? = some x := by rfl) (hl : Loc c.sc x := by first | exact Or.inl rfl | exact Or.inr rfl) (hf : c.fn x = true := by rfl)
    (hd : (y == ("__debug__" : Str)) = false := by decide) (he : ∀ env, starEach (e :: es) env = (false, eval e env) :: starEach es env := by intro _; rfl) (hpl : ∀ (env : Env) (p : Pos), (backTo p (starEach es env)).any (·.1) = false := by intro _ _; rfl)
    (hs : ∀ env, swapsWith (.Call (.Name y p2) (e :: es) [] p3) (some (.Name x p)) pos.line env = pure false := by intro _; rfl) :
    JS c (.Assign [.Name x p] (.Call (.Name y p2) (e :: es) [] p3) pos :: rest) (tSeq (tAsg (tCall (spOfD c.K G m) [] E0 ta) (gName j)) tu) Γ fr Γf ((mp.bind m).bind k) :=
  ⟨fun X F => pss_cons (ps_set (by rw [F.hN]; exact hNd) (by rw [F.hN]; exact hx) (by rw [F.hsc]; exact hl) (pe_dn F Dd hkk (ha.pa X F) hg hd he hpl) (hs _) (.inl (by rw [F.hfn]; exact hf))) ((hk []).ps X F), fun S0 H0 S σ H R o ho D qq => by
    cases h1 : mp with
    | none => rw [h1] at ho; cases ho
    | some y =>
      rw [h1] at ho
      cases h2 : m y with
      | none =>
        have ho : (m y).bind k = some o := ho
        rw [h2] at ho; cases ho
      | some z =>
        have ho : (m y).bind k = some o := ho
        rw [h2] at ho
        refine ha.ev S0 H0 S σ H R y h1 H (Evl.Ex.refl H) _ fun vs H2 e2 r => ?_
        refine ⟨y, z, fun a => nw (Sof ma S H) H a ∧ H2 a ≠ none, h2, fun a z => z.2, by rw [List.append_nil]; exact Gk.fr (fun a z z2 => ⟨z, z2⟩) (Evl.Ex.refl H2) r, fun l kvs H3 e3 hl0 hl3 r3 => ?_⟩
        have e23 := e2.trans e3
        have R1 := R.grow e23
        have gl : grw S H H3 l := ⟨by rw [hl3]; simp, .inr (Evl.fresh_back e2 hl0)⟩
        have q3 : RpD c.K (grw S H H3) H3 kvs z := RpD.fr (fun a za z3 => by
          rcases za with za | za
          · exact grw_in hma a za.1 z3
          · exact ⟨z3, .inr (Evl.fresh_back e2 za)⟩) (fv_ex (Evl.Ex.refl H3)) r3
        have R2 : StR c.K S0 H0 (grw S H H3) (Γ.set j (.dct i z)) (σ.set j (some (.ref l))) H3 := by
          refine ⟨by rw [List.length_set, List.length_set, R1.len], fun k' t hk' => ?_, R1.dm, fun a b s1 s2 l' ab ha' hb o1 o2 g1 g2 => ?_, fun k' t l' hk' ot g1 => ?_, R1.ex, R1.sr⟩
          · by_cases ee : k' = j
            · subst ee
              have hlt : k' < Γ.length := by
                have := (List.getElem?_eq_some_iff.mp hk').1
                rwa [List.length_set] at this
              rw [List.getElem?_set_self hlt] at hk'
              cases hk'
              rw [at_set_self (by rw [R.len]; exact hlt)]
              exact ⟨l, kvs, rfl, gl, hl3, q3⟩
            · rw [List.getElem?_set_ne (Ne.symm ee)] at hk'
              rw [at_set_ne ee]
              exact R1.sl k' t hk'
          · have na : ∀ {a : Nat} {s1 : Sl}, (Γ.set j (.dct i z))[a]? = some s1 → s1.isOwn = true → a ≠ j := fun {a s1} ha' o1 ee => by
              subst ee
              have hlt : a < Γ.length := by
                have := (List.getElem?_eq_some_iff.mp ha').1
                rwa [List.length_set] at this
              rw [List.getElem?_set_self hlt] at ha'; cases ha'; cases o1
            have n1 := na ha' o1
            have n2 := na hb o2
            rw [List.getElem?_set_ne (Ne.symm n1)] at ha'
            rw [List.getElem?_set_ne (Ne.symm n2)] at hb
            rw [at_set_ne n1] at g1
            rw [at_set_ne n2] at g2
            exact R.ap a b s1 s2 l' ab ha' hb o1 o2 g1 g2
          · have n1 : k' ≠ j := fun ee => by
              subst ee
              have hlt : k' < Γ.length := by
                have := (List.getElem?_eq_some_iff.mp hk').1
                rwa [List.length_set] at this
              rw [List.getElem?_set_self hlt] at hk'; cases hk'; cases ot
            rw [List.getElem?_set_ne (Ne.symm n1)] at hk'
            rw [at_set_ne n1] at g1
            exact R.ow k' t l' hk' ot g1
        exact (hk z).ev S0 H0 _ _ H3 R2 o ho D (out_keep (grw_up R.dm e23) (fr_ex e23) qq)⟩
/-- a, b, .. = e -/
theorem js_unp {α : Type} [Rp α] [Inhabited α] {tg e : Expr} {te : TE} {g : TG} {md : Md} {me : Option α} {Γ' : α → List Sl} {pos : Pos} {k : α → Option (Out τ ρ)} (vs : List Nat) (he : JE c e te Γ md me) (hg : ∀ X, Fam c X → PG X tg g) (tgo : TgOk c.K g vs Γ Γ') (hk : ∀ v, JS c rest tu (Γ' v) fr Γf (k v)) (hmd : md ≠ .an := by decide)
    (hs : ∀ env, swapsWithSole [tg] e pos.line env = pure false := by intro _; rfl) (hw : ∀ env : Env, env.scope = c.sc → swappedStores [tg] e env = pure none := by intro env h; first | rfl | (cases env; cases h; rfl)) (h1 : ∀ env, (assignEach [tg] env).map (·.2) = [assign tg env] := by intro _; rfl) :
    JS c (.Assign [tg] e pos :: rest) (tSeq (tAsg te g) tu) Γ fr Γf (me.bind k) :=
  ⟨fun X F => pss_cons (ps_asg (he.pe X F) (hg X F) (hs _) (hw _ F.hsc) (h1 _)) ((hk default).ps X F), fun S0 H0 S σ H R o ho D q => by
    cases hm : me with
    | none => rw [hm] at ho; cases ho
    | some y =>
      rw [hm] at ho
      refine he.ev S0 H0 S σ H R y hm H (Evl.Ex.refl H) _ fun v H1 e1 r => ?_
      refine tgo.run S0 H0 _ σ H1 v y (R.grow e1) (Rp.up (grw_in hmd) r) _ fun σ' R' _ => ?_
      exact (hk y).ev S0 H0 _ _ H1 R' o ho D (out_keep (grw_up R.dm e1) (fr_ex e1) q)⟩
/-- x, y = a, b: two names of their own -/
theorem js_par {α β : Type} [i1 : Rp α] [i2 : Rp β] [Inhabited α] [Inhabited β] {x y : Str} {a b : Expr} {ta tb : TE} {ma mb : Md} {m1 : Option α} {m2 : Option β} {px py pt pt2 pos : Pos} {kt k2} {k : α → β → Option (Out τ ρ)} (i j : Nat) (hN : c.N.Nodup) (ha : JE c a ta Γ ma m1) (hb : JE c b tb Γ mb m2)
    (hk : ∀ v w, JS c rest tu ((Γ.set i (.val i1 v)).set j (.val i2 w)) fr Γf (k v w)) (hij : i ≠ j := by decide) (hma : ma ≠ .an := by decide) (hmb : mb ≠ .an := by decide) (hi : c.N[i]? = some x := by rfl) (hj : c.N[j]? = some y := by rfl) (hx : c.sc.names.lookup x = some .local := by rfl) (hy : c.sc.names.lookup y = some .local := by rfl)
    (hw : ∀ env : Env, env.scope = c.sc → swappedStores [.Tuple [.Name x px, .Name y py] kt pt] (.Tuple [a, b] k2 pt2) env = pure (some [x, y])) (hs : ∀ env, swapsWithSole [.Tuple [.Name x px, .Name y py] kt pt] (.Tuple [a, b] k2 pt2) pos.line env = pure false := by intro _; rfl)
    (h1 : ∀ env, starEach (a :: [b]) env = (false, eval a env) :: starEach [b] env := by intro _; rfl) (h2 : ∀ env, starEach (b :: []) env = (false, eval b env) :: starEach [] env := by intro _; rfl) :
    JS c (.Assign [.Tuple [.Name x px, .Name y py] kt pt] (.Tuple [a, b] k2 pt2) pos :: rest) (tSeq (tPar i j (tCons ta (tCons tb tNil))) tu) Γ fr Γf (m1.bind fun v => m2.bind fun w => k v w) :=
  ⟨fun X F => pss_cons (ps_par F.calm (by rw [F.hN]; exact hN) (by rw [F.hN]; exact hi) (by rw [F.hN]; exact hj) hij (by rw [F.hsc]; exact hx) (by rw [F.hsc]; exact hy) (pa_cons (ha.pe X F) (pa_cons (hb.pe X F) pa_nil (h2 _)) (h1 _)) (hw _ F.hsc) (hs _)) ((hk default default).ps X F), fun S0 H0 S σ H R o ho D q => by
    cases hm : m1 with
    | none => rw [hm] at ho; cases ho
    | some v =>
      cases hm2 : m2 with
      | none => rw [hm, hm2] at ho; cases ho
      | some w =>
        rw [hm, hm2] at ho
        refine ha.ev S0 H0 S σ H R v hm H (Evl.Ex.refl H) _ fun u H1 e1 r1 => ?_
        refine hb.ev S0 H0 S σ H R w hm2 H1 e1 _ fun u2 H2 e2 r2 => ⟨u, u2, rfl, ?_⟩
        have e12 := e1.trans e2
        have g1 : Rp.r c.K (grw S H H2) H2 u v := Rp.up (fun a z z2 => grw_in hma a z z2) (Rp.ex e2 r1)
        have g2 : Rp.r c.K (grw S H H2) H2 u2 w := Rp.up (fun a z z2 => grw_in hmb a (nw_ex e1 a (z.imp (fun q => by cases mb <;> exact q) id)) z2) r2
        exact (hk v w).ev S0 H0 _ _ H2 (((R.grow e12).set i g1).set j g2) o ho D (out_keep (grw_up R.dm e12) (fr_ex e12) q)⟩
end
end Sm
end

section
set_option maxRecDepth 100000
set_option maxHeartbeats 4000000
namespace Sm
open PySem L2

/-! ### loops -/
def loopM {τ ρ α : Type} (b : τ → α → Option (Out τ ρ)) : τ → List α → Option (Out τ ρ)
  | s, [] => some (.nx s)
  | s, x :: xs => (b s x).bind (Out.go fun s' => loopM b s' xs)
theorem ji_t2 {c : Stc} {Γ : List Sl} {tg e : Expr} {te : TE} {ma : Md} {α : Type} [Rp α] {m : Option (T2 α α)} (h : JE c e te Γ ma m) : JI c tg e (iTup c.K te) Γ ma (m.bind fun t => some [t.a, t.b]) :=
  ⟨fun X F => by rw [← F.hK]; exact pi_tup (h.pe X F), fun S0 H0 S σ H R xs hx H1 e1 Rr q => by
    cases h1 : m with
    | none => rw [h1] at hx; cases hx
    | some t =>
      rw [h1] at hx
      have hx := Option.some.inj hx
      subst hx
      refine h.ev S0 H0 S σ H R t h1 H1 e1 _ fun v H2 e2 r => ?_
      obtain ⟨p, v1, v2, rfl, sp, hp, r1, r2⟩ := r
      refine ⟨p, rfl, ⟨_, SqT.of hp⟩, ?_⟩
      refine q _ H2 (fun H => SqT c.K H p [v1, v2]) (YAt [v1, v2]) e2 (walk_tup (xs := [v1, v2])) (fun H3 f => SqT.of (f p _ sp hp)) fun i x hi H3 v H4 f y => ?_
      obtain ⟨rfl, hv⟩ := y
      refine ⟨Evl.Ex.refl _, ?_⟩
      match i, hi, hv with
      | 0, hi, hv =>
        cases hi; cases hv
        exact Rp.fr (fun a z z2 => .inl ⟨z, z2⟩) f.v r1
      | 1, hi, hv =>
        cases hi; cases hv
        exact Rp.fr (fun a z z2 => .inl ⟨z, z2⟩) f.v r2
      | i + 2, hi, hv => simp at hi⟩
section
variable {c : Stc} {Γ : List Sl} {τ τ' ρ : Type} [Rt ρ] {fr : Bool} {Γf : τ → List Sl} {rest : List Stmt} {tu : TS}
theorem sof_in {md : Md} {S : Ft} {H H2 : Hp} (hmd : md ≠ .an) : ∀ a, (Sof md S H a ∨ H a = none) → H2 a ≠ none → grw S H H2 a := fun a z z2 => ⟨z2, by
  rcases z with z | z
  · cases md with
    | fr => exact z.elim
    | vl => exact .inl z
    | an => exact absurd rfl hmd
  · exact .inr z⟩
theorem js_for {α : Type} [Rp α] [Inhabited α] {tg iter : Expr} {wi : TI} {g : TG} {body : List Stmt} {tb : TS} {md : Md} {m : Option (List α)} {pos : Pos} {Γl : τ' → List Sl} {Γb : τ' → α → List Sl} {b : τ' → α → Option (Out τ' ρ)} {k : τ' → Option (Out τ ρ)} (vs : List Nat) (s0 : τ') (hsub : Sub Γ (Γl s0)) (hi : JI c tg iter wi Γ md m)
    (hg : ∀ X, Fam c X → PG X tg g) (tgo : ∀ s, TgOk c.K g vs (Γl s) (Γb s)) (hb : ∀ s x, JS c body tb (Γb s x) fr Γl (b s x)) (hk : ∀ s, JS c rest tu (Γl s) fr Γf (k s)) (hmd : md ≠ .an := by decide) (hs : ∀ (env : Env) x, foldedSetIterable iter env x = pure x := by intro _ _; rfl) :
    JS c (.For tg iter body [] pos :: rest) (tSeq (tFor wi g tb) tu) Γ fr Γf (m.bind fun xs => (loopM b s0 xs).bind (Out.go k)) := by
  have key : JS c (.For tg iter body [] pos :: rest) (tSeq (tFor wi g tb) tu) Γ fr Γf ((m.bind fun xs => loopM b s0 xs).bind (Out.go k)) := by
    refine js_cons (Γ1 := Γl) (fun X F => ps_for (by rw [F.hxe]; exact PassesOwn.never) F.calm (hi.pi X F) (hg X F) ((hb s0 default).ps X F) (hs _)) (fun S0 H0 S σ H R o ho D q => ?_) s0 hk
    cases hm : m with
    | none => rw [hm] at ho; cases ho
    | some xs =>
      rw [hm] at ho
      have ho : loopM b s0 xs = some o := ho
      refine hi.ev S0 H0 S σ H R xs hm H (Evl.Ex.refl H) _ fun J H2 G Y e2 w st it => ?_
      refine for_it w (fun i σ' H' => ∃ s S', StR c.K S0 H0 S' (Γl s) σ' H' ∧ (∀ a, grw S H H2 a → S' a) ∧ Fr (grw S H H2) H2 H' ∧ loopM b s (xs.drop i) = some o)
        ⟨s0, _, (R.grow e2).sub hsub, fun _ z => z, fun _ _ _ z => z, ho⟩ (fun i σ' H' _ ⟨s, S', _, _, f, _⟩ => st H' fun a o z z2 => f a o (sof_in hmd a z (by rw [z2]; simp)) z2) ?_ ?_
      · rintro i v σ' H3 H4 hi' ⟨s, S', R', up, f, hl⟩ y
        have hxi : xs[i]? = some xs[i] := List.getElem?_eq_getElem hi'
        rw [List.drop_eq_getElem_cons hi'] at hl
        obtain ⟨e34, rv⟩ := it i _ hxi H3 v H4 (fun a o z z2 => f a o (sof_in hmd a z (by rw [z2]; simp)) z2) y
        have R4 := R'.grow e34
        have rv' : Rp.r c.K (grw S' H3 H4) H4 v xs[i] := Rp.up (fun a z z4 => ⟨z4, by
          rcases z with ⟨z, z2⟩ | z
          · exact .inl (up a (sof_in hmd a z z2))
          · exact .inr z⟩) rv
        refine (tgo s).run S0 H0 _ σ' H4 v _ R4 rv' _ fun σ2 R2 _ => ?_
        have hl : (b s xs[i]).bind (Out.go fun s' => loopM b s' (xs.drop (i + 1))) = some o := hl
        cases hbx : b s xs[i] with
        | none => rw [hbx] at hl; cases hl
        | some o' =>
          rw [hbx] at hl
          refine (hb s xs[i]).ev S0 H0 _ σ2 H4 R2 o' hbx _ ?_
          cases o' with
          | rt r =>
            cases hl
            exact fun v H' ex f2 z => q v H' ex (fun a o sa ha => f2 a o (grw_up R'.dm e34 a (up a (grw_up R.dm e2 a sa))) (e34 a o (f a o (grw_up R.dm e2 a sa) (e2 a o ha)))) z
          | nx s' =>
            exact fun S5 σ5 H5 R5 up5 f5 => ⟨s', S5, R5, fun a z => up5 a (grw_up R'.dm e34 a (up a z)), fun a o z z2 => f5 a o (grw_up R'.dm e34 a (up a z)) (e34 a o (f a o z z2)), hl⟩
      · rintro σ' H' ⟨s, S', R', up, f, hl⟩
        rw [List.drop_length] at hl
        cases hl
        exact q S' σ' H' R' (fun a z => up a (grw_up R.dm e2 a z)) fun a o z z2 => f a o (grw_up R.dm e2 a z) (e2 a o z2)
  cases m with
  | none => exact key
  | some xs => exact key
/-- for x in d -/
def Sl.frd : Sl → Sl
  | .dct i ps => .dcf i ps
  | s => s
theorem js_forK {ρ : Type} [Rp ρ] {α : Type} [iα : Rp α] {x y : Str} {px py pos : Pos} {body : List Stmt} {tb : TS} {ps : Dct α} {Γl : τ' → List Sl} {Γb : τ' → Str → List Sl} {b : τ' → Str → Option (Out τ' ρ)} {k : τ' → Option (Out τ ρ)} (vs : List Nat) (s0 : τ') (j jx : Nat) (hj : Γ[j]? = some (.dct iα ps) := by rfl) (hsub : Sub (Γ.map Sl.frd) (Γl s0))
    (hg : ∀ X, Fam c X → PG X (.Name x px) (gName jx)) (tgo : ∀ s, TgOk c.K (gName jx) vs (Γl s) (Γb s)) (hb : ∀ s x, JS c body tb (Γb s x) fr Γl (b s x)) (hk : ∀ s, JS c rest tu (Γl s) fr Γf (k s))
    (hy : c.N[j]? = some y := by rfl) (hv : Vis c.sc y := by first | exact Or.inl rfl | exact Or.inr (Or.inl rfl) | exact Or.inr (Or.inr rfl)) (hd : (y == ("__debug__" : Str)) = false := by decide) (hcd : (y == ("__classdict__" : Str)) = false := by decide) :
    JS c (.For (.Name x px) (.Name y py) body [] pos :: rest) (tSeq (tLock (tFor (iKeys (tVar j)) (gName jx) tb)) tu) Γ fr Γf ((loopM b s0 (ps.map (·.1))).bind (Out.go k)) := by
  refine js_cons (Γ1 := Γl) (fun X F => ps_lock (ps_for (by rw [F.hxe]; exact PassesOwn.never) F.calm (pi_keys (pe_var (by rw [F.hN]; exact hy) (F.vis hv) hd hcd)) (hg X F) ((hb s0 default).ps X F))) (fun S0 H0 S σ H R o ho D q => ?_) s0 hk
  obtain ⟨d, kvs, hσ, sd, hd', r⟩ := R.sl j _ hj
  refine ⟨d, .dK kvs, hd', trivial, fun od => ?_⟩
  have hfz : upd H d (.frz od (.dK kvs)) d = some (.frz od (.dK kvs)) := upd_same
  -- the entry's heap with the dict locked
  let Hz : Hp := fun a => if a = d then (match H0 d with | none => none | some _ => some (.frz od (.dK kvs))) else H0 a
  have hzn : ∀ a, Hz a = none ↔ H0 a = none := fun a => by
    show (if a = d then (match H0 d with | none => none | some _ => some (.frz od (.dK kvs))) else H0 a) = none ↔ _
    by_cases e : a = d
    · subst e
      rw [if_pos rfl]
      cases H0 a <;> simp
    · rw [if_neg e]
  have hzx : ∀ a, a ≠ d → Hz a = H0 a := fun a e => if_neg e
  have R1 : StR c.K S0 Hz S (Γ.map Sl.frd) σ (upd H d (.frz od (.dK kvs))) := by
    have keep : ∀ {a u}, H a = some u → (a = d ∧ u = .dK kvs) ∨ upd H d (.frz od (.dK kvs)) a = some u := fun {a u} z => by
      by_cases ad : a = d
      · left
        subst ad
        rw [hd'] at z
        exact ⟨rfl, (Option.some.inj z).symm⟩
      · right
        rw [upd_ne ad]; exact z
    have hv : Fv S H (upd H d (.frz od (.dK kvs))) := fun a _ => ⟨fun xs z => (keep z).elim (fun z => nomatch z.2) id, fun xs z => (keep z).elim (fun z => nomatch z.2) id, fun _ _ z => (keep z).elim (fun z => nomatch z.2) id, fun _ _ _ z => (keep z).elim (fun z => nomatch z.2) id⟩
    have dk : ∀ {l us}, H l = some (.dK us) → Rd (upd H d (.frz od (.dK kvs))) l (.dK us) := fun {l us} z => by
      rcases keep z with ⟨rfl, ee⟩ | z
      · cases ee; exact .inr ⟨od, upd_same⟩
      · exact .inl z
    have up : ∀ a, S a → H a ≠ none → S a := fun a z _ => z
    have nd : ∀ {l}, ¬ S l → l ≠ d := fun {l} n e => n (e ▸ sd)
    have own : ∀ {i : Nat} {t : Sl}, (Γ.map Sl.frd)[i]? = some t → t.isOwn = true → Γ[i]? = some t := fun {i t} h ot => by
      rw [List.getElem?_map] at h
      cases e : Γ[i]? with
      | none => rw [e] at h; cases h
      | some t' =>
        rw [e] at h
        have h := Option.some.inj h
        subst h
        cases t' <;> first | rfl | cases ot
    refine ⟨by rw [List.length_map]; exact R.len, fun i s h => ?_, fun a sa => ?_, fun a b' s t l ab h1 h2 o1 o2 g1 g2 => R.ap a b' s t l ab (own h1 o1) (own h2 o2) o1 o2 g1 g2, fun i s l h os g => (hzn l).mpr (R.ow i s l (own h os) os g), fun a o ha => ?_, fun a sa => (R.sr a sa).imp id (hzn a).mpr⟩
    · rw [List.getElem?_map] at h
      cases e : Γ[i]? with
      | none => rw [e] at h; cases h
      | some t =>
        rw [e] at h
        have h := Option.some.inj h
        subst h
        have q := R.sl i t e
        cases t with
        | no => exact trivial
        | val i x => obtain ⟨v, ev, r⟩ := q; exact ⟨v, ev, i.fr up hv r⟩
        | own i xs => obtain ⟨l, us, ev, n, hl, r⟩ := q; exact ⟨l, us, ev, n, by rw [upd_ne (nd n)]; exact hl, paired_mono r fun _ _ => i.fr up hv⟩
        | dct i ps => obtain ⟨l, us, ev, sl, hl, r⟩ := q; exact ⟨l, us, ev, sl, dk hl, @RpD.fr _ i _ _ _ _ _ _ _ up hv r⟩
        | dcf i ps =>
          obtain ⟨l, us, ev, sl, hl, r⟩ := q
          refine ⟨l, us, ev, sl, ?_, @RpD.fr _ i _ _ _ _ _ _ _ up hv r⟩
          rcases hl with hl | ⟨o, hl⟩
          · exact dk hl
          · exact .inr ⟨o, (keep hl).elim (fun z => nomatch z.2) id⟩
        | odc i ps => obtain ⟨l, us, ev, n, hl, r⟩ := q; exact ⟨l, us, ev, n, by rw [upd_ne (nd n)]; exact hl, @RpD.fr _ i _ _ _ _ _ _ _ up hv r⟩
    · by_cases ad : a = d
      · rw [ad, upd_same]; simp
      · rw [upd_ne ad]; exact R.dm a sa
    · by_cases ad : a = d
      · subst ad
        have ha : (if a = a then (match H0 a with | none => none | some _ => some (.frz od (.dK kvs))) else H0 a) = some o := ha
        rw [if_pos rfl] at ha
        cases h0 : H0 a with
        | none => rw [h0] at ha; cases ha
        | some u => rw [h0] at ha; rw [upd_same]; exact ha
      · rw [hzx a ad] at ha
        rw [upd_ne ad]
        exact R.ex a o ha
  -- back
  have back : ∀ {H'}, Ex Hz H' → H' d = some (.frz od (.dK kvs)) → Ex H0 (upd H' d (.dK kvs)) := fun {H'} e hz a o ha => by
    by_cases ad : a = d
    · subst ad
      have := R.ex a o ha
      rw [hd'] at this
      rw [upd_same]; exact this
    · rw [upd_ne ad]
      exact e a o (by rw [hzx a ad]; exact ha)
  have bkeep : ∀ {H' : Hp}, H' d = some (.frz od (.dK kvs)) → ∀ {a u}, H' a = some u → (∀ kv, u ≠ .frz od (.dK kv)) → upd H' d (.dK kvs) a = some u := fun {H'} hz {a u} hu hne => by
    by_cases ad : a = d
    · subst ad
      rw [hz] at hu
      exact absurd (Option.some.inj hu).symm (hne kvs)
    · rw [upd_ne ad]; exact hu
  have bfv : ∀ {H' : Hp} {T : Ft}, H' d = some (.frz od (.dK kvs)) → Fv T H' (upd H' d (.dK kvs)) := fun {H' T} hz a _ => ⟨fun xs z => bkeep hz z (fun _ e => nomatch e), fun xs z => bkeep hz z (fun _ e => nomatch e), fun o xs z => bkeep hz z (fun _ e => nomatch e), fun _ _ _ z => bkeep hz z (fun _ e => nomatch e)⟩
  have sdz : ∀ {H2 : Hp}, Ex (upd H d (.frz od (.dK kvs))) H2 → grw S (upd H d (.frz od (.dK kvs))) H2 d := fun {H2} e => ⟨by rw [e d _ hfz]; simp, .inl sd⟩
  have sup : ∀ {H2 : Hp}, Ex (upd H d (.frz od (.dK kvs))) H2 → ∀ a, S a → grw S (upd H d (.frz od (.dK kvs))) H2 a := fun {H2} e => grw_up R1.dm e
  refine si_keys (S := S) (H := H) hfz r (at_some hσ) (fun a => a = d) rfl _ fun J H2 G Y e2 w st it => ?_
  have stay : ∀ {H3 : Hp}, Fr (grw S (upd H d (.frz od (.dK kvs))) H2) H2 H3 → Fr (fun a => a = d ∨ upd H d (.frz od (.dK kvs)) a = none) H2 H3 := fun {H3} f a o z z2 => by
    rcases z with z | z
    · subst z; exact f a o (sdz e2) z2
    · exact f a o ⟨by rw [z2]; simp, .inr z⟩ z2
  -- what S held ahead of the loop is held behind it
  have frS : ∀ {H' : Hp}, Fr (grw S (upd H d (.frz od (.dK kvs))) H2) H2 H' → Fr S H (upd H' d (.dK kvs)) := fun {H'} f a o sa ha => by
    by_cases ad : a = d
    · subst ad
      rw [hd'] at ha
      rw [upd_same]; exact ha
    · rw [upd_ne ad]
      exact f a o (sup e2 a sa) (e2 a o (by rw [upd_ne ad]; exact ha))
  refine for_it w (D := ⟨fun σ' H' => H' d = some (.frz od (.dK kvs)) ∧ D.nx σ' (upd H' d (.dK kvs)), fun v H' => H' d = some (.frz od (.dK kvs)) ∧ D.rt v (upd H' d (.dK kvs)), fun σ' H' => H' d = some (.frz od (.dK kvs)) ∧ D.bk σ' (upd H' d (.dK kvs)), fun σ' H' => H' d = some (.frz od (.dK kvs)) ∧ D.ct σ' (upd H' d (.dK kvs))⟩)
    (fun i σ' H' => ∃ s S', StR c.K S0 Hz S' (Γl s) σ' H' ∧ (∀ a, grw S (upd H d (.frz od (.dK kvs))) H2 a → S' a) ∧ Fr (grw S (upd H d (.frz od (.dK kvs))) H2) H2 H' ∧ loopM b s ((ps.map (·.1)).drop i) = some o)
    ⟨s0, _, (R1.grow e2).sub hsub, fun _ z => z, fun _ _ _ z => z, ho⟩ (fun i σ' H' _ ⟨s, S', _, _, f, _⟩ => st H' (stay f)) ?_ ?_
  · rintro i v σ' H3 H4 hi' ⟨s, S', R', up, f, hl⟩ y
    have hxi : (ps.map (·.1))[i]? = some (ps.map (·.1))[i] := List.getElem?_eq_getElem hi'
    rw [List.drop_eq_getElem_cons hi'] at hl
    obtain ⟨e34, rv⟩ := it i _ hxi H3 v H4 (stay f) y
    have R4 := R'.grow e34
    refine (tgo s).run S0 Hz _ σ' H4 v _ R4 (Rp.up (S := _) (fun a z z4 => ?_) rv) _ fun σ2 R2 _ => ?_
    · rcases z with ⟨z, z2⟩ | z
      · rcases z with z | z
        · subst z; exact ⟨z4, .inl (up a (sdz e2))⟩
        · exact ⟨z4, .inl (up a ⟨z2, .inr z⟩)⟩
      · exact ⟨z4, .inr z⟩
    have hl : (b s (ps.map (·.1))[i]).bind (Out.go fun s' => loopM b s' ((ps.map (·.1)).drop (i + 1))) = some o := hl
    cases hbx : b s (ps.map (·.1))[i] with
    | none => rw [hbx] at hl; cases hl
    | some o' =>
      rw [hbx] at hl
      refine (hb s (ps.map (·.1))[i]).ev S0 Hz _ σ2 H4 R2 o' hbx _ ?_
      cases o' with
      | rt r =>
        cases hl
        refine fun v H' ex f2 z => ?_
        have fz : H' d = some (.frz od (.dK kvs)) := f2 d _ (grw_up R'.dm e34 d (up d (sdz e2))) (e34 d _ (f d _ (sdz e2) (e2 d _ hfz)))
        have f3 : Fr (grw S (upd H d (.frz od (.dK kvs))) H2) H2 H' := fun a o sa ha => f2 a o (grw_up R'.dm e34 a (up a sa)) (e34 a o (f a o sa ha))
        exact ⟨fz, q v _ (back ex fz) (frS f3) (Rp.fr (fun a za _ => za.imp id (hzn a).mp) (bfv fz) z)⟩
      | nx s' =>
        exact fun S5 σ5 H5 R5 up5 f5 => ⟨s', S5, R5, fun a z => up5 a (grw_up R'.dm e34 a (up a z)), fun a o z z2 => f5 a o (grw_up R'.dm e34 a (up a z)) (e34 a o (f a o z z2)), hl⟩
  · rintro σ' H' ⟨s, S', R', up, f, hl⟩
    rw [List.drop_length] at hl
    cases hl
    have fz : H' d = some (.frz od (.dK kvs)) := f d _ (sdz e2) (e2 d _ hfz)
    have sd' : S' d := up d (sdz e2)
    refine ⟨fz, q S' σ' _ ?_ (fun a z => up a (sup e2 a z)) (frS f)⟩
    have nd : ∀ {l}, ¬ S' l → l ≠ d := fun {l} n e => n (e ▸ sd')
    refine ⟨R'.len, fun i t h => ?_, fun a sa => ?_, R'.ap, fun i t l h ot g => (hzn l).mp (R'.ow i t l h ot g), back R'.ex fz, fun a sa => (R'.sr a sa).imp id (hzn a).mp⟩
    · have q := R'.sl i t h
      have upS : ∀ a, S' a → H' a ≠ none → S' a := fun _ z _ => z
      have dk : ∀ {l us}, Rd H' l (.dK us) → Rd (upd H' d (.dK kvs)) l (.dK us) := fun {l us} z => by
        by_cases ld : l = d
        · subst ld
          rcases z with z | ⟨o, z⟩
          · rw [fz] at z; cases z
          · rw [fz] at z; cases z; exact .inl upd_same
        · rcases z with z | ⟨o, z⟩
          · exact .inl (by rw [upd_ne ld]; exact z)
          · exact .inr ⟨o, by rw [upd_ne ld]; exact z⟩
      cases t with
      | no => exact trivial
      | val i x => obtain ⟨v, ev, r⟩ := q; exact ⟨v, ev, i.fr upS (bfv fz) r⟩
      | own i xs => obtain ⟨l, us, ev, n, hl, r⟩ := q; exact ⟨l, us, ev, n, by rw [upd_ne (nd n)]; exact hl, paired_mono r fun _ _ => i.fr upS (bfv fz)⟩
      | dct i ps =>
        obtain ⟨l, us, ev, sl, hl, r⟩ := q
        refine ⟨l, us, ev, sl, ?_, @RpD.fr _ i _ _ _ _ _ _ _ upS (bfv fz) r⟩
        have := bkeep fz hl (fun _ e => nomatch e)
        exact this
      | dcf i ps => obtain ⟨l, us, ev, sl, hl, r⟩ := q; exact ⟨l, us, ev, sl, dk hl, @RpD.fr _ i _ _ _ _ _ _ _ upS (bfv fz) r⟩
      | odc i ps => obtain ⟨l, us, ev, n, hl, r⟩ := q; exact ⟨l, us, ev, n, by rw [upd_ne (nd n)]; exact hl, @RpD.fr _ i _ _ _ _ _ _ _ upS (bfv fz) r⟩
    · by_cases ad : a = d
      · rw [ad, upd_same]; simp
      · rw [upd_ne ad]; exact R'.dm a sa
end

/-! ### a def keeps its promise -/
inductive Sls (K : PySem.W.Frag) (S : Ft) (H : Hp) : List V → List Sl → Prop
  | nil : Sls K S H [] []
  | cons {v : V} {s : Sl} {vs : List V} {ss : List Sl} (h : SlotR K S H (some v) s) (n : s.isOwn = false) (t : Sls K S H vs ss) : Sls K S H (v :: vs) (s :: ss)
theorem Sls.length {K : PySem.W.Frag} {S : Ft} {H : Hp} {vs : List V} {ss : List Sl} (h : Sls K S H vs ss) : vs.length = ss.length := by
  induction h with
  | nil => rfl
  | cons _ _ _ ih => exact congrArg (· + 1) ih
theorem Sls.no {K : PySem.W.Frag} {S : Ft} {H : Hp} {vs : List V} {ss : List Sl} (h : Sls K S H vs ss) : ∀ s ∈ ss, s.isOwn = false := by
  induction h with
  | nil => intro s hs; cases hs
  | cons _ n _ ih =>
    intro s hs
    rcases List.mem_cons.mp hs with rfl | hs
    · exact n
    · exact ih s hs
theorem Sls.at {K : PySem.W.Frag} {S : Ft} {H : Hp} : ∀ {vs : List V} {ss : List Sl} {i : Nat} {s : Sl}, Sls K S H vs ss → ss[i]? = some s → ∃ v, vs[i]? = some v ∧ SlotR K S H (some v) s
  | _, _, i, s, .nil, h => by simp at h
  | _, _, 0, s, .cons h _ _, hs => by
    have hs := Option.some.inj (by simpa using hs)
    subst hs
    exact ⟨_, rfl, h⟩
  | _, _, i + 1, s, .cons _ _ t, hs => by
    obtain ⟨v, hv, h⟩ := t.at (i := i) (by simpa using hs)
    exact ⟨v, by simpa using hv, h⟩
class GA {P : Type} (G : PySem.W.Frag → Ft → Hp → List V → P → Prop) where
  A : P → List Sl
  of : ∀ {K : PySem.W.Frag} {S : Ft} {H : Hp} {vs : List V} {p : P}, G K S H vs p → Sls K S H vs (A p)
instance gaN : GA GN := ⟨fun _ => [], fun h => by cases h; exact .nil⟩
instance gaC {α : Type} [i : Rp α] {P : Type} {G : PySem.W.Frag → Ft → Hp → List V → P → Prop} [g : GA G] : GA (GC α G) := ⟨fun x => .val i x.1 :: g.A x.2, fun ⟨v, r, e, h, hg⟩ => by subst e; exact .cons ⟨v, rfl, h⟩ rfl (g.of hg)⟩
instance gaD {α : Type} [i : Rp α] {P : Type} {G : PySem.W.Frag → Ft → Hp → List V → P → Prop} [g : GA G] : GA (GD α G) := ⟨fun x => .dct i x.1 :: g.A x.2, fun ⟨l, kvs, r, e, sl, hl, h, hg⟩ => by subst e; exact .cons ⟨l, kvs, rfl, sl, hl, h⟩ rfl (g.of hg)⟩
theorem st_start {P : Type} {G : PySem.W.Frag → Ft → Hp → List V → P → Prop} [g : GA G] {K : PySem.W.Frag} {S : Ft} {H : Hp} {vs : List V} {p : P} {N : List Str} {n : Nat} (h : G K S H vs p) (hS : ∀ a, S a → H a ≠ none) (hn : n = N.length - vs.length) : StR K S H S (g.A p ++ List.replicate n .no) (L2.start N vs) H := by
  subst hn
  have q := g.of h
  have no : ∀ {i : Nat} {s : Sl}, (g.A p ++ List.replicate (N.length - vs.length) .no)[i]? = some s → s.isOwn = false := fun {i s} hi => by
    rcases List.mem_append.mp (List.mem_of_getElem? hi) with m | m
    · exact q.no s m
    · rw [List.eq_of_mem_replicate m]; rfl
  refine ⟨by unfold L2.start; rw [List.length_append, List.length_append, List.length_map, List.length_replicate, List.length_replicate, q.length], fun i s hi => ?_, hS, fun a b s t l _ ha _ os _ _ _ => (by rw [no ha] at os; cases os), fun i s l hi os _ => (by rw [no hi] at os; cases os), Evl.Ex.refl H, fun _ z => .inl z⟩
  by_cases hlt : i < (g.A p).length
  · rw [List.getElem?_append_left hlt] at hi
    obtain ⟨v, hv, z⟩ := q.at hi
    have e : at_ (L2.start N vs) i = some v := by
      unfold at_ L2.start
      rw [List.getElem?_append_left (by rw [List.length_map, q.length]; exact hlt), List.getElem?_map, hv] <;> rfl
    rw [e]; exact z
  · rw [List.getElem?_append_right (by omega)] at hi
    rw [List.eq_of_mem_replicate (List.mem_of_getElem? hi)]
    exact trivial
open PyProof.Rows in
theorem ga_len {P : Type} {G : PySem.W.Frag → Ft → Hp → List V → P → Prop} [g : GA G] {K : PySem.W.Frag} {S : Ft} {H : Hp} {vs : List V} {p : P} (h : G K S H vs p) : vs.length = (g.A p).length := (g.of h).length
def Out.r {ρ : Type} : Out Unit ρ → Option ρ
  | .rt r => some r
  | .nx _ => none
def outR {ρ : Type} (m : Option (Out Unit ρ)) : Option ρ := m.bind Out.r
def outU (m : Option (Out Unit Unit)) : Option Unit := m.bind fun _ => some ()
section
variable {P : Program} {w : World} {K : PySem.W.Frag} {mg : Str → Option Value} {base : Heap} {A ρ : Type} [Rp ρ] {G : PySem.W.Frag → Ft → Hp → List V → A → Prop} [g : GA G] {x qual : Str} {st : Stmt} {f : Addr} {fd : FuncData} {N ps : List Str} {k : Nat} {fr : Bool} {t : TS}
theorem fam_def {cdv : Value} {Ar : Around} {outer : List Env} {s : Shared} {H : Hp} {E : XK} {f : Addr} {sc : Scope} (hr : Room k (Ar.deeper (PyProof.Rows.envOfC qual sc s.heap.objs.size f cdv))) :
    Fam ⟨P, w, K, mg, base, N, sc, fun _ => true, k⟩ (cxOf CX0 P w K mg base N qual sc f cdv Ar outer s H E).nox := ⟨rfl, rfl, rfl, rfl, rfl, rfl, rfl, rfl, rfl, hr, rfl⟩
theorem def_ok {Γf : Unit → List Sl} {m : A → Option (Out Unit ρ)} (F : Fun K x qual st f fd) (S : FnScope N ps (defScope st)) (hlen : ∀ p, (g.A p).length = ps.length) (h : ∀ p, JS ⟨P, w, K, mg, base, N, defScope st, fun _ => true, k⟩ (defBody st) t (g.A p ++ List.replicate (N.length - ps.length) .no) fr Γf (m p)) :
    FnOk P w K mg base CX0 (k + 1) f fd ps (spOf K G fr fun p => outR (m p)) := by
  refine F.ok S (fun vs H Q E ⟨p, r, S', _, _, hg, _⟩ => (ga_len hg).trans (hlen p)) fun cdv Ar outer s H vs Q E hr ⟨p, r, S', hm, hS, hg, q⟩ => ⟨t, (h p).ps _ (fam_def hr), ?_⟩
  have hl : vs.length = ps.length := (ga_len hg).trans (hlen p)
  have hm : outR (m p) = some r := hm
  cases hmp : m p with
  | none => rw [hmp] at hm; cases hm
  | some o =>
    rw [hmp] at hm
    cases o with
    | nx s => cases hm
    | rt r' =>
      cases hm
      refine (h p).ev S' H S' _ H (st_start hg hS (by rw [hl])) _ hmp _ ?_
      exact fun v H' ex _ z => q v H' ex z
theorem def_okU {Γf : Unit → List Sl} {m : A → Option (Out Unit Unit)} (F : Fun K x qual st f fd) (S : FnScope N ps (defScope st)) (hlen : ∀ p, (g.A p).length = ps.length) (h : ∀ p, JS ⟨P, w, K, mg, base, N, defScope st, fun _ => true, k⟩ (defBody st) t (g.A p ++ List.replicate (N.length - ps.length) .no) true Γf (m p)) :
    FnOk P w K mg base CX0 (k + 1) f fd ps (spOf K G true fun p => outU (m p)) := by
  refine F.ok S (fun vs H Q E ⟨p, r, S', _, _, hg, _⟩ => (ga_len hg).trans (hlen p)) fun cdv Ar outer s H vs Q E hr ⟨p, r, S', hm, hS, hg, q⟩ => ⟨t, (h p).ps _ (fam_def hr), ?_⟩
  have hl : vs.length = ps.length := (ga_len hg).trans (hlen p)
  have hm : outU (m p) = some r := hm
  cases hmp : m p with
  | none => rw [hmp] at hm; cases hm
  | some o =>
    rw [hmp] at hm
    cases o with
    | nx s =>
      refine (h p).ev S' H S' _ H (st_start hg hS (by rw [hl])) _ hmp _ ?_
      exact fun S2 σ2 H2 R2 _ _ => q .non H2 R2.ex rfl
    | rt r' =>
      refine (h p).ev S' H S' _ H (st_start hg hS (by rw [hl])) _ hmp _ ?_
      exact fun v H' ex _ z => q v H' ex z
end
end Sm
end

section
set_option maxRecDepth 100000
set_option maxHeartbeats 4000000
/-! a set of several texts, from a list of them in which none stands twice -/
namespace SmT
open PySem PySem.Spec PyProof.Rows
abbrev noSet (b : Bool) : Obj := { cls := .type "set", dict := none, data := .set #[] 0 (.fresh 0 0 b) }
abbrev walkOf (l : Addr) : Obj := { cls := .type "list_iterator", data := .fields #[.ref l, .int 0 0] }
abbrev first (xs : List Str) (j : Nat) : Str → Bool := fun y => (xs.take j).any fun z => z == y
theorem first_next {xs : List Str} (nd : xs.Nodup) {j : Nat} (hj : j < xs.length) (y : Str) : (first xs j y || decide (y = xs.getD j Str.empty)) = first xs (j + 1) y := by
  have e : xs.getD j Str.empty = xs[j] := by simp [List.getD, hj]
  unfold first
  rw [e, List.take_succ_eq_append_getElem hj, List.any_append]
  congr 1
  show _ = ((xs[j] == y) || false)
  rw [Bool.or_false, Bool.eq_iff_iff]
  simp only [decide_eq_true_eq, beq_iff_eq]
  exact eq_comm
theorem first_new {xs : List Str} (nd : xs.Nodup) {j : Nat} (hj : j < xs.length) : first xs j (xs.getD j Str.empty) = false := by
  have e : xs.getD j Str.empty = xs[j] := by simp [List.getD, hj]
  rw [e]
  unfold first
  rw [List.any_eq_false]
  intro z hz q
  have hz' : xs[j] ∈ xs.take j := by rw [← (beq_iff_eq.mp q)]; exact hz
  have h2 := nd.sublist (List.take_sublist (j + 1) xs)
  rw [List.take_succ_eq_append_getElem hj, List.nodup_append] at h2
  exact h2.2.2 _ hz' _ List.mem_cons_self rfl
section
variable {prog : Program} {w : World} {A : Around} {R : Result → Shared → Prop} {it : Addr} {rd wr : List Addr} {G : Array GenState → Array GenState → Prop} {n : Nat} {Of : Nat → Value → Prop} {At : Nat → Shared → Prop}
theorem each_text (W : WalksS prog w A.in1 it rd wr G n Of At) {c : Addr} (away : c ∉ rd) {xs : List Str} (len : xs.length = n) (nd : xs.Nodup) (few : n + 1 < scanBound)
    (text : ∀ j v, Of j v → ∃ t, v = .str (xs.getD j Str.empty) t) :
    ∀ left j s, n - j = left → j ≤ n → At j s → s.heap.SetOf (PySem.strKind prog w) c (first xs j) j →
      (∀ s', Moved (c :: wr) G s s' → s'.heap.SetOf (PySem.strKind prog w) c (first xs n) n → R (.ok (.ret .none)) s') →
      codeAny (model prog w) A (.builtin "set.update.loop" ⟨[.ref c, .ref it], []⟩) R s := by
  have still : c ∉ wr := fun q => away (W.sub _ q)
  have wider : ∀ b ∈ wr, b ∈ c :: wr := fun b q => .tail _ q
  intro left
  induction left with
  | zero =>
    intro j s hl hj at_ so fin
    obtain rfl : j = n := by omega
    apply codeAny_builtin PyProof.Rows.F.entry_set_update_loop
    rw [Around.under_plainId (PyProof.Rows.F.plain_set_update_loop) _]
    show wpAny _ A.in1 (pyNext (Value.ref it) >>= _) _ _ s
    apply wpAny_bind
    refine W.done s _ _ at_ fun s' mv => ?_
    show wpAny _ A.in1 (ret .none) _ _ s'
    refine wpAny_pure (fin s' (mv.mono wider) ?_)
    obtain ⟨ob, es, ep, tb, there, more⟩ := so
    exact ⟨ob, es, ep, tb, mv.heap c _ still there, more⟩
  | succ left ih =>
    intro j s hl hj at_ so fin
    have lt : j < n := by omega
    have ltx : j < xs.length := by omega
    apply codeAny_builtin PyProof.Rows.F.entry_set_update_loop
    rw [Around.under_plainId (PyProof.Rows.F.plain_set_update_loop) _]
    show wpAny _ A.in1 (pyNext (Value.ref it) >>= _) _ _ s
    apply wpAny_bind
    refine W.item j s _ _ lt at_ fun v s' isv at' mv => ?_
    obtain ⟨t, rfl⟩ := text j v isv
    have so' : s'.heap.SetOf (PySem.strKind prog w) c (first xs j) j := by
      obtain ⟨ob, es, ep, tb, there, more⟩ := so
      exact ⟨ob, es, ep, tb, mv.heap c _ still there, more⟩
    have fresh := first_new nd ltx
    have next := first_next nd ltx
    generalize xs.getD j Str.empty = x at *
    show wpAny _ A.in1 (holding [Value.str x t] (setAdd c (Value.str x t)) >>= _) _ _ s'
    apply wpAny_bind
    apply wpAny_holding
    unfold setAdd
    apply wpAny_holding
    apply wpAny_bind
    refine (PySem.strKind prog w).pyHash (k := x) (strKind_is _ _ _ _) ?_
    have roomy : j + 1 < scanBound := by omega
    refine wpAny_setAddHashed_of (s := { s' with toks := s'.toks + 1 }) (knd := PySem.strKind prog w) (strKind_is _ _ _ _) rfl so' roomy fun hp same got => ?_
    have so2 : hp.SetOf (PySem.strKind prog w) c (first xs (j + 1)) (j + 1) := SetOf_congr got next (by rw [fresh] <;> rfl)
    have keep : ∀ b, b ≠ c → hp.get? b = s'.heap.get? b := fun b q => same.2 b q
    apply wpAny_pure
    refine ⟨plainId_quiet (PyProof.Rows.F.plain_set_update_loop) _, ih (j + 1) _ (by omega) lt (W.frame _ s' _ _ at' (Nat.le_succ _) ?_) so2 ?_⟩
    · intro b q o e
      rw [keep b (fun z => away (z ▸ q))]
      exact e
    · intro s2 mv2 so3
      refine fin s2 (.trans W.gtrans ((mv.mono wider).then_heap (Nat.le_succ _) ?_) mv2) so3
      intro b o q e
      rw [keep b (fun z => q (z ▸ List.mem_cons_self))]
      exact e
end
section
variable {prog : Program} {w : World} {A : Around} {E : Value → Shared → Prop} {s : Shared}
theorem set_of_texts {l : Addr} {its : Array Value} {xs : List Str} {Q : Value → Shared → Prop} (calm : A.handled = none) (isl : s.heap.IsList l its) (texts : StrsAre its.toList xs) (nd : xs.Nodup) (few : its.size + 1 < scanBound)
    (q : ∀ (hp : Heap) (tk : Nat), hp.SetOf (PySem.strKind prog w) s.heap.objs.size (first xs its.size) its.size → (∀ b o, b < s.heap.objs.size → s.heap.get? b = some o → hp.get? b = some o) → Q (.ref s.heap.objs.size) { s with heap := hp, toks := tk }) :
    wpAny (model prog w) A (call (.type "set") [.ref l]) Q E s := by
  have ⟨c0, tl0, mro0⟩ := PySem.F.called_set.mro
  have made0 := PySem.F.called_set.made
  have sub0 := PySem.F.called_set.sub
  apply wpAny_call
  apply codeAny_of_tree
  show wpAny _ _ (callAny (.type "set") _) _ _ _
  apply wpAny_pure
  refine ⟨Code.quiet_builtin _ (by decide +kernel), codeAny_builtin PySem.F.entry_type_call ?_⟩
  rw [Around.under_plain (weight_type_call_type "set" [Value.ref l] []) rfl]
  have nt := PySem.F.called_set.notType
  have cc := PySem.F.called_set.canCreate
  have one := PySem.F.typeCall_set_1 (Value.ref l)
  repeat any_goals first | assumption | wp_step
  refine codeAny_mono (code_set_new_1 (Value.ref l) (Q₁ := fun x s1 => ∃ b : Bool, x = .ref s.heap.objs.size ∧ s1 = { s with heap := s.heap.push (noSet b) }) (E := E) fun b => ⟨b, rfl, rfl⟩) fun r s1 got => ?_
  cases r with
  | error _ => exact got
  | ok fl => cases fl with
   | ret x =>
    obtain ⟨b, rfl, rfl⟩ := got
    have there : (s.heap.push (noSet b)).get? s.heap.objs.size = some (noSet b) := Heap.get?_push_size _ rfl
    have isSet : Shared.TypeIs { s with heap := s.heap.push (noSet b) } (.ref s.heap.objs.size) "set" := ⟨_, there, rfl⟩
    have lk := PySem.F.called_set.init.lookup
    have bd := PySem.F.called_set.init.bind (Value.ref s.heap.objs.size)
    repeat any_goals first | assumption | wp_step
    refine codeAny_mono (codeAny_call_builtin (R := wants (fun v s2 => v = .none ∧ ∃ hp tk, s2 = { s with heap := hp, toks := tk } ∧ hp.SetOf (PySem.strKind prog w) s.heap.objs.size (first xs its.size) its.size ∧
        ∀ b o, b < s.heap.objs.size → s.heap.get? b = some o → hp.get? b = some o) E) PySem.F.called_set.init.plain PySem.F.entry_set_init (check_set_init_1 isSet ?_)) fun r2 s2 got2 => ?_
    · obtain ⟨⟨kl, dl, pl, sl⟩, hol, cl, nl, dd⟩ := isl
      simp only at cl dd
      subst cl; subst dd
      have hol2 : (s.heap.push (noSet b)).get? l = some ⟨.type "list", dl, .seq its nl, sl⟩ := Heap.get?_push_of_some _ hol
      have n1 := PySem.F.sub_list_set
      have n2 := PySem.F.sub_list_frozenset
      have n3 : (Value.type "list" == Value.type "dict") = false := by decide
      have isl1 : (s.heap.push (noSet b)).IsList l its := ⟨_, hol2, rfl, nl, rfl⟩
      unfold Builtin.«set.__init__» noKeywords Builtin.Frozenset.updateFrom
      generalize iter : pyIter = PI
      wp_walk
      subst iter
      apply wpAny_pyIter_list isl1
      apply wpAny_bind
      apply wpAny_runValue
      have below : l < s.heap.objs.size := Heap.lt_size hol
      have calm3 : A.in1.in1.in1.handled = none := by simp [calm]
      have sz : (s.heap.push (noSet b)).objs.size = s.heap.objs.size + 1 := Heap.size_push ..
      have notIt : l ≠ (s.heap.push (noSet b)).objs.size := sz ▸ Nat.ne_of_lt (Nat.lt_succ_of_lt below)
      have away : s.heap.objs.size ∉ [(s.heap.push (noSet b)).objs.size, l] := by
        rw [sz]
        simp only [List.mem_cons, List.not_mem_nil, or_false]
        rintro (z | z)
        · exact Nat.succ_ne_self _ z.symm
        · exact Nat.ne_of_gt below z
      have lenx : xs.length = its.size := by
        have := StrsAre.len_eq texts
        rw [Array.length_toList] at this
        exact this.symm
      have text : ∀ (j : Nat) (v : Value), its[j]? = some v → ∃ t, v = .str (xs.getD j Str.empty) t := fun j v e => SS.strs_at texts j v (by rw [Array.getElem?_toList] <;> exact e)
      refine each_text ((Walks.list calm3 _ l notIt its).toS) away lenx nd few text _ 0 _ rfl (Nat.zero_le _) ⟨⟨_, Heap.get?_push_size _ rfl, rfl, rfl⟩, isl1.push _⟩ ?_ ?_
      · have g : ((s.heap.push (noSet b)).push (walkOf l)).get? s.heap.objs.size = some (noSet b) := Heap.get?_push_of_some _ there
        have none_yet := (setObjOf_fresh (knd := PySem.strKind prog w) b).setOf g (by unfold scanBound; omega)
        exact SetOf_congr none_yet (fun _ => rfl) rfl
      · rintro ⟨hp, gs, dr, tk, os⟩ mv so
        obtain rfl : gs = s.gens := mv.gens
        obtain rfl : dr = s.drawn := mv.drawn
        obtain rfl : os = s.os := mv.os
        show wpAny _ _ _ _ _ _
        apply wpAny_pure
        show wpAny _ _ (ret .none) _ _ _
        refine wpAny_pure ⟨rfl, hp, tk, rfl, so, fun a o lt e => ?_⟩
        refine mv.heap a o ?_ (Heap.get?_push_of_some _ (Heap.get?_push_of_some _ e))
        simp only [List.mem_cons, List.not_mem_nil, or_false]
        rintro (z | z)
        · exact Nat.ne_of_lt lt z
        · exact Nat.ne_of_lt (Nat.lt_succ_of_lt lt) (z.trans sz)
    · cases r2 with
      | error _ => exact got2
      | ok f2 => cases f2 with
       | ret v =>
        obtain ⟨rfl, hp, tk, rfl, so, kept⟩ := got2
        repeat any_goals first | assumption | wp_step
        exact q _ _ so kept
       | _ => exact got2.elim
   | _ => exact got.elim
end
end SmT
end

section
set_option maxRecDepth 100000
set_option maxHeartbeats 4000000
namespace Sm
open PySem L2

abbrev V_ {α : Type} [i : Rp α] (x : α) : Sl := .val i x
abbrev O_ {α : Type} [i : Rp α] (x : List α) : Sl := .own i x
abbrev D_ {α : Type} [i : Rp α] (x : Dct α) : Sl := .dct i x
abbrev F_ {α : Type} [i : Rp α] (x : Dct α) : Sl := .dcf i x
abbrev E_ {α : Type} [i : Rp α] (x : Dct α) : Sl := .odc i x
section
variable {c : Stc} {Γ : List Sl} {a b e : Expr} {es : List Expr} {ta tb te : TE} {ma mb : Md} {pos : Pos}
theorem je_neg {m : Option Int} (h : JE c e te Γ ma m) : JE c (.UnaryOp .USub e pos) (tUn (rU fun i => .int (-i)) te) Γ .fr (m.bind fun x => some (-x)) :=
  ⟨fun X F => pe_un un_neg (h.pe X F), fun S0 H0 S σ H R z hz H1 e1 Q q => by
    cases h1 : m with
    | none => rw [h1] at hz; cases hz
    | some x =>
      rw [h1] at hz; cases hz
      exact h.ev S0 H0 S σ H R x h1 H1 e1 _ fun v H2 e2 r => ⟨x, r, q _ H2 e2 rfl⟩⟩
theorem je_call0 {ρ : Type} [Rp ρ] {fr : Bool} {m : Unit → Option ρ} {x : Str} {k : Nat} {p : Pos} (D : Dn c.P c.w c.K c.mg c.base x k (spOf c.K GN fr m)) (hk : k ≤ c.k := by exact Nat.le_of_ble_eq_true rfl) (hg : GlS c.sc x := by rfl) (hd : (x == ("__debug__" : Str)) = false := by decide) :
    JE c (.Call (.Name x p) [] [] pos) (tCall (spOf c.K GN fr m) [] E0 tNil) Γ .fr (m ()) :=
  ⟨fun X F => by
    obtain ⟨f, fd, ps, Fn, hm, kp, b⟩ := D
    have F' : FnOk X.prog X.w X.K X.mg X.base CX0 k f fd ps (spOf c.K GN fr m) := by
      rw [F.hP, F.hw, F.hK, F.hmg, F.hb]; exact Fn
    have b' : Binds X.K fd ps [] := by rw [F.hK]; exact b
    exact pe_call0 F' (F.room.mono hk) (F.gl hg) (by rw [F.hmg]; exact hm) (by rw [F.hK]; exact kp) b' .nil pass0 hd, fun S0 H0 S σ H R z hz H1 e1 Q q => by
    refine ⟨(), z, non, hz, fun a z => z.elim, rfl, fun v H3 e3 r3 => q v H3 e3 (Rp.up (fun a z _ => ?_) r3)⟩
    rcases z with z | z
    · cases fr <;> exact z.elim
    · exact .inr z⟩
/-- a list of two things of unlike kinds -/
structure LL (α β : Type) where
  a : α
  b : β
deriving Inhabited
instance rpLL {α β : Type} [Rp α] [Rp β] : Rp (LL α β) where
  r K S H v x := ∃ p v1 v2, v = .ref p ∧ S p ∧ H p = some (.lst [v1, v2]) ∧ Rp.r K S H v1 x.a ∧ Rp.r K S H v2 x.b
  fr := fun hs hf ⟨p, v1, v2, e, sp, hp, h1, h2⟩ => ⟨p, v1, v2, e, hs p sp (by rw [hp]; simp), (hf p sp).1 _ hp, Rp.fr hs hf h1, Rp.fr hs hf h2⟩
instance datLL {α β : Type} [Rp α] [Rp β] [i : Dat α] [j : Dat β] : Dat (LL α β) where
  d x := .list [i.d x.a, j.d x.b]
  ok x := i.ok x.a && j.ok x.b
  dp := max i.dp j.dp + 1
  q x y := i.q x.a y.a && j.q x.b y.b
  tod := fun ⟨p, v1, v2, e, _, hp, h1, h2⟩ => e ▸ .lst (SqL.of hp) (.cons (i.tod h1) (.cons (j.tod h2) .nil))
  lay := fun x h => by
    simp only [Bool.and_eq_true] at h
    simp [PyData.canLay0, PyData.canLayAll0, i.lay _ h.1, j.lay _ h.2]
  deep := fun x => by have h1 := i.deep x.a; have h2 := j.deep x.b; simp only [PyData.depth, PyData.depthAll]; omega
  eqd := fun x y => by simp [PyData.eqv, PyData.eqvAll, i.eqd, j.eqd]
theorem je_ll {α β : Type} [Rp α] [Rp β] {tr : TA} {m : Option (α × β × Unit)} (h : JA c es tr Γ ma m (GC α (GC β GN))) : JE c (.List es pos) (tLst tr) Γ ma (m.bind fun x => some (LL.mk x.1 x.2.1)) :=
  ⟨fun X F => pe_lst (h.pa X F), fun S0 H0 S σ H R z hz H1 e1 Q q => by
    cases h1 : m with
    | none => rw [h1] at hz; cases hz
    | some x =>
      rw [h1] at hz; cases hz
      refine h.ev S0 H0 S σ H R x h1 H1 e1 _ fun vs H2 e2 r => ?_
      obtain ⟨v1, _, rfl, g1, v2, _, rfl, g2, rfl⟩ := r
      refine ⟨by show 2 ≤ sizeLine; decide, fun p hp => ?_⟩
      have ex : Ex H2 (upd H2 p (.lst [v1, v2])) := Evl.Ex.new hp
      exact q _ _ (e2.trans ex) ⟨p, v1, v2, rfl, .inr (Evl.fresh_back e2 hp), upd_same, Rp.ex ex g1, Rp.ex ex g2⟩⟩
theorem ixLL {α γ : Type} [Rp α] [Rp γ] {m1 : Option α} {n : Int} {k p} (g : α → γ)
    (hr : ∀ S H v x, Rp.r c.K S H v x → ∃ p vs w, v = .ref p ∧ H p = some (.lst vs) ∧ atI vs n = some w ∧ Rp.r c.K S H w (g x)) (ha : JE c a ta Γ ma m1) :
    JE c (.Subscript a (.Constant (.int n) k p) pos) (tOp (rIxL c.K) ta (tC (.int n))) Γ ma (m1.bind fun x => some (g x)) :=
  ⟨fun X F => by rw [← F.hK]; exact pe_ix ix_list (ha.pe X F) pe_int (fun _ _ => rfl), fun S0 H0 S σ H R z hz H1 e1 Q q => by
    cases h1 : m1 with
    | none => rw [h1] at hz; cases hz
    | some x =>
      rw [h1] at hz; cases hz
      refine ha.ev S0 H0 S σ H R x h1 H1 e1 _ fun v H2 e2 r1 => ?_
      obtain ⟨p, vs, w, rfl, hp, hi, rw_⟩ := hr _ _ _ _ r1
      exact ⟨p, vs, n, w, rfl, rfl, SqL.of hp, hi, q w H2 e2 rw_⟩⟩
theorem lla {K : PySem.W.Frag} {α β : Type} [Rp α] [Rp β] (S : Ft) (H : Hp) (v : V) (x : LL α β) (h : Rp.r K S H v x) : ∃ p vs w, v = .ref p ∧ H p = some (.lst vs) ∧ atI vs 0 = some w ∧ Rp.r K S H w x.a := by obtain ⟨p, v1, v2, e, _, hp, h1, h2⟩ := h; exact ⟨p, _, v1, e, hp, rfl, h1⟩
theorem llb {K : PySem.W.Frag} {α β : Type} [Rp α] [Rp β] (S : Ft) (H : Hp) (v : V) (x : LL α β) (h : Rp.r K S H v x) : ∃ p vs w, v = .ref p ∧ H p = some (.lst vs) ∧ atI vs 1 = some w ∧ Rp.r K S H w x.b := by obtain ⟨p, v1, v2, e, _, hp, h1, h2⟩ := h; exact ⟨p, _, v2, e, hp, rfl, h2⟩
/-- len of a tuple whose form is known -/
class Tln (α : Type) [Rp α] where
  n : Nat
  is : ∀ {K : PySem.W.Frag} {S : Ft} {H : Hp} {v : V} {x : α}, Rp.r K S H v x → ∃ p vs, v = .ref p ∧ H p = some (.tup vs) ∧ vs.length = n
instance tlnT2 {α β : Type} [Rp α] [Rp β] : Tln (T2 α β) := { n := 2, is := fun ⟨p, v1, v2, e, _, hp, _⟩ => ⟨p, _, e, hp, rfl⟩ }
instance tlnT3 {α β γ : Type} [Rp α] [Rp β] [Rp γ] : Tln (T3 α β γ) := { n := 3, is := fun ⟨p, v1, v2, v3, e, _, hp, _⟩ => ⟨p, _, e, hp, rfl⟩ }
instance tlnT5 {α β γ δ ε : Type} [Rp α] [Rp β] [Rp γ] [Rp δ] [Rp ε] : Tln (T5 α β γ δ ε) := { n := 5, is := fun ⟨p, v1, v2, v3, v4, v5, e, _, hp, _⟩ => ⟨p, _, e, hp, rfl⟩ }
theorem je_lenT {α : Type} [Rp α] [t : Tln α] {m : Option α} {p : Pos} (hm : c.mg "len" = none) (h : JE c e te Γ ma m) (hg : GlS c.sc "len" := by rfl) (hs : ∀ env, starEach (e :: []) env = (false, eval e env) :: starEach [] env := by intro _; rfl) :
    JE c (.Call (.Name "len" p) [e] [] pos) (tCB (rLenS c.K) (tCons te tNil)) Γ .fr (m.bind fun _ => some (t.n : Int)) :=
  je_cb (id := "len") (fun _ => some (t.n : Int)) (fun X F => by rw [← F.hK]; exact call_len_seq) hm PySem.boot_len (fun y z v H r hz Q q => by
    have hz := Option.some.inj hz
    subst hz
    obtain ⟨p, vs, rfl, hp, hl⟩ := t.is r
    refine ⟨p, vs, rfl, .inr (SqT.of hp), ?_⟩
    rw [hl]; exact q) h hg hs (by decide) (by decide)
/-- len(set(texts)), no text twice -/
def tLenTx (K : PySem.W.Frag) (t : TE) : TE := fun σ H Q => t σ H fun x G => ∃ (a : Addr) (xs : List Str), x = .ref a ∧ SqL K G a (xs.map V.str) ∧ (xs.Nodup ∧ xs.length ≤ 4000) ∧ Q (.int xs.length) G
theorem texts_of : ∀ {xs : List Str} {us : List Value}, Vals (xs.map V.str) us → PyProof.Rows.StrsAre us xs
  | [], _, h => by cases h; exact .nil
  | x :: xs, _, h => by
    cases h with
    | cons r t => obtain ⟨k, rfl⟩ := r; exact .cons x k (texts_of t)
theorem pe_lenTx {X : Cx} {e : Expr} {t : TE} {p p2 q2 pos : Pos} (calm : X.calm = true) (g1 : Gl X "len") (m1 : X.mg "len" = none) (g2 : Gl X "set") (m2 : X.mg "set" = none) (he : PE X e t)
    (hs : starEach (e :: []) X.env = (false, eval e X.env) :: starEach [] X.env) : PE X (.Call (.Name "len" p) [.Call (.Name "set" p2) [e] [] q2] [] pos) (tLenTx X.K t) := by
  constructor
  intro pins s σ H Q I want
  refine PyProof.Rows.Call_ ?_
  apply ld_blt I g1 m1 PySem.boot_len
  apply PyProof.Rows.callWith_builtin1 _ rfl rfl
  refine PyProof.Rows.args_cons ?_ rfl
  refine PyProof.Rows.Call_ ?_
  refine ld_blt I g2 m2 PyProof.Rows.boot_set ?_
  refine PyProof.Rows.callWith_type1 ?_ hs rfl
  refine PyProof.Rows.args_cons ?_ hs
  refine thn (he.run pins s σ H _ I want) ?_
  rintro v s1 ⟨x, G, J, rx, a, xs, rfl, sq, ⟨nd, few⟩, fin⟩
  apply PyProof.Rows.args_nil
  cases rx
  obtain ⟨its, vals, at_, _⟩ := J.list sq
  have size : its.toArray.size = xs.length := by
    have := vals.length
    rw [List.length_map] at this
    rw [List.size_toArray, this]
  refine SmT.set_of_texts (J.ok.hd calm) at_.isList (texts_of (by simpa using vals)) nd (by rw [size]; unfold scanBound; omega) fun hp tk got keep => ?_
  apply PyProof.Rows.args_nil
  rw [size] at got
  obtain ⟨ob, es, ep, tb, there, exact_, data, _, _, _, fill, cnt⟩ := got
  have J2 : Inv X pins σ G { s1 with heap := hp, toks := tk } := J.kept fun b o z => keep b o (Heap.lt_size z) z
  refine call_len_set there exact_ data fill (by rw [cnt]; omega) ?_
  exact ⟨.int xs.length, G, J2.tok _, ⟨_, by rw [cnt]⟩, fin⟩
theorem je_lenSet {m : Option (List Str)} {p p2 q2 : Pos} (hm : c.mg "len" = none) (hm2 : c.mg "set" = none) (h : JE c e te Γ ma m) (hg : GlS c.sc "len" := by rfl) (hg2 : GlS c.sc "set" := by rfl) (hs : ∀ env, starEach (e :: []) env = (false, eval e env) :: starEach [] env := by intro _; rfl) :
    JE c (.Call (.Name "len" p) [.Call (.Name "set" p2) [e] [] q2] [] pos) (tLenTx c.K te) Γ .fr (m.bind fun xs => if decide xs.Nodup && decide (xs.length ≤ 4000) then some (xs.length : Int) else none) :=
  ⟨fun X F => by rw [← F.hK]; exact pe_lenTx F.calm (F.gl hg) (by rw [F.hmg]; exact hm) (F.gl hg2) (by rw [F.hmg]; exact hm2) (h.pe X F) (hs _), fun S0 H0 S σ H R z hz H1 e1 Q q => by
    cases h1 : m with
    | none => rw [h1] at hz; cases hz
    | some xs =>
      rw [h1] at hz
      have hz : (if decide xs.Nodup && decide (xs.length ≤ 4000) then some (xs.length : Int) else none) = some z := hz
      by_cases hl : (decide xs.Nodup && decide (xs.length ≤ 4000)) = true
      · rw [if_pos hl] at hz
        cases hz
        rw [Bool.and_eq_true, decide_eq_true_eq, decide_eq_true_eq] at hl
        refine h.ev S0 H0 S σ H R xs h1 H1 e1 _ fun v H2 e2 r => ?_
        obtain ⟨a, vs, rfl, _, ha, pr⟩ := r
        have e := paired_lit pr
        subst e
        exact ⟨a, xs, rfl, SqL.of ha, hl, q _ H2 e2 rfl⟩
      · rw [if_neg hl] at hz; cases hz⟩
/-- sorted(texts) -/
def sLeB (x y : Str) : Bool := !decide (y.cps.toList < x.cps.toList)
def sortS (xs : List Str) : List Str := xs.mergeSort sLeB
theorem sLeB_tr (a b c : Str) (h1 : sLeB a b = true) (h2 : sLeB b c = true) : sLeB a c = true := by
  unfold sLeB at *
  simp only [Bool.not_eq_true', decide_eq_false_iff_not, List.not_lt] at *
  exact List.le_trans h1 h2
theorem sLeB_all (a b : Str) : (sLeB a b || sLeB b a) = true := by
  unfold sLeB
  simp only [Bool.or_eq_true, Bool.not_eq_true', decide_eq_false_iff_not, List.not_lt]
  exact List.le_total _ _
theorem sLeB_as (a b : Str) (h1 : sLeB a b = true) (h2 : sLeB b a = true) : a = b := by
  unfold sLeB at *
  simp only [Bool.not_eq_true', decide_eq_false_iff_not, List.not_lt] at *
  have : a.cps.toList = b.cps.toList := List.le_antisymm h1 h2
  cases a; cases b
  simpa [Array.toList_inj] using this
theorem sorted_one {xs ys : List Str} (h : xs.Perm ys) (hx : xs.Pairwise fun a b => sLeB a b = true) (hy : ys.Pairwise fun a b => sLeB a b = true) : xs = ys :=
  List.Perm.eq_of_pairwise (le := fun a b => sLeB a b = true) (fun a b _ _ h1 h2 => sLeB_as a b h1 h2) hx hy h
theorem sortS_pw (xs : List Str) : (sortS xs).Pairwise fun a b => sLeB a b = true := List.pairwise_mergeSort sLeB_tr sLeB_all xs
theorem sortS_p (xs : List Str) : (sortS xs).Perm xs := List.mergeSort_perm xs sLeB
theorem sortS_perm {xs ys : List Str} (h : xs.Perm ys) : sortS xs = sortS ys := sorted_one ((sortS_p xs).trans (h.trans (sortS_p ys).symm)) (sortS_pw xs) (sortS_pw ys)
theorem rising_pw : ∀ (l : List Str) (x : Str), PyProof.Rows.risingS x l = true → (x :: l).Pairwise fun a b => sLeB a b = true
  | [], x, _ => List.pairwise_singleton _ _
  | y :: l, x, h => by
    have h' : (!PySem.Spec.ltCps y.cps.toList x.cps.toList && PyProof.Rows.risingS y l) = true := h
    rw [Bool.and_eq_true, PyProof.Rows.ltCps_eq] at h'
    have ih := rising_pw l y h'.2
    refine List.pairwise_cons.mpr ⟨fun z hz => ?_, ih⟩
    rcases List.mem_cons.mp hz with rfl | hz
    · exact h'.1
    · exact sLeB_tr x y z h'.1 ((List.pairwise_cons.mp ih).1 z hz)
theorem sortedS_pw {l : List Str} (h : PyProof.Rows.sortedS l = true) : l.Pairwise fun a b => sLeB a b = true := by
  cases l with
  | nil => exact .nil
  | cons x l => exact rising_pw l x h
theorem je_sorted {m : Option (List Str)} {p : Pos} (hm : c.mg "sorted" = none) (h : JE c e te Γ ma m) (hg : GlS c.sc "sorted" := by rfl) (hs : ∀ env, starEach (e :: []) env = (false, eval e env) :: starEach [] env := by intro _; rfl) :
    JE c (.Call (.Name "sorted" p) [e] [] pos) (tCB (rSortedS c.K) (tCons te tNil)) Γ .fr (m.bind fun xs => if xs.length < 64 then some (sortS xs) else none) :=
  ⟨fun X F => by rw [← F.hK]; exact pe_callB cr_sortedS (F.gl hg) (by rw [F.hmg]; exact hm) (by decide +kernel) (pa_cons (h.pe X F) pa_nil (hs _)) (by decide) (by decide) (hs _) rfl, fun S0 H0 S σ H R z hz H1 e1 Q q => by
    cases h1 : m with
    | none => rw [h1] at hz; cases hz
    | some xs =>
      rw [h1] at hz
      have hz : (if xs.length < 64 then some (sortS xs) else none) = some z := hz
      by_cases hl : xs.length < 64
      · rw [if_pos hl] at hz
        cases hz
        refine h.ev S0 H0 S σ H R xs h1 H1 e1 _ fun v H2 e2 r => ?_
        obtain ⟨a, vs, rfl, _, ha, pr⟩ := r
        have e := paired_lit pr
        subst e
        refine ⟨a, xs, rfl, SqL.of ha, hl, fun ys p hp srt free => ?_⟩
        have hy : ys = sortS xs := sorted_one (hp.trans (sortS_p xs).symm) (sortedS_pw srt) (sortS_pw xs)
        subst hy
        have ex : Ex H2 (upd H2 p (.lst ((sortS xs).map V.str))) := Evl.Ex.new free
        exact q _ _ (e2.trans ex) ⟨p, _, rfl, .inr (Evl.fresh_back e2 free), upd_same, lit_paired _⟩
      · rw [if_neg hl] at hz; cases hz⟩
end
section
theorem pgn {c : Stc} {X : Cx} (F : Fam c X) {x : Str} {pos : Pos} (j : Nat) (hN : c.N.Nodup) (hx : c.N[j]? = some x := by rfl) (hl : Loc c.sc x := by first | exact Or.inl rfl | exact Or.inr rfl) (hf : c.fn x = true ∨ c.sc.names.lookup x = some .local := by first | exact .inl rfl | exact .inr rfl) : PG X (.Name x pos) (gName j) :=
  pg_name (by rw [F.hN]; exact hN) (by rw [F.hN]; exact hx) (by rw [F.hsc]; exact hl) (by rw [F.hfn, F.hsc]; exact hf)
theorem pgt {c : Stc} {X : Cx} (F : Fam c X) {es : List Expr} {k : Nat} {t : TGs} {n : Nat} {pos : Pos} (h : PGs X es t) (hn : (assignEach es X.env).length = n := by rfl) (hst : (assignEach es X.env).findIdx? (·.1) = none := by rfl) : PG X (.Tuple es k pos) (gTup c.K n t) := by
  rw [← F.hK]; exact pg_tup F.calm h hn hst
variable {c : Stc} {Γ : List Sl} {τ τ' ρ : Type} [Rt ρ] {fr : Bool} {Γf : τ → List Sl} {rest : List Stmt} {tu : TS}
/-- an if that returns or raises, nothing else -/
theorem js_guard {e : Expr} {tt : TT} {ta : TS} {A : List Stmt} {pos : Pos} {mc : Option Bool} {m1 : Option (Out Unit ρ)} {k : Option (Out τ ρ)} (hc : JT c e tt Γ mc) (h1 : JS c A ta Γ fr (fun _ : Unit => Γ) m1) (hk : JS c rest tu Γ fr Γf k) :
    JS c (.If e A [] pos :: rest) (tSeq (tIfS tt ta tNext) tu) Γ fr Γf ((mc.bind fun b => if b then m1 else some (.nx ())).bind (Out.go fun _ => k)) :=
  js_if (Γ1 := fun _ : Unit => Γ) hc h1 (js_nil () (Sub.refl Γ)) fun _ => hk
/-- x = [..], then grown -/
theorem js_ownL {α : Type} [i : Rp α] {x : Str} {es : List Expr} {tr : TA} {md : Md} {me : Option (List α)} {p q pos : Pos} {k : List α → Option (Out τ ρ)} (j : Nat) (hN : c.N.Nodup) (he : JL c es tr Γ md me) (hk : ∀ v, JS c rest tu (Γ.set j (.own i v)) fr Γf (k v)) (hmd : md ≠ .an := by decide) (hx : c.N[j]? = some x := by rfl) (hl : Loc c.sc x := by first | exact Or.inl rfl | exact Or.inr rfl) (hf : c.fn x = true := by rfl)
    (hs : ∀ env, swapsWith (.List es q) (some (.Name x p)) pos.line env = pure false := by intro _; rfl) : JS c (.Assign [.Name x p] (.List es q) pos :: rest) (tSeq (tAsg (tLst tr) (gName j)) tu) Γ fr Γf (me.bind fun v => if v.length ≤ 50000 then k v else none) :=
  ⟨fun X F => pss_cons (ps_set (by rw [F.hN]; exact hN) (by rw [F.hN]; exact hx) (by rw [F.hsc]; exact hl) (pe_lst (he.pa X F)) (hs _) (.inl (by rw [F.hfn]; exact hf))) ((hk []).ps X F), fun S0 H0 S σ H R o ho D qq => by
    cases hm : me with
    | none => rw [hm] at ho; cases ho
    | some y =>
      rw [hm] at ho
      have ho : (if y.length ≤ 50000 then k y else none) = some o := ho
      by_cases hn : ¬ y.length ≤ 50000
      · rw [if_neg hn] at ho; cases ho
      have hn := Decidable.not_not.mp hn
      rw [if_pos hn] at ho
      refine he.ev S0 H0 S σ H R y hm H (Evl.Ex.refl H) _ fun vs H1 e1 r => ⟨by rw [r.length]; exact Evl.sz_of (by omega), fun l hl => ?_⟩
      have R1 := R.grow e1
      have ex : Ex H1 (upd H1 l (.lst vs)) := Evl.Ex.new hl
      have nS : ¬ grw S H H1 l := fun z => z.1 hl
      refine (hk y).ev S0 H0 _ _ _ ((R1.keep ex).made j (.own i y) rfl ⟨l, vs, rfl, nS, upd_same, paired_mono r fun _ _ z => Rp.ex ex (Rp.up (grw_in hmd) z)⟩ (Evl.fresh_back R1.ex hl) fun i t _ => fresh_own R1 hl i t) o ho D (out_keep (grw_up R.dm e1) (fr_ex (e1.trans ex)) qq)⟩
/-- x = f(..), a new list, then grown -/
theorem js_setO {α : Type} [i : Lit α] {x : Str} {e : Expr} {te : TE} {md : Md} {me : Option (List α)} {p pos : Pos} {k : List α → Option (Out τ ρ)} (j : Nat) (hN : c.N.Nodup) (he : JE c e te Γ md me) (hk : ∀ v, JS c rest tu (Γ.set j (.own rpLit v)) fr Γf (k v)) (hmd : md = .fr := by rfl) (hx : c.N[j]? = some x := by rfl) (hl : Loc c.sc x := by first | exact Or.inl rfl | exact Or.inr rfl) (hf : c.fn x = true := by rfl)
    (hs : ∀ env, swapsWith e (some (.Name x p)) pos.line env = pure false := by intro _; rfl) : JS c (.Assign [.Name x p] e pos :: rest) (tSeq (tAsg te (gName j)) tu) Γ fr Γf (me.bind k) :=
  ⟨fun X F => pss_cons (ps_set (by rw [F.hN]; exact hN) (by rw [F.hN]; exact hx) (by rw [F.hsc]; exact hl) (he.pe X F) (hs _) (.inl (by rw [F.hfn]; exact hf))) ((hk []).ps X F), fun S0 H0 S σ H R o ho D qq => by
    subst hmd
    cases hm : me with
    | none => rw [hm] at ho; cases ho
    | some y =>
      rw [hm] at ho
      refine he.ev S0 H0 S σ H R y hm H (Evl.Ex.refl H) _ fun v H1 e1 r => ?_
      obtain ⟨l, vs, rfl, sl, hl, pr⟩ := r
      have hl0 : H l = none := sl.elim (fun z => z.elim) id
      have R1 := R.keep e1
      refine (hk y).ev S0 H0 _ _ _ (R1.made j (.own rpLit y) rfl ⟨l, vs, rfl, fun z => R.dm l z hl0, hl, paired_mono pr fun _ _ z => z⟩ (Evl.fresh_back R.ex hl0) fun i t ij hi ot => fresh_own R hl0 i t hi ot) o ho D (out_keep (fun _ z => z) (fr_ex e1) qq)⟩
/-- x = [.. for ..], x a local that no block reads -/
theorem js_setLc {α β : Type} [Rp α] [iβ : Rp β] [Inhabited α] {elt tg iter : Expr} {ifs : List Expr} {scope : Scope} {y : Str} {py pos spos : Pos} {wi : TI} {g : TG} {tt : TT} {te : TE} {ma me : Md} {m : Option (List α)} {f : α → Option Bool} {h : α → Option β} {Γ' : α → List Sl} {k : List β → Option (Out τ ρ)} (j : Nat) (own : List (Str × Nat)) (hN : c.N.Nodup) (hi : JI c tg iter wi Γ ma m) (ok : blkC c.N c.sc scope own = true) (hg : ∀ X, Fam (c.blk scope) X → PG X tg g)
    (tgo : TgOk c.K g (own.map (·.2)) (wipeG (Γ.map Sl.bor) (own.map (·.2))) Γ') (ht : ∀ x, JTs (c.blk scope) ifs tt (Γ' x) (f x)) (he : ∀ x, JE (c.blk scope) elt te (Γ' x) me (h x)) (hk : ∀ v, JS c rest tu (Γ.set j (.val (@rpList β iβ) v)) fr Γf (k v)) (hme : me = .fr := by rfl) (hs : ∀ (env : Env) x, foldedSetIterable iter env x = pure x := by intro _ _; rfl)
    (hy : c.N[j]? = some y := by rfl) (hyl : c.sc.names.lookup y = some .local := by rfl) (hkd : c.sc.kind = .function := by rfl) (hln : (py.line == pos.line) = true := by rfl) (hno : (scope.names.any fun (n, k) => n == y && (k == .local || k == .cell)) = false := by decide +kernel) :
    JS c (.Assign [.Name y py] (.ListComp elt [⟨tg, iter, ifs, 0⟩] scope pos) spos :: rest) (tSeq (tAsg (tLc wi g tt te (own.map (·.2))) (gName j)) tu) Γ fr Γf ((m.bind (lcO f h)).bind k) := by
  subst hme
  have hj : JE c (.ListComp elt [⟨tg, iter, ifs, 0⟩] scope pos) (tLc wi g tt te (own.map (·.2))) Γ .fr (m.bind (lcO f h)) := je_lc own hN hi ok hg tgo ht he (by decide) hs
  exact js_asg j (fun X F => ps_setLc F.calm (by rw [F.hN]; exact hN) (by rw [F.hN]; exact hy) (by rw [F.hsc]; exact hyl) (sw_true (by rw [F.hsc]; exact hkd) (by rw [F.hsc]; exact hyl) hln hno) (hi.pi X F) (by rw [F.hN, F.hsc]; exact blkOk_by ok) (fun s H C cl fp => hg _ (F.blk scope s H C cl fp)) (fun s H C cl fp => (ht default).pt _ (F.blk scope s H C cl fp)) (fun s H C cl fp => (he default).pe _ (F.blk scope s H C cl fp)) (fun x => hs _ x)) hj hk
end
end Sm
end

section
set_option maxRecDepth 100000
set_option maxHeartbeats 4000000
namespace Sm
open PySem L2

/-! ### a def that hands back a new dict -/
def outD {α : Type} (m : Option (Out Unit (DD α))) : Option (Dct α) := (outR m).map DD.ps
section
variable {c : Stc} {Γ : List Sl} {τ τ' ρ : Type} [Rt ρ] {fr : Bool} {Γf : τ → List Sl} {rest : List Stmt} {tu : TS}
theorem js_retD {α : Type} [i : Rp α] {x : Str} {p pos : Pos} {ps : Dct α} {Γf : τ → List Sl} (j : Nat) (hs : Γ[j]? = some (.odc i ps) := by rfl) (hN : c.N[j]? = some x := by rfl) (hv : Vis c.sc x := by first | exact Or.inl rfl | exact Or.inr (Or.inl rfl) | exact Or.inr (Or.inr rfl))
    (hd : (x == ("__debug__" : Str)) = false := by decide) (hcd : (x == ("__classdict__" : Str)) = false := by decide) : JS c (.Return (some (.Name x p)) pos :: []) (tRet (tVar j)) Γ (ρ := DD α) false Γf (some (.rt (DD.mk ps))) :=
  ⟨fun X F => pss_one (ps_ret (pe_var (by rw [F.hN]; exact hN) (F.vis hv) hd hcd)), fun S0 H0 S σ H R o ho D q => by
    cases ho
    obtain ⟨l, kvs, hu, nl, hl, r⟩ := R.sl j _ hs
    have h0 := R.ow j _ l hs rfl hu
    refine ⟨_, at_some hu, q _ H R.ex (fun _ _ _ z => z) ⟨l, kvs, rfl, h0, hl, RpD.fr (fun a z _ => R.sr a z) (fv_ex (Evl.Ex.refl H)) r⟩⟩⟩
end
section
variable {P : Program} {w : World} {K : PySem.W.Frag} {mg : Str → Option Value} {base : Heap} {A α : Type} [Rp α] {G : PySem.W.Frag → Ft → Hp → List V → A → Prop} [g : GA G] {x qual : Str} {st : Stmt} {f : Addr} {fd : FuncData} {N ps : List Str} {k : Nat} {t : TS}
theorem def_okD {Γf : Unit → List Sl} {m : A → Option (Out Unit (DD α))} (F : Fun K x qual st f fd) (S : FnScope N ps (defScope st)) (hlen : ∀ p, (g.A p).length = ps.length) (h : ∀ p, JS ⟨P, w, K, mg, base, N, defScope st, fun _ => true, k⟩ (defBody st) t (g.A p ++ List.replicate (N.length - ps.length) .no) false Γf (m p)) :
    FnOk P w K mg base CX0 (k + 1) f fd ps (spOfD K G fun p => outD (m p)) := by
  refine F.ok S (fun vs H Q E ⟨p, r, S', _, _, hg, _⟩ => (ga_len hg).trans (hlen p)) fun cdv Ar outer s H vs Q E hr ⟨p, r, S', hm, hS, hg, q⟩ => ⟨t, (h p).ps _ (fam_def hr), ?_⟩
  have hl : vs.length = ps.length := (ga_len hg).trans (hlen p)
  have hm : outD (m p) = some r := hm
  cases hmp : m p with
  | none => rw [hmp] at hm; cases hm
  | some o =>
    rw [hmp] at hm
    cases o with
    | nx s => cases hm
    | rt r' =>
      cases hm
      refine (h p).ev S' H S' _ H (st_start hg hS (by rw [hl])) _ hmp _ ?_
      rintro v H' ex _ ⟨l, kvs, rfl, h0, h1, rr⟩
      exact q l kvs H' ex h0 h1 rr
end

/-! ### put: what is live with a name behind -/
abbrev Chg := T5 Str (List Str) (Option Str) (List Str) (List Str)
abbrev Line := T3 Str Int (List Str)
def putM (book : Dct Chg) (live : Dct Bool) (name : Str) : Option (Dct Bool) := (dget book name).bind fun c => match c.c with
  | none => if live.length < 50000 then some (dput live name true) else none
  | some b => some (ddrop live b)
def spPut (K : PySem.W.Frag) : Sp := fun vs H Q _ => ∃ (book : Dct Chg) (live live' : Dct Bool) (name : Str) (b l : Addr) (kvs lv : List (Key × V)), vs = [.ref b, .ref l, .str name] ∧ H b = some (.dK kvs) ∧ RpD K all H kvs book ∧ H l = some (.dK lv) ∧ b ≠ l ∧ RpD K all H lv live ∧ putM book live name = some live' ∧
  ∀ H' lv', (∀ a o, a ≠ l → H a = some o → H' a = some o) → H' l = some (.dK lv') → (∀ S, RpD K S H' lv' live') → Q .non H'
theorem rpd_lit {α : Type} [Lit α] {K : PySem.W.Frag} {S S' : Ft} {H H' : Hp} {kvs : List (Key × V)} {ps : Dct α} (h : RpD K S H kvs ps) : RpD K S' H' kvs ps := paired_mono h fun _ _ z => z
/-- a thing of the def's own is changed by a callee -/
theorem StR.chg {K : PySem.W.Frag} {S0 : Ft} {H0 : Hp} {S : Ft} {Γ : List Sl} {σ : L2.St} {H H' : Hp} (R : StR K S0 H0 S Γ σ H) {j : Nat} {s s' : Sl} (hj : Γ[j]? = some s) (os : s.isOwn = true) (os' : s'.isOwn = true) {l : Addr} (hl : at_ σ j = some (.ref l)) (hk : ∀ a o, a ≠ l → H a = some o → H' a = some o)
    (hs : ∀ T : Ft, ¬ T l → SlotR K T H' (some (.ref l)) s') (hn : H' l ≠ none) : StR K S0 H0 (fun a => H' a ≠ none ∧ a ≠ l ∧ (S a ∨ H a = none)) (Γ.set j s') σ H' := by
  obtain ⟨l', u0, e0, nS, hH⟩ := own_ref os (R.sl j s hj)
  rw [hl] at e0
  cases e0
  have h0 : H0 l = none := R.ow j s l hj os hl
  have nl : ∀ {a}, S a → a ≠ l := fun {a} sa e => nS (e ▸ sa)
  have f : Fr S H H' := fun a o sa ha => hk a o (nl sa) ha
  refine ⟨by rw [List.length_set, R.len], fun k t hk' => ?_, fun a z => z.1, fun a b s1 s2 l' ab ha hb o1 o2 h1 h2 => ?_, fun k t l' hk' ot h1 => ?_, fun a o ha => ?_, fun a z => z.2.2.elim (R.sr a) fun z => .inr (Evl.fresh_back R.ex z)⟩
  · by_cases e : k = j
    · subst e
      have hlt : k < Γ.length := (List.getElem?_eq_some_iff.mp hj).1
      rw [List.getElem?_set_self hlt] at hk'
      cases hk'
      rw [hl]; exact hs _ fun z => z.2.1 rfl
    · rw [List.getElem?_set_ne (Ne.symm e)] at hk'
      refine SlotR.fr (fun a sa z => ?_) (fun ot l' eo nl' z => ?_) (fun ot l' u' eo hu => ?_) f (R.sl k t hk')
      · refine ⟨?_, nl sa, .inl sa⟩
        cases q : H a with
        | none => exact absurd q z
        | some o => rw [hk a o (nl sa) q]; simp
      · obtain ⟨l2, u2, e2, _, hu2⟩ := own_ref ot (R.sl k t hk')
        rw [eo] at e2
        cases e2
        rcases z.2.2 with z | z
        · exact nl' z
        · rw [hu2] at z; cases z
      · exact hk l' u' (fun e2 => R.ap k j t s l' e hk' hj ot os eo (e2 ▸ hl)) hu
  · have : ∀ {k : Nat} {t : Sl}, (Γ.set j s')[k]? = some t → t.isOwn = true → ∃ t' : Sl, Γ[k]? = some t' ∧ t'.isOwn = true := fun {k t} hk ot => by
      by_cases e : k = j
      · subst e; exact ⟨s, hj, os⟩
      · rw [List.getElem?_set_ne (Ne.symm e)] at hk; exact ⟨t, hk, ot⟩
    obtain ⟨t1, g1, p1⟩ := this ha o1
    obtain ⟨t2, g2, p2⟩ := this hb o2
    exact R.ap a b t1 t2 l' ab g1 g2 p1 p2 h1 h2
  · by_cases e : k = j
    · subst e
      rw [hl] at h1; cases h1; exact h0
    · rw [List.getElem?_set_ne (Ne.symm e)] at hk'
      exact R.ow k t l' hk' ot h1
  · exact hk a o (fun e => by rw [e, h0] at ha; cases ha) (R.ex a o ha)
section
variable {c : Stc} {Γ : List Sl} {τ τ' ρ : Type} [Rt ρ] {fr : Bool} {Γf : τ → List Sl} {rest : List Stmt} {tu : TS}
theorem js_put_core {book : Dct Chg} {live : Dct Bool} {x y : Str} {e : Expr} {te : TE} {md : Md} {me : Option Str} {p1 p2 p3 p4 pos : Pos} {kk : Nat} {k : Dct Bool → Option (Out τ ρ)} (jb jl : Nat)
    (hb : ∀ S0 H0 S σ H, StR c.K S0 H0 S Γ σ H → ∃ b l kvs, at_ σ jb = some (.ref b) ∧ at_ σ jl = some (.ref l) ∧ b ≠ l ∧ H b = some (.dK kvs) ∧ RpD c.K all H kvs book) (hl : Γ[jl]? = some (.odc rpLit live) := by rfl) (Dp : Dn c.P c.w c.K c.mg c.base "put" kk (spPut c.K)) (he : JE c e te Γ md me)
    (hk : ∀ v, JS c rest tu (Γ.set jl (.odc rpLit v)) fr Γf (k v)) (hkk : kk ≤ c.k) (hg : GlS c.sc "put") (hx : c.N[jb]? = some x) (hy : c.N[jl]? = some y) (vx : Vis c.sc x) (vy : Vis c.sc y) (dx : (x == ("__debug__" : Str)) = false) (dy : (y == ("__debug__" : Str)) = false) (cx : (x == ("__classdict__" : Str)) = false) (cy : (y == ("__classdict__" : Str)) = false)
    (hs1 : ∀ env, starEach (.Name x p2 :: [.Name y p3, e]) env = (false, eval (.Name x p2) env) :: starEach [.Name y p3, e] env) (hs2 : ∀ env, starEach (.Name y p3 :: [e]) env = (false, eval (.Name y p3) env) :: starEach [e] env) (hs3 : ∀ env, starEach (e :: []) env = (false, eval e env) :: starEach [] env)
    (hpl : ∀ (env : Env) (p : Pos), (backTo p (starEach [.Name y p3, e] env)).any (·.1) = false) (hsw : ∀ env, swapsWith (.Call (.Name "put" p1) [.Name x p2, .Name y p3, e] [] p4) none pos.line env = pure false) :
    JS c (.Expr (.Call (.Name "put" p1) [.Name x p2, .Name y p3, e] [] p4) pos :: rest) (tSeq (tDrop (tCall (spPut c.K) [] E0 (tCons (tVar jb) (tCons (tVar jl) (tCons te tNil))))) tu) Γ fr Γf (me.bind fun n => (putM book live n).bind k) :=
  ⟨fun X F => pss_cons (ps_expr (pe_dn F Dp hkk (pa_cons (pe_var (by rw [F.hN]; exact hx) (F.vis vx) dx cx) (pa_cons (pe_var (by rw [F.hN]; exact hy) (F.vis vy) dy cy) (pa_cons (he.pe X F) pa_nil (hs3 _)) (hs2 _)) (hs1 _)) hg (by decide) hs1 hpl) (hsw _)) ((hk []).ps X F), fun S0 H0 S σ H R o ho D q => by
    cases hm : me with
    | none => rw [hm] at ho; cases ho
    | some n =>
      cases hp : putM book live n with
      | none =>
        rw [hm] at ho
        have ho : (putM book live n).bind k = some o := ho
        rw [hp] at ho; cases ho
      | some live' =>
        rw [hm] at ho
        have ho : (putM book live n).bind k = some o := ho
        rw [hp] at ho
        obtain ⟨b, l, kvs, eb, el, bl, hb', rb⟩ := hb S0 H0 S σ H R
        obtain ⟨l2, lv, el2, nS, hl', rl⟩ := R.sl jl _ hl
        rw [el] at el2
        cases el2
        refine ⟨_, at_some eb, ⟨_, at_some el, ?_⟩⟩
        refine he.ev S0 H0 S σ H R n hm H (Evl.Ex.refl H) _ fun v H1 e1 r1 => ?_
        cases r1
        refine ⟨book, live, live', n, b, l, kvs, lv, rfl, e1 b _ hb', RpD.fr (fun _ z _ => z) (fv_ex e1) rb, e1 l _ hl', bl, rpd_lit rl, hp, fun H' lv' hkp hl2 hr => ?_⟩
        have R1 := (R.keep e1).chg hl rfl rfl (s' := .odc rpLit live') el hkp (fun T nT => ⟨l, lv', rfl, nT, hl2, hr T⟩) (by rw [hl2]; simp)
        refine (hk live').ev S0 H0 _ σ H' R1 o ho D (out_keep (fun a sa => ⟨?_, fun e => nS (e ▸ sa), .inl sa⟩) (fun a o sa ha => hkp a o (fun e => nS (e ▸ sa)) (e1 a o ha)) q)
        cases q2 : H a with
        | none => exact absurd q2 (R.dm a sa)
        | some o => rw [hkp a o (fun e => nS (e ▸ sa)) (e1 a o q2)]; simp⟩
theorem js_put {book : Dct Chg} {live : Dct Bool} {x y : Str} {e : Expr} {te : TE} {md : Md} {me : Option Str} {p1 p2 p3 p4 pos : Pos} {kk : Nat} {k : Dct Bool → Option (Out τ ρ)} (jb jl : Nat) (hb : Γ[jb]? = some (.dct inferInstance book) := by rfl) (hl : Γ[jl]? = some (.odc rpLit live) := by rfl) (Dp : Dn c.P c.w c.K c.mg c.base "put" kk (spPut c.K)) (he : JE c e te Γ md me)
    (hk : ∀ v, JS c rest tu (Γ.set jl (.odc rpLit v)) fr Γf (k v)) (hkk : kk ≤ c.k := by exact Nat.le_of_ble_eq_true rfl) (hg : GlS c.sc "put" := by rfl) (hx : c.N[jb]? = some x := by rfl) (hy : c.N[jl]? = some y := by rfl) (vx : Vis c.sc x := by first | exact Or.inl rfl | exact Or.inr (Or.inl rfl) | exact Or.inr (Or.inr rfl)) (vy : Vis c.sc y := by first | exact Or.inl rfl | exact Or.inr (Or.inl rfl) | exact Or.inr (Or.inr rfl))
    (dx : (x == ("__debug__" : Str)) = false := by decide) (dy : (y == ("__debug__" : Str)) = false := by decide) (cx : (x == ("__classdict__" : Str)) = false := by decide) (cy : (y == ("__classdict__" : Str)) = false := by decide)
    (hs1 : ∀ env, starEach (.Name x p2 :: [.Name y p3, e]) env = (false, eval (.Name x p2) env) :: starEach [.Name y p3, e] env := by intro _; rfl) (hs2 : ∀ env, starEach (.Name y p3 :: [e]) env = (false, eval (.Name y p3) env) :: starEach [e] env := by intro _; rfl) (hs3 : ∀ env, starEach (e :: []) env = (false, eval e env) :: starEach [] env := by intro _; rfl)
    (hpl : ∀ (env : Env) (p : Pos), (backTo p (starEach [.Name y p3, e] env)).any (·.1) = false := by intro _ _; rfl) (hsw : ∀ env, swapsWith (.Call (.Name "put" p1) [.Name x p2, .Name y p3, e] [] p4) none pos.line env = pure false := by intro _; rfl) :
    JS c (.Expr (.Call (.Name "put" p1) [.Name x p2, .Name y p3, e] [] p4) pos :: rest) (tSeq (tDrop (tCall (spPut c.K) [] E0 (tCons (tVar jb) (tCons (tVar jl) (tCons te tNil))))) tu) Γ fr Γf (me.bind fun n => (putM book live n).bind k) :=
  js_put_core jb jl (fun S0 H0 S σ H R => by
    obtain ⟨b, kvs, eb, sb, hb', r⟩ := R.sl jb _ hb
    obtain ⟨l, lv, el, nS, hl', _⟩ := R.sl jl _ hl
    exact ⟨b, l, kvs, eb, el, fun e => nS (e ▸ sb), hb', RpD.fr (fun _ _ _ => trivial) (fv_ex (Evl.Ex.refl H)) r⟩) hl Dp he hk hkk hg hx hy vx vy dx dy cx cy hs1 hs2 hs3 hpl hsw
theorem js_putO {book : Dct Chg} {live : Dct Bool} {x y : Str} {e : Expr} {te : TE} {md : Md} {me : Option Str} {p1 p2 p3 p4 pos : Pos} {kk : Nat} {k : Dct Bool → Option (Out τ ρ)} (jb jl : Nat) (hb : Γ[jb]? = some (.odc inferInstance book) := by rfl) (hl : Γ[jl]? = some (.odc rpLit live) := by rfl) (Dp : Dn c.P c.w c.K c.mg c.base "put" kk (spPut c.K)) (he : JE c e te Γ md me)
    (hk : ∀ v, JS c rest tu (Γ.set jl (.odc rpLit v)) fr Γf (k v)) (hne : jb ≠ jl := by decide) (hkk : kk ≤ c.k := by exact Nat.le_of_ble_eq_true rfl) (hg : GlS c.sc "put" := by rfl) (hx : c.N[jb]? = some x := by rfl) (hy : c.N[jl]? = some y := by rfl) (vx : Vis c.sc x := by first | exact Or.inl rfl | exact Or.inr (Or.inl rfl) | exact Or.inr (Or.inr rfl)) (vy : Vis c.sc y := by first | exact Or.inl rfl | exact Or.inr (Or.inl rfl) | exact Or.inr (Or.inr rfl))
    (dx : (x == ("__debug__" : Str)) = false := by decide) (dy : (y == ("__debug__" : Str)) = false := by decide) (cx : (x == ("__classdict__" : Str)) = false := by decide) (cy : (y == ("__classdict__" : Str)) = false := by decide)
    (hs1 : ∀ env, starEach (.Name x p2 :: [.Name y p3, e]) env = (false, eval (.Name x p2) env) :: starEach [.Name y p3, e] env := by intro _; rfl) (hs2 : ∀ env, starEach (.Name y p3 :: [e]) env = (false, eval (.Name y p3) env) :: starEach [e] env := by intro _; rfl) (hs3 : ∀ env, starEach (e :: []) env = (false, eval e env) :: starEach [] env := by intro _; rfl)
    (hpl : ∀ (env : Env) (p : Pos), (backTo p (starEach [.Name y p3, e] env)).any (·.1) = false := by intro _ _; rfl) (hsw : ∀ env, swapsWith (.Call (.Name "put" p1) [.Name x p2, .Name y p3, e] [] p4) none pos.line env = pure false := by intro _; rfl) :
    JS c (.Expr (.Call (.Name "put" p1) [.Name x p2, .Name y p3, e] [] p4) pos :: rest) (tSeq (tDrop (tCall (spPut c.K) [] E0 (tCons (tVar jb) (tCons (tVar jl) (tCons te tNil))))) tu) Γ fr Γf (me.bind fun n => (putM book live n).bind k) :=
  js_put_core jb jl (fun S0 H0 S σ H R => by
    obtain ⟨b, kvs, eb, sb, hb', r⟩ := R.sl jb _ hb
    obtain ⟨l, lv, el, nS, hl', _⟩ := R.sl jl _ hl
    exact ⟨b, l, kvs, eb, el, fun e => R.ap jb jl _ _ b hne hb hl rfl rfl eb (e ▸ el), hb', RpD.fr (fun _ _ _ => trivial) (fv_ex (Evl.Ex.refl H)) r⟩) hl Dp he hk hkk hg hx hy vx vy dx dy cx cy hs1 hs2 hs3 hpl hsw
end

/-! ### put keeps its promise -/
section
variable {P : Program} {w : World} {K : PySem.W.Frag} {mg : Str → Option Value} {base : Heap}
theorem put_none {K : PySem.W.Frag} {S : Ft} {H : Hp} {kvs : List (Key × V)} {ps : Dct Bool} (h : RpD K S H kvs ps) {k : Str} (hv : valV kvs (Sum.inr k) = none) : RpD K S H kvs (ddrop ps k) := by
  have e : ddrop ps k = ps := by
    rcases rpd_get h k with ⟨hn, _⟩ | ⟨x, v, _, h2, _⟩
    · unfold ddrop
      rw [List.filter_eq_self]
      intro p hp
      have : p.1 ≠ k := fun e => by
        unfold dget at hn
        have := List.lookup_eq_none_iff.mp hn p hp
        rw [e] at this
        simp at this
      simpa using this
    · rw [hv] at h2; cases h2
  rw [e]; exact h
end
end Sm
end

section
set_option maxRecDepth 100000
set_option maxHeartbeats 4000000
namespace Sm
open PySem L2
section
variable {c : Stc} {Γ : List Sl} {a b e : Expr} {ta tb te : TE} {ma mb : Md} {pos : Pos}
/-! ### new lists of flat things -/
theorem je_catF {α : Type} [Lit α] {m1 m2 : Option (List α)} (ha : JE c a ta Γ ma m1) (hb : JE c b tb Γ mb m2) : JE c (.BinOp a .Add b pos) (tOp rCat ta tb) Γ .fr (m1.bind fun x => m2.bind fun y => oCat x y) :=
  ⟨fun X F => pe_op op_cat (ha.pe X F) (hb.pe X F), fun S0 H0 S σ H R z hz H1 e1 Q q => by
    cases h1 : m1 with
    | none => rw [h1] at hz; cases hz
    | some x =>
      cases h2 : m2 with
      | none => rw [h1, h2] at hz; cases hz
      | some y =>
        rw [h1, h2] at hz
        have hz : oCat x y = some z := hz
        unfold oCat at hz
        by_cases hl : x.length + y.length ≤ 100000
        · rw [if_pos hl] at hz; cases hz
          refine ha.ev S0 H0 S σ H R x h1 H1 e1 _ fun v H2 e2 r1 => ?_
          refine hb.ev S0 H0 S σ H R y h2 H2 (e1.trans e2) _ fun u H3 e3 r2 => ?_
          obtain ⟨p, vs, rfl, _, hp, pr⟩ := Rp.ex e3 r1
          obtain ⟨p', us, rfl, _, hp', pr'⟩ := r2
          refine ⟨p, p', vs, us, rfl, rfl, hp, hp', by rw [pr.length, pr'.length]; exact Evl.sz_of hl, fun l hl => ?_⟩
          have ex : Ex H3 (upd H3 l (.lst (vs ++ us))) := Evl.Ex.new hl
          exact q _ _ ((e2.trans e3).trans ex) ⟨l, _, rfl, .inr (Evl.fresh_back (e2.trans e3) hl), upd_same, paired_append (paired_mono pr fun _ _ z => z) (paired_mono pr' fun _ _ z => z)⟩
        · rw [if_neg hl] at hz; cases hz⟩
theorem je_sliceF {α : Type} [Lit α] {m : Option (List α)} {lo hi : Option Expr} {tl th : TO} {m1 m2 : Option (Option Int)} {p2} (h : JE c e te Γ ma m) (hl : JO c lo tl Γ m1) (hh : JO c hi th Γ m2) :
    JE c (.Subscript e (.Slice lo hi none p2) pos) (tSl (rSlL c.K) te tl th) Γ .fr (m.bind fun x => m1.bind fun l => m2.bind fun u => some (cut x l u)) :=
  ⟨fun X F => by rw [← F.hK]; exact pe_slice sl_list (h.pe X F) (hl.po X F) (hh.po X F), fun S0 H0 S σ H R z hz H1 e1 Q q => by
    cases h1 : m with
    | none => rw [h1] at hz; cases hz
    | some x =>
      cases h2 : m1 with
      | none => rw [h1, h2] at hz; cases hz
      | some l =>
        cases h3 : m2 with
        | none => rw [h1, h2, h3] at hz; cases hz
        | some u =>
          rw [h1, h2, h3] at hz
          have hz := Option.some.inj hz
          subst hz
          refine h.ev S0 H0 S σ H R x h1 H1 e1 _ fun v H2 e2 r => ?_
          refine hl.ev S0 H0 S σ H R l h2 H2 (e1.trans e2) _ fun H3 e3 => ?_
          refine hh.ev S0 H0 S σ H R u h3 H3 ((e1.trans e2).trans e3) _ fun H4 e4 => ?_
          obtain ⟨p, vs, rfl, _, hp, pr⟩ := r
          refine ⟨p, vs, rfl, SqL.of (e4 p _ (e3 p _ hp)), fun l' hl' => ?_⟩
          have ex : Ex H2 (upd H4 l' (.lst (cutV vs l u))) := (e3.trans e4).trans (Evl.Ex.new hl')
          exact q _ _ (e2.trans ex) ⟨l', _, rfl, .inr (Evl.fresh_back ((e2.trans e3).trans e4) hl'), upd_same, paired_cut (paired_mono pr fun _ _ z => z) l u⟩⟩
theorem je_revF {α : Type} [Lit α] {m : Option (List α)} {k p1 p2 p3} (h : JE c e te Γ ma m) :
    JE c (.Subscript e (.Slice none none (some (.UnaryOp .USub (.Constant (.int 1) k p1) p2)) p3) pos) (tRevL c.K te) Γ .fr (m.bind fun x => some x.reverse) :=
  ⟨fun X F => by rw [← F.hK]; exact pe_revL (h.pe X F), fun S0 H0 S σ H R z hz H1 e1 Q q => by
    cases h1 : m with
    | none => rw [h1] at hz; cases hz
    | some x =>
      rw [h1] at hz
      have hz := Option.some.inj hz
      subst hz
      refine h.ev S0 H0 S σ H R x h1 H1 e1 _ fun v H2 e2 r => ?_
      obtain ⟨p, vs, rfl, _, hp, pr⟩ := r
      refine ⟨p, vs, rfl, SqL.of hp, fun l' hl' => ?_⟩
      have ex : Ex H2 (upd H2 l' (.lst vs.reverse)) := Evl.Ex.new hl'
      exact q _ _ (e2.trans ex) ⟨l', _, rfl, .inr (Evl.fresh_back e2 hl'), upd_same, paired_rev (paired_mono pr fun _ _ z => z)⟩⟩
theorem je_listF {α : Type} [Lit α] {m : Option (List α)} {p : Pos} (h : JE c e te Γ ma m) (hm : c.mg "list" = none) (hg : GlS c.sc "list" := by rfl) (hs : ∀ env, starEach (e :: []) env = (false, eval e env) :: starEach [] env := by intro _; rfl) :
    JE c (.Call (.Name "list" p) [e] [] pos) (tCB (fun xs H Q => ∃ p ys, xs = [.ref p] ∧ (SqL c.K H p ys ∨ SqT c.K H p ys) ∧ ∀ l, H l = none → Q (.ref l) (upd H l (.lst ys))) (tCons te tNil)) Γ .fr m :=
  ⟨fun X F => by rw [← F.hK]; exact pe_callTy call_list_of (F.gl hg) (by rw [F.hmg]; exact hm) (by decide +kernel) (pa_cons (h.pe X F) pa_nil (hs _)) (by decide) (by decide) (hs _) rfl, fun S0 H0 S σ H R z hz H1 e1 Q q => by
    refine h.ev S0 H0 S σ H R z hz H1 e1 _ fun v H2 e2 r => ?_
    obtain ⟨p, vs, rfl, _, hp, pr⟩ := r
    refine ⟨p, vs, rfl, .inl (SqL.of hp), fun l hl => ?_⟩
    have ex : Ex H2 (upd H2 l (.lst vs)) := Evl.Ex.new hl
    exact q _ _ (e2.trans ex) ⟨l, vs, rfl, .inr (Evl.fresh_back e2 hl), upd_same, paired_mono pr fun _ _ z => z⟩⟩
end

/-! ### [x for x in xs if ..]: the items themselves -/
theorem lc_mainI {α : Type} [iα : Rp α] {c : Stc} {ifs : List Expr} {wi : TI} {tt : TT} {j : Nat} {vs : List Nat} {Γb : List Sl} {f : α → Option Bool} {σ : L2.St} {Hs : Hp} {E : Ft} {xs zs : List α} {Q : VK}
    (si : SI c.K wi σ Hs E xs) (bw : Brw c.K Γb (wipe σ vs) Hs) (hj : j ∈ vs) (hlt : j < σ.length) (ht : ∀ x, JTs c ifs tt (Γb.set j (.val iα x)) (f x)) (hz : lcO f (fun x => some x) xs = some zs)
    (q : ∀ v H', Ex Hs H' → Rp.r c.K (nw E Hs) H' v zs → Q v H') : tLc wi (gName j) tt (tVar j) vs σ Hs Q := by
  unfold lcO at hz
  by_cases hn : ¬ xs.length ≤ 40000
  · rw [if_neg hn] at hz; cases hz
  have hl : xs.length ≤ 40000 := Decidable.not_not.mp hn
  rw [if_pos hl] at hz
  refine si _ fun J H2 G Y e2 w st it => fun Dl hD => ?_
  let A : Ft := fun a => ((E a ∨ Hs a = none) ∧ H2 a ≠ none) ∨ (H2 a = none ∧ a ≠ Dl)
  have nA : ¬ A Dl := fun z => z.elim (fun z => z.2 hD) fun z => z.2 rfl
  refine lc_it w (D := Dl) (fun i Hi => ∃ acc ys rest, Ex H2 Hi ∧ Hi Dl = some (.lst acc) ∧ lcM f (fun x => some x) (xs.drop i) = some rest ∧ zs = ys ++ rest ∧ acc.length ≤ i ∧ PySem.Paired (Rp.r c.K A Hi) acc ys)
    ⟨[], [], zs, Evl.Ex.new hD, upd_same, hz, rfl, Nat.le_refl _, .nil⟩ (fun i Hi _ ⟨_, _, _, ex, _⟩ => st Hi (fr_ex ex)) ?_ ?_
  · rintro i v Hi H4 hi ⟨acc, ys, rest, ex, hDl, hr, hzs, hal, hp⟩ y
    have hxi : xs[i]? = some xs[i] := List.getElem?_eq_getElem hi
    rw [List.drop_eq_getElem_cons hi] at hr
    obtain ⟨ex4, rv⟩ := it i _ hxi Hi v H4 (fr_ex ex) y
    have ex24 : Ex H2 H4 := ex.trans ex4
    have hDl4 : H4 Dl = some (.lst acc) := ex4 _ _ hDl
    let S : Ft := fun a => H4 a ≠ none ∧ a ≠ Dl
    have dmS : ∀ a, H2 a ≠ none → S a := fun a z => by
      cases q2 : H2 a with
      | none => exact absurd q2 z
      | some o => exact ⟨by rw [ex24 a o q2]; simp, fun ed => by rw [ed, hD] at q2; cases q2⟩
    have R : StR c.K all H4 S Γb (wipe σ vs) H4 := bw.st S (fun a z => dmS a (by
      cases q2 : Hs a with
      | none => exact absurd q2 z
      | some o => rw [e2 a o q2]; simp)) H4 (fr_ex (e2.trans ex24)) (fun a z => z.1)
    have rA : Rp.r c.K A H4 v xs[i] := Rp.up (fun a z z4 => by
      rcases z with z | z
      · exact .inl z
      · refine .inr ⟨Evl.fresh_back ex z, fun ed => by rw [ed, hDl] at z; cases z⟩) rv
    have rv' : Rp.r c.K S H4 v xs[i] := Rp.up (fun a z z4 => by
      rcases z with z | z
      · exact dmS a z.2
      · exact ⟨z4, z.2⟩) rA
    have R' := R.set (x := xs[i]) j rv'
    refine ⟨(wipe_set hj).trans wipe_idem, ?_⟩
    have hr : (f xs[i]).bind (fun b => if b then (some xs[i]).bind fun y => (lcM f (fun x => some x) (xs.drop (i + 1))).bind fun ys => some (y :: ys) else lcM f (fun x => some x) (xs.drop (i + 1))) = some rest := hr
    cases hf : f xs[i] with
    | none => rw [hf] at hr; cases hr
    | some b =>
      rw [hf] at hr
      refine (ht xs[i]).ev all H4 S _ H4 R' b hf H4 (Evl.Ex.refl H4) _ fun H5 e5 => ?_
      have mono : ∀ {H6}, Ex H4 H6 → PySem.Paired (Rp.r c.K A H6) acc ys := fun {H6} e6 => paired_mono hp fun _ _ => Rp.ex (ex4.trans e6)
      cases b with
      | false =>
        refine iteF ⟨acc, ys, rest, ex24.trans e5, e5 _ _ hDl4, hr, hzs, by omega, mono e5⟩
      | true =>
        refine iteT ?_
        cases hm : lcM f (fun x => some x) (xs.drop (i + 1)) with
        | none => rw [hm] at hr; cases hr
        | some rest' =>
          rw [hm] at hr
          have hr := Option.some.inj hr
          refine ⟨v, ?_, acc, e5 _ _ hDl4, Evl.sz_lt (by omega), ?_⟩
          · rw [List.getElem?_set_self (by rw [wipe_length]; exact hlt)]
          have ex6 : Ex H2 (upd H5 Dl (.lst (acc ++ [v]))) := Evl.Ex.mut (ex24.trans e5) hD
          have fv : Fv A H5 (upd H5 Dl (.lst (acc ++ [v]))) := fun a za => by
            have nd : a ≠ Dl := fun ed => nA (ed ▸ za)
            exact ⟨fun _ z => by rw [upd_ne nd]; exact z, fun _ z => by rw [upd_ne nd]; exact z, fun _ _ z => by rw [upd_ne nd]; exact z, fun _ _ _ z => by rw [upd_ne nd]; exact z⟩
          refine ⟨acc ++ [v], ys ++ [xs[i]], rest', ex6, upd_same, rfl, by rw [hzs, ← hr, List.append_assoc] <;> rfl, by rw [List.length_append]; show acc.length + 1 ≤ i + 1; omega, ?_⟩
          exact PySem.Paired.snoc (paired_mono (mono e5) fun _ _ => Rp.fr (fun _ z _ => z) fv) (Rp.fr (fun _ z _ => z) fv (Rp.ex e5 rA))
  · rintro Hi ⟨acc, ys, rest, ex, hDl, hr, hzs, _, hp⟩
    rw [List.drop_length] at hr
    cases hr
    rw [List.append_nil] at hzs
    subst hzs
    refine q _ Hi (e2.trans ex) ⟨Dl, acc, rfl, .inr (Evl.fresh_back e2 hD), hDl, paired_mono hp fun _ _ => Rp.up fun a z _ => ?_⟩
    rcases z with z | z
    · exact z.1
    · exact .inr (Evl.fresh_back e2 z.1)
section
variable {c : Stc} {Γ : List Sl} {α : Type} [iα : Rp α] [Inhabited α] {iter : Expr} {ifs : List Expr} {scope : Scope} {pos px pe : Pos} {x : Str} {wi : TI} {tt : TT} {ma : Md} {m : Option (List α)} {f : α → Option Bool}
theorem je_lcI (j : Nat) (own : List (Str × Nat)) (hN : c.N.Nodup) (hi : JI c (.Name x px) iter wi Γ ma m) (ok : blkC c.N c.sc scope own = true) (hg : ∀ X, Fam (c.blk scope) X → PG X (.Name x px) (gName j)) (he : ∀ X, Fam (c.blk scope) X → PE X (.Name x pe) (tVar j))
    (ht : ∀ x, JTs (c.blk scope) ifs tt ((wipeG (Γ.map Sl.bor) (own.map (·.2))).set j (.val iα x)) (f x)) (hj : j ∈ own.map (·.2) := by decide) (hlt : j < Γ.length := by exact Nat.lt_of_lt_of_le (Nat.lt_succ_self _) (Nat.le_of_ble_eq_true rfl)) (hs : ∀ (env : Env) x, foldedSetIterable iter env x = pure x := by intro _ _; rfl) :
    JE c (.ListComp (.Name x pe) [⟨.Name x px, iter, ifs, 0⟩] scope pos) (tLc wi (gName j) tt (tVar j) (own.map (·.2))) Γ ma (m.bind (lcO f fun x => some x)) :=
  ⟨fun X F => pe_lc F.calm (by rw [F.hN]; exact hN) (hi.pi X F) (by rw [F.hN, F.hsc]; exact blkOk_by ok) (fun s H C cl fp => hg _ (F.blk scope s H C cl fp)) (fun s H C cl fp => (ht default).pt _ (F.blk scope s H C cl fp)) (fun s H C cl fp => he _ (F.blk scope s H C cl fp)) (fun x => hs _ x), fun S0 H0 S σ H R z hz H1 e1 Q q => by
    cases h1 : m with
    | none => rw [h1] at hz; cases hz
    | some xs =>
      rw [h1] at hz
      have bw : Brw c.K (wipeG (Γ.map Sl.bor) (own.map (·.2))) (wipe σ (own.map (·.2))) H1 := ⟨fun S' hS H' hf hd => (brw_of R (own.map (·.2))).st S' (fun a z => hS a (by
        cases q2 : H a with
        | none => exact absurd q2 z
        | some o => rw [e1 a o q2]; simp)) H' (fun a o z z2 => hf a o (by show H1 a ≠ none; rw [e1 a o z2]; simp) (e1 a o z2)) hd⟩
      exact lc_mainI (c := c.blk scope) (hi.ev S0 H0 S σ H R xs h1 H1 e1) bw hj (by rw [R.len]; exact hlt) ht hz fun v H' e' r => q v H' e' r⟩
theorem pv_fam {c : Stc} {X : Cx} (F : Fam c X) {x : Str} {pos : Pos} (j : Nat) (hN : c.N[j]? = some x := by rfl) (hv : Vis c.sc x := by first | exact Or.inl rfl | exact Or.inr (Or.inl rfl) | exact Or.inr (Or.inr rfl)) (hd : (x == ("__debug__" : Str)) = false := by decide) (hcd : (x == ("__classdict__" : Str)) = false := by decide) : PE X (.Name x pos) (tVar j) :=
  pe_var (by rw [F.hN]; exact hN) (F.vis hv) hd hcd
end

/-! ### what was made is made no more -/
theorem StR.rel {K : PySem.W.Frag} {S0 : Ft} {H0 : Hp} {S : Ft} {Γ : List Sl} {σ : L2.St} {H : Hp} (R : StR K S0 H0 S Γ σ H) : StR K S0 H0 (fun a => S a ∨ ∃ j s, Γ[j]? = some s ∧ s.isOwn = true ∧ at_ σ j = some (.ref a)) (Γ.map Sl.bor) σ H := by
  have no : ∀ {j : Nat} {s : Sl}, (Γ.map Sl.bor)[j]? = some s → s.isOwn = false := fun {j s} h => by
    rw [List.getElem?_map] at h
    cases e : Γ[j]? with
    | none => rw [e] at h; cases h
    | some t =>
      rw [e] at h
      have h := Option.some.inj h
      subst h
      cases t <;> rfl
  refine ⟨by rw [List.length_map]; exact R.len, fun j s h => ?_, fun a z => ?_, fun a b s t l _ ha _ os _ _ _ => (by rw [no ha] at os; cases os), fun j s l h os _ => (by rw [no h] at os; cases os), R.ex, fun a z => ?_⟩
  · rw [List.getElem?_map] at h
    cases e : Γ[j]? with
    | none => rw [e] at h; cases h
    | some t =>
      rw [e] at h
      have h := Option.some.inj h
      subst h
      have q := R.sl j t e
      have up : ∀ a, S a → H a ≠ none → (S a ∨ ∃ j s, Γ[j]? = some s ∧ s.isOwn = true ∧ at_ σ j = some (.ref a)) := fun a z _ => .inl z
      have hv : Fv S H H := fv_ex (Evl.Ex.refl H)
      cases t with
      | no => exact trivial
      | val i x => obtain ⟨v, ev, r⟩ := q; exact ⟨v, ev, i.fr up hv r⟩
      | own i xs => obtain ⟨l, us, ev, _, hl, r⟩ := q; exact ⟨_, ev, l, us, rfl, .inr ⟨j, _, e, rfl, ev⟩, hl, paired_mono r fun _ _ => i.fr up hv⟩
      | dct i ps => obtain ⟨l, us, ev, sl, hl, r⟩ := q; exact ⟨l, us, ev, .inl sl, hl, @RpD.fr _ i _ _ _ _ _ _ _ up hv r⟩
      | dcf i ps => obtain ⟨l, us, ev, sl, hl, r⟩ := q; exact ⟨l, us, ev, .inl sl, hl, @RpD.fr _ i _ _ _ _ _ _ _ up hv r⟩
      | odc i ps => obtain ⟨l, us, ev, _, hl, r⟩ := q; exact ⟨l, us, ev, .inr ⟨j, _, e, rfl, ev⟩, hl, @RpD.fr _ i _ _ _ _ _ _ _ up hv r⟩
  · rcases z with z | ⟨j, s, hj, os, hσ⟩
    · exact R.dm a z
    · obtain ⟨l, u, e, _, hu⟩ := own_ref os (R.sl j s hj)
      rw [hσ] at e
      cases e
      rw [hu]; simp
  · rcases z with z | ⟨j, s, hj, os, hσ⟩
    · exact R.sr a z
    · exact .inr (R.ow j s a hj os hσ)
theorem js_rel {c : Stc} {Γ : List Sl} {τ ρ : Type} [Rt ρ] {fr : Bool} {Γf : τ → List Sl} {e : Expr} {pos : Pos} {ts : TS} {m : Option (Out τ ρ)} (h : JS c (.Return (some e) pos :: []) ts (Γ.map Sl.bor) fr Γf m) (hn : ∀ s, m ≠ some (.nx s)) : JS c (.Return (some e) pos :: []) ts Γ fr Γf m :=
  ⟨h.ps, fun S0 H0 S σ H R o ho D q => h.ev S0 H0 _ σ H R.rel o ho D (by
    cases o with
    | nx s => exact absurd ho (hn s)
    | rt r => exact fun v H' ex f z => q v H' ex (fun a o sa ha => f a o (.inl sa) ha) z)⟩
theorem no_nx {τ ρ : Type} {m : Option ρ} : ∀ s : τ, (m.bind fun r => some (Out.rt (τ := τ) r)) ≠ some (.nx s) := fun s h => by
  cases m with
  | none => cases h
  | some r => cases h
end Sm
end

section
set_option maxRecDepth 100000
set_option maxHeartbeats 4000000
namespace Sm
open PySem L2
theorem sw_cell {elt : Expr} {gs : List Comprehension} {scope : Scope} {pos py : Pos} {y : Str} {l : Nat} {env : Env} (hy : env.scope.names.lookup y = some .cell) : swapsWith (.ListComp elt gs scope pos) (some (.Name y py)) l env = pure false := by
  have ky : env.kindOf y = some .cell := hy
  unfold swapsWith
  simp only [ky]
  have e : ((some NameKind.cell : Option NameKind) == some NameKind.local) = false := by decide
  rw [e]
  simp only [Bool.and_false, Bool.false_and]
section
variable {c : Stc} {Γ : List Sl} {τ τ' ρ : Type} [Rt ρ] {fr : Bool} {Γf : τ → List Sl} {rest : List Stmt} {tu : TS}
/-- x = [.. for ..], x read in a block -/
theorem js_setC {α : Type} [i : Rp α] [Inhabited α] {x : Str} {p pos pos' : Pos} {elt : Expr} {gs : List Comprehension} {scope : Scope} {te : TE} {md : Md} {me : Option α} {k : α → Option (Out τ ρ)} (j : Nat) (hN : c.N.Nodup) (he : JE c (.ListComp elt gs scope pos') te Γ md me) (hk : ∀ v, JS c rest tu (Γ.set j (.val i v)) fr Γf (k v)) (hmd : md ≠ .an := by decide)
    (hx : c.N[j]? = some x := by rfl) (hl : c.sc.names.lookup x = some .cell := by rfl) (hf : c.fn x = true := by rfl) : JS c (.Assign [.Name x p] (.ListComp elt gs scope pos') pos :: rest) (tSeq (tAsg te (gName j)) tu) Γ fr Γf (me.bind k) :=
  js_asg j (fun X F => ps_set (by rw [F.hN]; exact hN) (by rw [F.hN]; exact hx) (by rw [F.hsc]; exact .inr hl) (he.pe X F) (sw_cell (by rw [F.hsc]; exact hl)) (.inl (by rw [F.hfn]; exact hf))) he hk hmd
end
end Sm
end

section
set_option maxRecDepth 100000
set_option maxHeartbeats 4000000
namespace Sm
open PySem L2

/-! ### an int or None -/
def optI : Option Int → V
  | none => .non
  | some i => .int i
instance litOptI : Lit (Option Int) := ⟨optI, fun {x y} h => by cases x <;> cases y <;> first | rfl | (cases h; done) | (cases h; rfl), fun x => by cases x <;> rfl,
  fun x y => by cases x <;> cases y <;> simp [optI, eqV]⟩
section
variable {c : Stc} {Γ : List Sl} {a b e : Expr} {ta tb te : TE} {ma mb : Md} {pos : Pos}
theorem je_optI {m : Option Int} (h : JE c a ta Γ ma m) : JE c a ta Γ .fr (m.bind fun x => some (some x)) :=
  ⟨h.pe, fun S0 H0 S σ H R z hz H1 e1 Q q => by
    cases h1 : m with
    | none => rw [h1] at hz; cases hz
    | some x =>
      rw [h1] at hz; cases hz
      exact h.ev S0 H0 S σ H R _ h1 H1 e1 Q fun v H2 e2 r => q v H2 e2 r⟩
theorem je_unoptI {m : Option (Option Int)} (h : JE c a ta Γ ma m) : JE c a ta Γ .fr (m.bind fun x => x) :=
  ⟨h.pe, fun S0 H0 S σ H R z hz H1 e1 Q q => by
    cases h1 : m with
    | none => rw [h1] at hz; cases hz
    | some x =>
      rw [h1] at hz
      have hz : x = some z := hz
      subst hz
      exact h.ev S0 H0 S σ H R _ h1 H1 e1 Q fun v H2 e2 r => q v H2 e2 r⟩
theorem je_nonI {j pos} : JE c (.Constant .none j pos) (tC .non) Γ .fr (some (none : Option Int)) :=
  ⟨fun _ _ => pe_non, fun _ _ _ _ _ _ x hx H1 _ Q q => by cases hx; exact q _ H1 (Evl.Ex.refl H1) rfl⟩
theorem je_nonU {j pos} : JE c (.Constant .none j pos) (tC .non) Γ .fr (some ()) :=
  ⟨fun _ _ => pe_non, fun _ _ _ _ _ _ x hx H1 _ Q q => by cases hx; exact q _ H1 (Evl.Ex.refl H1) rfl⟩
/-! ### is None, by what the value is -/
class NonQ (α : Type) [Rp α] where
  g : α → Bool
  is : ∀ {K : PySem.W.Frag} {S : Ft} {H : Hp} {v : V} {x : α}, Rp.r K S H v x → decide (v = V.non) = g x
instance nonQOptI : NonQ (Option Int) := ⟨fun x => x.isNone, fun {K S H v x} h => by
  have h : v = optI x := h
  subst h
  cases x <;> rfl⟩
instance nonQUnit : NonQ Unit := ⟨fun _ => true, fun {K S H v x} h => by
  have h : v = V.non := h
  subst h; rfl⟩
instance nonQList {α : Type} [Rp α] : NonQ (List α) := ⟨fun _ => false, fun {K S H v x} ⟨a, vs, e, _⟩ => by subst e; rfl⟩
instance nonQT3 {α β γ : Type} [Rp α] [Rp β] [Rp γ] : NonQ (T3 α β γ) := ⟨fun _ => false, fun {K S H v x} ⟨a, _, _, _, e, _⟩ => by subst e; rfl⟩
theorem je_isG {α : Type} [Rp α] [n : NonQ α] {m : Option α} {k p} (ha : JE c a ta Γ ma m) : JE c (.Compare a [.Is] [.Constant .none k p] pos) (tOp (fun x y H Q => y = .non ∧ Q (.bl (decide (x = .non))) H) ta (tC .non)) Γ .fr (m.bind fun x => some (n.g x)) :=
  ⟨fun X F => pe_cmpR op_isN (ha.pe X F) pe_non (nomark _), fun S0 H0 S σ H R z hz H1 e1 Q q => by
    cases h : m with
    | none => rw [h] at hz; cases hz
    | some x =>
      rw [h] at hz; cases hz
      refine ha.ev S0 H0 S σ H R x h H1 e1 _ fun v H2 e2 r => ?_
      refine ⟨rfl, ?_⟩
      rw [n.is r]
      exact q _ H2 e2 rfl⟩
theorem je_notG {α : Type} [Rp α] [n : NonQ α] {m : Option α} {k p} (ha : JE c a ta Γ ma m) : JE c (.Compare a [.IsNot] [.Constant .none k p] pos) (tOp (fun x y H Q => y = .non ∧ Q (.bl (!decide (x = .non))) H) ta (tC .non)) Γ .fr (m.bind fun x => some (!n.g x)) :=
  ⟨fun X F => pe_cmpR op_notN (ha.pe X F) pe_non (nomark _), fun S0 H0 S σ H R z hz H1 e1 Q q => by
    cases h : m with
    | none => rw [h] at hz; cases hz
    | some x =>
      rw [h] at hz; cases hz
      refine ha.ev S0 H0 S σ H R x h H1 e1 _ fun v H2 e2 r => ?_
      refine ⟨rfl, ?_⟩
      rw [n.is r]
      exact q _ H2 e2 rfl⟩
theorem jt_isG {α : Type} [Rp α] [n : NonQ α] {m : Option α} {k p} (ha : JE c a ta Γ ma m) : JT c (.Compare a [.Is] [.Constant .none k p] pos) (tTest (tOp (fun x y H Q => y = .non ∧ Q (.bl (decide (x = .non))) H) ta (tC .non))) Γ (m.bind fun x => some (n.g x)) :=
  ⟨fun X F => pt_cmpR op_isN (ha.pe X F) pe_non (nomark _), fun S0 H0 S σ H R z hz H1 e1 Q q =>
    (je_isG (pos := pos) (k := k) (p := p) ha).ev S0 H0 S σ H R z hz H1 e1 _ fun v H2 e2 r => ⟨z, r, q H2 e2⟩⟩
theorem jt_notG {α : Type} [Rp α] [n : NonQ α] {m : Option α} {k p} (ha : JE c a ta Γ ma m) : JT c (.Compare a [.IsNot] [.Constant .none k p] pos) (tTest (tOp (fun x y H Q => y = .non ∧ Q (.bl (!decide (x = .non))) H) ta (tC .non))) Γ (m.bind fun x => some (!n.g x)) :=
  ⟨fun X F => pt_cmpR op_notN (ha.pe X F) pe_non (nomark _), fun S0 H0 S σ H R z hz H1 e1 Q q =>
    (je_notG (pos := pos) (k := k) (p := p) ha).ev S0 H0 S σ H R z hz H1 e1 _ fun v H2 e2 r => ⟨z, r, q H2 e2⟩⟩
/-! ### is True -/
theorem je_isB {m1 m2 : Option Bool} (ha : JE c a ta Γ ma m1) (hb : JE c b tb Γ mb m2) : JE c (.Compare a [.Is] [b] pos) (tOp rIsB ta tb) Γ .fr (m1.bind fun x => m2.bind fun y => some (decide (x = y))) :=
  je_op (fun x y => some (decide (x = y))) (fun X F p q => pe_cmpR op_isBl p q (nomark _)) (fun x y z v u H h1 h2 h Q q => by
    have h1 : v = .bl x := h1
    have h2 : u = .bl y := h2
    cases h
    exact ⟨x, y, h1, h2, q⟩) ha hb
theorem je_notB {m1 m2 : Option Bool} (ha : JE c a ta Γ ma m1) (hb : JE c b tb Γ mb m2) : JE c (.Compare a [.IsNot] [b] pos) (tOp rNotB ta tb) Γ .fr (m1.bind fun x => m2.bind fun y => some (!decide (x = y))) :=
  je_op (fun x y => some (!decide (x = y))) (fun X F p q => pe_cmpR op_notBl p q (nomark _)) (fun x y z v u H h1 h2 h Q q => by
    have h1 : v = .bl x := h1
    have h2 : u = .bl y := h2
    cases h
    exact ⟨x, y, h1, h2, q⟩) ha hb
theorem jt_isB {m1 m2 : Option Bool} (ha : JE c a ta Γ ma m1) (hb : JE c b tb Γ mb m2) : JT c (.Compare a [.Is] [b] pos) (tTest (tOp rIsB ta tb)) Γ (m1.bind fun x => m2.bind fun y => some (decide (x = y))) :=
  jt_op (fun x y => some (decide (x = y))) (fun X F p q => pt_cmpR op_isBl p q (nomark _)) (je_isB (pos := pos) ha hb) rfl ha hb
theorem jt_notB {m1 m2 : Option Bool} (ha : JE c a ta Γ ma m1) (hb : JE c b tb Γ mb m2) : JT c (.Compare a [.IsNot] [b] pos) (tTest (tOp rNotB ta tb)) Γ (m1.bind fun x => m2.bind fun y => some (!decide (x = y))) :=
  jt_op (fun x y => some (!decide (x = y))) (fun X F p q => pt_cmpR op_notBl p q (nomark _)) (je_notB (pos := pos) ha hb) rfl ha hb
end

/-! ### reversed, zip -/
section
variable {c : Stc} {Γ : List Sl} {tg e e2 : Expr} {te te2 : TE} {ma mb : Md} {α β : Type} [Rp α] [Rp β]
theorem ji_rev {m : Option (List α)} {p pos : Pos} (hm : c.mg "reversed" = none) (h : JE c e te Γ ma m) (hg : GlS c.sc "reversed" := by rfl) (hs : ∀ env, starEach [e] env = (false, eval e env) :: starEach [] env := by intro _; rfl) :
    JI c tg (.Call (.Name "reversed" p) [e] [] pos) (iRev c.K (tCons te tNil)) Γ ma (m.bind fun xs => some xs.reverse) :=
  ⟨fun X F => by rw [← F.hK]; exact pi_reversed (F.gl hg) (by rw [F.hmg]; exact hm) (pa_cons (h.pe X F) pa_nil (hs _)) (hs _), fun S0 H0 S σ H R zs hx H1 e1 Rr q => by
    cases h1 : m with
    | none => rw [h1] at hx; cases hx
    | some xs =>
      rw [h1] at hx
      have hx := Option.some.inj hx
      subst hx
      refine h.ev S0 H0 S σ H R xs h1 H1 e1 _ fun v H2 e2 r => ?_
      obtain ⟨p, vs, rfl, sp, hp, pr⟩ := r
      refine ⟨p, vs, rfl, SqL.of hp, ?_⟩
      have hl : xs.reverse.length = vs.length := by rw [List.length_reverse]; exact pr.length.symm
      refine q _ H2 (fun H => SqL c.K H p vs) _ e2 (by rw [hl]; exact walk_rev) (fun H3 f => SqL.of (f p _ sp hp)) fun i x hi H3 v H4 f y => ?_
      obtain ⟨rfl, hv⟩ := y
      refine ⟨Evl.Ex.refl _, ?_⟩
      have hlt : i < xs.length := by
        have := (List.getElem?_eq_some_iff.mp hi).1
        rwa [List.length_reverse] at this
      rw [List.getElem?_reverse hlt] at hi
      obtain ⟨w, hw, rw_⟩ := paired_at pr hi
      rw [pr.length, hw] at hv
      have hv := Option.some.inj hv
      subst hv
      exact Rp.fr (fun a z z2 => .inl ⟨z, z2⟩) f.v rw_⟩
theorem ji_zip {m1 : Option (List α)} {m2 : Option (List β)} {p pos tpos : Pos} {elts : List Expr} {kk : Nat} (hm : c.mg "zip" = none) (h : JE c e te Γ ma m1) (h2 : JE c e2 te2 Γ mb m2) (hg : GlS c.sc "zip" := by rfl) (hs2 : ∀ env, starEach [e2] env = (false, eval e2 env) :: starEach [] env := by intro _; rfl)
    (hs : ∀ env, starEach [e, e2] env = (false, eval e env) :: starEach [e2] env := by intro _; rfl) (hpl : ∀ (env : Env) (p : Pos), (backTo p (starEach [e2] env)).any (·.1) = false := by intro _ _; rfl) :
    JI c (.Tuple elts kk tpos) (.Call (.Name "zip" p) [e, e2] [] pos) (iZip c.K (tCons te (tCons te2 tNil))) Γ (ma.sup mb) (m1.bind fun xs => m2.bind fun ys => some ((xs.zip ys).map fun p => T2.mk p.1 p.2)) :=
  ⟨fun X F => by rw [← F.hK]; exact pi_zip (F.gl hg) (by rw [F.hmg]; exact hm) (pa_cons (h.pe X F) (pa_cons (h2.pe X F) pa_nil (hs2 _)) (hs _)) (hs _) (hpl _ _), fun S0 H0 S σ H R zs hx H1 e1 Rr q => by
    cases hm1 : m1 with
    | none => rw [hm1] at hx; cases hx
    | some xs =>
      cases hm2 : m2 with
      | none => rw [hm1, hm2] at hx; cases hx
      | some ys =>
        rw [hm1, hm2] at hx
        have hx := Option.some.inj hx
        subst hx
        refine h.ev S0 H0 S σ H R xs hm1 H1 e1 _ fun v H2 e2 r => ?_
        refine h2.ev S0 H0 S σ H R ys hm2 H2 (e1.trans e2) _ fun u H3 e3 r2 => ?_
        have r := Rp.ex e3 (Rp.up (fun a z _ => nw_up (Sof.l (b := mb)) a z) r)
        have r2 := Rp.up (fun a z _ => nw_ex e2 a (nw_up (Sof.r (a := ma)) a z)) r2
        obtain ⟨p, vs, rfl, sp, hp, pr⟩ := r
        obtain ⟨p2, us, rfl, sp2, hp2, pr2⟩ := r2
        refine ⟨p, p2, vs, us, rfl, SqL.of hp, SqL.of hp2, ?_⟩
        have hl : ((xs.zip ys).map fun p => T2.mk p.1 p.2).length = min vs.length us.length := by rw [List.length_map, List.length_zip, pr.length, pr2.length]
        refine q _ H3 (fun H => SqL c.K H p vs ∧ SqL c.K H p2 us) _ (e2.trans e3) (by rw [hl]; exact walk_zip rfl) (fun H3 f => ⟨SqL.of (f p _ sp hp), SqL.of (f p2 _ sp2 hp2)⟩) fun i x hi H4 v H5 f y => ?_
        obtain ⟨T, a, b, rfl, hT, rfl, ha, hb⟩ := y
        have ex : Ex H4 (upd H4 T (.tup [a, b])) := Evl.Ex.new hT
        refine ⟨ex, ?_⟩
        rw [List.getElem?_map] at hi
        cases hz : (xs.zip ys)[i]? with
        | none => rw [hz] at hi; cases hi
        | some w =>
          rw [hz] at hi
          have hi := Option.some.inj hi
          subst hi
          obtain ⟨hx1, hy1⟩ := List.getElem?_zip_eq_some.mp hz
          obtain ⟨w1, hw1, rw1⟩ := paired_at pr hx1
          obtain ⟨w2, hw2, rw2⟩ := paired_at pr2 hy1
          have ha : vs[i]? = some a := ha
          have hb : us[i]? = some b := hb
          rw [hw1] at ha
          rw [hw2] at hb
          have ha := Option.some.inj ha
          have hb := Option.some.inj hb
          subst ha; subst hb
          refine ⟨T, _, _, rfl, .inr hT, upd_same, ?_, ?_⟩
          · exact Rp.ex ex (Rp.fr (fun a z z2 => .inl ⟨z, z2⟩) f.v rw1)
          · exact Rp.ex ex (Rp.fr (fun a z z2 => .inl ⟨z, z2⟩) f.v rw2)⟩
end

/-! ### {k: v for x in xs} -/
def dcM {α β : Type} (fk : α → Option Str) (fv : α → Option β) : Dct β → List α → Option (Dct β)
  | acc, [] => some acc
  | acc, x :: xs => (fk x).bind fun k => (fv x).bind fun v => dcM fk fv (dput acc k v) xs
def dcO {α β : Type} (fk : α → Option Str) (fv : α → Option β) (xs : List α) : Option (Dct β) := if xs.length ≤ 40000 then dcM fk fv [] xs else none
/-- what a dict's new value is: the item itself, or a flat thing -/
structure JV {α β : Type} [Rp α] [Rp β] (c : Stc) (e : Expr) (te : TE) (j : Nat) (Γ' : α → List Sl) (h : α → Option β) : Prop where
  pe : ∀ X, Fam c X → PE X e te
  ev : ∀ x y, h x = some y → ∀ S σ' H4, StR c.K all H4 S (Γ' x) σ' H4 → ∀ v, at_ σ' j = some v → ∀ H5, Ex H4 H5 → ∀ Q : VK, (∀ u H6, Ex H5 H6 → (∀ T : Ft, Rp.r c.K T H4 v x → Rp.r c.K T H6 u y) → Q u H6) → te σ' H5 Q
theorem dput_len {β : Type} (ps : Dct β) (k : Str) (v : β) : (dput ps k v).length ≤ ps.length + 1 := by
  unfold dput
  by_cases h : (ps.any fun p => decide (p.1 = k)) = true
  · rw [if_pos h, List.length_map]; omega
  · rw [if_neg h, List.length_append]; simp
theorem dc_mainI {α β : Type} [iα : Rp α] [Rp β] {c : Stc} {wi : TI} {tk tv : TE} {j : Nat} {vs : List Nat} {Γb : List Sl} {fk : α → Option Str} {fv : α → Option β} {mk : Md} {kx vx : Expr} {σ : L2.St} {Hs : Hp} {E : Ft} {xs : List α} {zs : Dct β} {Q : VK}
    (si : SI c.K wi σ Hs E xs) (bw : Brw c.K Γb (wipe σ vs) Hs) (hj : j ∈ vs) (hlt : j < σ.length) (hk : ∀ x, JE c kx tk (Γb.set j (.val iα x)) mk (fk x)) (hv : JV c vx tv j (fun x => Γb.set j (.val iα x)) fv) (hz : dcO fk fv xs = some zs)
    (q : ∀ l kvs H', Ex Hs H' → Hs l = none → H' l = some (.dK kvs) → RpD c.K (fun a => nw E Hs a ∧ a ≠ l) H' kvs zs → Q (.ref l) H') : tDc wi (gName j) tYes tk tv vs σ Hs Q := by
  unfold dcO at hz
  by_cases hn : ¬ xs.length ≤ 40000
  · rw [if_neg hn] at hz; cases hz
  have hl : xs.length ≤ 40000 := Decidable.not_not.mp hn
  rw [if_pos hl] at hz
  refine si _ fun J H2 G Y e2 w st it => fun Dl hD => ?_
  let A : Ft := fun a => ((E a ∨ Hs a = none) ∧ H2 a ≠ none) ∨ (H2 a = none ∧ a ≠ Dl)
  have nA : ¬ A Dl := fun z => z.elim (fun z => z.2 hD) fun z => z.2 rfl
  let Pv : Nat → Hp → Prop := fun i Hi => ∃ kvs acc, Ex H2 Hi ∧ Hi Dl = some (.dK kvs) ∧ dcM fk fv acc (xs.drop i) = some zs ∧ acc.length ≤ i ∧ RpD c.K A Hi kvs acc
  refine ⟨fun i m H => m = xs.length - i ∧ i ≤ xs.length ∧ Pv i H, ⟨xs.length, by simp, Nat.zero_le _, [], [], Evl.Ex.new hD, upd_same, hz, Nat.le_refl _, .nil⟩, ?_⟩
  rintro i m Hi ⟨rfl, hi, kvs, acc, ex, hDl, hr, hal, hp⟩
  have g := st Hi (fr_ex ex)
  by_cases hlt2 : i < xs.length
  · refine .inr ⟨w.goes i Hi hlt2 g, Pv (i + 1), fun H' p' => ⟨xs.length - (i + 1), by omega, rfl, hlt2, p'⟩, fun v H4 y => ?_⟩
    have y := w.yields i Hi v H4 hlt2 g y
    have hxi : xs[i]? = some xs[i] := List.getElem?_eq_getElem hlt2
    rw [List.drop_eq_getElem_cons hlt2] at hr
    obtain ⟨ex4, rv⟩ := it i _ hxi Hi v H4 (fr_ex ex) y
    have ex24 : Ex H2 H4 := ex.trans ex4
    have hDl4 : H4 Dl = some (.dK kvs) := ex4 _ _ hDl
    let S : Ft := fun a => H4 a ≠ none ∧ a ≠ Dl
    have dmS : ∀ a, H2 a ≠ none → S a := fun a z => by
      cases q2 : H2 a with
      | none => exact absurd q2 z
      | some o => exact ⟨by rw [ex24 a o q2]; simp, fun ed => by rw [ed, hD] at q2; cases q2⟩
    have R : StR c.K all H4 S Γb (wipe σ vs) H4 := bw.st S (fun a z => dmS a (by
      cases q2 : Hs a with
      | none => exact absurd q2 z
      | some o => rw [e2 a o q2]; simp)) H4 (fr_ex (e2.trans ex24)) (fun a z => z.1)
    have rA : Rp.r c.K A H4 v xs[i] := Rp.up (fun a z z4 => by
      rcases z with z | z
      · exact .inl z
      · refine .inr ⟨Evl.fresh_back ex z, fun ed => by rw [ed, hDl] at z; cases z⟩) rv
    have rv' : Rp.r c.K S H4 v xs[i] := Rp.up (fun a z z4 => by
      rcases z with z | z
      · exact dmS a z.2
      · exact ⟨z4, z.2⟩) rA
    have R' := R.set (x := xs[i]) j rv'
    refine ⟨(wipe_set hj).trans wipe_idem, ?_⟩
    refine iteT (B := Pv (i + 1) H4) ?_
    have hr : (fk xs[i]).bind (fun k => (fv xs[i]).bind fun v => dcM fk fv (dput acc k v) (xs.drop (i + 1))) = some zs := hr
    cases hfk : fk xs[i] with
    | none => rw [hfk] at hr; cases hr
    | some k =>
      cases hfv : fv xs[i] with
      | none => rw [hfk, hfv] at hr; cases hr
      | some y =>
        rw [hfk, hfv] at hr
        have hr : dcM fk fv (dput acc k y) (xs.drop (i + 1)) = some zs := hr
        refine (hk xs[i]).ev all H4 S _ H4 R' k hfk H4 (Evl.Ex.refl H4) _ fun uk H5 e5 rk => ?_
        have rk : uk = .str k := rk
        subst rk
        refine hv.ev xs[i] y hfv S _ H4 R' v (by rw [at_set_self (by rw [wipe_length]; exact hlt)]) H5 e5 _ fun u H6 e6 ru => ?_
        refine ⟨kvs, Sum.inr k, rfl, e6 _ _ (e5 _ _ hDl4), Evl.sz_lt (by rw [hp.length]; omega), ?_⟩
        have ex6 : Ex H2 (upd H6 Dl (.dK (putK kvs (Sum.inr k) u))) := Evl.Ex.mut ((ex24.trans e5).trans e6) hD
        have fvv : Fv A H6 (upd H6 Dl (.dK (putK kvs (Sum.inr k) u))) := fun a za => by
          have nd : a ≠ Dl := fun ed => nA (ed ▸ za)
          exact ⟨fun _ z => by rw [upd_ne nd]; exact z, fun _ z => by rw [upd_ne nd]; exact z, fun _ _ z => by rw [upd_ne nd]; exact z, fun _ _ _ z => by rw [upd_ne nd]; exact z⟩
        refine ⟨_, dput acc k y, ex6, upd_same, hr, Nat.le_trans (dput_len _ _ _) (by omega), ?_⟩
        exact rpd_put (RpD.fr (fun _ z _ => z) fvv (RpD.fr (fun _ z _ => z) (fv_ex ((ex4.trans e5).trans e6)) hp)) k (Rp.fr (fun _ z _ => z) fvv (ru A rA))
  · have e : i = xs.length := by omega
    subst e
    refine .inl ⟨w.stops Hi g, ?_⟩
    rw [List.drop_length] at hr
    cases hr
    refine q Dl kvs Hi (e2.trans ex) (Evl.fresh_back e2 hD) hDl (RpD.fr (fun a z _ => ?_) (fv_ex (Evl.Ex.refl Hi)) hp)
    refine ⟨?_, fun ea => nA (ea ▸ z)⟩
    rcases z with z | z
    · exact z.1
    · exact .inr (Evl.fresh_back e2 z.1)
/-- an expression that tells a new dict -/
structure JDE (c : Stc) (e : Expr) (te : TE) (Γ : List Sl) (md : Md) {α : Type} [Rp α] (m : Option (Dct α)) : Prop where
  pe : ∀ X, Fam c X → PE X e te
  ev : ∀ S0 H0 S σ H, StR c.K S0 H0 S Γ σ H → ∀ ps, m = some ps → ∀ H1, Ex H H1 → ∀ Q : VK, (∀ l kvs H2, Ex H1 H2 → H1 l = none → H2 l = some (.dK kvs) → RpD c.K (nw (Sof md S H) H1) H2 kvs ps → Q (.ref l) H2) → te σ H1 Q
/-- the same, and nothing in it speaks of the dict itself -/
structure JDO (c : Stc) (e : Expr) (te : TE) (Γ : List Sl) (md : Md) {α : Type} [Rp α] (m : Option (Dct α)) : Prop where
  pe : ∀ X, Fam c X → PE X e te
  ev : ∀ S0 H0 S σ H, StR c.K S0 H0 S Γ σ H → ∀ ps, m = some ps → ∀ H1, Ex H H1 → ∀ Q : VK, (∀ l kvs H2, Ex H1 H2 → H1 l = none → H2 l = some (.dK kvs) → RpD c.K (fun a => nw (Sof md S H) H1 a ∧ a ≠ l) H2 kvs ps → Q (.ref l) H2) → te σ H1 Q
theorem JDO.de {c : Stc} {e : Expr} {te : TE} {Γ : List Sl} {md : Md} {α : Type} [Rp α] {m : Option (Dct α)} (h : JDO c e te Γ md m) : JDE c e te Γ md m :=
  ⟨h.pe, fun S0 H0 S σ H R ps hp H1 e1 Q q => h.ev S0 H0 S σ H R ps hp H1 e1 Q fun l kvs H2 e2 h0 h1 r => q l kvs H2 e2 h0 h1 (RpD.fr (fun _ z _ => z.1) (fv_ex (Evl.Ex.refl H2)) r)⟩
section
variable {c : Stc} {Γ : List Sl} {α β : Type} [iα : Rp α] [Rp β] [Inhabited α] {iter kx vx : Expr} {scope : Scope} {pos px pe : Pos} {x : Str} {wi : TI} {tk tv : TE} {ma mk : Md} {m : Option (List α)} {fk : α → Option Str} {fv : α → Option β}
theorem jv_self (j : Nat) {Γ' : α → List Sl} (hN : c.N[j]? = some x := by rfl) (hv : Vis c.sc x := by first | exact Or.inl rfl | exact Or.inr (Or.inl rfl) | exact Or.inr (Or.inr rfl)) (hd : (x == ("__debug__" : Str)) = false := by decide) (hcd : (x == ("__classdict__" : Str)) = false := by decide) :
    JV c (.Name x pe) (tVar j) j Γ' (fun y : α => some y) :=
  ⟨fun X F => pv_fam F j hN hv hd hcd, fun x y hy S σ' H4 R v hv H5 e5 Q q => by
    cases hy
    exact ⟨v, at_some hv, q v H5 (Evl.Ex.refl H5) fun T r => Rp.ex e5 r⟩⟩
theorem jv_lit {β : Type} [Lit β] {md : Md} (j : Nat) {Γ' : α → List Sl} {h : α → Option β} (he : ∀ x, JE c vx tv (Γ' x) md (h x)) : JV c vx tv j Γ' h :=
  ⟨fun X F => (he default).pe X F, fun x y hy S σ' H4 R v hv H5 e5 Q q =>
    (he x).ev all H4 S σ' H4 R y hy H5 e5 Q fun u H6 e6 r => q u H6 e6 fun _ _ => r⟩
theorem je_dc (j : Nat) (own : List (Str × Nat)) (hN : c.N.Nodup) (hi : JI c (.Name x px) iter wi Γ ma m) (ok : blkC c.N c.sc scope own = true) (hg : ∀ X, Fam (c.blk scope) X → PG X (.Name x px) (gName j))
    (hk : ∀ x, JE (c.blk scope) kx tk ((wipeG (Γ.map Sl.bor) (own.map (·.2))).set j (.val iα x)) mk (fk x)) (hv : JV (c.blk scope) vx tv j (fun x => (wipeG (Γ.map Sl.bor) (own.map (·.2))).set j (.val iα x)) fv) (hj : j ∈ own.map (·.2) := by decide) (hlt : j < Γ.length := by exact Nat.lt_of_lt_of_le (Nat.lt_succ_self _) (Nat.le_of_ble_eq_true rfl)) (hs : ∀ (env : Env) x, foldedSetIterable iter env x = pure x := by intro _ _; rfl) :
    JDO c (.DictComp kx vx [⟨.Name x px, iter, [], 0⟩] scope pos) (tDc wi (gName j) tYes tk tv (own.map (·.2))) Γ ma (m.bind (dcO fk fv)) :=
  ⟨fun X F => pe_dc F.calm (by rw [F.hN]; exact hN) (hi.pi X F) (by rw [F.hN, F.hsc]; exact blkOk_by ok) (fun s H C cl fp => hg _ (F.blk scope s H C cl fp)) (fun s H C cl fp => pts_nil) (fun s H C cl fp => (hk default).pe _ (F.blk scope s H C cl fp)) (fun s H C cl fp => hv.pe _ (F.blk scope s H C cl fp)) (fun x => hs _ x), fun S0 H0 S σ H R z hz H1 e1 Q q => by
    cases h1 : m with
    | none => rw [h1] at hz; cases hz
    | some xs =>
      rw [h1] at hz
      have bw : Brw c.K (wipeG (Γ.map Sl.bor) (own.map (·.2))) (wipe σ (own.map (·.2))) H1 := ⟨fun S' hS H' hf hd => (brw_of R (own.map (·.2))).st S' (fun a z => hS a (by
        cases q2 : H a with
        | none => exact absurd q2 z
        | some o => rw [e1 a o q2]; simp)) H' (fun a o z z2 => hf a o (by show H1 a ≠ none; rw [e1 a o z2]; simp) (e1 a o z2)) hd⟩
      exact dc_mainI (c := c.blk scope) (hi.ev S0 H0 S σ H R xs h1 H1 e1) bw hj (by rw [R.len]; exact hlt) hk hv hz fun l kvs H' e' h0 h1 r => q l kvs H' e' h0 h1 r⟩
/-- f(..), f hands back a new dict -/
theorem jde_call {P : Type} {e : Expr} {es : List Expr} {ta : TA} {G : PySem.W.Frag → Ft → Hp → List V → P → Prop} [Gk G] {md : P → Option (Dct α)} {mp : Option P} {y : Str} {k : Nat} {p : Pos} (D : Dn c.P c.w c.K c.mg c.base y k (spOfD c.K G md)) (ha : JA c (e :: es) ta Γ ma mp G) (hk : k ≤ c.k := by exact Nat.le_of_ble_eq_true rfl) (hg : GlS c.sc y := by rfl)
    (hd : (y == ("__debug__" : Str)) = false := by decide) (he : ∀ env, starEach (e :: es) env = (false, eval e env) :: starEach es env := by intro _; rfl) (hpl : ∀ (env : Env) (p : Pos), (backTo p (starEach es env)).any (·.1) = false := by intro _ _; rfl) :
    JDE c (.Call (.Name y p) (e :: es) [] pos) (tCall (spOfD c.K G md) [] E0 ta) Γ ma (mp.bind md) :=
  ⟨fun X F => pe_dn F D hk (ha.pa X F) hg hd he hpl, fun S0 H0 S σ H R z hz H1 e1 Q q => by
    cases h1 : mp with
    | none => rw [h1] at hz; cases hz
    | some y =>
      rw [h1] at hz
      refine ha.ev S0 H0 S σ H R y h1 H1 e1 _ fun vs H2 e2 r => ?_
      refine ⟨y, z, fun a => nw (Sof ma S H) H1 a ∧ H2 a ≠ none, hz, fun a z => z.2, by rw [List.append_nil]; exact Gk.fr (fun a z z2 => ⟨z, z2⟩) (Evl.Ex.refl H2) r, fun l kvs H3 e3 h0 h3 r3 => ?_⟩
      refine q l kvs H3 (e2.trans e3) (Evl.fresh_back e2 h0) h3 (RpD.fr (fun a z _ => ?_) (fv_ex (Evl.Ex.refl H3)) r3)
      rcases z with z | z
      · exact z.1
      · exact .inr (Evl.fresh_back e2 z)⟩
end
section
variable {c : Stc} {Γ : List Sl} {τ τ' ρ : Type} [Rt ρ] {fr : Bool} {Γf : τ → List Sl} {rest : List Stmt} {tu : TS}
/-- x = a new dict, the def's own -/
theorem js_setDE {α : Type} [i : Rp α] {x : Str} {e : Expr} {te : TE} {md : Md} {me : Option (Dct α)} {p pos : Pos} {k : Dct α → Option (Out τ ρ)} (j : Nat) (hN : c.N.Nodup) (he : JDO c e te Γ md me) (hk : ∀ v, JS c rest tu (Γ.set j (.odc i v)) fr Γf (k v)) (hmd : md ≠ .an := by decide) (hx : c.N[j]? = some x := by rfl) (hl : Loc c.sc x := by first | exact Or.inl rfl | exact Or.inr rfl) (hf : c.fn x = true := by rfl)
    (hs : ∀ env : Env, env.scope = c.sc → swapsWith e (some (.Name x p)) pos.line env = pure false := by intro env h; first | rfl | (cases env; cases h; rfl)) : JS c (.Assign [.Name x p] e pos :: rest) (tSeq (tAsg te (gName j)) tu) Γ fr Γf (me.bind k) :=
  ⟨fun X F => pss_cons (ps_set (by rw [F.hN]; exact hN) (by rw [F.hN]; exact hx) (by rw [F.hsc]; exact hl) (he.pe X F) (hs _ F.hsc) (.inl (by rw [F.hfn]; exact hf))) ((hk []).ps X F), fun S0 H0 S σ H R o ho D qq => by
    cases hm : me with
    | none => rw [hm] at ho; cases ho
    | some y =>
      rw [hm] at ho
      refine he.ev S0 H0 S σ H R y hm H (Evl.Ex.refl H) _ fun l kvs H1 e1 h0 h1 r => ?_
      -- what grows but the dict itself
      have R1 := R.grow e1
      have up : ∀ a, S a → grw S H H1 a ∧ a ≠ l := fun a sa => ⟨grw_up R.dm e1 a sa, fun ea => R.dm a sa (ea ▸ h0)⟩
      have R2 : StR c.K S0 H0 (fun a => grw S H H1 a ∧ a ≠ l) Γ σ H1 := by
        refine ⟨R1.len, fun i s hs => ?_, fun a z => z.1.1, R1.ap, R1.ow, R1.ex, fun a z => R1.sr a z.1⟩
        refine SlotR.fr (fun a sa _ => up a sa) (fun os l' eo nl' z => ?_) (fun _ l' u _ hl => e1 l' u hl) (fr_ex e1) (R.sl i s hs)
        obtain ⟨l2, u2, e2, n2, hl2⟩ := own_ref os (R.sl i s hs)
        rw [eo] at e2
        cases e2
        rcases z.1.2 with z | z
        · exact nl' z
        · rw [hl2] at z; cases z
      have R3 := R2.made j (.odc i y) rfl (l := l) ⟨l, kvs, rfl, fun z => z.2 rfl, h1, RpD.fr (fun a z z1 => ⟨grw_in hmd a z.1 z1, z.2⟩) (fv_ex (Evl.Ex.refl H1)) r⟩ (Evl.fresh_back R.ex h0) fun i' t _ ht ot eo => by
        obtain ⟨l2, u2, e2, n2, hl2⟩ := own_ref ot (R.sl i' t ht)
        rw [eo] at e2
        cases e2
        rw [h0] at hl2; cases hl2
      exact (hk y).ev S0 H0 _ _ H1 R3 o ho D (out_keep up (fr_ex e1) qq)⟩
/-- return of a new dict -/
theorem js_retDE {α : Type} [i : Rp α] {e : Expr} {te : TE} {md : Md} {me : Option (Dct α)} {pos : Pos} {Γf : τ → List Sl} (he : JDE c e te Γ md me) (hmd : md ≠ .an := by decide) :
    JS c (.Return (some e) pos :: []) (tRet te) Γ (ρ := DD α) false Γf (me.bind fun r => some (.rt (DD.mk r))) :=
  ⟨fun X F => pss_one (ps_ret (he.pe X F)), fun S0 H0 S σ H R o ho D q => by
    cases hm : me with
    | none => rw [hm] at ho; cases ho
    | some y =>
      rw [hm] at ho
      cases ho
      refine he.ev S0 H0 S σ H R y hm H (Evl.Ex.refl H) _ fun l kvs H1 e1 h0 h1 r => ?_
      refine q _ H1 (R.ex.trans e1) (fr_ex e1) ⟨l, kvs, rfl, Evl.fresh_back R.ex h0, h1, RpD.fr (fun a z _ => ?_) (fv_ex (Evl.Ex.refl H1)) r⟩
      rcases z with z | z
      · cases md with
        | fr => exact z.elim
        | vl => exact R.sr a z
        | an => exact absurd rfl hmd
      · exact .inr (Evl.fresh_back R.ex z)⟩

/-! ### a list that is new, its items wherever -/
structure FL (α : Type) where
  xs : List α
instance rtFL {α : Type} [Rp α] : Rt (FL α) := ⟨fun K _ S0 H0 H v x => ∃ l vs, v = .ref l ∧ H0 l = none ∧ H l = some (.lst vs) ∧ PySem.Paired (Rp.r K (fun a => nw S0 H0 a ∧ a ≠ l) H) vs x.xs⟩
def spOfL {P ρ : Type} [Rp ρ] (K : PySem.W.Frag) (G : PySem.W.Frag → Ft → Hp → List V → P → Prop) (m : P → Option (List ρ)) : Sp := fun vs H Q _ =>
  ∃ p r S, m p = some r ∧ (∀ a, S a → H a ≠ none) ∧ G K S H vs p ∧ ∀ l vs' H', Ex H H' → H l = none → H' l = some (.lst vs') → PySem.Paired (Rp.r K (fun a => nw S H a ∧ a ≠ l) H') vs' r → Q (.ref l) H'
theorem js_retFL {α : Type} [i : Rp α] {x : Str} {p pos : Pos} {xs : List α} {Γf : τ → List Sl} (j : Nat) (hs : Γ[j]? = some (.own i xs) := by rfl) (hN : c.N[j]? = some x := by rfl) (hv : Vis c.sc x := by first | exact Or.inl rfl | exact Or.inr (Or.inl rfl) | exact Or.inr (Or.inr rfl))
    (hd : (x == ("__debug__" : Str)) = false := by decide) (hcd : (x == ("__classdict__" : Str)) = false := by decide) : JS c (.Return (some (.Name x p)) pos :: []) (tRet (tVar j)) Γ (ρ := FL α) false Γf (some (.rt (FL.mk xs))) :=
  ⟨fun X F => pss_one (ps_ret (pe_var (by rw [F.hN]; exact hN) (F.vis hv) hd hcd)), fun S0 H0 S σ H R o ho D q => by
    cases ho
    obtain ⟨l, vs, hu, nl, hl, r⟩ := R.sl j _ hs
    have h0 := R.ow j _ l hs rfl hu
    exact ⟨_, at_some hu, q _ H R.ex (fun _ _ _ z => z) ⟨l, vs, rfl, h0, hl, paired_mono r fun _ _ => Rp.up fun a z _ => ⟨R.sr a z, fun ea => nl (ea ▸ z)⟩⟩⟩⟩
theorem je_callL {P α : Type} [Rp α] {e : Expr} {es : List Expr} {ta : TA} {ma : Md} {G : PySem.W.Frag → Ft → Hp → List V → P → Prop} [Gk G] {m : P → Option (List α)} {mp : Option P} {x : Str} {k : Nat} {p pos : Pos} (D : Dn c.P c.w c.K c.mg c.base x k (spOfL c.K G m)) (ha : JA c (e :: es) ta Γ ma mp G) (hk : k ≤ c.k := by exact Nat.le_of_ble_eq_true rfl) (hg : GlS c.sc x := by rfl)
    (hd : (x == ("__debug__" : Str)) = false := by decide) (he : ∀ env, starEach (e :: es) env = (false, eval e env) :: starEach es env := by intro _; rfl) (hpl : ∀ (env : Env) (p : Pos), (backTo p (starEach es env)).any (·.1) = false := by intro _ _; rfl) :
    JE c (.Call (.Name x p) (e :: es) [] pos) (tCall (spOfL c.K G m) [] E0 ta) Γ ma (mp.bind m) :=
  ⟨fun X F => pe_dn F D hk (ha.pa X F) hg hd he hpl, fun S0 H0 S σ H R z hz H1 e1 Q q => by
    cases h1 : mp with
    | none => rw [h1] at hz; cases hz
    | some y =>
      rw [h1] at hz
      refine ha.ev S0 H0 S σ H R y h1 H1 e1 _ fun vs H2 e2 r => ?_
      refine ⟨y, z, fun a => nw (Sof ma S H) H1 a ∧ H2 a ≠ none, hz, fun a z => z.2, by rw [List.append_nil]; exact Gk.fr (fun a z z2 => ⟨z, z2⟩) (Evl.Ex.refl H2) r, fun l vs' H3 e3 h0 h3 r3 => ?_⟩
      refine q _ H3 (e2.trans e3) ⟨l, vs', rfl, .inr (Evl.fresh_back e2 h0), h3, paired_mono r3 fun _ _ => Rp.up fun a z _ => ?_⟩
      rcases z.1 with z | z
      · exact z.1
      · exact .inr (Evl.fresh_back e2 z)⟩
/-- x = f(..), a new list that this def may change -/
theorem js_setFL {P α : Type} [i : Rp α] {x y : Str} {e : Expr} {es : List Expr} {ta : TA} {ma : Md} {G : PySem.W.Frag → Ft → Hp → List V → P → Prop} [Gk G] {m : P → Option (List α)} {mp : Option P} {kk : Nat} {p p2 p3 pos : Pos} {k : List α → Option (Out τ ρ)} (j : Nat) (hN : c.N.Nodup) (Dd : Dn c.P c.w c.K c.mg c.base y kk (spOfL c.K G m)) (ha : JA c (e :: es) ta Γ ma mp G) (hk : ∀ v, JS c rest tu (Γ.set j (.own i v)) fr Γf (k v)) (hma : ma ≠ .an := by decide) (hkk : kk ≤ c.k := by exact Nat.le_of_ble_eq_true rfl) (hg : GlS c.sc y := by rfl) (hx : c.N[j]? = some x := by rfl) (hl : Loc c.sc x := by first | exact Or.inl rfl | exact Or.inr rfl) (hf : c.fn x = true := by rfl)
    (hd : (y == ("__debug__" : Str)) = false := by decide) (he : ∀ env, starEach (e :: es) env = (false, eval e env) :: starEach es env := by intro _; rfl) (hpl : ∀ (env : Env) (p : Pos), (backTo p (starEach es env)).any (·.1) = false := by intro _ _; rfl)
    (hs : ∀ env, swapsWith (.Call (.Name y p2) (e :: es) [] p3) (some (.Name x p)) pos.line env = pure false := by intro _; rfl) :
    JS c (.Assign [.Name x p] (.Call (.Name y p2) (e :: es) [] p3) pos :: rest) (tSeq (tAsg (tCall (spOfL c.K G m) [] E0 ta) (gName j)) tu) Γ fr Γf ((mp.bind m).bind k) :=
  ⟨fun X F => pss_cons (ps_set (by rw [F.hN]; exact hN) (by rw [F.hN]; exact hx) (by rw [F.hsc]; exact hl) (pe_dn F Dd hkk (ha.pa X F) hg hd he hpl) (hs _) (.inl (by rw [F.hfn]; exact hf))) ((hk []).ps X F), fun S0 H0 S σ H R o ho D qq => by
    cases hm : mp with
    | none => rw [hm] at ho; cases ho
    | some y =>
      rw [hm] at ho
      cases hmy : m y with
      | none =>
        have ho : (m y).bind k = some o := ho
        rw [hmy] at ho; cases ho
      | some z =>
        have ho : (m y).bind k = some o := ho
        rw [hmy] at ho
        refine ha.ev S0 H0 S σ H R y hm H (Evl.Ex.refl H) _ fun vs H2 e2 r => ?_
        refine ⟨y, z, fun a => nw (Sof ma S H) H a ∧ H2 a ≠ none, hmy, fun a z => z.2, by rw [List.append_nil]; exact Gk.fr (fun a z z2 => ⟨z, z2⟩) (Evl.Ex.refl H2) r, fun l vs' H1 e3 h02 h1 r3 => ?_⟩
        have e1 := e2.trans e3
        have h0 : H l = none := Evl.fresh_back e2 h02
        have R1 := R.grow e1
        have up : ∀ a, S a → grw S H H1 a ∧ a ≠ l := fun a sa => ⟨grw_up R.dm e1 a sa, fun ea => R.dm a sa (ea ▸ h0)⟩
        have R2 : StR c.K S0 H0 (fun a => grw S H H1 a ∧ a ≠ l) Γ σ H1 := by
          refine ⟨R1.len, fun i s hs => ?_, fun a z => z.1.1, R1.ap, R1.ow, R1.ex, fun a z => R1.sr a z.1⟩
          refine SlotR.fr (fun a sa _ => up a sa) (fun os l' eo nl' z => ?_) (fun _ l' u _ hl => e1 l' u hl) (fr_ex e1) (R.sl i s hs)
          obtain ⟨l2, u2, e2, n2, hl2⟩ := own_ref os (R.sl i s hs)
          rw [eo] at e2
          cases e2
          rcases z.1.2 with z | z
          · exact nl' z
          · rw [hl2] at z; cases z
        have R3 := R2.made j (.own i z) rfl (l := l) ⟨l, vs', rfl, fun z => z.2 rfl, h1, paired_mono r3 fun _ _ => Rp.up fun a z z1 => ⟨?_, z.2⟩⟩ (Evl.fresh_back R.ex h0) fun i' t _ ht ot eo => by
          obtain ⟨l2, u2, e2, n2, hl2⟩ := own_ref ot (R.sl i' t ht)
          rw [eo] at e2
          cases e2
          rw [h0] at hl2; cases hl2
        · exact (hk z).ev S0 H0 _ _ H1 R3 o ho D (out_keep up (fr_ex e1) qq)
        · rcases z.1 with z | z
          · exact grw_in hma a z.1 z1
          · exact ⟨z1, .inr (Evl.fresh_back e2 z)⟩⟩
end
def outL {α : Type} (m : Option (Out Unit (FL α))) : Option (List α) := (outR m).map FL.xs
section
variable {P : Program} {w : World} {K : PySem.W.Frag} {mg : Str → Option Value} {base : Heap} {A α : Type} [Rp α] {G : PySem.W.Frag → Ft → Hp → List V → A → Prop} [g : GA G] {x qual : Str} {st : Stmt} {f : Addr} {fd : FuncData} {N ps : List Str} {k : Nat} {t : TS}
theorem def_okL {Γf : Unit → List Sl} {m : A → Option (Out Unit (FL α))} (F : Fun K x qual st f fd) (S : FnScope N ps (defScope st)) (hlen : ∀ p, (g.A p).length = ps.length) (h : ∀ p, JS ⟨P, w, K, mg, base, N, defScope st, fun _ => true, k⟩ (defBody st) t (g.A p ++ List.replicate (N.length - ps.length) .no) false Γf (m p)) :
    FnOk P w K mg base CX0 (k + 1) f fd ps (spOfL K G fun p => outL (m p)) := by
  refine F.ok S (fun vs H Q E ⟨p, r, S', _, _, hg, _⟩ => (ga_len hg).trans (hlen p)) fun cdv Ar outer s H vs Q E hr ⟨p, r, S', hm, hS, hg, q⟩ => ⟨t, (h p).ps _ (fam_def hr), ?_⟩
  have hl : vs.length = ps.length := (ga_len hg).trans (hlen p)
  have hm : outL (m p) = some r := hm
  cases hmp : m p with
  | none => rw [hmp] at hm; cases hm
  | some o =>
    rw [hmp] at hm
    cases o with
    | nx s => cases hm
    | rt r' =>
      cases hm
      refine (h p).ev S' H S' _ H (st_start hg hS (by rw [hl])) _ hmp _ ?_
      rintro v H' ex _ ⟨l, vs', rfl, h0, h1, rr⟩
      exact q l vs' H' ex h0 h1 rr
end
end Sm
end

section
set_option maxRecDepth 100000
set_option maxHeartbeats 4000000
namespace Sm
open PySem L2

/-! ### the body of a loop that goes on or ends the loop on its way -/
inductive OutL (τ ρ : Type)
  | nx (s : τ)
  | ct (s : τ)
  | bk (s : τ)
  | rt (r : ρ)
def OutL.go {τ ρ : Type} (k : τ → Option (Out τ ρ)) : OutL τ ρ → Option (Out τ ρ)
  | .nx s => k s
  | .ct s => k s
  | .bk s => some (.nx s)
  | .rt r => some (.rt r)
/-- what doesn't fall through -/
def OutL.no {τ ρ : Type} : OutL τ ρ → Option (OutL τ ρ)
  | .nx _ => none
  | o => some o
def OutL.of {τ ρ : Type} : Out τ ρ → OutL τ ρ
  | .nx s => .nx s
  | .rt r => .rt r
def loopML {τ ρ α : Type} (b : τ → α → Option (OutL τ ρ)) : τ → List α → Option (Out τ ρ)
  | s, [] => some (.nx s)
  | s, x :: xs => (b s x).bind (OutL.go fun s' => loopML b s' xs)
def OutLOk {τ ρ : Type} [Rt ρ] (K : PySem.W.Frag) (S0 : Ft) (H0 : Hp) (S : Ft) (H : Hp) (fr : Bool) (Γl : τ → List Sl) (D : Ends) : OutL τ ρ → Prop
  | .nx s => ∀ S' σ' H', StR K S0 H0 S' (Γl s) σ' H' → (∀ a, S a → S' a) → Fr S H H' → D.nx σ' H'
  | .ct s => ∀ S' σ' H', StR K S0 H0 S' (Γl s) σ' H' → (∀ a, S a → S' a) → Fr S H H' → D.ct σ' H'
  | .bk s => ∀ S' σ' H', StR K S0 H0 S' (Γl s) σ' H' → (∀ a, S a → S' a) → Fr S H H' → D.bk σ' H'
  | .rt r => ∀ v H', Ex H0 H' → Fr S H H' → Rt.r K fr S0 H0 H' v r → D.rt v H'
theorem outl_keep {τ ρ : Type} [Rt ρ] {K : PySem.W.Frag} {S0 : Ft} {H0 : Hp} {S S1 : Ft} {H H1 : Hp} {fr : Bool} {Γl : τ → List Sl} {D : Ends} {o : OutL τ ρ} (up : ∀ a, S a → S1 a) (f : Fr S H H1) (q : OutLOk K S0 H0 S H fr Γl D o) : OutLOk K S0 H0 S1 H1 fr Γl D o := by
  cases o with
  | rt r => exact fun v H' ex f2 z => q v H' ex (fun a o sa ha => f2 a o (up a sa) (f a o sa ha)) z
  | nx s2 => exact fun S2 σ2 H2 R2 up2 f2 => q S2 σ2 H2 R2 (fun a z => up2 a (up a z)) fun a o z z2 => f2 a o (up a z) (f a o z z2)
  | ct s2 => exact fun S2 σ2 H2 R2 up2 f2 => q S2 σ2 H2 R2 (fun a z => up2 a (up a z)) fun a o z z2 => f2 a o (up a z) (f a o z z2)
  | bk s2 => exact fun S2 σ2 H2 R2 up2 f2 => q S2 σ2 H2 R2 (fun a z => up2 a (up a z)) fun a o z z2 => f2 a o (up a z) (f a o z z2)
structure JB (c : Stc) (sts : List Stmt) (ts : TS) (Γ : List Sl) {τ ρ : Type} [Rt ρ] (fr : Bool) (Γl : τ → List Sl) (m : Option (OutL τ ρ)) : Prop where
  ps : ∀ X, Fam c X → PSs X sts ts
  ev : ∀ S0 H0 S σ H, StR c.K S0 H0 S Γ σ H → ∀ o, m = some o → ∀ D : Ends, OutLOk c.K S0 H0 S H fr Γl D o → ts D σ H
section
variable {c : Stc} {Γ : List Sl} {τ τ' ρ : Type} [Rt ρ] {fr : Bool} {Γl : τ → List Sl} {rest : List Stmt} {tu : TS}
theorem jb_of {sts : List Stmt} {ts : TS} {m : Option (Out τ ρ)} (h : JS c sts ts Γ fr Γl m) : JB c sts ts Γ fr Γl (m.bind fun o => some (OutL.of o)) :=
  ⟨h.ps, fun S0 H0 S σ H R o ho D q => by
    cases hm : m with
    | none => rw [hm] at ho; cases ho
    | some o1 =>
      rw [hm] at ho
      cases ho
      refine h.ev S0 H0 S σ H R o1 hm D ?_
      cases o1 with
      | nx s => exact q
      | rt r => exact q⟩
theorem jb_cont {pos : Pos} (s : τ) (h : Sub Γ (Γl s)) : JB (ρ := ρ) c [.Continue pos] tCont Γ fr Γl (some (.ct s)) :=
  ⟨fun _ _ => pss_one ps_continue, fun S0 H0 S σ H R o ho D q => by
    cases ho
    exact q S σ H (R.sub h) (fun _ z => z) (fun _ _ _ z => z)⟩
theorem jb_brk {pos : Pos} (s : τ) (h : Sub Γ (Γl s)) : JB (ρ := ρ) c [.Break pos] tBreak Γ fr Γl (some (.bk s)) :=
  ⟨fun _ _ => pss_one ps_break, fun S0 H0 S σ H R o ho D q => by
    cases ho
    exact q S σ H (R.sub h) (fun _ z => z) (fun _ _ _ z => z)⟩
theorem jb_nil (s : τ) (h : Sub Γ (Γl s)) : JB (ρ := ρ) c [] tNext Γ fr Γl (some (.nx s)) :=
  ⟨fun _ _ => pss_nil, fun S0 H0 S σ H R o ho D q => by
    cases ho
    exact q S σ H (R.sub h) (fun _ z => z) (fun _ _ _ z => z)⟩
/-- if t: what doesn't fall through; rest -/
theorem jb_guard {e : Expr} {tt : TT} {ta : TS} {A : List Stmt} {pos : Pos} {mc : Option Bool} {m1 : Option (OutL τ ρ)} {k : Option (OutL τ ρ)} (hc : JT c e tt Γ mc) (h1 : JB c A ta Γ fr Γl m1) (hk : JB c rest tu Γ fr Γl k) :
    JB c (.If e A [] pos :: rest) (tSeq (tIfS tt ta tNext) tu) Γ fr Γl (mc.bind fun b => if b then m1.bind OutL.no else k) :=
  ⟨fun X F => pss_cons (ps_if (hc.pt X F) (h1.ps X F) pss_nil) (hk.ps X F), fun S0 H0 S σ H R o ho D q => by
    cases hm : mc with
    | none => rw [hm] at ho; cases ho
    | some b =>
      rw [hm] at ho
      refine hc.ev S0 H0 S σ H R b hm H (Evl.Ex.refl H) _ fun H1 e1 => ?_
      have q' : OutLOk c.K S0 H0 (grw S H H1) H1 fr Γl D o := outl_keep (grw_up R.dm e1) (fr_ex e1) q
      cases b with
      | true =>
        have ho : m1.bind OutL.no = some o := ho
        cases h : m1 with
        | none => rw [h] at ho; cases ho
        | some o1 =>
          rw [h] at ho
          refine iteT (h1.ev S0 H0 _ _ H1 (R.grow e1) o1 h _ ?_)
          cases o1 with
          | nx s => cases ho
          | ct s => cases ho; exact q'
          | bk s => cases ho; exact q'
          | rt r => cases ho; exact q'
      | false => exact iteF (hk.ev S0 H0 _ _ H1 (R.grow e1) o ho D q')⟩
/-- d[k] = v, d the def's own -/
theorem jb_dput {α : Type} [i : Rp α] [Inhabited α] {ps : Dct α} {x : Str} {e kx : Expr} {te tk : TE} {md mk : Md} {me : Option α} {mkk : Option Str} {p q pos : Pos} {k : α → Str → Option (OutL τ ρ)} (j : Nat) (hs : Γ[j]? = some (.odc i ps) := by rfl) (he : JE c e te Γ md me) (hkx : JE c kx tk Γ mk mkk)
    (hk : ∀ v s, JB c rest tu (Γ.set j (.odc i (dput ps s v))) fr Γl (k v s)) (hmd : md ≠ .an := by decide) (hN : c.N[j]? = some x := by rfl) (hv : Vis c.sc x := by first | exact Or.inl rfl | exact Or.inr (Or.inl rfl) | exact Or.inr (Or.inr rfl))
    (hd : (x == ("__debug__" : Str)) = false := by decide) (hcd : (x == ("__classdict__" : Str)) = false := by decide) (hsw : ∀ env, swapsWith e (some (.Subscript (.Name x p) kx q)) pos.line env = pure false := by intro _; rfl) :
    JB c (.Assign [.Subscript (.Name x p) kx q] e pos :: rest) (tSeq (sDPut (tVar j) tk te) tu) Γ fr Γl (me.bind fun v => mkk.bind fun s => if ps.length < 50000 then k v s else none) :=
  ⟨fun X F => pss_cons (ps_dput F.hu (pe_var (by rw [F.hN]; exact hN) (F.vis hv) hd hcd) (hkx.pe X F) (he.pe X F) (hsw _)) ((hk default default).ps X F), fun S0 H0 S σ H R o ho D qq => by
    cases hm : me with
    | none => rw [hm] at ho; cases ho
    | some y =>
      cases hm2 : mkk with
      | none => rw [hm, hm2] at ho; cases ho
      | some s =>
        rw [hm, hm2] at ho
        have ho : (if ps.length < 50000 then k y s else none) = some o := ho
        by_cases hn : ¬ ps.length < 50000
        · rw [if_neg hn] at ho; cases ho
        have hn := Decidable.not_not.mp hn
        rw [if_pos hn] at ho
        obtain ⟨l, kvs, hu, nS, hl, r0⟩ := R.sl j _ hs
        refine he.ev S0 H0 S σ H R y hm H (Evl.Ex.refl H) _ fun v H1 e1 r1 => ?_
        refine ⟨_, at_some hu, ?_⟩
        refine hkx.ev S0 H0 S σ H R s hm2 H1 e1 _ fun u H2 e2 r2 => ?_
        cases r2
        have e12 := e1.trans e2
        refine ⟨l, _, rfl, DPut.k (k := Sum.inr s) (e12 l _ hl) (Evl.sz_lt (by rw [r0.length]; omega)), ?_⟩
        have R1 := R.grow e12
        have nl : ¬ grw S H H2 l := fun z => z.2.elim nS fun z => by rw [hl] at z; cases z
        have fv : Fv (grw S H H2) H2 (upd H2 l (.dK (putK kvs (Sum.inr s) v))) := fun a za => by
          have nd : a ≠ l := fun ed => nl (ed ▸ za)
          exact ⟨fun _ z => by rw [upd_ne nd]; exact z, fun _ z => by rw [upd_ne nd]; exact z, fun _ _ z => by rw [upd_ne nd]; exact z, fun _ _ _ z => by rw [upd_ne nd]; exact z⟩
        obtain ⟨l2, vs2, hu2, _, hl2, r3⟩ := R1.sl j _ hs
        rw [hu] at hu2
        cases hu2
        rw [e12 l _ hl] at hl2
        cases hl2
        refine (hk y s).ev S0 H0 _ σ _ (R1.put hs rfl rfl hu ⟨l, _, rfl, nl, upd_same, rpd_put (RpD.fr (fun _ z _ => z) fv r3) s (Rp.fr (fun _ z _ => z) fv (Rp.up (fun a z z2 => grw_in (H1 := H2) hmd a z z2) (Rp.ex e2 r1)))⟩) o ho D ?_
        exact outl_keep (grw_up R.dm e12) (grw_fr R.dm e12 nS) qq⟩
end
/-- what is handed back stays what it is when a locked dict is unlocked -/
class RtU (ρ : Type) [Rt ρ] : Prop where
  fr : ∀ {K : PySem.W.Frag} {fr : Bool} {S0 : Ft} {H0 Hz H' : Hp} {v : V} {x : ρ} {d : Addr} {od : Obj} {kvs : List (Key × V)}, (∀ l, Hz l = none ↔ H0 l = none) → H' d = some (.frz od (.dK kvs)) → Rt.r K fr S0 Hz H' v x → Rt.r K fr S0 H0 (upd H' d (.dK kvs)) v x
theorem unlock_fv {H' : Hp} {T : Ft} {d : Addr} {od : Obj} {kvs : List (Key × V)} (hz : H' d = some (.frz od (.dK kvs))) : Fv T H' (upd H' d (.dK kvs)) := fun a _ => by
  have k : ∀ {u : HO}, H' a = some u → (∀ kv, u ≠ .frz od (.dK kv)) → upd H' d (.dK kvs) a = some u := fun {u} hu hne => by
    by_cases ad : a = d
    · subst ad
      rw [hz] at hu
      exact absurd (Option.some.inj hu).symm (hne kvs)
    · rw [upd_ne ad]; exact hu
  exact ⟨fun xs z => k z (fun _ e => nomatch e), fun xs z => k z (fun _ e => nomatch e), fun o xs z => k z (fun _ e => nomatch e), fun _ _ _ z => k z (fun _ e => nomatch e)⟩
instance rtuRp {ρ : Type} [i : Rp ρ] : RtU ρ := ⟨fun {K fr S0 H0 Hz H' v x d od kvs} hn hz h => Rp.fr (fun a za _ => za.imp id (hn a).mp) (unlock_fv hz) h⟩
instance rtuDD {α : Type} [Rp α] : RtU (DD α) := ⟨fun {K fr S0 H0 Hz H' v x d od kvs} hn hz h => by
  obtain ⟨l, us, e, h0, hl, r⟩ := h
  have ld : l ≠ d := fun e => by rw [e, hz] at hl; cases hl
  exact ⟨l, us, e, (hn l).mp h0, by rw [upd_ne ld]; exact hl, RpD.fr (fun a za _ => za.imp id (hn a).mp) (unlock_fv hz) r⟩⟩
instance rtuFL {α : Type} [Rp α] : RtU (FL α) := ⟨fun {K fr S0 H0 Hz H' v x d od kvs} hn hz h => by
  obtain ⟨l, us, e, h0, hl, r⟩ := h
  have ld : l ≠ d := fun e => by rw [e, hz] at hl; cases hl
  exact ⟨l, us, e, (hn l).mp h0, by rw [upd_ne ld]; exact hl, paired_mono r fun _ _ q => Rp.fr (fun a za _ => ⟨za.1.imp id (hn a).mp, za.2⟩) (unlock_fv hz) q⟩⟩
section
variable {c : Stc} {Γ : List Sl} {τ τ' ρ : Type} [Rt ρ] {fr : Bool} {Γf : τ → List Sl} {rest : List Stmt} {tu : TS}
theorem js_forL {α : Type} [Rp α] [Inhabited α] {tg iter : Expr} {wi : TI} {g : TG} {body : List Stmt} {tb : TS} {md : Md} {m : Option (List α)} {pos : Pos} {Γl : τ' → List Sl} {Γb : τ' → α → List Sl} {b : τ' → α → Option (OutL τ' ρ)} {k : τ' → Option (Out τ ρ)} (vs : List Nat) (s0 : τ') (hsub : Sub Γ (Γl s0)) (hi : JI c tg iter wi Γ md m)
    (hg : ∀ X, Fam c X → PG X tg g) (tgo : ∀ s, TgOk c.K g vs (Γl s) (Γb s)) (hb : ∀ s x, JB c body tb (Γb s x) fr Γl (b s x)) (hk : ∀ s, JS c rest tu (Γl s) fr Γf (k s)) (hmd : md ≠ .an := by decide) (hs : ∀ (env : Env) x, foldedSetIterable iter env x = pure x := by intro _ _; rfl) :
    JS c (.For tg iter body [] pos :: rest) (tSeq (tFor wi g tb) tu) Γ fr Γf (m.bind fun xs => (loopML b s0 xs).bind (Out.go k)) := by
  have key : JS c (.For tg iter body [] pos :: rest) (tSeq (tFor wi g tb) tu) Γ fr Γf ((m.bind fun xs => loopML b s0 xs).bind (Out.go k)) := by
    refine js_cons (Γ1 := Γl) (fun X F => ps_for (by rw [F.hxe]; exact PassesOwn.never) F.calm (hi.pi X F) (hg X F) ((hb s0 default).ps X F) (hs _)) (fun S0 H0 S σ H R o ho D q => ?_) s0 hk
    cases hm : m with
    | none => rw [hm] at ho; cases ho
    | some xs =>
      rw [hm] at ho
      have ho : loopML b s0 xs = some o := ho
      refine hi.ev S0 H0 S σ H R xs hm H (Evl.Ex.refl H) _ fun J H2 G Y e2 w st it => ?_
      refine for_it w (fun i σ' H' => ∃ s S', StR c.K S0 H0 S' (Γl s) σ' H' ∧ (∀ a, grw S H H2 a → S' a) ∧ Fr (grw S H H2) H2 H' ∧ loopML b s (xs.drop i) = some o)
        ⟨s0, _, (R.grow e2).sub hsub, fun _ z => z, fun _ _ _ z => z, ho⟩ (fun i σ' H' _ ⟨s, S', _, _, f, _⟩ => st H' fun a o z z2 => f a o (sof_in hmd a z (by rw [z2]; simp)) z2) ?_ ?_
      · rintro i v σ' H3 H4 hi' ⟨s, S', R', up, f, hl⟩ y
        have hxi : xs[i]? = some xs[i] := List.getElem?_eq_getElem hi'
        rw [List.drop_eq_getElem_cons hi'] at hl
        obtain ⟨e34, rv⟩ := it i _ hxi H3 v H4 (fun a o z z2 => f a o (sof_in hmd a z (by rw [z2]; simp)) z2) y
        have R4 := R'.grow e34
        have rv' : Rp.r c.K (grw S' H3 H4) H4 v xs[i] := Rp.up (fun a z z4 => ⟨z4, by
          rcases z with ⟨z, z2⟩ | z
          · exact .inl (up a (sof_in hmd a z z2))
          · exact .inr z⟩) rv
        refine (tgo s).run S0 H0 _ σ' H4 v _ R4 rv' _ fun σ2 R2 _ => ?_
        have hl : (b s xs[i]).bind (OutL.go fun s' => loopML b s' (xs.drop (i + 1))) = some o := hl
        cases hbx : b s xs[i] with
        | none => rw [hbx] at hl; cases hl
        | some o' =>
          rw [hbx] at hl
          refine (hb s xs[i]).ev S0 H0 _ σ2 H4 R2 o' hbx _ ?_
          cases o' with
          | rt r =>
            cases hl
            exact fun v H' ex f2 z => q v H' ex (fun a o sa ha => f2 a o (grw_up R'.dm e34 a (up a (grw_up R.dm e2 a sa))) (e34 a o (f a o (grw_up R.dm e2 a sa) (e2 a o ha)))) z
          | nx s' =>
            exact fun S5 σ5 H5 R5 up5 f5 => ⟨s', S5, R5, fun a z => up5 a (grw_up R'.dm e34 a (up a z)), fun a o z z2 => f5 a o (grw_up R'.dm e34 a (up a z)) (e34 a o (f a o z z2)), hl⟩
          | ct s' =>
            exact fun S5 σ5 H5 R5 up5 f5 => ⟨s', S5, R5, fun a z => up5 a (grw_up R'.dm e34 a (up a z)), fun a o z z2 => f5 a o (grw_up R'.dm e34 a (up a z)) (e34 a o (f a o z z2)), hl⟩
          | bk s' =>
            cases hl
            exact fun S5 σ5 H5 R5 up5 f5 => q S5 σ5 H5 R5 (fun a z => up5 a (grw_up R'.dm e34 a (up a (grw_up R.dm e2 a z)))) fun a o z z2 => f5 a o (grw_up R'.dm e34 a (up a (grw_up R.dm e2 a z))) (e34 a o (f a o (grw_up R.dm e2 a z) (e2 a o z2)))
      · rintro σ' H' ⟨s, S', R', up, f, hl⟩
        rw [List.drop_length] at hl
        cases hl
        exact q S' σ' H' R' (fun a z => up a (grw_up R.dm e2 a z)) fun a o z z2 => f a o (grw_up R.dm e2 a z) (e2 a o z2)
  cases m with
  | none => exact key
  | some xs => exact key
/-- for x in d -/
theorem js_forKL {ρ : Type} [Rt ρ] [RtU ρ] {α : Type} [iα : Rp α] {x y : Str} {px py pos : Pos} {body : List Stmt} {tb : TS} {ps : Dct α} {Γl : τ' → List Sl} {Γb : τ' → Str → List Sl} {b : τ' → Str → Option (OutL τ' ρ)} {k : τ' → Option (Out τ ρ)} (vs : List Nat) (s0 : τ') (j jx : Nat) (hj : Γ[j]? = some (.dct iα ps) := by rfl) (hsub : Sub (Γ.map Sl.frd) (Γl s0))
    (hg : ∀ X, Fam c X → PG X (.Name x px) (gName jx)) (tgo : ∀ s, TgOk c.K (gName jx) vs (Γl s) (Γb s)) (hb : ∀ s x, JB c body tb (Γb s x) fr Γl (b s x)) (hk : ∀ s, JS c rest tu (Γl s) fr Γf (k s))
    (hy : c.N[j]? = some y := by rfl) (hv : Vis c.sc y := by first | exact Or.inl rfl | exact Or.inr (Or.inl rfl) | exact Or.inr (Or.inr rfl)) (hd : (y == ("__debug__" : Str)) = false := by decide) (hcd : (y == ("__classdict__" : Str)) = false := by decide) :
    JS c (.For (.Name x px) (.Name y py) body [] pos :: rest) (tSeq (tLock (tFor (iKeys (tVar j)) (gName jx) tb)) tu) Γ fr Γf ((loopML b s0 (ps.map (·.1))).bind (Out.go k)) := by
  refine js_cons (Γ1 := Γl) (fun X F => ps_lock (ps_for (by rw [F.hxe]; exact PassesOwn.never) F.calm (pi_keys (pe_var (by rw [F.hN]; exact hy) (F.vis hv) hd hcd)) (hg X F) ((hb s0 default).ps X F))) (fun S0 H0 S σ H R o ho D q => ?_) s0 hk
  obtain ⟨d, kvs, hσ, sd, hd', r⟩ := R.sl j _ hj
  refine ⟨d, .dK kvs, hd', trivial, fun od => ?_⟩
  have hfz : upd H d (.frz od (.dK kvs)) d = some (.frz od (.dK kvs)) := upd_same
  -- the entry's heap with the dict locked
  let Hz : Hp := fun a => if a = d then (match H0 d with | none => none | some _ => some (.frz od (.dK kvs))) else H0 a
  have hzn : ∀ a, Hz a = none ↔ H0 a = none := fun a => by
    show (if a = d then (match H0 d with | none => none | some _ => some (.frz od (.dK kvs))) else H0 a) = none ↔ _
    by_cases e : a = d
    · subst e
      rw [if_pos rfl]
      cases H0 a <;> simp
    · rw [if_neg e]
  have hzx : ∀ a, a ≠ d → Hz a = H0 a := fun a e => if_neg e
  have R1 : StR c.K S0 Hz S (Γ.map Sl.frd) σ (upd H d (.frz od (.dK kvs))) := by
    have keep : ∀ {a u}, H a = some u → (a = d ∧ u = .dK kvs) ∨ upd H d (.frz od (.dK kvs)) a = some u := fun {a u} z => by
      by_cases ad : a = d
      · left
        subst ad
        rw [hd'] at z
        exact ⟨rfl, (Option.some.inj z).symm⟩
      · right
        rw [upd_ne ad]; exact z
    have hv : Fv S H (upd H d (.frz od (.dK kvs))) := fun a _ => ⟨fun xs z => (keep z).elim (fun z => nomatch z.2) id, fun xs z => (keep z).elim (fun z => nomatch z.2) id, fun _ _ z => (keep z).elim (fun z => nomatch z.2) id, fun _ _ _ z => (keep z).elim (fun z => nomatch z.2) id⟩
    have dk : ∀ {l us}, H l = some (.dK us) → Rd (upd H d (.frz od (.dK kvs))) l (.dK us) := fun {l us} z => by
      rcases keep z with ⟨rfl, ee⟩ | z
      · cases ee; exact .inr ⟨od, upd_same⟩
      · exact .inl z
    have up : ∀ a, S a → H a ≠ none → S a := fun a z _ => z
    have nd : ∀ {l}, ¬ S l → l ≠ d := fun {l} n e => n (e ▸ sd)
    have own : ∀ {i : Nat} {t : Sl}, (Γ.map Sl.frd)[i]? = some t → t.isOwn = true → Γ[i]? = some t := fun {i t} h ot => by
      rw [List.getElem?_map] at h
      cases e : Γ[i]? with
      | none => rw [e] at h; cases h
      | some t' =>
        rw [e] at h
        have h := Option.some.inj h
        subst h
        cases t' <;> first | rfl | cases ot
    refine ⟨by rw [List.length_map]; exact R.len, fun i s h => ?_, fun a sa => ?_, fun a b' s t l ab h1 h2 o1 o2 g1 g2 => R.ap a b' s t l ab (own h1 o1) (own h2 o2) o1 o2 g1 g2, fun i s l h os g => (hzn l).mpr (R.ow i s l (own h os) os g), fun a o ha => ?_, fun a sa => (R.sr a sa).imp id (hzn a).mpr⟩
    · rw [List.getElem?_map] at h
      cases e : Γ[i]? with
      | none => rw [e] at h; cases h
      | some t =>
        rw [e] at h
        have h := Option.some.inj h
        subst h
        have q := R.sl i t e
        cases t with
        | no => exact trivial
        | val i x => obtain ⟨v, ev, r⟩ := q; exact ⟨v, ev, i.fr up hv r⟩
        | own i xs => obtain ⟨l, us, ev, n, hl, r⟩ := q; exact ⟨l, us, ev, n, by rw [upd_ne (nd n)]; exact hl, paired_mono r fun _ _ => i.fr up hv⟩
        | dct i ps => obtain ⟨l, us, ev, sl, hl, r⟩ := q; exact ⟨l, us, ev, sl, dk hl, @RpD.fr _ i _ _ _ _ _ _ _ up hv r⟩
        | dcf i ps =>
          obtain ⟨l, us, ev, sl, hl, r⟩ := q
          refine ⟨l, us, ev, sl, ?_, @RpD.fr _ i _ _ _ _ _ _ _ up hv r⟩
          rcases hl with hl | ⟨o, hl⟩
          · exact dk hl
          · exact .inr ⟨o, (keep hl).elim (fun z => nomatch z.2) id⟩
        | odc i ps => obtain ⟨l, us, ev, n, hl, r⟩ := q; exact ⟨l, us, ev, n, by rw [upd_ne (nd n)]; exact hl, @RpD.fr _ i _ _ _ _ _ _ _ up hv r⟩
    · by_cases ad : a = d
      · rw [ad, upd_same]; simp
      · rw [upd_ne ad]; exact R.dm a sa
    · by_cases ad : a = d
      · subst ad
        have ha : (if a = a then (match H0 a with | none => none | some _ => some (.frz od (.dK kvs))) else H0 a) = some o := ha
        rw [if_pos rfl] at ha
        cases h0 : H0 a with
        | none => rw [h0] at ha; cases ha
        | some u => rw [h0] at ha; rw [upd_same]; exact ha
      · rw [hzx a ad] at ha
        rw [upd_ne ad]
        exact R.ex a o ha
  -- back
  have back : ∀ {H'}, Ex Hz H' → H' d = some (.frz od (.dK kvs)) → Ex H0 (upd H' d (.dK kvs)) := fun {H'} e hz a o ha => by
    by_cases ad : a = d
    · subst ad
      have := R.ex a o ha
      rw [hd'] at this
      rw [upd_same]; exact this
    · rw [upd_ne ad]
      exact e a o (by rw [hzx a ad]; exact ha)
  have bkeep : ∀ {H' : Hp}, H' d = some (.frz od (.dK kvs)) → ∀ {a u}, H' a = some u → (∀ kv, u ≠ .frz od (.dK kv)) → upd H' d (.dK kvs) a = some u := fun {H'} hz {a u} hu hne => by
    by_cases ad : a = d
    · subst ad
      rw [hz] at hu
      exact absurd (Option.some.inj hu).symm (hne kvs)
    · rw [upd_ne ad]; exact hu
  have bfv : ∀ {H' : Hp} {T : Ft}, H' d = some (.frz od (.dK kvs)) → Fv T H' (upd H' d (.dK kvs)) := fun {H' T} hz a _ => ⟨fun xs z => bkeep hz z (fun _ e => nomatch e), fun xs z => bkeep hz z (fun _ e => nomatch e), fun o xs z => bkeep hz z (fun _ e => nomatch e), fun _ _ _ z => bkeep hz z (fun _ e => nomatch e)⟩
  have sdz : ∀ {H2 : Hp}, Ex (upd H d (.frz od (.dK kvs))) H2 → grw S (upd H d (.frz od (.dK kvs))) H2 d := fun {H2} e => ⟨by rw [e d _ hfz]; simp, .inl sd⟩
  have sup : ∀ {H2 : Hp}, Ex (upd H d (.frz od (.dK kvs))) H2 → ∀ a, S a → grw S (upd H d (.frz od (.dK kvs))) H2 a := fun {H2} e => grw_up R1.dm e
  refine si_keys (S := S) (H := H) hfz r (at_some hσ) (fun a => a = d) rfl _ fun J H2 G Y e2 w st it => ?_
  have stay : ∀ {H3 : Hp}, Fr (grw S (upd H d (.frz od (.dK kvs))) H2) H2 H3 → Fr (fun a => a = d ∨ upd H d (.frz od (.dK kvs)) a = none) H2 H3 := fun {H3} f a o z z2 => by
    rcases z with z | z
    · subst z; exact f a o (sdz e2) z2
    · exact f a o ⟨by rw [z2]; simp, .inr z⟩ z2
  -- what S held ahead of the loop is held behind it
  have frS : ∀ {H' : Hp}, Fr (grw S (upd H d (.frz od (.dK kvs))) H2) H2 H' → Fr S H (upd H' d (.dK kvs)) := fun {H'} f a o sa ha => by
    by_cases ad : a = d
    · subst ad
      rw [hd'] at ha
      rw [upd_same]; exact ha
    · rw [upd_ne ad]
      exact f a o (sup e2 a sa) (e2 a o (by rw [upd_ne ad]; exact ha))
  have fin : ∀ s S' σ' H', StR c.K S0 Hz S' (Γl s) σ' H' → (∀ a, grw S (upd H d (.frz od (.dK kvs))) H2 a → S' a) → Fr (grw S (upd H d (.frz od (.dK kvs))) H2) H2 H' → OutOk (ρ := ρ) c.K S0 H0 S H fr Γl D (.nx s) → H' d = some (.frz od (.dK kvs)) ∧ D.nx σ' (upd H' d (.dK kvs)) := by
    intro s S' σ' H' R' up f q
    have fz : H' d = some (.frz od (.dK kvs)) := f d _ (sdz e2) (e2 d _ hfz)
    have sd' : S' d := up d (sdz e2)
    refine ⟨fz, q S' σ' _ ?_ (fun a z => up a (sup e2 a z)) (frS f)⟩
    have nd : ∀ {l}, ¬ S' l → l ≠ d := fun {l} n e => n (e ▸ sd')
    refine ⟨R'.len, fun i t h => ?_, fun a sa => ?_, R'.ap, fun i t l h ot g => (hzn l).mp (R'.ow i t l h ot g), back R'.ex fz, fun a sa => (R'.sr a sa).imp id (hzn a).mp⟩
    · have q := R'.sl i t h
      have upS : ∀ a, S' a → H' a ≠ none → S' a := fun _ z _ => z
      have dk : ∀ {l us}, Rd H' l (.dK us) → Rd (upd H' d (.dK kvs)) l (.dK us) := fun {l us} z => by
        by_cases ld : l = d
        · subst ld
          rcases z with z | ⟨o, z⟩
          · rw [fz] at z; cases z
          · rw [fz] at z; cases z; exact .inl upd_same
        · rcases z with z | ⟨o, z⟩
          · exact .inl (by rw [upd_ne ld]; exact z)
          · exact .inr ⟨o, by rw [upd_ne ld]; exact z⟩
      cases t with
      | no => exact trivial
      | val i x => obtain ⟨v, ev, r⟩ := q; exact ⟨v, ev, i.fr upS (bfv fz) r⟩
      | own i xs => obtain ⟨l, us, ev, n, hl, r⟩ := q; exact ⟨l, us, ev, n, by rw [upd_ne (nd n)]; exact hl, paired_mono r fun _ _ => i.fr upS (bfv fz)⟩
      | dct i ps =>
        obtain ⟨l, us, ev, sl, hl, r⟩ := q
        refine ⟨l, us, ev, sl, ?_, @RpD.fr _ i _ _ _ _ _ _ _ upS (bfv fz) r⟩
        have := bkeep fz hl (fun _ e => nomatch e)
        exact this
      | dcf i ps => obtain ⟨l, us, ev, sl, hl, r⟩ := q; exact ⟨l, us, ev, sl, dk hl, @RpD.fr _ i _ _ _ _ _ _ _ upS (bfv fz) r⟩
      | odc i ps => obtain ⟨l, us, ev, n, hl, r⟩ := q; exact ⟨l, us, ev, n, by rw [upd_ne (nd n)]; exact hl, @RpD.fr _ i _ _ _ _ _ _ _ upS (bfv fz) r⟩
    · by_cases ad : a = d
      · rw [ad, upd_same]; simp
      · rw [upd_ne ad]; exact R'.dm a sa
  refine for_it w (D := ⟨fun σ' H' => H' d = some (.frz od (.dK kvs)) ∧ D.nx σ' (upd H' d (.dK kvs)), fun v H' => H' d = some (.frz od (.dK kvs)) ∧ D.rt v (upd H' d (.dK kvs)), fun σ' H' => H' d = some (.frz od (.dK kvs)) ∧ D.bk σ' (upd H' d (.dK kvs)), fun σ' H' => H' d = some (.frz od (.dK kvs)) ∧ D.ct σ' (upd H' d (.dK kvs))⟩)
    (fun i σ' H' => ∃ s S', StR c.K S0 Hz S' (Γl s) σ' H' ∧ (∀ a, grw S (upd H d (.frz od (.dK kvs))) H2 a → S' a) ∧ Fr (grw S (upd H d (.frz od (.dK kvs))) H2) H2 H' ∧ loopML b s ((ps.map (·.1)).drop i) = some o)
    ⟨s0, _, (R1.grow e2).sub hsub, fun _ z => z, fun _ _ _ z => z, ho⟩ (fun i σ' H' _ ⟨s, S', _, _, f, _⟩ => st H' (stay f)) ?_ ?_
  · rintro i v σ' H3 H4 hi' ⟨s, S', R', up, f, hl⟩ y
    have hxi : (ps.map (·.1))[i]? = some (ps.map (·.1))[i] := List.getElem?_eq_getElem hi'
    rw [List.drop_eq_getElem_cons hi'] at hl
    obtain ⟨e34, rv⟩ := it i _ hxi H3 v H4 (stay f) y
    have R4 := R'.grow e34
    refine (tgo s).run S0 Hz _ σ' H4 v _ R4 (Rp.up (S := _) (fun a z z4 => ?_) rv) _ fun σ2 R2 _ => ?_
    · rcases z with ⟨z, z2⟩ | z
      · rcases z with z | z
        · subst z; exact ⟨z4, .inl (up a (sdz e2))⟩
        · exact ⟨z4, .inl (up a ⟨z2, .inr z⟩)⟩
      · exact ⟨z4, .inr z⟩
    have hl : (b s (ps.map (·.1))[i]).bind (OutL.go fun s' => loopML b s' ((ps.map (·.1)).drop (i + 1))) = some o := hl
    cases hbx : b s (ps.map (·.1))[i] with
    | none => rw [hbx] at hl; cases hl
    | some o' =>
      rw [hbx] at hl
      refine (hb s (ps.map (·.1))[i]).ev S0 Hz _ σ2 H4 R2 o' hbx _ ?_
      cases o' with
      | rt r =>
        cases hl
        refine fun v H' ex f2 z => ?_
        have fz : H' d = some (.frz od (.dK kvs)) := f2 d _ (grw_up R'.dm e34 d (up d (sdz e2))) (e34 d _ (f d _ (sdz e2) (e2 d _ hfz)))
        have f3 : Fr (grw S (upd H d (.frz od (.dK kvs))) H2) H2 H' := fun a o sa ha => f2 a o (grw_up R'.dm e34 a (up a sa)) (e34 a o (f a o sa ha))
        exact ⟨fz, q v _ (back ex fz) (frS f3) (RtU.fr hzn fz z)⟩
      | nx s' =>
        exact fun S5 σ5 H5 R5 up5 f5 => ⟨s', S5, R5, fun a z => up5 a (grw_up R'.dm e34 a (up a z)), fun a o z z2 => f5 a o (grw_up R'.dm e34 a (up a z)) (e34 a o (f a o z z2)), hl⟩
      | ct s' =>
        exact fun S5 σ5 H5 R5 up5 f5 => ⟨s', S5, R5, fun a z => up5 a (grw_up R'.dm e34 a (up a z)), fun a o z z2 => f5 a o (grw_up R'.dm e34 a (up a z)) (e34 a o (f a o z z2)), hl⟩
      | bk s' =>
        cases hl
        exact fun S5 σ5 H5 R5 up5 f5 => fin s' S5 σ5 H5 R5 (fun a z => up5 a (grw_up R'.dm e34 a (up a z))) (fun a o z z2 => f5 a o (grw_up R'.dm e34 a (up a z)) (e34 a o (f a o z z2))) q
  · rintro σ' H' ⟨s, S', R', up, f, hl⟩
    rw [List.drop_length] at hl
    cases hl
    exact fin s S' σ' H' R' up f q

end
end Sm
end

section
set_option maxRecDepth 100000
set_option maxHeartbeats 4000000
namespace Sm
open PySem L2

/-! ### objects of the program's own classes -/
def ClN (K : PySem.W.Frag) (nm : Str) (C : Addr) : Prop := PySem.W.nsIn K mainGlobals nm = some (some (.ref C))
theorem ClN.one {K : PySem.W.Frag} {nm : Str} {C D : Addr} (h : ClN K nm C) (h' : ClN K nm D) : D = C := by
  unfold ClN at h h'
  rw [h] at h'
  cases h'; rfl
def insR (K : PySem.W.Frag) (S : Ft) (H : Hp) (v : V) (nm : Str) (fs : List (Str × V)) : Prop := ∃ p C dx, v = .ref p ∧ S p ∧ ClN K nm C ∧ H p = some (.ins C dx fs)
theorem insR.fr {K : PySem.W.Frag} {S S' : Ft} {H H' : Hp} {v : V} {nm : Str} {fs : List (Str × V)} (hs : ∀ a, S a → H a ≠ none → S' a) (hf : Fv S H H') (h : insR K S H v nm fs) : insR K S' H' v nm fs := by
  obtain ⟨p, C, dx, e, sp, hc, hp⟩ := h
  exact ⟨p, C, dx, e, hs p sp (by rw [hp]; simp), hc, (hf p sp).2.2.2 _ _ _ hp⟩
/-- an object with no field, one, two -/
structure O0 (nm : Str) where
deriving Inhabited
structure O1 (nm f : Str) (α : Type) where
  x : α
deriving Inhabited
structure O2 (nm f g : Str) (α β : Type) where
  x : α
  y : β
deriving Inhabited
instance rpO0 {nm : Str} : Rp (O0 nm) := ⟨fun K S H v _ => insR K S H v nm [], fun hs hf h => insR.fr hs hf h⟩
instance rpO1 {nm f : Str} {α : Type} [Rp α] : Rp (O1 nm f α) := ⟨fun K S H v o => ∃ w, insR K S H v nm [(f, w)] ∧ Rp.r K S H w o.x, fun hs hf ⟨w, h, r⟩ => ⟨w, insR.fr hs hf h, Rp.fr hs hf r⟩⟩
instance rpO2 {nm f g : Str} {α β : Type} [Rp α] [Rp β] : Rp (O2 nm f g α β) := ⟨fun K S H v o => ∃ w u, insR K S H v nm [(f, w), (g, u)] ∧ Rp.r K S H w o.x ∧ Rp.r K S H u o.y, fun hs hf ⟨w, u, h, r, t⟩ => ⟨w, u, insR.fr hs hf h, Rp.fr hs hf r, Rp.fr hs hf t⟩⟩
/-- one of two kinds -/
inductive Or2 (α β : Type)
  | l (x : α)
  | r (y : β)
instance {α β : Type} [Inhabited α] : Inhabited (Or2 α β) := ⟨.l default⟩
def Or2.getL {α β : Type} : Or2 α β → Option α
  | .l x => some x
  | .r _ => none
def Or2.getR {α β : Type} : Or2 α β → Option β
  | .l _ => none
  | .r y => some y
def Or2.el {α β γ : Type} (f : α → γ) (g : β → γ) : Or2 α β → γ
  | .l x => f x
  | .r y => g y
instance rpOr2 {α β : Type} [i : Rp α] [j : Rp β] : Rp (Or2 α β) := ⟨fun K S H v o => match o with
  | .l x => i.r K S H v x
  | .r y => j.r K S H v y, fun {K S S' H H' v o} hs hf h => by
  cases o with
  | l x => exact i.fr hs hf h
  | r y => exact j.fr hs hf h⟩
/-- what the program's text has of a class -/
structure TyC (K : PySem.W.Frag) (C : Addr) : Prop where
  ha : PySem.W.findIn K (.ref C) "__class__" = some (some (.builtin "object.__class__"))
  hn : PySem.W.specialIn K (.builtin "object.__class__") "__get__" = some (some (.builtin "getset_descriptor.__get__"))
  htk : PySem.W.takesIn K (.builtin "object.__class__") = some true
  hm : PySem.W.mroIn K C (.type "object") = some true
structure ClF (K : PySem.W.Frag) (mg : Str → Option Value) (nm : Str) : Prop where
  ex : ∃ C, ClN K nm C ∧ mg nm = some (.ref C) ∧ Cls K C ∧ TyC K C
theorem ClF.at {K : PySem.W.Frag} {mg : Str → Option Value} {nm : Str} (h : ClF K mg nm) {C : Addr} (hc : ClN K nm C) : mg nm = some (.ref C) ∧ Cls K C ∧ TyC K C := by
  obtain ⟨D, h1, h2⟩ := h.ex
  rw [hc.one h1] at h2
  exact h2
/-- no class has the name f -/
def NoA (K : PySem.W.Frag) (nm f : Str) : Prop := ∀ C, ClN K nm C → NoAttr K C f
theorem NoA.of {K : PySem.W.Frag} {nm f : Str} {C : Addr} (hc : ClN K nm C) (h : NoAttr K C f) : NoA K nm f := fun D hd => by
  rw [hc.one hd]; exact h
/-- whether an object of class nm (a thing of the built-in type ty) is one of class cn -/
def KiC (K : PySem.W.Frag) (nm cn : Str) (b : Bool) : Prop := ∀ C D, ClN K nm C → ClN K cn D → PySem.W.kitOne K (.ref C) (.ref D) = some b
def KiB (K : PySem.W.Frag) (ty : String) (cn : Str) (b : Bool) : Prop := ∀ D, ClN K cn D → PySem.W.kitOne K (.type ty) (.ref D) = some b
theorem KiC.of {K : PySem.W.Frag} {nm cn : Str} {b : Bool} {C D : Addr} (hc : ClN K nm C) (hd : ClN K cn D) (h : PySem.W.kitOne K (.ref C) (.ref D) = some b) : KiC K nm cn b := fun C' D' h1 h2 => by
  rw [hc.one h1, hd.one h2]; exact h
theorem KiB.of {K : PySem.W.Frag} {ty : String} {cn : Str} {b : Bool} {D : Addr} (hd : ClN K cn D) (h : PySem.W.kitOne K (.type ty) (.ref D) = some b) : KiB K ty cn b := fun D' h2 => by
  rw [hd.one h2]; exact h
section
variable {c : Stc} {Γ : List Sl} {e e' : Expr} {es : List Expr} {te tf : TE} {ma mb : Md} {pos : Pos} {nm f g : Str} {α β γ : Type} [Rp α] [Rp β] [Rp γ]
/-! ### casts -/
theorem je_inl {m : Option α} (h : JE c e te Γ ma m) : JE c e te Γ ma (m.bind fun x => some (Or2.l (β := β) x)) :=
  ⟨h.pe, fun S0 H0 S σ H R z hz H1 e1 Q q => by
    cases h1 : m with
    | none => rw [h1] at hz; cases hz
    | some x =>
      rw [h1] at hz; cases hz
      exact h.ev S0 H0 S σ H R _ h1 H1 e1 Q fun v H2 e2 r => q v H2 e2 r⟩
theorem je_inr {m : Option β} (h : JE c e te Γ ma m) : JE c e te Γ ma (m.bind fun x => some (Or2.r (α := α) x)) :=
  ⟨h.pe, fun S0 H0 S σ H R z hz H1 e1 Q q => by
    cases h1 : m with
    | none => rw [h1] at hz; cases hz
    | some x =>
      rw [h1] at hz; cases hz
      exact h.ev S0 H0 S σ H R _ h1 H1 e1 Q fun v H2 e2 r => q v H2 e2 r⟩
theorem je_getL {m : Option (Or2 α β)} (h : JE c e te Γ ma m) : JE c e te Γ ma (m.bind Or2.getL) :=
  ⟨h.pe, fun S0 H0 S σ H R z hz H1 e1 Q q => by
    cases h1 : m with
    | none => rw [h1] at hz; cases hz
    | some x =>
      rw [h1] at hz
      cases x with
      | r y => cases hz
      | l y =>
        cases hz
        exact h.ev S0 H0 S σ H R _ h1 H1 e1 Q fun v H2 e2 r => q v H2 e2 r⟩
theorem je_getR {m : Option (Or2 α β)} (h : JE c e te Γ ma m) : JE c e te Γ ma (m.bind Or2.getR) :=
  ⟨h.pe, fun S0 H0 S σ H R z hz H1 e1 Q q => by
    cases h1 : m with
    | none => rw [h1] at hz; cases hz
    | some x =>
      rw [h1] at hz
      cases x with
      | l y => cases hz
      | r y =>
        cases hz
        exact h.ev S0 H0 S σ H R _ h1 H1 e1 Q fun v H2 e2 r => q v H2 e2 r⟩
/-- two ways to read one expression -/
theorem je_two {m m1 m2 : Option α} (h1 : JE c e te Γ ma m1) (h2 : JE c e tf Γ ma m2) (hm : ∀ z, m = some z → m1 = some z ∨ m2 = some z) : JE c e (fun σ H Q => te σ H Q ∨ tf σ H Q) Γ ma m :=
  ⟨fun X F => ⟨fun pins s σ H Q I h => h.elim (fun h => (h1.pe X F).run pins s σ H Q I h) fun h => (h2.pe X F).run pins s σ H Q I h⟩, fun S0 H0 S σ H R z hz H1 e1 Q q => by
    rcases hm z hz with hz | hz
    · exact .inl (h1.ev S0 H0 S σ H R z hz H1 e1 Q q)
    · exact .inr (h2.ev S0 H0 S σ H R z hz H1 e1 Q q)⟩
theorem two_hm {α β A ρ : Type} {mr : Option (Or2 α β)} {ma : Option A} {f : α × A → Option ρ} {g : β × A → Option ρ} : ∀ z, (mr.bind fun r => ma.bind fun y => Or2.el (fun x => f (x, y)) (fun x => g (x, y)) r) = some z →
    (((mr.bind Or2.getL).bind fun x => ma.bind fun y => some (x, y)).bind f) = some z ∨ (((mr.bind Or2.getR).bind fun x => ma.bind fun y => some (x, y)).bind g) = some z := fun z h => by
  cases mr with
  | none => cases h
  | some r =>
    cases ma with
    | none => cases r <;> cases h
    | some y =>
      cases r with
      | l x => exact .inl h
      | r x => exact .inr h
/-! ### fields -/
theorem je_fld {o : Expr} (g : α → β) (hi : ∀ S H v x, Rp.r c.K S H v x → ∃ p C dx fs w, v = .ref p ∧ ClN c.K nm C ∧ H p = some (.ins C dx fs) ∧ fs.lookup f = some w ∧ Rp.r c.K S H w (g x)) (hc : ClF c.K c.mg nm) (hn : NoA c.K nm f) {m : Option α} (h : JE c o te Γ ma m)
    (hb : ∀ env, attributeBase o f env (eval o env) = eval o env := by intro _; rfl) : JE c (.Attribute o f pos) (tFld c.K te f) Γ ma (m.bind fun x => some (g x)) :=
  ⟨fun X F => by rw [← F.hK]; exact pe_fld (h.pe X F) (hb _), fun S0 H0 S σ H R z hz H1 e1 Q q => by
    cases h1 : m with
    | none => rw [h1] at hz; cases hz
    | some x =>
      rw [h1] at hz; cases hz
      refine h.ev S0 H0 S σ H R x h1 H1 e1 _ fun v H2 e2 r => ?_
      obtain ⟨p, C, dx, fs, w, rfl, hC, hp, hl, rw_⟩ := hi _ _ _ _ r
      exact ⟨p, C, dx, fs, w, rfl, hp, (hc.at hC).2.1, hn C hC, hl, q w H2 e2 rw_⟩⟩
theorem fl1 {K : PySem.W.Frag} (S : Ft) (H : Hp) (v : V) (x : O1 nm f α) (h : Rp.r K S H v x) : ∃ p C dx fs w, v = .ref p ∧ ClN K nm C ∧ H p = some (.ins C dx fs) ∧ fs.lookup f = some w ∧ Rp.r K S H w x.x := by
  obtain ⟨w, ⟨p, C, dx, e, _, hc, hp⟩, r⟩ := h
  exact ⟨p, C, dx, _, w, e, hc, hp, by simp [List.lookup], r⟩
theorem fl2a {K : PySem.W.Frag} (S : Ft) (H : Hp) (v : V) (x : O2 nm f g α β) (h : Rp.r K S H v x) : ∃ p C dx fs w, v = .ref p ∧ ClN K nm C ∧ H p = some (.ins C dx fs) ∧ fs.lookup f = some w ∧ Rp.r K S H w x.x := by
  obtain ⟨w, u, ⟨p, C, dx, e, _, hc, hp⟩, r, t⟩ := h
  exact ⟨p, C, dx, _, w, e, hc, hp, by simp [List.lookup], r⟩
theorem fl2b {K : PySem.W.Frag} (hfg : (g == f) = false) (S : Ft) (H : Hp) (v : V) (x : O2 nm f g α β) (h : Rp.r K S H v x) : ∃ p C dx fs w, v = .ref p ∧ ClN K nm C ∧ H p = some (.ins C dx fs) ∧ fs.lookup g = some w ∧ Rp.r K S H w x.y := by
  obtain ⟨w, u, ⟨p, C, dx, e, _, hc, hp⟩, r, t⟩ := h
  exact ⟨p, C, dx, _, u, e, hc, hp, by simp [List.lookup, hfg], t⟩
/-- the class nm as a value -/
def tCls (K : PySem.W.Frag) (nm : Str) : TE := fun _ H Q => ∀ C, ClN K nm C → Q (.ref C) H
theorem pe_cls {X : Cx} {nm : Str} {C : Addr} {p : Pos} (h : ClN c.K nm C) (hp : PE X (.Name nm p) (tC (.ref C))) : PE X (.Name nm p) (tCls c.K nm) := ⟨fun pins s σ H Q I q => hp.run pins s σ H Q I (q C h)⟩
/-! ### isinstance of an own class -/
def TiQ (K : PySem.W.Frag) (cn : Str) (α : Type) [Rp α] (g : α → Bool) : Prop := ∀ S H v x D, ClN K cn D → Rp.r K S H v x → ∃ t, TyX K H v t ∧ PySem.W.kitOne K t (.ref D) = some (g x)
theorem ti_ins {K : PySem.W.Frag} {mg : Str → Option Value} {nm cn : Str} {b : Bool} (hc : ClF K mg nm) (k : KiC K nm cn b) {S : Ft} {H : Hp} {v : V} {fs : List (Str × V)} {D : Addr} (hD : ClN K cn D) (h : insR K S H v nm fs) : ∃ t, TyX K H v t ∧ PySem.W.kitOne K t (.ref D) = some b := by
  obtain ⟨p, C, dx, rfl, _, hC, hp⟩ := h
  obtain ⟨_, cl, t⟩ := hc.at hC
  exact ⟨_, .base (.ins hp cl t.ha t.hn t.htk t.hm), k C D hC hD⟩
theorem ti_o0 {K : PySem.W.Frag} {mg : Str → Option Value} {nm cn : Str} {b : Bool} (hc : ClF K mg nm) (k : KiC K nm cn b) : TiQ K cn (O0 nm) (fun _ => b) := fun S H v x D hD h => ti_ins hc k hD h
theorem ti_o1 {K : PySem.W.Frag} {mg : Str → Option Value} {nm cn : Str} {b : Bool} (hc : ClF K mg nm) (k : KiC K nm cn b) : TiQ K cn (O1 nm f α) (fun _ => b) := fun S H v x D hD h => ti_ins hc k hD h.choose_spec.1
theorem ti_o2 {K : PySem.W.Frag} {mg : Str → Option Value} {nm cn : Str} {b : Bool} (hc : ClF K mg nm) (k : KiC K nm cn b) : TiQ K cn (O2 nm f g α β) (fun _ => b) := fun S H v x D hD h => ti_ins hc k hD h.choose_spec.choose_spec.1
theorem ti_or {K : PySem.W.Frag} {cn : Str} {g : α → Bool} {g' : β → Bool} (h1 : TiQ K cn α g) (h2 : TiQ K cn β g') : TiQ K cn (Or2 α β) (Or2.el g g') := fun S H v x D hD h => by
  cases x with
  | l x => exact h1 S H v x D hD h
  | r x => exact h2 S H v x D hD h
theorem ti_knd {K : PySem.W.Frag} {cn : Str} {b : Bool} [n : Knd α] (k : KiB K n.ty cn b) : TiQ K cn α (fun _ => b) := fun S H v x D hD h => ⟨_, n.is h, k D hD⟩
theorem je_isiC {cn : Str} {g : α → Bool} {m : Option α} {p p2 : Pos} (hm : c.mg "isinstance" = none) (hc : ClF c.K c.mg cn) (ht : TiQ c.K cn α g) (h : JE c e te Γ ma m) (hg : GlS c.sc "isinstance" := by rfl) (hg2 : GlS c.sc cn := by rfl)
    (hs : ∀ env, starEach (e :: [.Name cn p2]) env = (false, eval e env) :: starEach [.Name cn p2] env := by intro _; rfl) (hd : (cn == ("__debug__" : Str)) = false := by decide) :
    JE c (.Call (.Name "isinstance" p) [e, .Name cn p2] [] pos) (tCB (rIsi c.K) (tCons te (tCons (tCls c.K cn) tNil))) Γ .fr (m.bind fun x => some (g x)) :=
  ⟨fun X F => by
    obtain ⟨C, hC, hmC, _⟩ := hc.ex
    rw [← F.hK]
    exact pe_callB call_isi (F.gl hg) (by rw [F.hmg]; exact hm) (by decide +kernel) (pa_cons (h.pe X F) (pa_cons (by rw [F.hK]; exact pe_cls hC (pe_glob (F.gl hg2) (by rw [F.hmg]; exact hmC) rfl hd)) pa_nil) (hs _)) (by decide) (by decide) (hs _) rfl, fun S0 H0 S σ H R z hz H1 e1 Q q => by
    cases h1 : m with
    | none => rw [h1] at hz; cases hz
    | some x =>
      rw [h1] at hz
      have hz := Option.some.inj hz
      subst hz
      refine h.ev S0 H0 S σ H R x h1 H1 e1 _ fun v H2 e2 r => ?_
      intro C hC
      obtain ⟨t, ty, kit⟩ := ht _ _ _ _ _ hC r
      exact ⟨v, _, t, _, g x, rfl, .own _, ty, kit, q _ H2 e2 rfl⟩⟩
/-! ### methods -/
/-- a method of class nm by its name -/
def DnM (P : Program) (w : World) (K : PySem.W.Frag) (mg : Str → Option Value) (base : Heap) (nm me : Str) (k : Nat) (sp : Sp) : Prop :=
  ∃ C f fd ps, ClN K nm C ∧ Cls K C ∧ Meth K C me f ∧ FnOk P w K mg base CX0 k f fd ps sp ∧ Binds K fd ps []
/-- an object of class nm without a field me -/
def InsQ (K : PySem.W.Frag) (nm me : Str) (α : Type) [Rp α] : Prop := ∀ S H v (x : α), Rp.r K S H v x → ∃ p C dx fs, v = .ref p ∧ ClN K nm C ∧ H p = some (.ins C dx fs) ∧ fs.lookup me = none
theorem iq_0 {K : PySem.W.Frag} {me : Str} : InsQ K nm me (O0 nm) := fun S H v x ⟨p, C, dx, e, _, hc, hp⟩ => ⟨p, C, dx, _, e, hc, hp, rfl⟩
theorem iq_1 {K : PySem.W.Frag} {me : Str} (h : (me == f) = false := by decide) : InsQ K nm me (O1 nm f α) := fun S H v x ⟨w, ⟨p, C, dx, e, _, hc, hp⟩, _⟩ => ⟨p, C, dx, _, e, hc, hp, by simp [List.lookup, h]⟩
theorem iq_2 {K : PySem.W.Frag} {me : Str} (h : (me == f) = false := by decide) (h' : (me == g) = false := by decide) : InsQ K nm me (O2 nm f g α β) := fun S H v x ⟨w, u, ⟨p, C, dx, e, _, hc, hp⟩, _⟩ => ⟨p, C, dx, _, e, hc, hp, by simp [List.lookup, h, h']⟩
theorem je_meth {A ρ : Type} [Rp ρ] {o : Expr} {ta : TA} {G : PySem.W.Frag → Ft → Hp → List V → A → Prop} [Gk G] {fr : Bool} {mf : α × A → Option ρ} {m : Option α} {mp : Option A} {me : Str} {k : Nat} {apos : Pos} (D : DnM c.P c.w c.K c.mg c.base nm me k (spOf c.K (GC α G) fr mf)) (hi : InsQ c.K nm me α) (h : JE c o te Γ ma m) (ha : JA c (e :: es) ta Γ mb mp G) (hk : k ≤ c.k := by exact Nat.le_of_ble_eq_true rfl)
    (hst : ∀ env, starEach (e :: es) env = (false, eval e env) :: starEach es env := by intro _; rfl) (hpl : ∀ (env : Env) (p : Pos), (backTo p (starEach es env)).any (·.1) = false := by intro _ _; rfl)
    (ht : ∀ env, ∃ pl : Sem Bool, eval (.Call (.Attribute o me apos) (e :: es) [] pos) env = (do
      let ov ← eval o env
      standAt apos.atName
      let (f, first) ← holding [ov] (getMethod ov me pl)
      callWith pos f first (backTo pos (starEach (e :: es) env)) (backToKw pos (keywordEach [] env))) := by intro _; exact ⟨_, rfl⟩) :
    JE c (.Call (.Attribute o me apos) (e :: es) [] pos) (fun σ H Q => ∀ C, ClN c.K nm C → tMeth C me (spOf c.K (GC α G) fr mf) [] E0 te ta σ H Q) Γ (cMd fr (ma.sup mb)) ((m.bind fun x => mp.bind fun y => some (x, y)).bind mf) :=
  ⟨fun X F => by
    obtain ⟨C, f, fd, ps, hC, cl, M, G', b⟩ := D
    have G'' : FnOk X.prog X.w X.K X.mg X.base CX0 k f fd ps (spOf c.K (GC α G) fr mf) := by
      rw [F.hP, F.hw, F.hK, F.hmg, F.hb]; exact G'
    obtain ⟨pl, ht'⟩ := ht X.env
    refine ⟨fun pins s σ H Q I hq => ?_⟩
    refine PE.run ?_ pins s σ H Q I (hq C hC)
    exact pe_meth (pl := pl) (h.pe X F) (by rw [F.hK]; exact cl) (by rw [F.hK]; exact M) G'' (F.room.mono hk) (by rw [F.hK]; exact b) .nil pass0 (ha.pa X F) (hst _) (hpl _ _) ht', fun S0 H0 S σ H R z hz H1 e1 Q q => by
    cases h1 : m with
    | none => rw [h1] at hz; cases hz
    | some x =>
      cases h2 : mp with
      | none => rw [h1, h2] at hz; cases hz
      | some y =>
        rw [h1, h2] at hz
        have hz : mf (x, y) = some z := hz
        intro C hC
        refine h.ev S0 H0 S σ H R x h1 H1 e1 _ fun v H2 e2 r => ?_
        obtain ⟨p, C', dx, fs, rfl, hC', hp, hl⟩ := hi _ _ _ _ r
        have ec : C' = C := hC.one hC'
        subst ec
        refine ⟨p, dx, fs, rfl, hp, hl, ?_⟩
        refine ha.ev S0 H0 S σ H R y h2 H2 (e1.trans e2) _ fun vs H3 e3 r3 => ?_
        have e23 := e2.trans e3
        refine ⟨(x, y), z, fun a => nw (Sof (ma.sup mb) S H) H1 a ∧ H3 a ≠ none, hz, fun a z => z.2, by rw [List.append_nil]; exact ⟨_, vs, rfl, Rp.up (fun a z z2 => ⟨nw_up Sof.l a z, z2⟩) (Rp.ex e3 r), Gk.fr (fun a z z2 => ⟨nw_ex e2 a (nw_up Sof.r a z), z2⟩) (Evl.Ex.refl H3) r3⟩, fun v H4 e4 r4 => ?_⟩
        refine q v H4 (e23.trans e4) (Rp.up (fun a z _ => ?_) r4)
        rcases z with z | z
        · cases fr with
          | true => exact z.elim
          | false => exact z.1
        · exact .inr (Evl.fresh_back e23 z)⟩
/-! ### new objects -/
/-- a class by its name: what its __init__ makes of the arguments -/
def spMk {A ρ : Type} [Rp ρ] (K : PySem.W.Frag) (nm : Str) (G : PySem.W.Frag → Ft → Hp → List V → A → Prop) (m : A → Option ρ) : Sp := fun vs H Q _ =>
  ∃ p C dx vs' a r S, vs = .ref p :: vs' ∧ ClN K nm C ∧ H p = some (.ins C dx []) ∧ (∀ b, S b → H b ≠ none ∧ b ≠ p) ∧ G K S H vs' a ∧ m a = some r ∧ ∀ H', (∀ b o, b ≠ p → H b = some o → H' b = some o) → Rp.r K (fun b => b = p ∨ H b = none) H' (.ref p) r → Q .non H'
def DnC (P : Program) (w : World) (K : PySem.W.Frag) (mg : Str → Option Value) (base : Heap) (nm : Str) (k : Nat) (sp : Sp) : Prop :=
  ∃ C f fd ps, ClN K nm C ∧ mg nm = some (.ref C) ∧ Mk K C f ∧ FnOk P w K mg base CX0 k f fd ps sp ∧ Binds K fd ps []
theorem je_make {A ρ : Type} [Rp ρ] {ta : TA} {G : PySem.W.Frag → Ft → Hp → List V → A → Prop} [Gk G] {mf : A → Option ρ} {mp : Option A} {k : Nat} {p : Pos} (D : DnC c.P c.w c.K c.mg c.base nm k (spMk c.K nm G mf)) (ha : JA c (e :: es) ta Γ mb mp G) (hk : k + 1 ≤ c.k := by exact Nat.le_of_ble_eq_true rfl) (hg : GlS c.sc nm := by rfl)
    (hd : (nm == ("__debug__" : Str)) = false := by decide) (he : ∀ env, starEach (e :: es) env = (false, eval e env) :: starEach es env := by intro _; rfl) (hpl : ∀ (env : Env) (p : Pos), (backTo p (starEach es env)).any (·.1) = false := by intro _ _; rfl) :
    JE c (.Call (.Name nm p) (e :: es) [] pos) (fun σ H Q => ∀ C, ClN c.K nm C → tMake C (spMk c.K nm G mf) [] E0 ta σ H Q) Γ .fr (mp.bind mf) :=
  ⟨fun X F => by
    obtain ⟨C, f, fd, ps, hC, hmg, M, G', b⟩ := D
    have G'' : FnOk X.prog X.w X.K X.mg X.base CX0 k f fd ps (spMk c.K nm G mf) := by
      rw [F.hP, F.hw, F.hK, F.hmg, F.hb]; exact G'
    refine ⟨fun pins s σ H Q I hq => ?_⟩
    refine PE.run ?_ pins s σ H Q I (hq C hC)
    exact pe_make (by rw [F.hK]; exact M) G'' (F.room.mono hk) (F.gl hg) (by rw [F.hmg]; exact hmg) (by rw [F.hK]; exact b) .nil pass0 (ha.pa X F) hd (he _) (hpl _ _), fun S0 H0 S σ H R z hz H1 e1 Q q => by
    cases h2 : mp with
    | none => rw [h2] at hz; cases hz
    | some y =>
      rw [h2] at hz
      have hz : mf y = some z := hz
      intro C hC
      refine ha.ev S0 H0 S σ H R y h2 H1 e1 _ fun vs H2 e2 r => ?_
      intro x dx hx hdx hne
      have ex1 : Ex H2 (upd H2 dx (.own x)) := Evl.Ex.new hdx
      have hx1 : (upd H2 dx (.own x)) x = none := by rw [upd_ne (fun e => hne e.symm)]; exact hx
      have ex2 : Ex H2 (upd (upd H2 dx (.own x)) x (.ins C dx [])) := ex1.trans (Evl.Ex.new hx1)
      have fresh : ∀ b, (upd (upd H2 dx (.own x)) x (.ins C dx [])) b = none → H1 b = none := fun b hb => Evl.fresh_back (e2.trans ex2) hb
      refine ⟨x, C, dx, vs, y, z, fun a => H2 a ≠ none, by rw [List.append_nil], hC, upd_same, fun a za => ⟨?_, fun ea => za (ea ▸ hx)⟩, Gk.fr (fun a _ z2 => z2) ex2 r, hz, fun H' hkp rr => ⟨rfl, ?_⟩⟩
      · cases q2 : H2 a with
        | none => exact absurd q2 za
        | some o => rw [ex2 a o q2]; simp
      · refine q _ H' (fun a o ha' => ?_) (Rp.up (fun a z _ => .inr ?_) rr)
        · have h2 := e2 a o ha'
          have : a ≠ x := fun ea => by rw [ea, hx] at h2; cases h2
          exact hkp a o this (ex2 a o h2)
        · rcases z with z | z
          · subst z; exact Evl.fresh_back e2 hx
          · exact fresh a z⟩
end

/-! ### an __init__ that stores one thing, two things -/
section
variable {P : Program} {w : World} {K : PySem.W.Frag} {mg : Str → Option Value} {base : Heap} {qual nm : Str} {st : Stmt} {f : Addr} {fd : FuncData} {k : Nat}
theorem init_st {P' : Type} {G : PySem.W.Frag → Ft → Hp → List V → P' → Prop} [g : GA G] {S : Ft} {H : Hp} {p : Addr} {vs : List V} {a : P'} {N : List Str} (hg : G K S H vs a) (hS : ∀ b, S b → H b ≠ none) (hN : N.length = vs.length + 1) :
    StR K S H S (Sl.no :: g.A a) (start N (.ref p :: vs)) H := by
  have q := g.of hg
  have no : ∀ {i : Nat} {s : Sl}, (Sl.no :: g.A a)[i]? = some s → s.isOwn = false := fun {i s} hi => by
    rcases List.mem_cons.mp (List.mem_of_getElem? hi) with m | m
    · rw [m]; rfl
    · exact q.no s m
  have hst : start N (.ref p :: vs) = some (V.ref p) :: vs.map some := by
    unfold L2.start
    rw [List.length_cons, hN, Nat.sub_self, List.replicate_zero, List.append_nil, List.map_cons]
  rw [hst]
  refine ⟨by rw [List.length_cons, List.length_cons, List.length_map, q.length], fun i s hi => ?_, hS, fun a b s t l _ ha _ os _ _ _ => (by rw [no ha] at os; cases os), fun j s l h os _ => (by rw [no h] at os; cases os), Evl.Ex.refl H, fun _ z => .inl z⟩
  cases i with
  | zero => cases hi; exact trivial
  | succ i =>
    rw [List.getElem?_cons_succ] at hi
    obtain ⟨v, hv, z⟩ := q.at hi
    have e : at_ (some (V.ref p) :: vs.map some) (i + 1) = some v := by
      unfold at_
      rw [List.getElem?_cons_succ, List.getElem?_map, hv] <;> rfl
    rw [e]; exact z
theorem ok_init1 {P' α : Type} [Rp α] {md : Md} {G : PySem.W.Frag → Ft → Hp → List V → P' → Prop} [g : GA G] {fl : Str} {ps : List Str} {e : Expr} {te : TE} {p1 p2 p3 : Pos} {m : P' → Option α} (F : Fun K "__init__" qual st f fd) (S : FnScope ("self" :: ps) ("self" :: ps) (defScope st))
    (hb : defBody st = [.Assign [.Attribute (.Name "self" p1) fl p2] e p3]) (hc : ClF K mg nm) (hn : NoA K nm fl) (hlen : ∀ a, (g.A a).length = ps.length)
    (h : ∀ a, JE ⟨P, w, K, mg, base, "self" :: ps, defScope st, fun _ => true, k⟩ e te (Sl.no :: g.A a) md (m a)) (hmd : md = .fr := by rfl) (hv : Vis (defScope st) "self" := by first | exact Or.inl rfl | exact Or.inr (Or.inl rfl) | exact Or.inr (Or.inr rfl))
    (hs : ∀ env, swapsWith e (some (.Attribute (.Name "self" p1) fl p2)) p3.line env = pure false := by intro _; rfl) :
    FnOk P w K mg base CX0 (k + 1) f fd ("self" :: ps) (spMk K nm G fun a => (m a).bind fun x => some (O1.mk (nm := nm) (f := fl) x)) := by
  subst hmd
  refine F.ok S (fun vs H Q E hh => ?_) fun cdv Ar outer s H vs Q E hr hh => ?_
  · obtain ⟨p, C, dx, vs', a, r, S', rfl, _, _, _, hg, _⟩ := hh
    rw [List.length_cons, List.length_cons, ga_len hg, hlen a]
  · obtain ⟨p, C, dx, vs', a, r, S', rfl, hC, hp, hS, hg, hm, q⟩ := hh
    rw [hb]
    have ps0 := fam_def (P := P) (w := w) (K := K) (mg := mg) (base := base) (N := "self" :: ps) (sc := defScope st) (cdv := cdv) (outer := outer) (s := s) (H := H) (E := E) hr
    refine ⟨_, pss_one (ps_fld (pe_var (i := 0) rfl (by rw [ps0.hsc]; exact hv) (by decide) (by decide)) ((h a).pe _ ps0) (hs _)), ?_⟩
    have hm : (m a).bind (fun x => some (O1.mk (nm := nm) (f := fl) x)) = some r := hm
    cases hma : m a with
    | none => rw [hma] at hm; cases hm
    | some x =>
      rw [hma] at hm
      cases hm
      have l2 : vs'.length = ps.length := (ga_len hg).trans (hlen a)
      refine (h a).ev S' H S' _ H (init_st (p := p) hg (fun b z => (hS b z).1) (by rw [List.length_cons, l2])) x hma H (Evl.Ex.refl H) _ fun v H1 e1 r1 => ?_
      have hp1 := e1 p _ hp
      obtain ⟨_, cl, _⟩ := hc.at hC
      refine ⟨_, rfl, p, C, dx, [], rfl, hp1, by rw [show (cxOf CX0 P w K mg base ("self" :: ps) qual (defScope st) f cdv Ar outer s H E).nox.K = K from rfl]; exact cl, hn C hC, by decide, ?_⟩
      have fresh : ∀ b, H b = none → b ≠ p := fun b hb' eb => by rw [eb, hp] at hb'; cases hb'
      have fv : Fv (nw (Sof .fr S' H) H) H1 (upd H1 p (.ins C dx [(fl, v)])) := fun b zb => by
        have nd : b ≠ p := zb.elim (fun z => z.elim) fun z => fresh b z
        exact ⟨fun _ z => by rw [upd_ne nd]; exact z, fun _ z => by rw [upd_ne nd]; exact z, fun _ _ z => by rw [upd_ne nd]; exact z, fun _ _ _ z => by rw [upd_ne nd]; exact z⟩
      refine q _ (fun b o nb hb' => by rw [show putF fl v [] = [(fl, v)] from rfl, upd_ne nb]; exact e1 b o hb') ⟨v, ⟨p, C, dx, rfl, .inl rfl, hC, upd_same⟩, Rp.fr (fun b z _ => .inr (z.elim (fun z => z.elim) id)) fv r1⟩
end

/-! ### a def with defaults -/
section
variable {P : Program} {w : World} {K : PySem.W.Frag} {mg : Str → Option Value} {base : Heap} {A ρ : Type} [Rp ρ] {G : PySem.W.Frag → Ft → Hp → List V → A → Prop} [g : GA G] {x qual : Str} {st : Stmt} {f : Addr} {fd : FuncData} {N ps : List Str} {k : Nat} {t : TS} {fr : Bool} {dvs : List V}
theorem def_okF {Γf : Unit → List Sl} {m : A → Option (Out Unit ρ)} (F : FunD K x qual (defArgs st) (defBody st) (defScope st) dvs [] f fd) (S : FnScope N ps (defScope st)) (hlen : ∀ p, (g.A p).length = ps.length) (h : ∀ p, JS ⟨P, w, K, mg, base, N, defScope st, fun _ => true, k⟩ (defBody st) t (g.A p ++ List.replicate (N.length - ps.length) .no) fr Γf (m p)) :
    FnOk P w K mg base CX0 (k + 1) f fd ps (spOf K G fr fun p => outR (m p)) := by
  refine F.ok S (fun vs H Q E ⟨p, r, S', _, _, hg, _⟩ => (ga_len hg).trans (hlen p)) fun cdv Ar outer s H vs Q E hr ⟨p, r, S', hm, hS, hg, q⟩ => ⟨t, ((h p).ps _ (fam_def hr)).nox, ?_⟩
  have hl : vs.length = ps.length := (ga_len hg).trans (hlen p)
  have hm : outR (m p) = some r := hm
  cases hmp : m p with
  | none => rw [hmp] at hm; cases hm
  | some o =>
    rw [hmp] at hm
    cases o with
    | nx s => cases hm
    | rt r' =>
      cases hm
      refine (h p).ev S' H S' _ H (st_start hg hS (by rw [hl])) _ hmp _ ?_
      exact fun v H' ex _ z => q v H' ex z
end
/-- a def by its name, called with its last parameters left out -/
def DnF (P : Program) (w : World) (K : PySem.W.Frag) (mg : Str → Option Value) (base : Heap) (x : Str) (k : Nat) (sp : Sp) (dvs : List V) : Prop :=
  ∃ f fd ps ds, FnOk P w K mg base CX0 k f fd ps sp ∧ mg x = some (.ref f) ∧ PySem.W.keepIn K (.ref f) = true ∧ Binds K fd ps ds ∧ Vals dvs ds
section
variable {c : Stc} {Γ : List Sl} {e : Expr} {es : List Expr} {te : TE} {ta : TA} {ma mb : Md} {pos : Pos}
theorem pe_dnF {X : Cx} (Fm : Fam c X) {k : Nat} {x : Str} {sp : Sp} {dvs : List V} {p : Pos} (D : DnF c.P c.w c.K c.mg c.base x k sp dvs) (hk : k ≤ c.k) (ha : PA X (e :: es) ta) (hg : GlS c.sc x) (hd : (x == ("__debug__" : Str)) = false) (he : ∀ env, starEach (e :: es) env = (false, eval e env) :: starEach es env)
    (hpl : ∀ (env : Env) (p : Pos), (backTo p (starEach es env)).any (·.1) = false) : PE X (.Call (.Name x p) (e :: es) [] pos) (tCall sp dvs E0 ta) := by
  obtain ⟨f, fd, ps, ds, F, hm, kp, b, v⟩ := D
  have F' : FnOk X.prog X.w X.K X.mg X.base CX0 k f fd ps sp := by
    rw [Fm.hP, Fm.hw, Fm.hK, Fm.hmg, Fm.hb]; exact F
  have b' : Binds X.K fd ps ds := by rw [Fm.hK]; exact b
  exact pe_call F' (Fm.room.mono hk) (Fm.gl hg) (by rw [Fm.hmg]; exact hm) (by rw [Fm.hK]; exact kp) b' v pass0 ha hd (he _) (hpl _ _)
/-- the arguments that are written and those that are filled up -/
def Fill {A B : Type} (K : PySem.W.Frag) (G : PySem.W.Frag → Ft → Hp → List V → A → Prop) (G' : PySem.W.Frag → Ft → Hp → List V → B → Prop) (dvs : List V) (fill : A → B) : Prop := ∀ S H vs a, G K S H vs a → G' K S H (vs ++ dvs) (fill a)
theorem je_callF {A P ρ : Type} [Rp ρ] {G0 : PySem.W.Frag → Ft → Hp → List V → A → Prop} [Gk G0] {G : PySem.W.Frag → Ft → Hp → List V → P → Prop} {fr : Bool} {m : P → Option ρ} {mp : Option A} {x : Str} {k : Nat} {p : Pos} {dvs : List V} (fill : A → P) (D : DnF c.P c.w c.K c.mg c.base x k (spOf c.K G fr m) dvs) (hf : Fill c.K G0 G dvs fill) (ha : JA c (e :: es) ta Γ ma mp G0) (hk : k ≤ c.k := by exact Nat.le_of_ble_eq_true rfl) (hg : GlS c.sc x := by rfl)
    (hd : (x == ("__debug__" : Str)) = false := by decide) (he : ∀ env, starEach (e :: es) env = (false, eval e env) :: starEach es env := by intro _; rfl) (hpl : ∀ (env : Env) (p : Pos), (backTo p (starEach es env)).any (·.1) = false := by intro _ _; rfl) :
    JE c (.Call (.Name x p) (e :: es) [] pos) (tCall (spOf c.K G fr m) dvs E0 ta) Γ (cMd fr ma) (mp.bind fun a => m (fill a)) :=
  ⟨fun X F => pe_dnF F D hk (ha.pa X F) hg hd he hpl, fun S0 H0 S σ H R z hz H1 e1 Q q => by
    cases h1 : mp with
    | none => rw [h1] at hz; cases hz
    | some y =>
      rw [h1] at hz
      refine ha.ev S0 H0 S σ H R y h1 H1 e1 _ fun vs H2 e2 r => ?_
      refine ⟨fill y, z, fun a => nw (Sof ma S H) H1 a ∧ H2 a ≠ none, hz, fun a z => z.2, hf _ _ _ _ (Gk.fr (fun a z z2 => ⟨z, z2⟩) (Evl.Ex.refl H2) r), fun v H3 e3 r3 => ?_⟩
      refine q v H3 (e2.trans e3) (Rp.up (fun a z _ => ?_) r3)
      rcases z with z | z
      · cases fr with
        | true => exact z.elim
        | false => exact z.1
      · exact .inr (Evl.fresh_back e2 z)⟩
end

/-! ### a list of three kinds -/
structure L3 (α β γ : Type) where
  a : α
  b : β
  c : γ
deriving Inhabited
instance rpL3 {α β γ : Type} [Rp α] [Rp β] [Rp γ] : Rp (L3 α β γ) where
  r K S H v x := ∃ p v1 v2 v3, v = .ref p ∧ S p ∧ H p = some (.lst [v1, v2, v3]) ∧ Rp.r K S H v1 x.a ∧ Rp.r K S H v2 x.b ∧ Rp.r K S H v3 x.c
  fr := fun hs hf ⟨p, v1, v2, v3, e, sp, hp, h1, h2, h3⟩ => ⟨p, v1, v2, v3, e, hs p sp (by rw [hp]; simp), (hf p sp).1 _ hp, Rp.fr hs hf h1, Rp.fr hs hf h2, Rp.fr hs hf h3⟩
instance datL3 {α β γ : Type} [Rp α] [Rp β] [Rp γ] [i : Dat α] [j : Dat β] [k : Dat γ] : Dat (L3 α β γ) where
  d x := .list [i.d x.a, j.d x.b, k.d x.c]
  ok x := i.ok x.a && (j.ok x.b && k.ok x.c)
  dp := max i.dp (max j.dp k.dp) + 1
  q x y := i.q x.a y.a && (j.q x.b y.b && k.q x.c y.c)
  tod := fun ⟨p, v1, v2, v3, e, _, hp, h1, h2, h3⟩ => e ▸ .lst (SqL.of hp) (.cons (i.tod h1) (.cons (j.tod h2) (.cons (k.tod h3) .nil)))
  lay := fun x h => by
    simp only [Bool.and_eq_true] at h
    simp [PyData.canLay0, PyData.canLayAll0, i.lay _ h.1, j.lay _ h.2.1, k.lay _ h.2.2]
  deep := fun x => by have h1 := i.deep x.a; have h2 := j.deep x.b; have h3 := k.deep x.c; simp only [PyData.depth, PyData.depthAll]; omega
  eqd := fun x y => by simp [PyData.eqv, PyData.eqvAll, i.eqd, j.eqd, k.eqd]
theorem l3a {K : PySem.W.Frag} {α β γ : Type} [Rp α] [Rp β] [Rp γ] (S : Ft) (H : Hp) (v : V) (x : L3 α β γ) (h : Rp.r K S H v x) : ∃ p vs w, v = .ref p ∧ H p = some (.lst vs) ∧ atI vs 0 = some w ∧ Rp.r K S H w x.a := by obtain ⟨p, v1, v2, v3, e, _, hp, h1, h2, h3⟩ := h; exact ⟨p, _, v1, e, hp, rfl, h1⟩
theorem l3b {K : PySem.W.Frag} {α β γ : Type} [Rp α] [Rp β] [Rp γ] (S : Ft) (H : Hp) (v : V) (x : L3 α β γ) (h : Rp.r K S H v x) : ∃ p vs w, v = .ref p ∧ H p = some (.lst vs) ∧ atI vs 1 = some w ∧ Rp.r K S H w x.b := by obtain ⟨p, v1, v2, v3, e, _, hp, h1, h2, h3⟩ := h; exact ⟨p, _, v2, e, hp, rfl, h2⟩
theorem l3c {K : PySem.W.Frag} {α β γ : Type} [Rp α] [Rp β] [Rp γ] (S : Ft) (H : Hp) (v : V) (x : L3 α β γ) (h : Rp.r K S H v x) : ∃ p vs w, v = .ref p ∧ H p = some (.lst vs) ∧ atI vs 2 = some w ∧ Rp.r K S H w x.c := by obtain ⟨p, v1, v2, v3, e, _, hp, h1, h2, h3⟩ := h; exact ⟨p, _, v3, e, hp, rfl, h3⟩
section
variable {c : Stc} {Γ : List Sl} {e : Expr} {es : List Expr} {ta : TA} {ma : Md} {α β γ : Type} [Rp α] [Rp β] [Rp γ] {pos : Pos}
theorem je_l3 {m : Option (α × β × γ × Unit)} (h : JA c es ta Γ ma m (GC α (GC β (GC γ GN)))) : JE c (.List es pos) (tLst ta) Γ ma (m.bind fun x => some (L3.mk x.1 x.2.1 x.2.2.1)) :=
  ⟨fun X F => pe_lst (h.pa X F), fun S0 H0 S σ H R z hz H1 e1 Q q => by
    cases h1 : m with
    | none => rw [h1] at hz; cases hz
    | some x =>
      rw [h1] at hz; cases hz
      refine h.ev S0 H0 S σ H R x h1 H1 e1 _ fun vs H2 e2 r => ?_
      obtain ⟨v1, _, rfl, g1, v2, _, rfl, g2, v3, _, rfl, g3, rfl⟩ := r
      refine ⟨by show 3 ≤ sizeLine; decide, fun p hp => ?_⟩
      have ex : Ex H2 (upd H2 p (.lst [v1, v2, v3])) := Evl.Ex.new hp
      exact q _ _ (e2.trans ex) ⟨p, v1, v2, v3, rfl, .inr (Evl.fresh_back e2 hp), upd_same, Rp.ex ex g1, Rp.ex ex g2, Rp.ex ex g3⟩⟩
end
end Sm
end

section
set_option maxRecDepth 100000
set_option maxHeartbeats 4000000
namespace Sm
open PySem L2
section
variable {c : Stc} {Γ : List Sl} {tg e a b : Expr} {te ta tb : TE} {ma mb : Md} {pos : Pos}
/-! ### what is never reached -/
theorem je_never {α : Type} [Rp α] : JE (α := α) c e (fun _ _ _ => False) Γ .fr none := ⟨fun _ _ => ⟨fun _ _ _ _ _ _ h => h.elim⟩, fun _ _ _ _ _ _ _ h => by cases h⟩
theorem jt_never : JT c e (fun _ _ _ => False) Γ none := ⟨fun _ _ => ⟨fun _ _ _ _ _ _ h => h.elim⟩, fun _ _ _ _ _ _ _ h => by cases h⟩
/-! ### range(a, b) -/
theorem ji_range2 {m1 m2 : Option Int} {p pos : Pos} (hm : c.mg "range" = none) (h1 : JE c a ta Γ ma m1) (h2 : JE c b tb Γ mb m2) (hg : GlS c.sc "range" := by rfl) (hs2 : ∀ env, starEach [b] env = (false, eval b env) :: starEach [] env := by intro _; rfl) (hs : ∀ env, starEach [a, b] env = (false, eval a env) :: starEach [b] env := by intro _; rfl) :
    JI c tg (.Call (.Name "range" p) [a, b] [] pos) (iRng2 (tCons ta (tCons tb tNil))) Γ .fr (m1.bind fun x => m2.bind fun y => if (0 ≤ x ∧ x ≤ 100000) ∧ (0 ≤ y ∧ y ≤ 100000) then some (rng x y) else none) :=
  ⟨fun X F => pi_range2 (F.gl hg) (by rw [F.hmg]; exact hm) (pa_cons (h1.pe X F) (pa_cons (h2.pe X F) pa_nil (hs2 _)) (hs _)) (by rw [hs, hs2] <;> rfl) (by rw [hs2] <;> rfl), fun S0 H0 S σ H R xs hx H1 e1 Rr q => by
    cases hm1 : m1 with
    | none => rw [hm1] at hx; cases hx
    | some x =>
      cases hm2 : m2 with
      | none => rw [hm1, hm2] at hx; cases hx
      | some y =>
        rw [hm1, hm2] at hx
        have hx : (if (0 ≤ x ∧ x ≤ 100000) ∧ (0 ≤ y ∧ y ≤ 100000) then some (rng x y) else none) = some xs := hx
        by_cases hn : ¬ ((0 ≤ x ∧ x ≤ 100000) ∧ (0 ≤ y ∧ y ≤ 100000))
        · rw [if_neg hn] at hx; cases hx
        have hn := Decidable.not_not.mp hn
        rw [if_pos hn] at hx
        have hx := Option.some.inj hx
        subst hx
        refine h1.ev S0 H0 S σ H R x hm1 H1 e1 _ fun v H2 e2 r => ?_
        refine h2.ev S0 H0 S σ H R y hm2 H2 (e1.trans e2) _ fun u H3 e3 r2 => ?_
        cases r; cases r2
        refine ⟨x, y, rfl, by omega, ?_⟩
        have hl : (rng x y).length = (y - x).toNat := by unfold rng; rw [List.length_map, List.length_range]
        refine q _ H3 _ _ (e2.trans e3) (by rw [hl]; exact walk_range) (fun _ _ => trivial) fun i z hi H4 v H5 f yy => ?_
        obtain ⟨rfl, rfl⟩ := yy
        refine ⟨Evl.Ex.refl _, ?_⟩
        unfold rng at hi
        rw [List.getElem?_map] at hi
        cases hri : (List.range (y - x).toNat)[i]? with
        | none => rw [hri] at hi; cases hi
        | some k =>
          rw [hri] at hi
          have hi := Option.some.inj hi
          obtain ⟨hk, ek⟩ := List.getElem?_eq_some_iff.mp hri
          rw [List.getElem_range] at ek
          subst ek
          subst hi
          exact rfl⟩
end
/-! ### one default that is None -/
theorem fill3 {K : PySem.W.Frag} {α β γ : Type} [Rp α] [Rp β] [Rp γ] : Fill K (GC α (GC β (GC γ GN))) (GC α (GC β (GC γ (GC Unit GN)))) [V.non] (fun a => (a.1, a.2.1, a.2.2.1, (), ())) := fun S H vs a h => by
  obtain ⟨v1, _, rfl, g1, v2, _, rfl, g2, v3, _, rfl, g3, rfl⟩ := h
  exact ⟨v1, _, rfl, g1, v2, _, rfl, g2, v3, _, rfl, g3, _, _, rfl, rfl, rfl⟩
theorem DnF.dn {P : Program} {w : World} {K : PySem.W.Frag} {mg : Str → Option Value} {base : Heap} {x : Str} {k : Nat} {sp : Sp} (h : DnF P w K mg base x k sp []) : Dn P w K mg base x k sp := by
  obtain ⟨f, fd, ps, ds, F, hm, kp, b, v⟩ := h
  cases v
  exact ⟨f, fd, ps, F, hm, kp, b⟩
end Sm
end

section
set_option maxRecDepth 100000
set_option maxHeartbeats 4000000
namespace Sm
open PySem L2

/-! ### comprehensions whose items are things that stood: nothing of the def's own is read in them -/
def Sl.drp : Sl → Sl
  | .own _ _ => .no
  | .odc _ _ => .no
  | s => s
theorem lc_mainV {α β : Type} [Rp α] [Rp β] {c : Stc} {e : Expr} {ifs : List Expr} {wi : TI} {g : TG} {tt : TT} {te : TE} {vs : List Nat} {Γ : List Sl} {Γ' : α → List Sl} {f : α → Option Bool} {h : α → Option β} {σ : L2.St} {H Hs : Hp} {E : Ft} {xs : List α} {zs : List β} {Q : VK} {S0 S : Ft} {H0 : Hp}
    (R0 : StR c.K S0 H0 S Γ σ H) (e1 : Ex H Hs) (hE : ∀ a, E a → S a) (si : SI c.K wi σ Hs E xs) (tg : TgOk c.K g vs (wipeG (Γ.map Sl.drp) vs) Γ') (ht : ∀ x, JTs c ifs tt (Γ' x) (f x)) (he : ∀ x, JE c e te (Γ' x) .vl (h x)) (hz : lcO f h xs = some zs)
    (q : ∀ v H', Ex Hs H' → Rp.r c.K (nw S Hs) H' v zs → Q v H') : tLc wi g tt te vs σ Hs Q := by
  unfold lcO at hz
  by_cases hn : ¬ xs.length ≤ 40000
  · rw [if_neg hn] at hz; cases hz
  have hl : xs.length ≤ 40000 := Decidable.not_not.mp hn
  rw [if_pos hl] at hz
  refine si _ fun J H2 G Y e2 w st it => fun Dl hD => ?_
  let A : Ft := fun a => ((S a ∨ Hs a = none) ∧ H2 a ≠ none) ∨ (H2 a = none ∧ a ≠ Dl)
  have nA : ¬ A Dl := fun z => z.elim (fun z => z.2 hD) fun z => z.2 rfl
  refine lc_it w (D := Dl) (fun i Hi => ∃ acc ys rest, Ex H2 Hi ∧ Hi Dl = some (.lst acc) ∧ lcM f h (xs.drop i) = some rest ∧ zs = ys ++ rest ∧ acc.length ≤ i ∧ PySem.Paired (Rp.r c.K A Hi) acc ys)
    ⟨[], [], zs, Evl.Ex.new hD, upd_same, hz, rfl, Nat.le_refl _, .nil⟩ (fun i Hi _ ⟨_, _, _, ex, _⟩ => st Hi (fr_ex ex)) ?_ ?_
  · rintro i v Hi H4 hi ⟨acc, ys, rest, ex, hDl, hr, hzs, hal, hp⟩ y
    have hxi : xs[i]? = some xs[i] := List.getElem?_eq_getElem hi
    rw [List.drop_eq_getElem_cons hi] at hr
    obtain ⟨ex4, rv⟩ := it i _ hxi Hi v H4 (fr_ex ex) y
    have ex24 : Ex H2 H4 := ex.trans ex4
    have exs4 : Ex H H4 := (e1.trans e2).trans ex24
    have hDl4 : H4 Dl = some (.lst acc) := ex4 _ _ hDl
    let S' : Ft := fun a => H4 a ≠ none ∧ A a
    have up : ∀ a, S a → H a ≠ none → S' a := fun a sa z => by
      cases q2 : H a with
      | none => exact absurd q2 z
      | some o => exact ⟨by rw [exs4 a o q2]; simp, .inl ⟨.inl sa, by rw [(e1.trans e2) a o q2]; simp⟩⟩
    have no : ∀ {j : Nat} {s : Sl}, (wipeG (Γ.map Sl.drp) vs)[j]? = some s → s.isOwn = false := fun {j s} h => by
      rcases wipeG_get h with rfl | ⟨h, _⟩
      · rfl
      · rw [List.getElem?_map] at h
        cases e : Γ[j]? with
        | none => rw [e] at h; cases h
        | some t =>
          rw [e] at h
          have h := Option.some.inj h
          subst h
          cases t <;> rfl
    have R : StR c.K all H4 S' (wipeG (Γ.map Sl.drp) vs) (wipe σ vs) H4 := by
      refine ⟨by rw [wipe_length, wipeG_len, List.length_map, R0.len], fun j s h => ?_, fun a z => z.1, fun a b s t l _ ha _ os _ _ _ => (by rw [no ha] at os; cases os), fun j s l h os _ => (by rw [no h] at os; cases os), Evl.Ex.refl H4, fun _ _ => .inl trivial⟩
      rcases wipeG_get h with rfl | ⟨h, n⟩
      · exact trivial
      rw [List.getElem?_map] at h
      cases e : Γ[j]? with
      | none => rw [e] at h; cases h
      | some t =>
        rw [e] at h
        have h := Option.some.inj h
        subst h
        have q := R0.sl j t e
        have ea : at_ (wipe σ vs) j = at_ σ j := by
          unfold at_
          rw [wipe_get, if_neg n]
        rw [ea]
        have nt : t.drp.isOwn = false := by cases t <;> rfl
        have q' : SlotR c.K S H (at_ σ j) t.drp := by cases t <;> first | exact q | exact trivial
        exact SlotR.fr up (fun os => by rw [nt] at os; cases os) (fun os => by rw [nt] at os; cases os) (fr_ex exs4) q'
    have rv' : Rp.r c.K S' H4 v xs[i] := Rp.up (fun a z z4 => by
      refine ⟨z4, ?_⟩
      rcases z with ⟨z, z2⟩ | z
      · exact .inl ⟨z.imp (hE a) id, z2⟩
      · exact .inr ⟨Evl.fresh_back ex z, fun ed => by rw [ed, hDl] at z; cases z⟩) rv
    refine tg.run all H4 S' (wipe σ vs) H4 v _ R rv' _ fun σ' R' hw => ?_
    refine ⟨hw.trans wipe_idem, ?_⟩
    have hr : (f xs[i]).bind (fun b => if b then (h xs[i]).bind fun y => (lcM f h (xs.drop (i + 1))).bind fun ys => some (y :: ys) else lcM f h (xs.drop (i + 1))) = some rest := hr
    cases hf : f xs[i] with
    | none => rw [hf] at hr; cases hr
    | some b =>
      rw [hf] at hr
      refine (ht xs[i]).ev all H4 S' σ' H4 R' b hf H4 (Evl.Ex.refl H4) _ fun H5 e5 => ?_
      have mono : ∀ {H6}, Ex H4 H6 → PySem.Paired (Rp.r c.K A H6) acc ys := fun {H6} e6 => paired_mono hp fun _ _ => Rp.ex (ex4.trans e6)
      cases b with
      | false =>
        refine iteF ⟨acc, ys, rest, ex24.trans e5, e5 _ _ hDl4, hr, hzs, by omega, mono e5⟩
      | true =>
        refine iteT ?_
        cases hh : h xs[i] with
        | none => rw [hh] at hr; cases hr
        | some y' =>
          rw [hh] at hr
          cases hm : lcM f h (xs.drop (i + 1)) with
          | none => rw [hm] at hr; cases hr
          | some rest' =>
            rw [hm] at hr
            have hr := Option.some.inj hr
            refine (he xs[i]).ev all H4 S' σ' H4 R' y' hh H5 e5 _ fun u H6 e6 r6 => ?_
            refine ⟨acc, e6 _ _ (e5 _ _ hDl4), Evl.sz_lt (by omega), ?_⟩
            have ex6 : Ex H2 (upd H6 Dl (.lst (acc ++ [u]))) := Evl.Ex.mut ((ex24.trans e5).trans e6) hD
            have fv : Fv A H6 (upd H6 Dl (.lst (acc ++ [u]))) := fun a za => by
              have nd : a ≠ Dl := fun ed => nA (ed ▸ za)
              exact ⟨fun _ z => by rw [upd_ne nd]; exact z, fun _ z => by rw [upd_ne nd]; exact z, fun _ _ z => by rw [upd_ne nd]; exact z, fun _ _ _ z => by rw [upd_ne nd]; exact z⟩
            have inA : ∀ a, nw (Sof .vl S' H4) H5 a → H6 a ≠ none → A a := fun a z z6 => by
              rcases z with z | z
              · exact z.2
              · refine .inr ⟨Evl.fresh_back (ex24.trans e5) z, fun ed => by rw [ed, e5 _ _ hDl4] at z; cases z⟩
            refine ⟨acc ++ [u], ys ++ [y'], rest', ex6, upd_same, rfl, by rw [hzs, ← hr, List.append_assoc] <;> rfl, by rw [List.length_append]; show acc.length + 1 ≤ i + 1; omega, ?_⟩
            exact PySem.Paired.snoc (paired_mono (mono (e5.trans e6)) fun _ _ => Rp.fr (fun _ z _ => z) fv) (Rp.fr (fun _ z _ => z) fv (Rp.up inA r6))
  · rintro Hi ⟨acc, ys, rest, ex, hDl, hr, hzs, _, hp⟩
    rw [List.drop_length] at hr
    cases hr
    rw [List.append_nil] at hzs
    subst hzs
    refine q _ Hi (e2.trans ex) ⟨Dl, acc, rfl, .inr (Evl.fresh_back e2 hD), hDl, paired_mono hp fun _ _ => Rp.up fun a z _ => ?_⟩
    rcases z with z | z
    · exact z.1
    · exact .inr (Evl.fresh_back e2 z.1)
section
variable {c : Stc} {Γ : List Sl} {α β : Type} [Rp α] [Rp β] [Inhabited α] {elt tg iter : Expr} {ifs : List Expr} {scope : Scope} {pos : Pos} {wi : TI} {g : TG} {tt : TT} {te : TE} {ma me : Md} {m : Option (List α)} {f : α → Option Bool} {h : α → Option β} {Γ' : α → List Sl}
theorem je_lcV (own : List (Str × Nat)) (hN : c.N.Nodup) (hi : JI c tg iter wi Γ ma m) (ok : blkC c.N c.sc scope own = true) (hg : ∀ X, Fam (c.blk scope) X → PG X tg g) (tgo : TgOk c.K g (own.map (·.2)) (wipeG (Γ.map Sl.drp) (own.map (·.2))) Γ')
    (ht : ∀ x, JTs (c.blk scope) ifs tt (Γ' x) (f x)) (he : ∀ x, JE (c.blk scope) elt te (Γ' x) me (h x)) (hme : me = .vl := by rfl) (hma : ma ≠ .an := by decide) (hs : ∀ (env : Env) x, foldedSetIterable iter env x = pure x := by intro _ _; rfl) :
    JE c (.ListComp elt [⟨tg, iter, ifs, 0⟩] scope pos) (tLc wi g tt te (own.map (·.2))) Γ .vl (m.bind (lcO f h)) :=
  ⟨fun X F => pe_lc F.calm (by rw [F.hN]; exact hN) (hi.pi X F) (by rw [F.hN, F.hsc]; exact blkOk_by ok) (fun s H C cl fp => hg _ (F.blk scope s H C cl fp)) (fun s H C cl fp => (ht default).pt _ (F.blk scope s H C cl fp)) (fun s H C cl fp => (he default).pe _ (F.blk scope s H C cl fp)) (fun x => hs _ x), fun S0 H0 S σ H R z hz H1 e1 Q q => by
    cases h1 : m with
    | none => rw [h1] at hz; cases hz
    | some xs =>
      rw [h1] at hz
      subst hme
      exact lc_mainV (c := c.blk scope) R e1 (fun a z => by
        cases ma with
        | fr => exact z.elim
        | vl => exact z
        | an => exact absurd rfl hma) (hi.ev S0 H0 S σ H R xs h1 H1 e1) tgo ht he hz fun v H' e' r => q v H' e' r⟩
end
section
variable {c : Stc} {Γ : List Sl} {τ ρ : Type} [Rt ρ] {fr : Bool} {Γf : τ → List Sl} {rest : List Stmt} {tu : TS}
theorem js_setLcV {α β : Type} [Rp α] [iβ : Rp β] [Inhabited α] {elt tg iter : Expr} {ifs : List Expr} {scope : Scope} {y : Str} {py pos spos : Pos} {wi : TI} {g : TG} {tt : TT} {te : TE} {ma me : Md} {m : Option (List α)} {f : α → Option Bool} {h : α → Option β} {Γ' : α → List Sl} {k : List β → Option (Out τ ρ)} (j : Nat) (own : List (Str × Nat)) (hN : c.N.Nodup) (hi : JI c tg iter wi Γ ma m) (ok : blkC c.N c.sc scope own = true) (hg : ∀ X, Fam (c.blk scope) X → PG X tg g)
    (tgo : TgOk c.K g (own.map (·.2)) (wipeG (Γ.map Sl.drp) (own.map (·.2))) Γ') (ht : ∀ x, JTs (c.blk scope) ifs tt (Γ' x) (f x)) (he : ∀ x, JE (c.blk scope) elt te (Γ' x) me (h x)) (hk : ∀ v, JS c rest tu (Γ.set j (.val (@rpList β iβ) v)) fr Γf (k v)) (hme : me = .vl := by rfl) (hma : ma ≠ .an := by decide) (hs : ∀ (env : Env) x, foldedSetIterable iter env x = pure x := by intro _ _; rfl)
    (hy : c.N[j]? = some y := by rfl) (hyl : c.sc.names.lookup y = some .local := by rfl) (hkd : c.sc.kind = .function := by rfl) (hln : (py.line == pos.line) = true := by rfl) (hno : (scope.names.any fun (n, k) => n == y && (k == .local || k == .cell)) = false := by decide +kernel) :
    JS c (.Assign [.Name y py] (.ListComp elt [⟨tg, iter, ifs, 0⟩] scope pos) spos :: rest) (tSeq (tAsg (tLc wi g tt te (own.map (·.2))) (gName j)) tu) Γ fr Γf ((m.bind (lcO f h)).bind k) := by
  have hj : JE c (.ListComp elt [⟨tg, iter, ifs, 0⟩] scope pos) (tLc wi g tt te (own.map (·.2))) Γ .vl (m.bind (lcO f h)) := je_lcV own hN hi ok hg tgo ht he hme hma hs
  exact js_asg j (fun X F => ps_setLc F.calm (by rw [F.hN]; exact hN) (by rw [F.hN]; exact hy) (by rw [F.hsc]; exact hyl) (sw_true (by rw [F.hsc]; exact hkd) (by rw [F.hsc]; exact hyl) hln hno) (hi.pi X F) (by rw [F.hN, F.hsc]; exact blkOk_by ok) (fun s H C cl fp => hg _ (F.blk scope s H C cl fp)) (fun s H C cl fp => (ht default).pt _ (F.blk scope s H C cl fp)) (fun s H C cl fp => (he default).pe _ (F.blk scope s H C cl fp)) (fun x => hs _ x)) hj hk
end
end Sm
end

section
set_option maxRecDepth 100000
set_option maxHeartbeats 4000000
namespace Sm
open PySem L2 PyProof.Rows

/-! ### blocks one behind the other -/
theorem execs_app (A B : List Stmt) (env : Env) : execs (A ++ B) env = (execs A env).bind fun f => match f with | .next => execs B env | f => (Sem.pure f : Sem Flow) := by
  induction A with
  | nil => rfl
  | cons s A ih =>
    show (exec s env).bind _ = ((exec s env).bind _).bind _
    rw [Sem.bind_assoc]
    congr 1
    funext f
    cases f <;> first | exact ih | rfl
theorem pss_app {X : Cx} {A B : List Stmt} {t u : TS} (h1 : PSs X A t) (h2 : PSs X B u) : PSs X (A ++ B) (tSeq t u) := by
  refine ⟨fun pins s σ H D I h => ?_⟩
  rw [execs_app]
  refine wpAny_bind (thn (h1.run pins s σ H { D with nx := u D } I h) fun f s1 q => ?_)
  cases f with
  | next =>
    obtain ⟨σ', H', I', q⟩ := q
    exact h2.run pins s1 σ' H' D I' q
  | ret v => exact wpAny_pure q
  | brk => exact wpAny_pure q
  | cont => exact wpAny_pure q
/-! ### while -/
def wlM {τ ρ : Type} (t : τ → Option Bool) (b : τ → Option (Out τ ρ)) : Nat → τ → Option (Out τ ρ)
  | 0, _ => none
  | n + 1, s => (t s).bind fun c => if c = true then (b s).bind (Out.go (wlM t b n)) else some (.nx s)
section
variable {c : Stc} {Γ : List Sl} {τ τ' ρ : Type} [Rt ρ] {fr : Bool} {Γf : τ → List Sl} {rest : List Stmt} {tu : TS}
theorem js_while {test : Expr} {tt : TT} {body : List Stmt} {tb : TS} {pos : Pos} {Γl : τ' → List Sl} {t : τ' → Option Bool} {b : τ' → Option (Out τ' ρ)} {k : τ' → Option (Out τ ρ)} (fuel : Nat) (s0 : τ') (hsub : Sub Γ (Γl s0)) (ht : ∀ s, JT c test tt (Γl s) (t s)) (hb : ∀ s, JS c body tb (Γl s) fr Γl (b s)) (hk : ∀ s, JS c rest tu (Γl s) fr Γf (k s)) :
    JS c (.While test body [] pos :: rest) (tSeq (tWhile tt tb) tu) Γ fr Γf ((wlM t b fuel s0).bind (Out.go k)) := by
  refine js_cons (Γ1 := Γl) (fun X F => ps_while (by rw [F.hxe]; exact PassesOwn.never) ((ht s0).pt X F) ((hb s0).ps X F)) (fun S0 H0 S σ H R o ho D q => ?_) s0 hk
  refine ⟨fun m σ' H' => ∃ s S', StR c.K S0 H0 S' (Γl s) σ' H' ∧ (∀ a, S a → S' a) ∧ Fr S H H' ∧ wlM t b m s = some o, ⟨fuel, s0, S, R.sub hsub, fun _ z => z, fun _ _ _ z => z, ho⟩, ?_⟩
  rintro m σ' H' ⟨s, S', R', up, f, hm⟩
  cases m with
  | zero => cases hm
  | succ m =>
    have hm : (t s).bind (fun c => if c = true then (b s).bind (Out.go (wlM t b m)) else some (.nx s)) = some o := hm
    cases h : t s with
    | none => rw [h] at hm; cases hm
    | some cc =>
      rw [h] at hm
      refine (ht s).ev S0 H0 S' σ' H' R' cc h H' (Evl.Ex.refl H') _ fun H1 e1 => ?_
      have R1 := R'.grow e1
      have up1 : ∀ a, S a → grw S' H' H1 a := fun a z => grw_up R'.dm e1 a (up a z)
      have f1 : Fr S H H1 := fun a o sa ha => e1 a o (f a o sa ha)
      cases cc with
      | false =>
        cases hm
        refine iteF (q _ _ _ R1 up1 f1)
      | true =>
        have hm : (b s).bind (Out.go (wlM t b m)) = some o := hm
        cases hbs : b s with
        | none => rw [hbs] at hm; cases hm
        | some o1 =>
          rw [hbs] at hm
          refine iteT ⟨fun σ2 H2 => ∃ s S', StR c.K S0 H0 S' (Γl s) σ2 H2 ∧ (∀ a, S a → S' a) ∧ Fr S H H2 ∧ wlM t b m s = some o, fun σ2 H2 z => ⟨m, Nat.lt_succ_self m, z⟩, ?_⟩
          refine (hb s).ev S0 H0 _ σ' H1 R1 o1 hbs _ ?_
          cases o1 with
          | rt r =>
            cases hm
            exact fun v H2 ex f2 z => q v H2 ex (fun a o sa ha => f2 a o (up1 a sa) (f1 a o sa ha)) z
          | nx s1 =>
            exact fun S5 σ5 H5 R5 up5 f5 => ⟨s1, S5, R5, fun a z => up5 a (up1 a z), fun a o z z2 => f5 a o (up1 a z) (f1 a o z z2), hm⟩
end
/-! ### what stood ahead, what is new since -/
def rpOld {α : Type} (Hb : Hp) (i : Rp α) : Rp α := ⟨fun K S H v x => i.r K (fun a => S a ∧ Hb a ≠ none) H v x, fun hs hf h => i.fr (fun a z z2 => ⟨hs a z.1 z2, z.2⟩) (fun a z => hf a z.1) h⟩
def rpNew {α : Type} (Hb : Hp) (i : Rp α) : Rp α := ⟨fun K S H v x => i.r K (fun a => S a ∧ Hb a = none) H v x, fun hs hf h => i.fr (fun a z z2 => ⟨hs a z.1 z2, z.2⟩) (fun a z => hf a z.1) h⟩
def Sl.old (Hb : Hp) : Sl → Sl
  | .val i x => .val (rpOld Hb i) x
  | _ => .no
section
variable {c : Stc} {Γ : List Sl}
theorem je_old {x : Str} {pos : Pos} (j : Nat) {Hb : Hp} {α : Type} [i : Rp α] {v : α} (hs : Γ[j]? = some (.val (rpOld Hb i) v) := by rfl) (hN : c.N[j]? = some x := by rfl) (hv : Vis c.sc x := by first | exact Or.inl rfl | exact Or.inr (Or.inl rfl) | exact Or.inr (Or.inr rfl))
    (hd : (x == ("__debug__" : Str)) = false := by decide) (hcd : (x == ("__classdict__" : Str)) = false := by decide) : JE c (.Name x pos) (tVar j) Γ .vl (some v) :=
  ⟨fun X F => pe_var (by rw [F.hN]; exact hN) (F.vis hv) hd hcd, fun S0 H0 S σ H R y hy H1 e1 Q q => by
    cases hy
    obtain ⟨u, hu, r⟩ := R.sl j _ hs
    exact ⟨_, at_some hu, q u H1 (Evl.Ex.refl H1) (i.fr (fun a z _ => .inl z.1) (fv_ex e1) r)⟩⟩
theorem je_new {x : Str} {pos : Pos} (j : Nat) {Hb : Hp} {α : Type} [i : Rp α] {v : α} (hs : Γ[j]? = some (.val (rpNew Hb i) v) := by rfl) (hN : c.N[j]? = some x := by rfl) (hv : Vis c.sc x := by first | exact Or.inl rfl | exact Or.inr (Or.inl rfl) | exact Or.inr (Or.inr rfl))
    (hd : (x == ("__debug__" : Str)) = false := by decide) (hcd : (x == ("__classdict__" : Str)) = false := by decide) : JE c (.Name x pos) (tVar j) Γ .vl (some v) :=
  ⟨fun X F => pe_var (by rw [F.hN]; exact hN) (F.vis hv) hd hcd, fun S0 H0 S σ H R y hy H1 e1 Q q => by
    cases hy
    obtain ⟨u, hu, r⟩ := R.sl j _ hs
    exact ⟨_, at_some hu, q u H1 (Evl.Ex.refl H1) (i.fr (fun a z _ => .inl z.1) (fv_ex e1) r)⟩⟩
end
end Sm
end

section
set_option maxRecDepth 100000
set_option maxHeartbeats 4000000
namespace Sm
open PySem L2 PyProof.Rows

/-! ### statements that may change what is new since Hb -/
structure JSb (Hb : Hp) (c : Stc) (sts : List Stmt) (ts : TS) (Γ : List Sl) {τ ρ : Type} [Rt ρ] (fr : Bool) (Γf : τ → List Sl) (m : Option (Out τ ρ)) : Prop where
  ps : ∀ X, Fam c X → PSs X sts ts
  ev : ∀ S0 H0 S σ H, StR c.K S0 H0 S Γ σ H → Ex H0 Hb → ∀ o, m = some o → ∀ D : Ends, OutOk c.K S0 H0 (fun a => S a ∧ Hb a ≠ none) H fr Γf D o → ts D σ H
section
variable {Hb : Hp} {c : Stc} {Γ : List Sl} {τ τ' ρ : Type} [Rt ρ] {fr : Bool} {Γf : τ → List Sl} {Γ1 : τ' → List Sl} {sts rest : List Stmt} {ts tu : TS}
theorem JSb.of {m : Option (Out τ ρ)} (h : JS c sts ts Γ fr Γf m) : JSb Hb c sts ts Γ fr Γf m :=
  ⟨h.ps, fun S0 H0 S σ H R _ o ho D q => h.ev S0 H0 S σ H R o ho D (by
    cases o with
    | nx s => exact fun S' σ' H' R' up f => q S' σ' H' R' (fun a z => up a z.1) (fun a o z z2 => f a o z.1 z2)
    | rt r => exact fun v H' ex f z => q v H' ex (fun a o sa ha => f a o sa.1 ha) z)⟩
theorem jsb_app {A B : List Stmt} {tA tB : TS} {mA : Option (Out τ' ρ)} {kB : τ' → Option (Out τ ρ)} (s0 : τ') (hA : JS c A tA Γ fr Γ1 mA) (hB : ∀ s, JSb Hb c B tB (Γ1 s) fr Γf (kB s)) : JSb Hb c (A ++ B) (tSeq tA tB) Γ fr Γf (mA.bind (Out.go kB)) :=
  ⟨fun X F => pss_app (hA.ps X F) ((hB s0).ps X F), fun S0 H0 S σ H R eH o ho D q => by
    cases hm : mA with
    | none => rw [hm] at ho; cases ho
    | some o1 =>
      rw [hm] at ho
      cases o1 with
      | rt r =>
        cases ho
        exact hA.ev S0 H0 S σ H R (.rt r) hm _ (fun v H' ex f z => q v H' ex (fun a o sa ha => f a o sa.1 ha) z)
      | nx s =>
        refine hA.ev S0 H0 S σ H R (.nx s) hm _ fun S' σ' H' R' up f => ?_
        exact (hB s).ev S0 H0 S' σ' H' R' eH o ho D (out_keep (fun a z => ⟨up a z.1, z.2⟩) (fun a o z z2 => f a o z.1 z2) q)⟩
theorem jsb_split (n : Nat) {tA tB : TS} {mA : Option (Out τ' ρ)} {kB : τ' → Option (Out τ ρ)} (s0 : τ') (hA : JS c (sts.take n) tA Γ fr Γ1 mA) (hB : ∀ s, JSb Hb c (sts.drop n) tB (Γ1 s) fr Γf (kB s)) : JSb Hb c sts (tSeq tA tB) Γ fr Γf (mA.bind (Out.go kB)) := by
  have := jsb_app s0 hA hB
  rwa [List.take_append_drop] at this
/-- what stood ahead of Hb -/
def Sl.olds (Hb : Hp) : Sl → Sl
  | .val i x => .val (rpOld Hb i) x
  | .own i x => .own i x
  | _ => .no
/-- x = a new thing, that may be changed -/
theorem js_setN {α : Type} [i : Rp α] [Inhabited α] {x : Str} {p pos : Pos} {e : Expr} {te : TE} {md : Md} {me : Option α} {k : α → Option (Out τ ρ)} (j : Nat) (hN : c.N.Nodup) (he : JE c e te Γ md me) (hk : ∀ Hb v, JSb Hb c rest tu ((Γ.map (Sl.olds Hb)).set j (.val (rpNew Hb i) v)) fr Γf (k v)) (hmd : md = .fr := by rfl)
    (hx : c.N[j]? = some x := by rfl) (hl : Loc c.sc x := by first | exact Or.inl rfl | exact Or.inr rfl) (hf : c.fn x = true := by rfl) (hs : ∀ env, swapsWith e (some (.Name x p)) pos.line env = pure false := by intro _; rfl) : JS c (.Assign [.Name x p] e pos :: rest) (tSeq (tAsg te (gName j)) tu) Γ fr Γf (me.bind k) :=
  ⟨fun X F => pss_cons (ps_set (by rw [F.hN]; exact hN) (by rw [F.hN]; exact hx) (by rw [F.hsc]; exact hl) (he.pe X F) (hs _) (.inl (by rw [F.hfn]; exact hf))) ((hk (fun _ => none) default).ps X F), fun S0 H0 S σ H R o ho D q => by
    subst hmd
    cases hm : me with
    | none => rw [hm] at ho; cases ho
    | some y =>
      rw [hm] at ho
      refine he.ev S0 H0 S σ H R y hm H (Evl.Ex.refl H) _ fun v H1 e1 r => ?_
      have R1 := R.grow e1
      have R2 : StR c.K S0 H0 (grw S H H1) (Γ.map (Sl.olds H)) σ H1 := by
        have back : ∀ {j : Nat} {s : Sl}, (Γ.map (Sl.olds H))[j]? = some s → s.isOwn = true → Γ[j]? = some s := fun {j s} h os => by
          rw [List.getElem?_map] at h
          cases e : Γ[j]? with
          | none => rw [e] at h; cases h
          | some t =>
            rw [e] at h
            have h := Option.some.inj h
            subst h
            cases t with
            | own i x => rfl
            | _ => cases os
        refine ⟨by rw [List.length_map]; exact R1.len, fun j s h => ?_, R1.dm, fun a b s t l ab ha hb os ot h1 h2 => R1.ap a b s t l ab (back ha os) (back hb ot) os ot h1 h2, fun j s l h os h1 => R1.ow j s l (back h os) os h1, R1.ex, R1.sr⟩
        rw [List.getElem?_map] at h
        cases e : Γ[j]? with
        | none => rw [e] at h; cases h
        | some t =>
          rw [e] at h
          have h := Option.some.inj h
          subst h
          cases t with
          | own i' x' => exact R1.sl j _ e
          | val i' x' =>
            obtain ⟨v', ev, rr⟩ := R.sl j _ e
            exact ⟨v', ev, i'.fr (fun a sa z => ⟨grw_up R.dm e1 a sa, z⟩) (fv_ex e1) rr⟩
          | _ => exact trivial
      have R3 := R2.set (i := rpNew H i) (v := v) (x := y) j (i.fr (fun a z z1 => ⟨⟨z1, .inr (z.elim (fun z => z.elim) id)⟩, z.elim (fun z => z.elim) id⟩) (fv_ex (Evl.Ex.refl H1)) r)
      refine (hk H y).ev S0 H0 _ _ H1 R3 R.ex o ho D ?_
      exact out_keep (fun a sa => ⟨grw_up R.dm e1 a sa, R.dm a sa⟩) (fr_ex e1) q⟩
/-- slots that a change of what is new leaves -/
inductive Kp (Hb : Hp) : List Sl → List Sl → Prop
  | nil : Kp Hb [] []
  | old {α : Type} {i : Rp α} {x : α} {a b : List Sl} : Kp Hb a b → Kp Hb (.val (rpOld Hb i) x :: a) (.val (rpOld Hb i) x :: b)
  | drop {s : Sl} {a b : List Sl} : Kp Hb a b → Kp Hb (s :: a) (.no :: b)
theorem Kp.len {Hb : Hp} {a b : List Sl} (h : Kp Hb a b) : b.length = a.length := by
  induction h with
  | nil => rfl
  | old _ ih => exact congrArg (· + 1) ih
  | drop _ ih => exact congrArg (· + 1) ih
theorem Kp.get {Hb : Hp} : ∀ {a b : List Sl} {j : Nat} {s : Sl}, Kp Hb a b → b[j]? = some s → s = .no ∨ (a[j]? = some s ∧ ∃ (α : Type) (i : Rp α) (x : α), s = .val (rpOld Hb i) x)
  | _, _, j, s, .nil, h => by simp at h
  | _, _, 0, s, .old _, h => .inr ⟨h, _, _, _, (Option.some.inj h).symm⟩
  | _, _, j + 1, s, .old t, h => by
    rw [List.getElem?_cons_succ] at h ⊢
    exact t.get h
  | _, _, 0, s, .drop _, h => .inl (Option.some.inj h).symm
  | _, _, j + 1, s, .drop t, h => by
    rw [List.getElem?_cons_succ] at h ⊢
    exact t.get h
/-- x.f.append(s) -/
theorem jsb_fapp {nm f x lit : Str} {xs : List Str} {p p2 q2 r pos : Pos} {kd : Nat} {pc : Pos} {k : Option (Out τ ρ)} {Γ' : List Sl} (j : Nat) (hc : ClF c.K c.mg nm) (hn : NoA c.K nm f) (hkp : Kp Hb Γ Γ') (hk : JSb Hb c rest tu (Γ'.set j (.val (rpNew Hb (@rpO1 nm f (List Str) _)) ⟨xs ++ [lit]⟩)) fr Γf k)
    (hs : Γ[j]? = some (.val (rpNew Hb (@rpO1 nm f (List Str) _)) ⟨xs⟩) := by rfl) (hN : c.N[j]? = some x := by rfl) (hv : Vis c.sc x := by first | exact Or.inl rfl | exact Or.inr (Or.inl rfl) | exact Or.inr (Or.inr rfl))
    (hd : (x == ("__debug__" : Str)) = false := by decide) (hcd : (x == ("__classdict__" : Str)) = false := by decide)
    (hb : ∀ env, attributeBase (.Name x p) f env (eval (.Name x p) env) = eval (.Name x p) env := by intro _; rfl)
    (hpe : ∀ X, Fam c X → PE X (.Attribute (.Name x p) f p2) (tFld X.K (tVar j) f) → PE X (.Call (.Attribute (.Attribute (.Name x p) f p2) "append" q2) [.Constant (.str lit) kd pc] [] r) (tBM X.K "list" rAppend (tFld X.K (tVar j) f) (tCons (tC (.str lit)) tNil)) := by intro X F h; exact pe_bm PySem.F.plainAttrs_list PySem.F.slot_list_append PySem.F.type_list_append mt_append h (pa_cons pe_str pa_nil))
    (hsw : ∀ env, swapsWith (.Call (.Attribute (.Attribute (.Name x p) f p2) "append" q2) [.Constant (.str lit) kd pc] [] r) none pos.line env = pure false := by intro _; rfl) :
    JSb Hb c (.Expr (.Call (.Attribute (.Attribute (.Name x p) f p2) "append" q2) [.Constant (.str lit) kd pc] [] r) pos :: rest) (tSeq (tDrop (tBM c.K "list" rAppend (tFld c.K (tVar j) f) (tCons (tC (.str lit)) tNil))) tu) Γ fr Γf (if xs.length < 50000 then k else none) :=
  ⟨fun X F => pss_cons (ps_expr (by rw [← F.hK]; exact hpe X F (pe_fld (pe_var (by rw [F.hN]; exact hN) (F.vis hv) hd hcd) (hb _))) (hsw _)) (hk.ps X F), fun S0 H0 S σ H R eH o ho D qq => by
    by_cases hln : ¬ xs.length < 50000
    · rw [if_neg hln] at ho; cases ho
    have hln := Decidable.not_not.mp hln
    rw [if_pos hln] at ho
    obtain ⟨u, hu, w, ⟨a, C, dx, rfl, sa, hC, ha⟩, l, vs, rfl, sl, hl, r0⟩ := R.sl j _ hs
    refine ⟨_, at_some hu, a, C, dx, [(f, .ref l)], .ref l, rfl, ha, (hc.at hC).2.1, hn C hC, by simp [List.lookup], .inl ⟨rfl, vs, SqL.of hl⟩, ?_⟩
    refine ⟨l, vs, _, rfl, rfl, hl, Evl.sz_lt (by have hlv : vs.length = xs.length := r0.length; rw [hlv]; omega), ?_⟩
    have old : ∀ b, Hb b ≠ none → b ≠ l := fun b hb e => hb (e ▸ sl.2)
    have fv : Fv (fun b => S b ∧ Hb b ≠ none) H (upd H l (.lst (vs ++ [.str lit]))) := fun b zb => by
      have nd := old b zb.2
      exact ⟨fun _ z => by rw [upd_ne nd]; exact z, fun _ z => by rw [upd_ne nd]; exact z, fun _ _ z => by rw [upd_ne nd]; exact z, fun _ _ _ z => by rw [upd_ne nd]; exact z⟩
    have h0 : H0 l = none := Evl.fresh_back eH sl.2
    have al : a ≠ l := fun e => by rw [e, hl] at ha; cases ha
    have R' : StR c.K S0 H0 S (Γ'.set j (.val (rpNew Hb (@rpO1 nm f (List Str) _)) ⟨xs ++ [lit]⟩)) σ (upd H l (.lst (vs ++ [.str lit]))) := by
      have no : ∀ {k : Nat} {s : Sl}, (Γ'.set j (.val (rpNew Hb (@rpO1 nm f (List Str) _)) ⟨xs ++ [lit]⟩))[k]? = some s → s.isOwn = false := fun {k s} hk => by
        rcases List.mem_or_eq_of_mem_set (List.mem_of_getElem? hk) with m | m
        · obtain ⟨i2, hi2⟩ := List.getElem?_of_mem m
          rcases hkp.get hi2 with e | ⟨_, _, _, _, e⟩ <;> subst e <;> rfl
        · subst m; rfl
      refine ⟨by rw [List.length_set, hkp.len]; exact R.len, fun k s hk => ?_, fun b sb => ?_, fun _ _ s _ _ _ h1 _ os _ _ _ => (by rw [no h1] at os; cases os), fun _ s _ h1 os _ => (by rw [no h1] at os; cases os), fun b o hb => ?_, R.sr⟩
      · by_cases e : k = j
        · subst e
          have hlt : k < Γ'.length := by
            have := (List.getElem?_eq_some_iff.mp hk).1
            rwa [List.length_set] at this
          rw [List.getElem?_set_self hlt] at hk
          cases hk
          exact ⟨_, hu, .ref l, ⟨a, C, dx, rfl, sa, hC, by rw [upd_ne al]; exact ha⟩, l, _, rfl, sl, upd_same, PySem.Paired.snoc r0 rfl⟩
        · rw [List.getElem?_set_ne (Ne.symm e)] at hk
          rcases hkp.get hk with e | ⟨hk, α, i, y, e⟩
          · subst e; exact trivial
          · subst e
            obtain ⟨v, ev, rr⟩ := R.sl k _ hk
            exact ⟨v, ev, i.fr (fun _ z _ => z) fv rr⟩
      · by_cases e : b = l
        · rw [e, upd_same]; simp
        · rw [upd_ne e]; exact R.dm b sb
      · rw [upd_ne (show b ≠ l from fun e => by rw [e, h0] at hb; cases hb)]
        exact R.ex b o hb
    exact hk.ev S0 H0 S σ _ R' eH o ho D (out_keep (fun _ z => z) (fun b o zb hb => by rw [upd_ne (old b zb.2)]; exact hb) qq)⟩
end
end Sm
end

section
set_option maxRecDepth 100000
set_option maxHeartbeats 4000000
namespace Sm
open PySem L2 PyProof.Rows

/-! ### a thing or none -/
inductive Op (α : Type)
  | no
  | yes (x : α)
instance {α : Type} : Inhabited (Op α) := ⟨.no⟩
def Op.get {α : Type} : Op α → Option α
  | .no => none
  | .yes x => some x
def Op.isNo {α : Type} : Op α → Bool
  | .no => true
  | .yes _ => false
instance rpOp {α : Type} [i : Rp α] : Rp (Op α) := ⟨fun K S H v o => match o with
  | .no => v = .non
  | .yes x => i.r K S H v x, fun {K S S' H H' v o} hs hf h => by
  cases o with
  | no => exact h
  | yes x => exact i.fr hs hf h⟩
instance nonQOp {α : Type} [Rp α] : NonQ (Op (List α)) := ⟨Op.isNo, fun {K S H v x} h => by
  cases x with
  | no =>
    have h : v = V.non := h
    subst h; rfl
  | yes x =>
    obtain ⟨a, vs, e, _⟩ := h
    subst e; rfl⟩
section
variable {c : Stc} {Γ : List Sl} {e e' : Expr} {es : List Expr} {te tf : TE} {ta : TA} {ma mb : Md} {pos : Pos} {nm f g : Str} {α β γ : Type} [Rp α] [Rp β] [Rp γ]
theorem je_nonO {j pos} : JE c (.Constant .none j pos) (tC .non) Γ .fr (some (Op.no : Op α)) :=
  ⟨fun _ _ => pe_non, fun _ _ _ _ _ _ x hx H1 _ Q q => by cases hx; exact q _ H1 (Evl.Ex.refl H1) rfl⟩
theorem je_yes {m : Option α} (h : JE c e te Γ ma m) : JE c e te Γ ma (m.bind fun x => some (Op.yes x)) :=
  ⟨h.pe, fun S0 H0 S σ H R z hz H1 e1 Q q => by
    cases h1 : m with
    | none => rw [h1] at hz; cases hz
    | some x =>
      rw [h1] at hz; cases hz
      exact h.ev S0 H0 S σ H R _ h1 H1 e1 Q fun v H2 e2 r => q v H2 e2 r⟩
theorem je_unO {m : Option (Op α)} (h : JE c e te Γ ma m) : JE c e te Γ ma (m.bind Op.get) :=
  ⟨h.pe, fun S0 H0 S σ H R z hz H1 e1 Q q => by
    cases h1 : m with
    | none => rw [h1] at hz; cases hz
    | some x =>
      rw [h1] at hz
      cases x with
      | no => cases hz
      | yes y =>
        cases hz
        exact h.ev S0 H0 S σ H R _ h1 H1 e1 Q fun v H2 e2 r => q v H2 e2 r⟩
/-! ### isinstance of a built-in type, asked of objects -/
def KiT (K : PySem.W.Frag) (nm : Str) (ty : String) (b : Bool) : Prop := ∀ C, ClN K nm C → PySem.W.kitOne K (.ref C) (.type ty) = some b
theorem KiT.of {K : PySem.W.Frag} {nm : Str} {ty : String} {b : Bool} {C : Addr} (hc : ClN K nm C) (h : PySem.W.kitOne K (.ref C) (.type ty) = some b) : KiT K nm ty b := fun C' h1 => by
  rw [hc.one h1]; exact h
def TiT (K : PySem.W.Frag) (ty : String) (α : Type) [Rp α] (g : α → Bool) : Prop := ∀ S H v x, Rp.r K S H v x → ∃ t, TyX K H v t ∧ PySem.W.kitOne K t (.type ty) = some (g x)
theorem tit_ins {K : PySem.W.Frag} {mg : Str → Option Value} {nm : Str} {ty : String} {b : Bool} (hc : ClF K mg nm) (k : KiT K nm ty b) {S : Ft} {H : Hp} {v : V} {fs : List (Str × V)} (h : insR K S H v nm fs) : ∃ t, TyX K H v t ∧ PySem.W.kitOne K t (.type ty) = some b := by
  obtain ⟨p, C, dx, rfl, _, hC, hp⟩ := h
  obtain ⟨_, cl, t⟩ := hc.at hC
  exact ⟨_, .base (.ins hp cl t.ha t.hn t.htk t.hm), k C hC⟩
theorem tit_o0 {K : PySem.W.Frag} {mg : Str → Option Value} {nm : Str} {ty : String} {b : Bool} (hc : ClF K mg nm) (k : KiT K nm ty b) : TiT K ty (O0 nm) (fun _ => b) := fun S H v x h => tit_ins hc k h
theorem tit_o1 {K : PySem.W.Frag} {mg : Str → Option Value} {nm f : Str} {ty : String} {b : Bool} (hc : ClF K mg nm) (k : KiT K nm ty b) : TiT K ty (O1 nm f α) (fun _ => b) := fun S H v x h => tit_ins hc k h.choose_spec.1
theorem tit_o2 {K : PySem.W.Frag} {mg : Str → Option Value} {nm f g : Str} {ty : String} {b : Bool} (hc : ClF K mg nm) (k : KiT K nm ty b) : TiT K ty (O2 nm f g α β) (fun _ => b) := fun S H v x h => tit_ins hc k h.choose_spec.choose_spec.1
theorem tit_or {K : PySem.W.Frag} {ty : String} {g : α → Bool} {g' : β → Bool} (h1 : TiT K ty α g) (h2 : TiT K ty β g') : TiT K ty (Or2 α β) (Or2.el g g') := fun S H v x h => by
  cases x with
  | l x => exact h1 S H v x h
  | r x => exact h2 S H v x h
theorem je_isiY {m : Option α} {T : String} {tn : Str} {g : α → Bool} {p p2 : Pos} (hm : c.mg "isinstance" = none) (hm2 : c.mg tn = none) (ht : TiT c.K T α g) (hv : bootBuiltins tn = some (.type T)) (h : JE c e te Γ ma m) (hg : GlS c.sc "isinstance" := by rfl) (hg2 : GlS c.sc tn := by rfl)
    (hs : ∀ env, starEach (e :: [.Name tn p2]) env = (false, eval e env) :: starEach [.Name tn p2] env := by intro _; rfl) (hd : (tn == ("__debug__" : Str)) = false := by decide) (hn : tn ≠ "__name__" := by decide) :
    JE c (.Call (.Name "isinstance" p) [e, .Name tn p2] [] pos) (tCB (rIsi c.K) (tCons te (tCons (tC (.ty T)) tNil))) Γ .fr (m.bind fun x => some (g x)) :=
  ⟨fun X F => by rw [← F.hK]; exact pe_callB call_isi (F.gl hg) (by rw [F.hmg]; exact hm) (by decide +kernel) (pa_cons (h.pe X F) (pa_cons (pe_bltn (F.gl hg2) (by rw [F.hmg]; exact hm2) hv rfl (hd := hd) (hn := hn)) pa_nil) (hs _)) (by decide) (by decide) (hs _), fun S0 H0 S σ H R z hz H1 e1 Q q => by
    cases h1 : m with
    | none => rw [h1] at hz; cases hz
    | some x =>
      rw [h1] at hz
      have hz := Option.some.inj hz
      subst hz
      refine h.ev S0 H0 S σ H R x h1 H1 e1 _ fun v H2 e2 r => ?_
      obtain ⟨t, ty, kit⟩ := ht _ _ _ _ r
      exact ⟨v, .ty T, t, .type T, g x, rfl, .ty T, ty, kit, q _ H2 e2 rfl⟩⟩
/-! ### isinstance of one of three classes -/
def Ti3 (K : PySem.W.Frag) (a b d : Str) (α : Type) [Rp α] (g : α → Bool) : Prop := ∀ S H v x A B D, ClN K a A → ClN K b B → ClN K d D → Rp.r K S H v x → ∃ t, TyX K H v t ∧ PySem.W.kitAny K t [.ref A, .ref B, .ref D] = some (g x)
theorem kit_any3 {K : PySem.W.Frag} {t x y z : Value} {a b d : Bool} (h1 : PySem.W.kitOne K t x = some a) (h2 : PySem.W.kitOne K t y = some b) (h3 : PySem.W.kitOne K t z = some d) : PySem.W.kitAny K t [x, y, z] = some (a || (b || d)) := by
  unfold PySem.W.kitAny
  rw [h1]
  cases a with
  | true => rfl
  | false =>
    show PySem.W.kitAny K t [y, z] = _
    unfold PySem.W.kitAny
    rw [h2]
    cases b with
    | true => rfl
    | false =>
      show PySem.W.kitAny K t [z] = _
      unfold PySem.W.kitAny
      rw [h3]
      cases d <;> rfl
section
variable {K : PySem.W.Frag} {mg : Str → Option Value} {a b d : Str} {x y z : Bool}
theorem ti3_ins (hc : ClF K mg nm) (k1 : KiC K nm a x) (k2 : KiC K nm b y) (k3 : KiC K nm d z) {S : Ft} {H : Hp} {v : V} {fs : List (Str × V)} {A B D : Addr} (hA : ClN K a A) (hB : ClN K b B) (hD : ClN K d D) (h : insR K S H v nm fs) : ∃ t, TyX K H v t ∧ PySem.W.kitAny K t [.ref A, .ref B, .ref D] = some (x || (y || z)) := by
  obtain ⟨p, C, dx, rfl, _, hC, hp⟩ := h
  obtain ⟨_, cl, t⟩ := hc.at hC
  exact ⟨_, .base (.ins hp cl t.ha t.hn t.htk t.hm), kit_any3 (k1 C A hC hA) (k2 C B hC hB) (k3 C D hC hD)⟩
theorem ti3_o0 (hc : ClF K mg nm) (k1 : KiC K nm a x) (k2 : KiC K nm b y) (k3 : KiC K nm d z) : Ti3 K a b d (O0 nm) (fun _ => x || (y || z)) := fun S H v _ A B D hA hB hD h => ti3_ins hc k1 k2 k3 hA hB hD h
theorem ti3_o1 (hc : ClF K mg nm) (k1 : KiC K nm a x) (k2 : KiC K nm b y) (k3 : KiC K nm d z) : Ti3 K a b d (O1 nm f α) (fun _ => x || (y || z)) := fun S H v _ A B D hA hB hD h => ti3_ins hc k1 k2 k3 hA hB hD h.choose_spec.1
theorem ti3_o2 (hc : ClF K mg nm) (k1 : KiC K nm a x) (k2 : KiC K nm b y) (k3 : KiC K nm d z) : Ti3 K a b d (O2 nm f g α β) (fun _ => x || (y || z)) := fun S H v _ A B D hA hB hD h => ti3_ins hc k1 k2 k3 hA hB hD h.choose_spec.choose_spec.1
theorem ti3_or {g : α → Bool} {g' : β → Bool} (h1 : Ti3 K a b d α g) (h2 : Ti3 K a b d β g') : Ti3 K a b d (Or2 α β) (Or2.el g g') := fun S H v x A B D hA hB hD h => by
  cases x with
  | l x => exact h1 S H v x A B D hA hB hD h
  | r x => exact h2 S H v x A B D hA hB hD h
end
theorem je_isi3 {a b d : Str} {g : α → Bool} {m : Option α} {p p1 p2 p3 pt : Pos} {sx : Nat} (hm : c.mg "isinstance" = none) (ha : ClF c.K c.mg a) (hb : ClF c.K c.mg b) (hdd : ClF c.K c.mg d) (ht : Ti3 c.K a b d α g) (h : JE c e te Γ ma m) (hg : GlS c.sc "isinstance" := by rfl) (hg1 : GlS c.sc a := by rfl) (hg2 : GlS c.sc b := by rfl) (hg3 : GlS c.sc d := by rfl)
    (hs : ∀ env, starEach (e :: [.Tuple [.Name a p1, .Name b p2, .Name d p3] sx pt]) env = (false, eval e env) :: starEach [.Tuple [.Name a p1, .Name b p2, .Name d p3] sx pt] env := by intro _; rfl) (hd1 : (a == ("__debug__" : Str)) = false := by decide) (hd2 : (b == ("__debug__" : Str)) = false := by decide) (hd3 : (d == ("__debug__" : Str)) = false := by decide) :
    JE c (.Call (.Name "isinstance" p) [e, .Tuple [.Name a p1, .Name b p2, .Name d p3] sx pt] [] pos) (tCB (rIsiT c.K) (tCons te (tCons (tTup (tCons (tCls c.K a) (tCons (tCls c.K b) (tCons (tCls c.K d) tNil)))) tNil))) Γ .fr (m.bind fun x => some (g x)) :=
  ⟨fun X F => by
    obtain ⟨A, hA, hmA, _⟩ := ha.ex
    obtain ⟨B, hB, hmB, _⟩ := hb.ex
    obtain ⟨D, hD, hmD, _⟩ := hdd.ex
    rw [← F.hK]
    refine pe_callB call_isiT (F.gl hg) (by rw [F.hmg]; exact hm) (by decide +kernel) (pa_cons (h.pe X F) (pa_cons (pe_tup (pa_cons ?_ (pa_cons ?_ (pa_cons ?_ pa_nil)))) pa_nil) (hs _)) (by decide) (by decide) (hs _) rfl
    · rw [F.hK]; exact pe_cls hA (pe_glob (F.gl hg1) (by rw [F.hmg]; exact hmA) rfl hd1)
    · rw [F.hK]; exact pe_cls hB (pe_glob (F.gl hg2) (by rw [F.hmg]; exact hmB) rfl hd2)
    · rw [F.hK]; exact pe_cls hD (pe_glob (F.gl hg3) (by rw [F.hmg]; exact hmD) rfl hd3), fun S0 H0 S σ H R z hz H1 e1 Q q => by
    cases h1 : m with
    | none => rw [h1] at hz; cases hz
    | some x =>
      rw [h1] at hz
      have hz := Option.some.inj hz
      subst hz
      refine h.ev S0 H0 S σ H R x h1 H1 e1 _ fun v H2 e2 r => ?_
      intro A hA B hB D hD
      refine ⟨by show 3 ≤ sizeLine; decide, fun tp htp => ?_⟩
      have ex : Ex H2 (upd H2 tp (.tup [.ref A, .ref B, .ref D])) := Evl.Ex.new htp
      obtain ⟨t, ty, kit⟩ := ht _ _ _ _ _ _ _ hA hB hD (Rp.ex ex r)
      exact ⟨v, tp, _, t, _, g x, rfl, upd_same, .cons (.own _) (.cons (.own _) (.cons (.own _) .nil)), ty, kit, q _ _ (e2.trans ex) rfl⟩⟩
/-! ### an object of a class without an __init__ -/
theorem run_bare {X : Cx} {C : Addr} {pins : List (Addr × Obj)} {σ : L2.St} {H : Hp} {s : Shared} {Q : VK} (hm : PySem.W.makesIn X.K C = true) (hi : PySem.W.findIn X.K (.ref C) "__init__" = some (some (.builtin "object.__init__"))) (top : PySem.W.mroIn X.K C (.type "object") = some true) (I : Inv X pins σ H s)
    (h : ∀ x dx, H x = none → H dx = none → dx ≠ x → Q (.ref x) (upd (upd H dx (.own x)) x (.ins C dx []))) : wpAny (model X.prog X.w) X.A (call (.ref C) []) (EP X pins σ Q) X.xe s := by
  have hq := h (s.heap.objs.size + 1) s.heap.objs.size (I.hok.fresh (Nat.le_succ _)) (I.hok.fresh (Nat.le_refl _)) (Nat.ne_of_lt (Nat.lt_succ_self _))
  have I2 := Inv.made (C := C) I
  have e2 : ((s.heap.push PySem.W.emptyDict).push (PySem.W.instObj C s.heap.objs.size)).get? (s.heap.objs.size + 1) = some (PySem.W.instObj C s.heap.objs.size) := by
    have := Heap.get?_push_size (s.heap.push PySem.W.emptyDict) (o := PySem.W.instObj C s.heap.objs.size) rfl
    rwa [Heap.size_push] at this
  have t1 : PySem.W.Looks (model X.prog X.w) ((s.heap.push PySem.W.emptyDict).push (PySem.W.instObj C s.heap.objs.size)) (typeOf (.ref (s.heap.objs.size + 1))) (.ref C) := (PySem.W.Looks.ld e2).andThen .now
  have t2 : PySem.W.Looks (model X.prog X.w) ((s.heap.push PySem.W.emptyDict).push (PySem.W.instObj C s.heap.objs.size)) (isInstance (.ref (s.heap.objs.size + 1)) (.type "object")) true := t1.andThen (PySem.W.looks_mroIn I2.kIn top)
  refine wpAny_call (make_map0 I.kIn hm hi (fun self => PySem.W.Looks.of_pure (PySem.W.oi_bind self)) ?_)
  refine codeAny_call_builtin PySem.W.oi_plain PySem.W.entry_oi (@PySem.W.check_slot (model X.prog X.w) _ _ _ "object.__init__" "object" "__init__" (.ref (s.heap.objs.size + 1)) [] [] _ PySem.W.oi_kind PySem.W.oi_split t2 (PySem.W.oi_args (.ref (s.heap.objs.size + 1))) ?_)
  rw [PySem.W.oi_run]
  exact wpAny_pure (And.intro rfl ⟨V.ref (s.heap.objs.size + 1), _, I2, rfl, hq⟩)
def tBare (C : Addr) : TE := fun σ H Q => ∀ x dx, H x = none → H dx = none → dx ≠ x → Q (.ref x) (upd (upd H dx (.own x)) x (.ins C dx []))
/-- what a class without __init__ must have to be made -/
structure MkB (K : PySem.W.Frag) (mg : Str → Option Value) (nm : Str) : Prop where
  ex : ∃ C, ClN K nm C ∧ mg nm = some (.ref C) ∧ PySem.W.makesIn K C = true ∧ PySem.W.findIn K (.ref C) "__init__" = some (some (.builtin "object.__init__")) ∧ PySem.W.mroIn K C (.type "object") = some true ∧ PySem.W.keepIn K (.ref C) = true
theorem je_bare {p : Pos} (M : MkB c.K c.mg nm) (hg : GlS c.sc nm := by rfl) (hd : (nm == ("__debug__" : Str)) = false := by decide) :
    JE c (.Call (.Name nm p) [] [] pos) (fun σ H Q => ∀ C, ClN c.K nm C → tBare C σ H Q) Γ .fr (some (O0.mk (nm := nm))) :=
  ⟨fun X F => by
    obtain ⟨C, hC, hmg, h1, h2, h3, h4⟩ := M.ex
    refine ⟨fun pins s σ H Q I hq => ?_⟩
    refine wpAny_Call_Name_kw (ld_glob I (F.gl hg) (by rw [F.hmg]; exact hmg) ?_ hd)
    exact PySem.W.callWith_K0 I.kIn (by rw [F.hK]; exact h4) (run_bare (by rw [F.hK]; exact h1) (by rw [F.hK]; exact h2) (by rw [F.hK]; exact h3) I (hq C hC)), fun S0 H0 S σ H R z hz H1 e1 Q q => by
    cases hz
    intro C hC x dx hx hdx hne
    have ex1 : Ex H1 (upd H1 dx (.own x)) := Evl.Ex.new hdx
    have hx1 : (upd H1 dx (.own x)) x = none := by rw [upd_ne (fun e => hne e.symm)]; exact hx
    have ex2 : Ex H1 (upd (upd H1 dx (.own x)) x (.ins C dx [])) := ex1.trans (Evl.Ex.new hx1)
    exact q _ _ ex2 ⟨x, C, dx, rfl, .inr hx, hC, upd_same⟩⟩
/-! ### methods with their last parameters left out -/
def DnMF (P : Program) (w : World) (K : PySem.W.Frag) (mg : Str → Option Value) (base : Heap) (nm me : Str) (k : Nat) (sp : Sp) (dvs : List V) : Prop :=
  ∃ C f fd ps ds, ClN K nm C ∧ Cls K C ∧ Meth K C me f ∧ FnOk P w K mg base CX0 k f fd ps sp ∧ Binds K fd ps ds ∧ Vals dvs ds
theorem bind_pair {A B ρ : Type} (m : Option A) (n : Option B) (f : A × B → Option ρ) : ((m.bind fun x => n.bind fun y => some (x, y)).bind f) = m.bind fun x => n.bind fun y => f (x, y) := by
  cases m <;> cases n <;> rfl
theorem je_methF {A P ρ : Type} [Rp ρ] {o : Expr} {ta : TA} {G0 : PySem.W.Frag → Ft → Hp → List V → A → Prop} [Gk G0] {G : PySem.W.Frag → Ft → Hp → List V → P → Prop} {fr : Bool} {mf : P → Option ρ} {m : Option α} {mp : Option A} {me : Str} {k : Nat} {apos : Pos} {dvs : List V} (fill : α × A → P) (D : DnMF c.P c.w c.K c.mg c.base nm me k (spOf c.K G fr mf) dvs) (hf : Fill c.K (GC α G0) G dvs fill) (hi : InsQ c.K nm me α) (h : JE c o te Γ ma m) (ha : JA c (e :: es) ta Γ mb mp G0) (hk : k ≤ c.k := by exact Nat.le_of_ble_eq_true rfl)
    (hst : ∀ env, starEach (e :: es) env = (false, eval e env) :: starEach es env := by intro _; rfl) (hpl : ∀ (env : Env) (p : Pos), (backTo p (starEach es env)).any (·.1) = false := by intro _ _; rfl)
    (ht : ∀ env, ∃ pl : Sem Bool, eval (.Call (.Attribute o me apos) (e :: es) [] pos) env = (do
      let ov ← eval o env
      standAt apos.atName
      let (f, first) ← holding [ov] (getMethod ov me pl)
      callWith pos f first (backTo pos (starEach (e :: es) env)) (backToKw pos (keywordEach [] env))) := by intro _; exact ⟨_, rfl⟩) :
    JE c (.Call (.Attribute o me apos) (e :: es) [] pos) (fun σ H Q => ∀ C, ClN c.K nm C → tMeth C me (spOf c.K G fr mf) dvs E0 te ta σ H Q) Γ (cMd fr (ma.sup mb)) (m.bind fun x => mp.bind fun y => mf (fill (x, y))) :=
  ⟨fun X F => by
    obtain ⟨C, f, fd, ps, ds, hC, cl, M, G', b, v⟩ := D
    have G'' : FnOk X.prog X.w X.K X.mg X.base CX0 k f fd ps (spOf c.K G fr mf) := by
      rw [F.hP, F.hw, F.hK, F.hmg, F.hb]; exact G'
    obtain ⟨pl, ht'⟩ := ht X.env
    refine ⟨fun pins s σ H Q I hq => ?_⟩
    refine PE.run ?_ pins s σ H Q I (hq C hC)
    exact pe_meth (pl := pl) (h.pe X F) (by rw [F.hK]; exact cl) (by rw [F.hK]; exact M) G'' (F.room.mono hk) (by rw [F.hK]; exact b) v pass0 (ha.pa X F) (hst _) (hpl _ _) ht', fun S0 H0 S σ H R z hz H1 e1 Q q => by
    cases h1 : m with
    | none => rw [h1] at hz; cases hz
    | some x =>
      cases h2 : mp with
      | none => rw [h1, h2] at hz; cases hz
      | some y =>
        rw [h1, h2] at hz
        have hz : mf (fill (x, y)) = some z := hz
        intro C hC
        refine h.ev S0 H0 S σ H R x h1 H1 e1 _ fun v H2 e2 r => ?_
        obtain ⟨p, C', dx, fs, rfl, hC', hp, hl⟩ := hi _ _ _ _ r
        have ec : C' = C := hC.one hC'
        subst ec
        refine ⟨p, dx, fs, rfl, hp, hl, ?_⟩
        refine ha.ev S0 H0 S σ H R y h2 H2 (e1.trans e2) _ fun vs H3 e3 r3 => ?_
        have e23 := e2.trans e3
        refine ⟨fill (x, y), z, fun a => nw (Sof (ma.sup mb) S H) H1 a ∧ H3 a ≠ none, hz, fun a z => z.2, hf _ _ (.ref p :: vs) (x, y) ⟨_, vs, rfl, Rp.up (fun a z z2 => ⟨nw_up Sof.l a z, z2⟩) (Rp.ex e3 r), Gk.fr (fun a z z2 => ⟨nw_ex e2 a (nw_up Sof.r a z), z2⟩) (Evl.Ex.refl H3) r3⟩, fun v H4 e4 r4 => ?_⟩
        refine q v H4 (e23.trans e4) (Rp.up (fun a z _ => ?_) r4)
        rcases z with z | z
        · cases fr with
          | true => exact z.elim
          | false => exact z.1
        · exact .inr (Evl.fresh_back e23 z)⟩
/-- the object is one of two kinds: both methods -/
theorem two_hmN {A ρ : Type} {mr : Option (Or2 α β)} {ma : Option A} {F : α → A → Option ρ} {G : β → A → Option ρ} : ∀ z, (mr.bind fun r => ma.bind fun y => Or2.el (fun x => F x y) (fun x => G x y) r) = some z →
    ((mr.bind Or2.getL).bind fun x => ma.bind fun y => F x y) = some z ∨ ((mr.bind Or2.getR).bind fun x => ma.bind fun y => G x y) = some z := fun z h => by
  cases mr with
  | none => cases h
  | some r =>
    cases ma with
    | none => cases r <;> cases h
    | some y =>
      cases r with
      | l x => exact .inl h
      | r x => exact .inr h
/-! ### what a tuple of two kinds gives, copied by one def -/
theorem ji_t2or {tg : Expr} {m : Option (T2 α β)} (h : JE c e te Γ ma m) : JI c tg e (iTup c.K te) Γ ma (m.bind fun t => some [Or2.l (β := β) t.a, Or2.r (α := α) t.b]) :=
  ⟨fun X F => by rw [← F.hK]; exact pi_tup (h.pe X F), fun S0 H0 S σ H R xs hx H1 e1 Rr q => by
    cases h1 : m with
    | none => rw [h1] at hx; cases hx
    | some t =>
      rw [h1] at hx
      have hx := Option.some.inj hx
      subst hx
      refine h.ev S0 H0 S σ H R t h1 H1 e1 _ fun v H2 e2 r => ?_
      obtain ⟨p, v1, v2, rfl, sp, hp, r1, r2⟩ := r
      refine ⟨p, rfl, ⟨_, SqT.of hp⟩, ?_⟩
      refine q _ H2 (fun H => SqT c.K H p [v1, v2]) (YAt [v1, v2]) e2 (walk_tup (xs := [v1, v2])) (fun H3 f => SqT.of (f p _ sp hp)) fun i x hi H3 v H4 f y => ?_
      obtain ⟨rfl, hv⟩ := y
      refine ⟨Evl.Ex.refl _, ?_⟩
      match i, hi, hv with
      | 0, hi, hv =>
        cases hi; cases hv
        exact Rp.fr (fun a z z2 => .inl ⟨z, z2⟩) f.v r1
      | 1, hi, hv =>
        cases hi; cases hv
        exact Rp.fr (fun a z z2 => .inl ⟨z, z2⟩) f.v r2
      | i + 2, hi, hv => simp at hi⟩
def tupOr {α β : Type} : List (Or2 α β) → Option (T2 α β)
  | [.l x, .r y] => some ⟨x, y⟩
  | _ => none
theorem je_tupOr {p : Pos} {md : Md} {m : Option (List (Or2 α β))} (h : JE c e te Γ md m) (hm : c.mg "tuple" = none) (hmd : md = .fr := by rfl) (hg : GlS c.sc "tuple" := by rfl) (hs : ∀ env, starEach (e :: []) env = (false, eval e env) :: starEach [] env := by intro _; rfl) :
    JE c (.Call (.Name "tuple" p) [e] [] pos) (tCB (fun xs H Q => ∃ p ys, xs = [.ref p] ∧ ((SqL c.K H p ys ∧ ∀ l, H l = none → Q (.ref l) (upd H l (.tup ys))) ∨ (SqT c.K H p ys ∧ Q (.ref p) H))) (tCons te tNil)) Γ .fr (m.bind tupOr) :=
  ⟨fun X F => by rw [← F.hK]; exact pe_callTy call_tuple_of (F.gl hg) (by rw [F.hmg]; exact hm) (by decide +kernel) (pa_cons (h.pe X F) pa_nil (hs _)) (by decide) (by decide) (hs _) rfl, fun S0 H0 S σ H R z hz H1 e1 Q q => by
    subst hmd
    cases h1 : m with
    | none => rw [h1] at hz; cases hz
    | some xs =>
      rw [h1] at hz
      refine h.ev S0 H0 S σ H R xs h1 H1 e1 _ fun v H2 e2 r => ?_
      obtain ⟨p, vs, rfl, _, hp, pr⟩ := r
      refine ⟨p, vs, rfl, .inl ⟨SqL.of hp, fun l hl => ?_⟩⟩
      have ex : Ex H2 (upd H2 l (.tup vs)) := Evl.Ex.new hl
      match xs, hz, pr with
      | [.l x, .r y], hz, .cons r1 (.cons r2 .nil) =>
        cases hz
        exact q _ _ (e2.trans ex) ⟨l, _, _, rfl, .inr (Evl.fresh_back e2 hl), upd_same, Rp.ex ex r1, Rp.ex ex r2⟩⟩
/-- f(part), part of one of two kinds, f known for both -/
theorem je_callOr {ρ1 ρ2 : Type} [Rp ρ1] [Rp ρ2] {x : Str} {k1 k2 : Nat} {m : Option (Or2 α β)} {m1 : α × Unit → Option ρ1} {m2 : β × Unit → Option ρ2} {p : Pos} (D1 : Dn c.P c.w c.K c.mg c.base x k1 (spOf c.K (GC α GN) true m1)) (D2 : Dn c.P c.w c.K c.mg c.base x k2 (spOf c.K (GC β GN) true m2)) (h : JE c e te Γ ma m) (hk1 : k1 ≤ c.k := by exact Nat.le_of_ble_eq_true rfl) (hk2 : k2 ≤ c.k := by exact Nat.le_of_ble_eq_true rfl) (hg : GlS c.sc x := by rfl)
    (hd : (x == ("__debug__" : Str)) = false := by decide) (he : ∀ env, starEach (e :: []) env = (false, eval e env) :: starEach [] env := by intro _; rfl) (hpl : ∀ (env : Env) (p : Pos), (backTo p (starEach [] env)).any (·.1) = false := by intro _ _; rfl) :
    JE c (.Call (.Name x p) [e] [] pos) (fun σ H Q => tCall (spOf c.K (GC α GN) true m1) [] E0 (tCons te tNil) σ H Q ∨ tCall (spOf c.K (GC β GN) true m2) [] E0 (tCons te tNil) σ H Q) Γ .fr (m.bind (Or2.el (fun x => (m1 (x, ())).bind fun z => some (Or2.l (β := ρ2) z)) (fun x => (m2 (x, ())).bind fun z => some (Or2.r (α := ρ1) z)))) := by
  have h1 := je_inl (β := ρ2) (je_call D1 (ja_cons (je_getL h) ja_nil he) hk1 hg hd he hpl (pos := pos) (p := p))
  have h2 := je_inr (α := ρ1) (je_call D2 (ja_cons (je_getR h) ja_nil he) hk2 hg hd he hpl (pos := pos) (p := p))
  refine je_two h1 h2 fun z hz => ?_
  cases m with
  | none => cases hz
  | some v =>
    cases v with
    | l x => exact .inl hz
    | r x => exact .inr hz
/-! ### a list of four kinds -/
structure L4 (α β γ δ : Type) where
  a : α
  b : β
  c : γ
  d : δ
deriving Inhabited
end
instance rpL4 {α β γ δ : Type} [Rp α] [Rp β] [Rp γ] [Rp δ] : Rp (L4 α β γ δ) where
  r K S H v x := ∃ p v1 v2 v3 v4, v = .ref p ∧ S p ∧ H p = some (.lst [v1, v2, v3, v4]) ∧ Rp.r K S H v1 x.a ∧ Rp.r K S H v2 x.b ∧ Rp.r K S H v3 x.c ∧ Rp.r K S H v4 x.d
  fr := fun hs hf ⟨p, v1, v2, v3, v4, e, sp, hp, h1, h2, h3, h4⟩ => ⟨p, v1, v2, v3, v4, e, hs p sp (by rw [hp]; simp), (hf p sp).1 _ hp, Rp.fr hs hf h1, Rp.fr hs hf h2, Rp.fr hs hf h3, Rp.fr hs hf h4⟩
instance datL4 {α β γ δ : Type} [Rp α] [Rp β] [Rp γ] [Rp δ] [i : Dat α] [j : Dat β] [k : Dat γ] [l : Dat δ] : Dat (L4 α β γ δ) where
  d x := .list [i.d x.a, j.d x.b, k.d x.c, l.d x.d]
  ok x := i.ok x.a && (j.ok x.b && (k.ok x.c && l.ok x.d))
  dp := max i.dp (max j.dp (max k.dp l.dp)) + 1
  q x y := i.q x.a y.a && (j.q x.b y.b && (k.q x.c y.c && l.q x.d y.d))
  tod := fun ⟨p, v1, v2, v3, v4, e, _, hp, h1, h2, h3, h4⟩ => e ▸ .lst (SqL.of hp) (.cons (i.tod h1) (.cons (j.tod h2) (.cons (k.tod h3) (.cons (l.tod h4) .nil))))
  lay := fun x h => by
    simp only [Bool.and_eq_true] at h
    simp [PyData.canLay0, PyData.canLayAll0, i.lay _ h.1, j.lay _ h.2.1, k.lay _ h.2.2.1, l.lay _ h.2.2.2]
  deep := fun x => by have h1 := i.deep x.a; have h2 := j.deep x.b; have h3 := k.deep x.c; have h4 := l.deep x.d; simp only [PyData.depth, PyData.depthAll]; omega
  eqd := fun x y => by simp [PyData.eqv, PyData.eqvAll, i.eqd, j.eqd, k.eqd, l.eqd]
theorem l4a {K : PySem.W.Frag} {α β γ δ : Type} [Rp α] [Rp β] [Rp γ] [Rp δ] (S : Ft) (H : Hp) (v : V) (x : L4 α β γ δ) (h : Rp.r K S H v x) : ∃ p vs w, v = .ref p ∧ H p = some (.lst vs) ∧ atI vs 0 = some w ∧ Rp.r K S H w x.a := by obtain ⟨p, v1, v2, v3, v4, e, _, hp, h1, h2, h3, h4⟩ := h; exact ⟨p, _, v1, e, hp, rfl, h1⟩
theorem l4b {K : PySem.W.Frag} {α β γ δ : Type} [Rp α] [Rp β] [Rp γ] [Rp δ] (S : Ft) (H : Hp) (v : V) (x : L4 α β γ δ) (h : Rp.r K S H v x) : ∃ p vs w, v = .ref p ∧ H p = some (.lst vs) ∧ atI vs 1 = some w ∧ Rp.r K S H w x.b := by obtain ⟨p, v1, v2, v3, v4, e, _, hp, h1, h2, h3, h4⟩ := h; exact ⟨p, _, v2, e, hp, rfl, h2⟩
theorem l4c {K : PySem.W.Frag} {α β γ δ : Type} [Rp α] [Rp β] [Rp γ] [Rp δ] (S : Ft) (H : Hp) (v : V) (x : L4 α β γ δ) (h : Rp.r K S H v x) : ∃ p vs w, v = .ref p ∧ H p = some (.lst vs) ∧ atI vs 2 = some w ∧ Rp.r K S H w x.c := by obtain ⟨p, v1, v2, v3, v4, e, _, hp, h1, h2, h3, h4⟩ := h; exact ⟨p, _, v3, e, hp, rfl, h3⟩
theorem l4d {K : PySem.W.Frag} {α β γ δ : Type} [Rp α] [Rp β] [Rp γ] [Rp δ] (S : Ft) (H : Hp) (v : V) (x : L4 α β γ δ) (h : Rp.r K S H v x) : ∃ p vs w, v = .ref p ∧ H p = some (.lst vs) ∧ atI vs 3 = some w ∧ Rp.r K S H w x.d := by obtain ⟨p, v1, v2, v3, v4, e, _, hp, h1, h2, h3, h4⟩ := h; exact ⟨p, _, v4, e, hp, rfl, h4⟩
section
variable {c : Stc} {Γ : List Sl} {e : Expr} {es : List Expr} {ta : TA} {ma : Md} {α β γ δ : Type} [Rp α] [Rp β] [Rp γ] [Rp δ] {pos : Pos}
theorem je_l4 {m : Option (α × β × γ × δ × Unit)} (h : JA c es ta Γ ma m (GC α (GC β (GC γ (GC δ GN))))) : JE c (.List es pos) (tLst ta) Γ ma (m.bind fun x => some (L4.mk x.1 x.2.1 x.2.2.1 x.2.2.2.1)) :=
  ⟨fun X F => pe_lst (h.pa X F), fun S0 H0 S σ H R z hz H1 e1 Q q => by
    cases h1 : m with
    | none => rw [h1] at hz; cases hz
    | some x =>
      rw [h1] at hz; cases hz
      refine h.ev S0 H0 S σ H R x h1 H1 e1 _ fun vs H2 e2 r => ?_
      obtain ⟨v1, _, rfl, g1, v2, _, rfl, g2, v3, _, rfl, g3, v4, _, rfl, g4, rfl⟩ := r
      refine ⟨by show 4 ≤ sizeLine; decide, fun p hp => ?_⟩
      have ex : Ex H2 (upd H2 p (.lst [v1, v2, v3, v4])) := Evl.Ex.new hp
      exact q _ _ (e2.trans ex) ⟨p, v1, v2, v3, v4, rfl, .inr (Evl.fresh_back e2 hp), upd_same, Rp.ex ex g1, Rp.ex ex g2, Rp.ex ex g3, Rp.ex ex g4⟩⟩
end
/-! ### an __init__ that stores two things -/
class Gv {P : Type} (G : PySem.W.Frag → Ft → Hp → List V → P → Prop) : Prop where
  fv : ∀ {K : PySem.W.Frag} {S : Ft} {H H' : Hp} {vs : List V} {x : P}, Fv S H H' → G K S H vs x → G K S H' vs x
instance gvN : Gv GN := ⟨fun _ h => h⟩
instance gvC {α : Type} [Rp α] {P : Type} {G : PySem.W.Frag → Ft → Hp → List V → P → Prop} [Gv G] : Gv (GC α G) := ⟨fun e ⟨v, r, ev, h, g⟩ => ⟨v, r, ev, Rp.fr (fun _ z _ => z) e h, Gv.fv e g⟩⟩
section
variable {P : Program} {w : World} {K : PySem.W.Frag} {mg : Str → Option Value} {base : Heap} {qual nm : Str} {st : Stmt} {f : Addr} {fd : FuncData} {k : Nat}
theorem ok_init2 {P' α β : Type} [Rp α] [Rp β] {md1 md2 : Md} {G : PySem.W.Frag → Ft → Hp → List V → P' → Prop} [g : GA G] [gv : Gv G] {f1 f2 : Str} {ps : List Str} {e1 e2 : Expr} {t1 t2 : TE} {p1 p2 p3 q1 q2 q3 : Pos} {m1 : P' → Option α} {m2 : P' → Option β} (F : Fun K "__init__" qual st f fd) (S : FnScope ("self" :: ps) ("self" :: ps) (defScope st))
    (hb : defBody st = [.Assign [.Attribute (.Name "self" p1) f1 p2] e1 p3, .Assign [.Attribute (.Name "self" q1) f2 q2] e2 q3]) (hc : ClF K mg nm) (hn1 : NoA K nm f1) (hn2 : NoA K nm f2) (hlen : ∀ a, (g.A a).length = ps.length)
    (h1 : ∀ a, JE ⟨P, w, K, mg, base, "self" :: ps, defScope st, fun _ => true, k⟩ e1 t1 (Sl.no :: g.A a) md1 (m1 a)) (h2 : ∀ a, JE ⟨P, w, K, mg, base, "self" :: ps, defScope st, fun _ => true, k⟩ e2 t2 (Sl.no :: g.A a) md2 (m2 a)) (hmd1 : md1 = .fr := by rfl) (hmd2 : md2 = .fr := by rfl) (hff : ¬ f1 = f2 := by decide) (hv : Vis (defScope st) "self" := by first | exact Or.inl rfl | exact Or.inr (Or.inl rfl) | exact Or.inr (Or.inr rfl))
    (hs1 : ∀ env, swapsWith e1 (some (.Attribute (.Name "self" p1) f1 p2)) p3.line env = pure false := by intro _; rfl) (hs2 : ∀ env, swapsWith e2 (some (.Attribute (.Name "self" q1) f2 q2)) q3.line env = pure false := by intro _; rfl) :
    FnOk P w K mg base CX0 (k + 1) f fd ("self" :: ps) (spMk K nm G fun a => (m1 a).bind fun x => (m2 a).bind fun y => some (O2.mk (nm := nm) (f := f1) (g := f2) x y)) := by
  subst hmd1 hmd2
  refine F.ok S (fun vs H Q E hh => ?_) fun cdv Ar outer s H vs Q E hr hh => ?_
  · obtain ⟨p, C, dx, vs', a, r, S', rfl, _, _, _, hg, _⟩ := hh
    rw [List.length_cons, List.length_cons, ga_len hg, hlen a]
  · obtain ⟨p, C, dx, vs', a, r, S', rfl, hC, hp, hS, hg, hm, q⟩ := hh
    rw [hb]
    have ps0 := fam_def (P := P) (w := w) (K := K) (mg := mg) (base := base) (N := "self" :: ps) (sc := defScope st) (cdv := cdv) (outer := outer) (s := s) (H := H) (E := E) hr
    refine ⟨_, pss_cons (ps_fld (pe_var (i := 0) rfl (by rw [ps0.hsc]; exact hv) (by decide) (by decide)) ((h1 a).pe _ ps0) (hs1 _)) (pss_one (ps_fld (pe_var (i := 0) rfl (by rw [ps0.hsc]; exact hv) (by decide) (by decide)) ((h2 a).pe _ ps0) (hs2 _))), ?_⟩
    have hm : (m1 a).bind (fun x => (m2 a).bind fun y => some (O2.mk (nm := nm) (f := f1) (g := f2) x y)) = some r := hm
    cases hm1 : m1 a with
    | none => rw [hm1] at hm; cases hm
    | some x =>
    cases hm2 : m2 a with
    | none => rw [hm1, hm2] at hm; cases hm
    | some y =>
      rw [hm1, hm2] at hm
      cases hm
      have l2 : vs'.length = ps.length := (ga_len hg).trans (hlen a)
      have hl2 : (("self" : Str) :: ps).length = vs'.length + 1 := by rw [List.length_cons, l2]
      refine (h1 a).ev S' H S' _ H (init_st (p := p) hg (fun b z => (hS b z).1) hl2) x hm1 H (Evl.Ex.refl H) _ fun v H1 ex1 r1 => ?_
      have hp1 := ex1 p _ hp
      obtain ⟨_, cl, _⟩ := hc.at hC
      refine ⟨_, rfl, p, C, dx, [], rfl, hp1, by rw [show (cxOf CX0 P w K mg base ("self" :: ps) qual (defScope st) f cdv Ar outer s H E).nox.K = K from rfl]; exact cl, hn1 C hC, by decide, ?_⟩
      have fresh : ∀ b, H b = none → b ≠ p := fun b hb' eb => by rw [eb, hp] at hb'; cases hb'
      rw [show putF f1 v [] = [(f1, v)] from rfl]
      have hpp : ∀ b o, b ≠ p → H b = some o → upd H1 p (.ins C dx [(f1, v)]) b = some o := fun b o nb hb' => by rw [upd_ne nb]; exact ex1 b o hb'
      have hg' : G K S' (upd H1 p (.ins C dx [(f1, v)])) vs' a := Gv.fv (Fr.v fun b o sb hb' => hpp b o (hS b sb).2 hb') hg
      have hS2 : ∀ b, S' b → upd H1 p (.ins C dx [(f1, v)]) b ≠ none := fun b z => by
        obtain ⟨z1, z2⟩ := hS b z
        cases hh : H b with
        | none => exact absurd hh z1
        | some o => rw [hpp b o z2 hh]; simp
      have back : ∀ b, upd H1 p (.ins C dx [(f1, v)]) b = none → H b = none ∧ b ≠ p := fun b hb' => by
        have nb : b ≠ p := fun eb => by rw [eb, upd_same] at hb'; cases hb'
        refine ⟨?_, nb⟩
        cases hh : H b with
        | none => rfl
        | some o => rw [hpp b o nb hh] at hb'; cases hb'
      have hp2 : upd H1 p (.ins C dx [(f1, v)]) p = some (.ins C dx [(f1, v)]) := upd_same
      have he1 : ∀ b o, b ≠ p → H1 b = some o → upd H1 p (.ins C dx [(f1, v)]) b = some o := fun b o nb hb' => by rw [upd_ne nb]; exact hb'
      generalize upd H1 p (.ins C dx [(f1, v)]) = HA at *
      refine (h2 a).ev S' HA S' _ HA (init_st (p := p) hg' hS2 hl2) y hm2 HA (Evl.Ex.refl HA) _ fun v2 H2 ex2 r2 => ?_
      refine ⟨_, rfl, p, C, dx, [(f1, v)], rfl, ex2 p _ hp2, by rw [show (cxOf CX0 P w K mg base ("self" :: ps) qual (defScope st) f cdv Ar outer s H E).nox.K = K from rfl]; exact cl, hn2 C hC, by show 1 < 1000; decide, ?_⟩
      rw [show putF f2 v2 [(f1, v)] = [(f1, v), (f2, v2)] from by show (if f1 = f2 then _ else _) = _; rw [if_neg hff] <;> rfl]
      have fr1 : Fr (nw (Sof .fr S' H) H) H1 (upd H2 p (.ins C dx [(f1, v), (f2, v2)])) := fun b o zb hb' => by
        have nb := zb.elim (fun z => z.elim) (fresh b)
        rw [upd_ne nb]; exact ex2 b o (he1 b o nb hb')
      have fr2 : Fr (nw (Sof .fr S' HA) HA) H2 (upd H2 p (.ins C dx [(f1, v), (f2, v2)])) := fun b o zb hb' => by
        have nb := zb.elim (fun z => z.elim) fun z => (back b z).2
        rw [upd_ne nb]; exact hb'
      exact q _ (fun b o nb hb' => by rw [upd_ne nb]; exact ex2 b o (hpp b o nb hb')) ⟨v, v2, ⟨p, C, dx, rfl, .inl rfl, hC, upd_same⟩, Rp.fr (fun b z _ => .inr (z.elim (fun z => z.elim) id)) fr1.v r1, Rp.fr (fun b z _ => .inr (z.elim (fun z => z.elim) fun z => (back b z).1)) fr2.v r2⟩
end
/-! ### a new dict as an argument -/
section
variable {c : Stc} {Γ : List Sl} {e : Expr} {es es2 : List Expr} {ta tr : TA} {ma mb : Md}
theorem ja_dcall {α A P : Type} [i : Rp α] {G0 : PySem.W.Frag → Ft → Hp → List V → A → Prop} [Gk G0] {G : PySem.W.Frag → Ft → Hp → List V → P → Prop} [Gk G] {m : A → Option (Dct α)} {mp : Option A} {m2 : Option P} {y : Str} {kk : Nat} {p pos : Pos} (D : Dn c.P c.w c.K c.mg c.base y kk (spOfD c.K G0 m)) (ha : JA c (e :: es) ta Γ ma mp G0) (h2 : JA c es2 tr Γ mb m2 G)
    (hkk : kk ≤ c.k := by exact Nat.le_of_ble_eq_true rfl) (hg : GlS c.sc y := by rfl) (hd : (y == ("__debug__" : Str)) = false := by decide) (he : ∀ env, starEach (e :: es) env = (false, eval e env) :: starEach es env := by intro _; rfl) (hpl : ∀ (env : Env) (p : Pos), (backTo p (starEach es env)).any (·.1) = false := by intro _ _; rfl)
    (hs : ∀ env, starEach (.Call (.Name y p) (e :: es) [] pos :: es2) env = (false, eval (.Call (.Name y p) (e :: es) [] pos) env) :: starEach es2 env := by intro _; rfl) :
    JA c (.Call (.Name y p) (e :: es) [] pos :: es2) (tCons (tCall (spOfD c.K G0 m) [] E0 ta) tr) Γ (ma.sup mb) ((mp.bind m).bind fun d => m2.bind fun y => some (d, y)) (GD α G) :=
  ⟨fun X F => pa_cons (pe_dn F D hkk (ha.pa X F) hg hd he hpl) (h2.pa X F) (hs _), fun S0 H0 S σ H R z hz H1 e1 Q q => by
    cases h1 : mp with
    | none => rw [h1] at hz; cases hz
    | some a =>
      rw [h1] at hz
      have hz : (m a).bind (fun d => m2.bind fun y => some (d, y)) = some z := hz
      cases hm : m a with
      | none => rw [hm] at hz; cases hz
      | some d =>
        cases hh : m2 with
        | none => rw [hm, hh] at hz; cases hz
        | some y2 =>
          rw [hm, hh] at hz
          have hz : some (d, y2) = some z := hz
          cases hz
          refine ha.ev S0 H0 S σ H R a h1 H1 e1 _ fun vs H2 e2 r => ?_
          refine ⟨a, d, fun b => nw (Sof ma S H) H1 b ∧ H2 b ≠ none, hm, fun b z => z.2, by rw [List.append_nil]; exact Gk.fr (fun b z z2 => ⟨z, z2⟩) (Evl.Ex.refl H2) r, fun l kvs H3 e3 hl0 hl3 r3 => ?_⟩
          have e13 := e2.trans e3
          refine h2.ev S0 H0 S σ H R y2 hh H3 (e1.trans e13) _ fun vs2 H4 e4 r4 => ?_
          refine q _ H4 (e13.trans e4) ⟨l, kvs, vs2, rfl, .inr (Evl.fresh_back e2 hl0), e4 l _ hl3, RpD.fr (fun b z _ => ?_) (fv_ex e4) r3, Gk.fr (fun b z _ => nw_ex e13 b (nw_up Sof.r b z)) (Evl.Ex.refl H4) r4⟩
          rcases z with z | z
          · exact nw_up Sof.l b z.1
          · exact .inr (Evl.fresh_back e2 z)⟩
end
/-! ### x = [.. for k in dict ..] -/
section
variable {c : Stc} {Γ : List Sl} {τ ρ : Type} [Rt ρ] {fr : Bool} {Γf : τ → List Sl} {rest : List Stmt} {tu : TS}
theorem js_setLcK {α β : Type} [iα : Rp α] [iβ : Rp β] {elt tg : Expr} {ifs : List Expr} {scope : Scope} {x y : Str} {py pos pos' spos : Pos} {g : TG} {tt : TT} {te : TE} {me : Md} {ps : Dct α} {f : Str → Option Bool} {h : Str → Option β} {Γ' : Str → List Sl} {k : List β → Option (Out τ ρ)} (j : Nat) (own : List (Str × Nat)) (jd : Nat) (hs' : Γ[jd]? = some (.dct iα ps) := by rfl) (hN : c.N.Nodup) (ok : blkC c.N c.sc scope own = true) (hg : ∀ X, Fam (c.blk scope) X → PG X tg g)
    (tgo : TgOk c.K g (own.map (·.2)) (wipeG (Γ.map Sl.frz) (own.map (·.2))) Γ') (ht : ∀ x, JTs (c.blk scope) ifs tt (Γ' x) (f x)) (he : ∀ x, JE (c.blk scope) elt te (Γ' x) me (h x)) (hk : ∀ v, JS c rest tu (Γ.set j (.val (@rpList β iβ) v)) fr Γf (k v)) (hme : me = .fr := by rfl) (hs : ∀ (env : Env) v, foldedSetIterable (.Name x pos') env v = pure v := by intro _ _; rfl)
    (hx : c.N[jd]? = some x := by rfl) (hv : Vis c.sc x := by first | exact Or.inl rfl | exact Or.inr (Or.inl rfl) | exact Or.inr (Or.inr rfl)) (hd : (x == ("__debug__" : Str)) = false := by decide) (hcd : (x == ("__classdict__" : Str)) = false := by decide)
    (hy : c.N[j]? = some y := by rfl) (hyl : c.sc.names.lookup y = some .local := by rfl) (hkd : c.sc.kind = .function := by rfl) (hln : (py.line == pos.line) = true := by rfl) (hno : (scope.names.any fun (n, k) => n == y && (k == .local || k == .cell)) = false := by decide +kernel) :
    JS c (.Assign [.Name y py] (.ListComp elt [⟨tg, .Name x pos', ifs, 0⟩] scope pos) spos :: rest) (tSeq (tAsg (tLockE (tLc (iKeys (tVar jd)) g tt te (own.map (·.2)))) (gName j)) tu) Γ fr Γf ((lcO f h (ps.map (·.1))).bind k) := by
  subst hme
  have hj : JE c (.ListComp elt [⟨tg, .Name x pos', ifs, 0⟩] scope pos) (tLockE (tLc (iKeys (tVar jd)) g tt te (own.map (·.2)))) Γ .fr (lcO f h (ps.map (·.1))) := je_lcK own jd hs' hN ok hg tgo ht he (by decide) hs hx hv hd hcd
  refine js_asg j (fun X F => ?_) hj hk
  exact ps_lock (ps_setLc (wi := iKeys (tVar jd)) F.calm (by rw [F.hN]; exact hN) (by rw [F.hN]; exact hy) (by rw [F.hsc]; exact hyl) (sw_true (by rw [F.hsc]; exact hkd) (by rw [F.hsc]; exact hyl) hln hno) (pi_keys (pe_var (by rw [F.hN]; exact hx) (F.vis hv) hd hcd)) (by rw [F.hN, F.hsc]; exact blkOk_by ok) (fun s H C cl fp => hg _ (F.blk scope s H C cl fp)) (fun s H C cl fp => (ht default).pt _ (F.blk scope s H C cl fp)) (fun s H C cl fp => (he default).pe _ (F.blk scope s H C cl fp)) (fun x => hs _ x))
end
/-! ### a field that both kinds have; what is filled up -/
theorem two_fld {α β ρ : Type} {mr : Option (Or2 α β)} {f : α → ρ} {g : β → ρ} : ∀ z, (mr.bind fun r => some (Or2.el f g r)) = some z → ((mr.bind Or2.getL).bind fun x => some (f x)) = some z ∨ ((mr.bind Or2.getR).bind fun x => some (g x)) = some z := fun z h => by
  cases mr with
  | none => cases h
  | some r =>
    cases r with
    | l x => exact .inl h
    | r x => exact .inr h
theorem fill5_1 {K : PySem.W.Frag} {A B C D E M α : Type} [Rp A] [Rp B] [Rp C] [Rp D] [Rp E] [Rp M] [Rp α] : Fill K (GC A (GC B (GC C (GC D (GC E (GC M GN)))))) (GC A (GC B (GC C (GC D (GC E (GC M (GC (Op α) GN))))))) [V.non] (fun q => (q.1, q.2.1, q.2.2.1, q.2.2.2.1, q.2.2.2.2.1, q.2.2.2.2.2.1, Op.no, ())) := fun S H vs a ⟨v1, _, e1, h1, v2, _, e2, h2, v3, _, e3, h3, v4, _, e4, h4, v5, _, e5, h5, v6, _, e6, h6, e7⟩ => by
  subst e1 e2 e3 e4 e5 e6 e7
  exact ⟨v1, _, rfl, h1, v2, _, rfl, h2, v3, _, rfl, h3, v4, _, rfl, h4, v5, _, rfl, h5, v6, _, rfl, h6, .non, [], rfl, rfl, rfl⟩
theorem fill4_2 {K : PySem.W.Frag} {A B C D E α : Type} [Rp A] [Rp B] [Rp C] [Rp D] [Rp E] [Rp α] : Fill K (GC A (GC B (GC C (GC D (GC E GN))))) (GC A (GC B (GC C (GC D (GC E (GC (Option Int) (GC (Op α) GN))))))) [V.non, V.non] (fun q => (q.1, q.2.1, q.2.2.1, q.2.2.2.1, q.2.2.2.2.1, none, Op.no, ())) := fun S H vs a ⟨v1, _, e1, h1, v2, _, e2, h2, v3, _, e3, h3, v4, _, e4, h4, v5, _, e5, h5, e7⟩ => by
  subst e1 e2 e3 e4 e5 e7
  exact ⟨v1, _, rfl, h1, v2, _, rfl, h2, v3, _, rfl, h3, v4, _, rfl, h4, v5, _, rfl, h5, .non, _, rfl, rfl, .non, [], rfl, rfl, rfl⟩
/-! ### trees, by their height -/
abbrev Tr0 : Type := Or2 (O0 "Full") (O1 "Bar" "chain" (List Str))
abbrev Ei1 : Type := O2 "Either" "fault" "pairs" Str (List (T2 Str Tr0))
abbrev Tr1 : Type := Or2 Ei1 Tr0
abbrev Ei2 : Type := O2 "Either" "fault" "pairs" Str (List (T2 Str Tr1))
abbrev Tr2 : Type := Or2 Ei2 Tr0
abbrev Ei3 : Type := O2 "Either" "fault" "pairs" Str (List (T2 Str Tr2))
abbrev Tr3 : Type := Or2 Ei3 Tr0
abbrev Ei4 : Type := O2 "Either" "fault" "pairs" Str (List (T2 Str Tr3))
abbrev Tr4 : Type := Or2 Ei4 Tr0
end Sm
end

section
set_option maxRecDepth 100000
set_option maxHeartbeats 4000000
namespace Sm
open PySem L2 PyProof.Rows

/-! ### a list that is compared with [] -/
def rNeNil : R2 := fun x y H Q => ∃ a b xs, x = .ref a ∧ y = .ref b ∧ H a = some (.lst xs) ∧ H b = some (.lst []) ∧ Q (.bl (!xs.isEmpty)) H
theorem op_neNil {X : Cx} (hu : X.A.units < cLine) : OpR X (compareOp .NotEq) rNeNil := by
  intro pins s σ H x y v u Q I rx ry h
  obtain ⟨a, b, xs, rfl, rfl, ha, hb, q⟩ := h
  cases (show v = Value.ref a from rx)
  cases (show u = Value.ref b from ry)
  obtain ⟨its, r1, p1, _⟩ := I.list (SqL.of ha)
  obtain ⟨its2, r2, p2, _⟩ := I.list (SqL.of hb)
  cases r2
  cases r1 with
  | nil =>
    exact SeqAt.RcNeAt.lists (e := fun _ => true) p1.isList p2.isList rfl hu (fun j h1 _ => (by simp at h1)) _ _ _ _ ⟨.bl false, H, I, rfl, q⟩
  | cons _ _ =>
    exact SeqAt.RcNeAt.lists_lengths p1.isList p2.isList (by simp) hu _ _ _ _ ⟨.bl true, H, I, rfl, q⟩
section
variable {c : Stc} {Γ : List Sl} {e e' : Expr} {te tf : TE} {ma mb : Md} {pos : Pos} {α β : Type} [Rp α] [Rp β]
theorem je_neNil {m1 : Option (List α)} {p : Pos} (ha : JE c e te Γ ma m1) : JE c (.Compare e [.NotEq] [.List [] p] pos) (tOp rNeNil te (tLst tNil)) Γ .fr (m1.bind fun x => some (!x.isEmpty)) :=
  ⟨fun X F => pe_cmpR (op_neNil (Nat.lt_of_succ_lt F.hu)) (ha.pe X F) (pe_lst pa_nil) (nomark _), fun S0 H0 S σ H R z hz H1 e1 Q q => by
    cases h : m1 with
    | none => rw [h] at hz; cases hz
    | some x =>
      rw [h] at hz
      have hz := Option.some.inj hz
      subst hz
      refine ha.ev S0 H0 S σ H R x h H1 e1 _ fun v H2 e2 r => ?_
      obtain ⟨a, vs, rfl, _, hp, pr⟩ := r
      refine ⟨Nat.zero_le _, fun l hl => ?_⟩
      have ex : Ex H2 (upd H2 l (.lst [])) := Evl.Ex.new hl
      refine ⟨a, l, vs, rfl, rfl, ex a _ hp, upd_same, ?_⟩
      have he : vs.isEmpty = x.isEmpty := by cases pr <;> rfl
      rw [he]
      exact q _ _ (e2.trans ex) rfl⟩
theorem jt_neNil {m1 : Option (List α)} {p : Pos} (ha : JE c e te Γ ma m1) : JT c (.Compare e [.NotEq] [.List [] p] pos) (tTest (tOp rNeNil te (tLst tNil))) Γ (m1.bind fun x => some (!x.isEmpty)) :=
  ⟨fun X F => pt_cmpR (op_neNil (Nat.lt_of_succ_lt F.hu)) (ha.pe X F) (pe_lst pa_nil) (nomark _), fun S0 H0 S σ H R z hz H1 e1 Q q =>
    (je_neNil (pos := pos) (p := p) ha).ev S0 H0 S σ H R z hz H1 e1 _ fun v H2 e2 r => ⟨z, r, q H2 e2⟩⟩
/-! ### the same thing, told as another kind -/
theorem je_conv (f : α → β) (hf : ∀ {K : PySem.W.Frag} {S : Ft} {H : Hp} {v : V} {x : α}, Rp.r K S H v x → Rp.r K S H v (f x)) {m : Option α} (h : JE c e te Γ ma m) : JE c e te Γ ma (m.bind fun x => some (f x)) :=
  ⟨h.pe, fun S0 H0 S σ H R z hz H1 e1 Q q => by
    cases h1 : m with
    | none => rw [h1] at hz; cases hz
    | some x =>
      rw [h1] at hz; cases hz
      exact h.ev S0 H0 S σ H R _ h1 H1 e1 Q fun v H2 e2 r => q v H2 e2 (hf r)⟩
theorem je_convO (f : α → Option β) (hf : ∀ {K : PySem.W.Frag} {S : Ft} {H : Hp} {v : V} {x : α} {y : β}, f x = some y → Rp.r K S H v x → Rp.r K S H v y) {m : Option α} (h : JE c e te Γ ma m) : JE c e te Γ ma (m.bind f) :=
  ⟨h.pe, fun S0 H0 S σ H R z hz H1 e1 Q q => by
    cases h1 : m with
    | none => rw [h1] at hz; cases hz
    | some x =>
      rw [h1] at hz
      exact h.ev S0 H0 S σ H R _ h1 H1 e1 Q fun v H2 e2 r => q v H2 e2 (hf hz r)⟩
end
def upP {α β : Type} (f : α → β) (ps : List (T2 Str α)) : List (T2 Str β) := ps.map fun p => ⟨p.a, f p.b⟩
def dnP {α β : Type} (f : α → Option β) : List (T2 Str α) → Option (List (T2 Str β))
  | [] => some []
  | p :: ps => (f p.b).bind fun t => (dnP f ps).bind fun r => some (⟨p.a, t⟩ :: r)
theorem upP_r {α β : Type} [Rp α] [Rp β] {f : α → β} (hf : ∀ {K : PySem.W.Frag} {S : Ft} {H : Hp} {v : V} {x : α}, Rp.r K S H v x → Rp.r K S H v (f x)) {K : PySem.W.Frag} {S : Ft} {H : Hp} {v : V} {x : List (T2 Str α)} (h : Rp.r K S H v x) : Rp.r K S H v (upP f x) := by
  obtain ⟨a, vs, e, sa, ha, hp⟩ := h
  refine ⟨a, vs, e, sa, ha, ?_⟩
  clear ha
  induction hp with
  | nil => exact .nil
  | cons q _ ih =>
    obtain ⟨p, v1, v2, e1, sp, hp, h1, h2⟩ := q
    exact .cons ⟨p, v1, v2, e1, sp, hp, h1, hf h2⟩ ih
theorem dnP_r {α β : Type} [Rp α] [Rp β] {f : α → Option β} (hf : ∀ {K : PySem.W.Frag} {S : Ft} {H : Hp} {v : V} {x : α} {y : β}, f x = some y → Rp.r K S H v x → Rp.r K S H v y) {K : PySem.W.Frag} {S : Ft} {H : Hp} {v : V} {x : List (T2 Str α)} {y : List (T2 Str β)} (hy : dnP f x = some y) (h : Rp.r K S H v x) : Rp.r K S H v y := by
  obtain ⟨a, vs, e, sa, ha, hp⟩ := h
  refine ⟨a, vs, e, sa, ha, ?_⟩
  clear ha
  induction hp generalizing y with
  | nil => cases hy; exact .nil
  | @cons w x0 ws xs0 q _ ih =>
    obtain ⟨p, v1, v2, e1, sp, hp, h1, h2⟩ := q
    have hy : (f x0.b).bind (fun t => (dnP f xs0).bind fun r => some (⟨x0.a, t⟩ :: r)) = some y := hy
    cases h3 : f x0.b with
    | none => rw [h3] at hy; cases hy
    | some t =>
      cases h4 : dnP f xs0 with
      | none => rw [h3, h4] at hy; cases hy
      | some r =>
        rw [h3, h4] at hy
        cases hy
        exact .cons ⟨p, v1, v2, e1, sp, hp, h1, hf h3 h2⟩ (ih h4)
theorem dn_up {α β : Type} {f : α → β} {g : β → Option α} (h : ∀ x, g (f x) = some x) : ∀ ps : List (T2 Str α), dnP g (upP f ps) = some ps
  | [] => rfl
  | p :: ps => by
    show (g (f p.b)).bind (fun t => (dnP g (upP f ps)).bind fun r => some (⟨p.a, t⟩ :: r)) = _
    rw [h, dn_up h ps] <;> rfl
section
variable {nm f : Str} {α β : Type} [Rp α] [Rp β]
def upE {α β : Type} (f : α → β) (e : O2 "Either" "fault" "pairs" Str (List (T2 Str α))) : O2 "Either" "fault" "pairs" Str (List (T2 Str β)) := ⟨e.x, upP f e.y⟩
def dnE {α β : Type} (f : α → Option β) (e : O2 "Either" "fault" "pairs" Str (List (T2 Str α))) : Option (O2 "Either" "fault" "pairs" Str (List (T2 Str β))) := (dnP f e.y).bind fun y => some ⟨e.x, y⟩
theorem upE_r {f : α → β} (hf : ∀ {K : PySem.W.Frag} {S : Ft} {H : Hp} {v : V} {x : α}, Rp.r K S H v x → Rp.r K S H v (f x)) {K : PySem.W.Frag} {S : Ft} {H : Hp} {v : V} {x : O2 "Either" "fault" "pairs" Str (List (T2 Str α))} (h : Rp.r K S H v x) : Rp.r K S H v (upE f x) := by
  obtain ⟨w, u, h1, h2, h3⟩ := h
  exact ⟨w, u, h1, h2, upP_r hf h3⟩
theorem dnE_r {f : α → Option β} (hf : ∀ {K : PySem.W.Frag} {S : Ft} {H : Hp} {v : V} {x : α} {y : β}, f x = some y → Rp.r K S H v x → Rp.r K S H v y) {K : PySem.W.Frag} {S : Ft} {H : Hp} {v : V} {x : O2 "Either" "fault" "pairs" Str (List (T2 Str α))} {y : O2 "Either" "fault" "pairs" Str (List (T2 Str β))} (hy : dnE f x = some y) (h : Rp.r K S H v x) : Rp.r K S H v y := by
  obtain ⟨w, u, h1, h2, h3⟩ := h
  unfold dnE at hy
  cases h4 : dnP f x.y with
  | none => rw [h4] at hy; cases hy
  | some z =>
    rw [h4] at hy
    cases hy
    exact ⟨w, u, h1, h2, dnP_r hf h4 h3⟩
end
/-! ### trees told as higher ones -/
def up0 : Tr0 → Tr1 := .r
def dn0 : Tr1 → Option Tr0
  | .l _ => none
  | .r t => some t
theorem up0_r {K : PySem.W.Frag} {S : Ft} {H : Hp} {v : V} {x : Tr0} (h : Rp.r K S H v x) : Rp.r K S H v (up0 x) := h
theorem dn0_r {K : PySem.W.Frag} {S : Ft} {H : Hp} {v : V} {x : Tr1} {y : Tr0} (e : dn0 x = some y) (h : Rp.r K S H v x) : Rp.r K S H v y := by
  cases x with
  | l _ => cases e
  | r t => cases e; exact h
theorem du0 (x : Tr0) : dn0 (up0 x) = some x := rfl
def up1 : Tr1 → Tr2
  | .l e => .l (upE up0 e)
  | .r t => .r t
def dn1 : Tr2 → Option Tr1
  | .l e => (dnE dn0 e).bind fun x => some (.l x)
  | .r t => some (.r t)
theorem up1_r {K : PySem.W.Frag} {S : Ft} {H : Hp} {v : V} {x : Tr1} (h : Rp.r K S H v x) : Rp.r K S H v (up1 x) := by
  cases x with
  | l e => exact upE_r up0_r h
  | r t => exact h
theorem dn1_r {K : PySem.W.Frag} {S : Ft} {H : Hp} {v : V} {x : Tr2} {y : Tr1} (e : dn1 x = some y) (h : Rp.r K S H v x) : Rp.r K S H v y := by
  cases x with
  | l t =>
    have e : (dnE dn0 t).bind (fun x => some (Or2.l x)) = some y := e
    cases h1 : dnE dn0 t with
    | none => rw [h1] at e; cases e
    | some z =>
      rw [h1] at e
      cases e
      exact dnE_r dn0_r h1 h
  | r t => cases e; exact h
theorem du1 : ∀ x : Tr1, dn1 (up1 x) = some x
  | .l ⟨f, ps⟩ => by
    show ((dnP dn0 (upP up0 ps)).bind _).bind _ = _
    rw [dn_up du0 ps] <;> rfl
  | .r _ => rfl
def up2 : Tr2 → Tr3
  | .l e => .l (upE up1 e)
  | .r t => .r t
def dn2 : Tr3 → Option Tr2
  | .l e => (dnE dn1 e).bind fun x => some (.l x)
  | .r t => some (.r t)
theorem up2_r {K : PySem.W.Frag} {S : Ft} {H : Hp} {v : V} {x : Tr2} (h : Rp.r K S H v x) : Rp.r K S H v (up2 x) := by
  cases x with
  | l e => exact upE_r up1_r h
  | r t => exact h
theorem dn2_r {K : PySem.W.Frag} {S : Ft} {H : Hp} {v : V} {x : Tr3} {y : Tr2} (e : dn2 x = some y) (h : Rp.r K S H v x) : Rp.r K S H v y := by
  cases x with
  | l t =>
    have e : (dnE dn1 t).bind (fun x => some (Or2.l x)) = some y := e
    cases h1 : dnE dn1 t with
    | none => rw [h1] at e; cases e
    | some z =>
      rw [h1] at e
      cases e
      exact dnE_r dn1_r h1 h
  | r t => cases e; exact h
theorem du2 : ∀ x : Tr2, dn2 (up2 x) = some x
  | .l ⟨f, ps⟩ => by
    show ((dnP dn1 (upP up1 ps)).bind _).bind _ = _
    rw [dn_up du1 ps] <;> rfl
  | .r _ => rfl
def up3 : Tr3 → Tr4
  | .l e => .l (upE up2 e)
  | .r t => .r t
def dn3 : Tr4 → Option Tr3
  | .l e => (dnE dn2 e).bind fun x => some (.l x)
  | .r t => some (.r t)
theorem up3_r {K : PySem.W.Frag} {S : Ft} {H : Hp} {v : V} {x : Tr3} (h : Rp.r K S H v x) : Rp.r K S H v (up3 x) := by
  cases x with
  | l e => exact upE_r up2_r h
  | r t => exact h
theorem dn3_r {K : PySem.W.Frag} {S : Ft} {H : Hp} {v : V} {x : Tr4} {y : Tr3} (e : dn3 x = some y) (h : Rp.r K S H v x) : Rp.r K S H v y := by
  cases x with
  | l t =>
    have e : (dnE dn2 t).bind (fun x => some (Or2.l x)) = some y := e
    cases h1 : dnE dn2 t with
    | none => rw [h1] at e; cases e
    | some z =>
      rw [h1] at e
      cases e
      exact dnE_r dn2_r h1 h
  | r t => cases e; exact h
theorem du3 : ∀ x : Tr3, dn3 (up3 x) = some x
  | .l ⟨f, ps⟩ => by
    show ((dnP dn2 (upP up2 ps)).bind _).bind _ = _
    rw [dn_up du2 ps] <;> rfl
  | .r _ => rfl
/-! ### x = list(e), any items; x[i] = e -/
theorem paired_set {α β : Type} {F : α → β → Prop} {xs : List α} {ys : List β} (h : PySem.Paired F xs ys) {a : α} {b : β} (q : F a b) (k : Nat) : PySem.Paired F (xs.set k a) (ys.set k b) := by
  induction h generalizing k with
  | nil => exact .nil
  | cons p t ih =>
    cases k with
    | zero => exact .cons q t
    | succ k => exact .cons p (ih k)
def oSetI {α : Type} (xs : List α) (n : Int) (v : α) : Option (List α) := (ixN xs.length n).bind fun k => some (xs.set k v)
section
variable {c : Stc} {Γ : List Sl} {τ ρ : Type} [Rt ρ] {fr : Bool} {Γf : τ → List Sl} {rest : List Stmt} {tu : TS}
theorem js_ownLst {α : Type} [i : Rp α] {x : Str} {e : Expr} {te : TE} {md : Md} {me : Option (List α)} {p p2 p3 pos : Pos} {k : List α → Option (Out τ ρ)} (j : Nat) (hN : c.N.Nodup) (he : JE c e te Γ md me) (hm : c.mg "list" = none) (hk : ∀ v, JS c rest tu (Γ.set j (.own i v)) fr Γf (k v)) (hmd : md ≠ .an := by decide) (hx : c.N[j]? = some x := by rfl) (hl : Loc c.sc x := by first | exact Or.inl rfl | exact Or.inr rfl) (hf : c.fn x = true := by rfl)
    (hg : GlS c.sc "list" := by rfl) (hs : ∀ env, starEach (e :: []) env = (false, eval e env) :: starEach [] env := by intro _; rfl) (hsw : ∀ env, swapsWith (.Call (.Name "list" p2) [e] [] p3) (some (.Name x p)) pos.line env = pure false := by intro _; rfl) :
    JS c (.Assign [.Name x p] (.Call (.Name "list" p2) [e] [] p3) pos :: rest) (tSeq (tAsg (tCB (fun xs H Q => ∃ p ys, xs = [.ref p] ∧ (SqL c.K H p ys ∨ SqT c.K H p ys) ∧ ∀ l, H l = none → Q (.ref l) (upd H l (.lst ys))) (tCons te tNil)) (gName j)) tu) Γ fr Γf (me.bind k) :=
  ⟨fun X F => pss_cons (ps_set (by rw [F.hN]; exact hN) (by rw [F.hN]; exact hx) (by rw [F.hsc]; exact hl) (by rw [← F.hK]; exact pe_callTy call_list_of (F.gl hg) (by rw [F.hmg]; exact hm) (by decide +kernel) (pa_cons (he.pe X F) pa_nil (hs _)) (by decide) (by decide) (hs _) rfl) (hsw _) (.inl (by rw [F.hfn]; exact hf))) ((hk []).ps X F), fun S0 H0 S σ H R o ho D qq => by
    cases hme : me with
    | none => rw [hme] at ho; cases ho
    | some y =>
      rw [hme] at ho
      refine he.ev S0 H0 S σ H R y hme H (Evl.Ex.refl H) _ fun v H1 e1 r => ?_
      obtain ⟨a, vs, rfl, _, hp, pr⟩ := r
      refine ⟨a, vs, rfl, .inl (SqL.of hp), fun l hl => ?_⟩
      have R1 := R.grow e1
      have ex : Ex H1 (upd H1 l (.lst vs)) := Evl.Ex.new hl
      have nS : ¬ grw S H H1 l := fun z => z.1 hl
      refine (hk y).ev S0 H0 _ _ _ ((R1.keep ex).made j (.own i y) rfl ⟨l, vs, rfl, nS, upd_same, paired_mono pr fun _ _ z => Rp.ex ex (Rp.up (grw_in hmd) z)⟩ (Evl.fresh_back R1.ex hl) fun i t _ => fresh_own R1 hl i t) o ho D (out_keep (grw_up R.dm e1) (fr_ex (e1.trans ex)) qq)⟩
theorem js_oset {α : Type} [i : Rp α] [Inhabited α] {xs : List α} {x : Str} {e ei : Expr} {te ti : TE} {md mi : Md} {me : Option α} {mn : Option Int} {p p2 pos : Pos} {k : List α → Option (Out τ ρ)} (j : Nat) (hs : Γ[j]? = some (.own i xs) := by rfl) (he : JE c e te Γ md me) (hi : JE c ei ti Γ mi mn)
    (hk : ∀ v, JS c rest tu (Γ.set j (.own i v)) fr Γf (k v)) (hmd : md ≠ .an := by decide) (hN : c.N[j]? = some x := by rfl) (hv : Vis c.sc x := by first | exact Or.inl rfl | exact Or.inr (Or.inl rfl) | exact Or.inr (Or.inr rfl))
    (hd : (x == ("__debug__" : Str)) = false := by decide) (hcd : (x == ("__classdict__" : Str)) = false := by decide)
    (hps : ∀ X, Fam c X → PE X e te → PE X ei ti → PS X (.Assign [.Subscript (.Name x p) ei p2] e pos) (tAsg te (gSub (tVar j) ti rSetL)) := by intro X F h h2; exact ps_asg h (pg_sub (pe_var (by rw [F.hN]; rfl) (F.vis (by first | exact Or.inl rfl | exact Or.inr (Or.inl rfl) | exact Or.inr (Or.inr rfl)))) h2 set_list)) :
    JS c (.Assign [.Subscript (.Name x p) ei p2] e pos :: rest) (tSeq (tAsg te (gSub (tVar j) ti rSetL)) tu) Γ fr Γf (me.bind fun v => mn.bind fun n => (oSetI xs n v).bind k) :=
  ⟨fun X F => pss_cons (hps X F (he.pe X F) (hi.pe X F)) ((hk []).ps X F), fun S0 H0 S σ H R o ho D qq => by
    cases hm : me with
    | none => rw [hm] at ho; cases ho
    | some y =>
      cases hn : mn with
      | none => rw [hm, hn] at ho; cases ho
      | some n =>
        rw [hm, hn] at ho
        have ho : (oSetI xs n y).bind k = some o := ho
        unfold oSetI at ho
        cases hx : ixN xs.length n with
        | none => rw [hx] at ho; cases ho
        | some q =>
          rw [hx] at ho
          have ho : k (xs.set q y) = some o := ho
          obtain ⟨l, vs, hu, nS, hl, r0⟩ := R.sl j _ hs
          refine he.ev S0 H0 S σ H R y hm H (Evl.Ex.refl H) _ fun v H1 e1 r1 => ?_
          refine ⟨_, at_some hu, ?_⟩
          refine hi.ev S0 H0 S σ H R n hn H1 e1 _ fun w H2 e2 r2 => ?_
          have hw : w = V.int n := r2
          subst hw
          have e12 := e1.trans e2
          refine ⟨l, vs, n, q, rfl, rfl, e12 l _ hl, by rw [r0.length]; exact hx, ?_⟩
          have R1 := R.grow e12
          have nl : ¬ grw S H H2 l := fun z => z.2.elim nS fun z => by rw [hl] at z; cases z
          have fv : Fv (grw S H H2) H2 (upd H2 l (.lst (vs.set q v))) := fun a za => by
            have nd : a ≠ l := fun ed => nl (ed ▸ za)
            exact ⟨fun _ z => by rw [upd_ne nd]; exact z, fun _ z => by rw [upd_ne nd]; exact z, fun _ _ z => by rw [upd_ne nd]; exact z, fun _ _ _ z => by rw [upd_ne nd]; exact z⟩
          obtain ⟨l2, vs2, hu2, _, hl2, rr2⟩ := R1.sl j _ hs
          rw [hu] at hu2
          cases hu2
          rw [e12 l _ hl] at hl2
          cases hl2
          have r1' : i.r c.K (grw S H H2) H2 v y := Rp.up (fun a z z2 => by
            refine ⟨z2, ?_⟩
            rcases z with z | z
            · cases md with
              | fr => exact z.elim
              | vl => exact .inl z
              | an => exact absurd rfl hmd
            · exact .inr z) (Rp.ex e2 r1)
          refine (hk _).ev S0 H0 _ σ _ (R1.put hs rfl rfl hu ⟨l, _, rfl, nl, upd_same, paired_set (paired_mono rr2 fun _ _ => Rp.fr (fun _ z _ => z) fv) (Rp.fr (fun _ z _ => z) fv r1') q⟩) o ho D ?_
          exact out_keep (grw_up R.dm e12) (grw_fr R.dm e12 nS) qq⟩
end
end Sm
end

section
set_option maxRecDepth 100000
set_option maxHeartbeats 4000000
namespace Sm
open PySem L2

instance eqsOptI : Eqs (Option Int) := { sc := fun x y => by cases x <;> cases y <;> rfl, q := fun x y => decide (x = y), qe := fun _ _ => decide_eq_true_iff }
/-! ### a dict within a tuple that is handed back -/
structure TD5 (α β γ δ ε : Type) where
  d : Dct α
  b : β
  c : γ
  e : δ
  f : ε
instance inhTD {α β γ δ ε : Type} [Inhabited β] [Inhabited γ] [Inhabited δ] [Inhabited ε] : Inhabited (TD5 α β γ δ ε) := ⟨⟨[], default, default, default, default⟩⟩
instance rtTD {α β γ δ ε : Type} [Rp α] [Rp β] [Rp γ] [Rp δ] [Rp ε] : Rt (TD5 α β γ δ ε) := ⟨fun K _ S0 H0 H v x => ∃ p l kvs v2 v3 v4 v5, v = .ref p ∧ H p = some (.tup [.ref l, v2, v3, v4, v5]) ∧ nw S0 H0 l ∧ H l = some (.dK kvs) ∧ RpD K (nw S0 H0) H kvs x.d ∧ Rp.r K (nw S0 H0) H v2 x.b ∧ Rp.r K (nw S0 H0) H v3 x.c ∧ Rp.r K (nw S0 H0) H v4 x.e ∧ Rp.r K (nw S0 H0) H v5 x.f⟩
def spRt {P ρ : Type} [Rt ρ] (K : PySem.W.Frag) (G : PySem.W.Frag → Ft → Hp → List V → P → Prop) (m : P → Option ρ) : Sp := fun vs H Q _ =>
  ∃ p r S, m p = some r ∧ (∀ a, S a → H a ≠ none) ∧ G K S H vs p ∧ ∀ v H', Ex H H' → Rt.r K false S H H' v r → Q v H'
section
variable {P : Program} {w : World} {K : PySem.W.Frag} {mg : Str → Option Value} {base : Heap} {A ρ : Type} [Rt ρ] {G : PySem.W.Frag → Ft → Hp → List V → A → Prop} [g : GA G] {x qual : Str} {st : Stmt} {f : Addr} {fd : FuncData} {N ps : List Str} {k : Nat} {t : TS}
theorem def_okRt {Γf : Unit → List Sl} {m : A → Option (Out Unit ρ)} (F : Fun K x qual st f fd) (S : FnScope N ps (defScope st)) (hlen : ∀ p, (g.A p).length = ps.length) (h : ∀ p, JS ⟨P, w, K, mg, base, N, defScope st, fun _ => true, k⟩ (defBody st) t (g.A p ++ List.replicate (N.length - ps.length) .no) false Γf (m p)) :
    FnOk P w K mg base CX0 (k + 1) f fd ps (spRt K G fun p => outR (m p)) := by
  refine F.ok S (fun vs H Q E ⟨p, r, S', _, _, hg, _⟩ => (ga_len hg).trans (hlen p)) fun cdv Ar outer s H vs Q E hr ⟨p, r, S', hm, hS, hg, q⟩ => ⟨t, (h p).ps _ (fam_def hr), ?_⟩
  have hl : vs.length = ps.length := (ga_len hg).trans (hlen p)
  have hm : outR (m p) = some r := hm
  cases hmp : m p with
  | none => rw [hmp] at hm; cases hm
  | some o =>
    rw [hmp] at hm
    cases o with
    | nx s => cases hm
    | rt r' =>
      cases hm
      refine (h p).ev S' H S' _ H (st_start hg hS (by rw [hl])) _ hmp _ ?_
      exact fun v H' ex _ z => q v H' ex z
end
theorem StR.setD {K : PySem.W.Frag} {S0 : Ft} {H0 : Hp} {S : Ft} {Γ : List Sl} {σ : L2.St} {H : Hp} (R1 : StR K S0 H0 S Γ σ H) {α : Type} [i : Rp α] {z : Dct α} (j : Nat) {l : Addr} {kvs : List (Key × V)} (gl : S l) (hl3 : H l = some (.dK kvs)) (q3 : RpD K S H kvs z) : StR K S0 H0 S (Γ.set j (.dct i z)) (σ.set j (some (.ref l))) H := by
  refine ⟨by rw [List.length_set, List.length_set, R1.len], fun k' t hk' => ?_, R1.dm, fun a b s1 s2 l' ab ha' hb o1 o2 g1 g2 => ?_, fun k' t l' hk' ot g1 => ?_, R1.ex, R1.sr⟩
  · by_cases ee : k' = j
    · subst ee
      have hlt : k' < Γ.length := by
        have := (List.getElem?_eq_some_iff.mp hk').1
        rwa [List.length_set] at this
      rw [List.getElem?_set_self hlt] at hk'
      cases hk'
      rw [at_set_self (by rw [R1.len]; exact hlt)]
      exact ⟨l, kvs, rfl, gl, hl3, q3⟩
    · rw [List.getElem?_set_ne (Ne.symm ee)] at hk'
      rw [at_set_ne ee]
      exact R1.sl k' t hk'
  · have na : ∀ {a : Nat} {s1 : Sl}, (Γ.set j (.dct i z))[a]? = some s1 → s1.isOwn = true → a ≠ j := fun {a s1} ha' o1 ee => by
      subst ee
      have hlt : a < Γ.length := by
        have := (List.getElem?_eq_some_iff.mp ha').1
        rwa [List.length_set] at this
      rw [List.getElem?_set_self hlt] at ha'; cases ha'; cases o1
    have n1 := na ha' o1
    have n2 := na hb o2
    rw [List.getElem?_set_ne (Ne.symm n1)] at ha'
    rw [List.getElem?_set_ne (Ne.symm n2)] at hb
    rw [at_set_ne n1] at g1
    rw [at_set_ne n2] at g2
    exact R1.ap a b s1 s2 l' ab ha' hb o1 o2 g1 g2
  · have n1 : k' ≠ j := fun ee => by
      subst ee
      have hlt : k' < Γ.length := by
        have := (List.getElem?_eq_some_iff.mp hk').1
        rwa [List.length_set] at this
      rw [List.getElem?_set_self hlt] at hk'; cases hk'; cases ot
    rw [List.getElem?_set_ne (Ne.symm n1)] at hk'
    rw [at_set_ne n1] at g1
    exact R1.ow k' t l' hk' ot g1
section
variable {c : Stc} {Γ : List Sl} {τ ρ : Type} [Rt ρ] {fr : Bool} {Γf : τ → List Sl} {rest : List Stmt} {tu : TS}
/-- the slots, told anew -/
theorem js_to {Γ1 : List Sl} {sts : List Stmt} {ts : TS} {m : Option (Out τ ρ)} (e : Γ = Γ1) (h : JS c sts ts Γ1 fr Γf m) : JS c sts ts Γ fr Γf m := e ▸ h
/-- return of a tuple whose first item is a dict -/
theorem js_retTD {α β γ δ ε : Type} [Rp α] [Rp β] [Rp γ] [Rp δ] [Rp ε] {es : List Expr} {tr : TA} {md : Md} {m : Option (Dct α × β × γ × δ × ε × Unit)} {x1} {pt pos : Pos} (h : JA c es tr Γ md m (GD α (GC β (GC γ (GC δ (GC ε GN)))))) (hmd : md ≠ .an := by decide) :
    JS c (.Return (some (.Tuple es x1 pt)) pos :: []) (tRet (tTup tr)) Γ (ρ := TD5 α β γ δ ε) false Γf ((m.bind fun x => some (TD5.mk x.1 x.2.1 x.2.2.1 x.2.2.2.1 x.2.2.2.2.1)).bind fun r => some (.rt r)) :=
  ⟨fun X F => pss_one (ps_ret (pe_tup (h.pa X F))), fun S0 H0 S σ H R o ho D q => by
    cases hm : m with
    | none => rw [hm] at ho; cases ho
    | some y =>
      rw [hm] at ho
      cases ho
      refine h.ev S0 H0 S σ H R y hm H (Evl.Ex.refl H) _ fun vs H2 e2 r => ?_
      obtain ⟨l, kvs, _, rfl, sl, hl, hd, v2, _, rfl, r2, v3, _, rfl, r3, v4, _, rfl, r4, v5, _, rfl, r5, rfl⟩ := r
      refine ⟨Evl.sz_of (by show 5 ≤ 100000; decide), fun p hp => ?_⟩
      have ex : Ex H2 (upd H2 p (.tup [.ref l, v2, v3, v4, v5])) := Evl.Ex.new hp
      have up : ∀ a, nw (Sof md S H) H a → nw S0 H0 a := fun a z => by
        rcases z with z | z
        · cases md with
          | fr => exact z.elim
          | vl => exact R.sr a z
          | an => exact absurd rfl hmd
        · exact .inr (Evl.fresh_back R.ex z)
      exact q _ _ (R.ex.trans (e2.trans ex)) (fr_ex (e2.trans ex)) ⟨p, l, kvs, v2, v3, v4, v5, rfl, upd_same, up l sl, ex l _ hl, RpD.fr (fun a z _ => up a z) (fv_ex ex) hd, Rp.ex ex (Rp.up (fun a z _ => up a z) r2), Rp.ex ex (Rp.up (fun a z _ => up a z) r3), Rp.ex ex (Rp.up (fun a z _ => up a z) r4), Rp.ex ex (Rp.up (fun a z _ => up a z) r5)⟩⟩
/-- d, b, .. = f(..), the first one a dict -/
theorem js_unpTD {α β γ δ ε P : Type} [i : Rp α] [Rp β] [Rp γ] [Rp δ] [Rp ε] [Inhabited β] [Inhabited γ] [Inhabited δ] [Inhabited ε] {G : PySem.W.Frag → Ft → Hp → List V → P → Prop} [Gk G] {m : P → Option (TD5 α β γ δ ε)} {mp : Option P} {y : Str} {tg e : Expr} {es : List Expr} {ta : TA} {ma : Md} {kk : Nat} {p2 p3 pos : Pos} {k : TD5 α β γ δ ε → Option (Out τ ρ)}
    (j1 j2 j3 j4 j5 : Nat) (Dd : Dn c.P c.w c.K c.mg c.base y kk (spRt c.K G m)) (ha : JA c (e :: es) ta Γ ma mp G) (hgt : ∀ X, Fam c X → PG X tg (gTup c.K 5 (gCons (gName j1) (gCons (gName j2) (gCons (gName j3) (gCons (gName j4) (gCons (gName j5) gNil)))))))
    (hk : ∀ v, JS c rest tu (((((Γ.set j1 (.dct i v.d)).set j2 (.val inferInstance v.b)).set j3 (.val inferInstance v.c)).set j4 (.val inferInstance v.e)).set j5 (.val inferInstance v.f)) fr Γf (k v)) (hma : ma ≠ .an := by decide) (hkk : kk ≤ c.k := by exact Nat.le_of_ble_eq_true rfl) (hg : GlS c.sc y := by rfl)
    (hd : (y == ("__debug__" : Str)) = false := by decide) (he : ∀ env, starEach (e :: es) env = (false, eval e env) :: starEach es env := by intro _; rfl) (hpl : ∀ (env : Env) (p : Pos), (backTo p (starEach es env)).any (·.1) = false := by intro _ _; rfl)
    (hs : ∀ env, swapsWithSole [tg] (.Call (.Name y p2) (e :: es) [] p3) pos.line env = pure false := by intro _; rfl) (hw : ∀ env : Env, env.scope = c.sc → swappedStores [tg] (.Call (.Name y p2) (e :: es) [] p3) env = pure none := by intro env h; first | rfl | (cases env; cases h; rfl)) (h1 : ∀ env, (assignEach [tg] env).map (·.2) = [assign tg env] := by intro _; rfl) :
    JS c (.Assign [tg] (.Call (.Name y p2) (e :: es) [] p3) pos :: rest) (tSeq (tAsg (tCall (spRt c.K G m) [] E0 ta) (gTup c.K 5 (gCons (gName j1) (gCons (gName j2) (gCons (gName j3) (gCons (gName j4) (gCons (gName j5) gNil))))))) tu) Γ fr Γf ((mp.bind m).bind k) :=
  ⟨fun X F => pss_cons (ps_asg (pe_dn F Dd hkk (ha.pa X F) hg hd he hpl) (hgt X F) (hs _) (hw _ F.hsc) (h1 _)) ((hk default).ps X F), fun S0 H0 S σ H R o ho D qq => by
    cases h1 : mp with
    | none => rw [h1] at ho; cases ho
    | some y =>
      rw [h1] at ho
      cases h2 : m y with
      | none =>
        have ho : (m y).bind k = some o := ho
        rw [h2] at ho; cases ho
      | some z =>
        have ho : (m y).bind k = some o := ho
        rw [h2] at ho
        refine ha.ev S0 H0 S σ H R y h1 H (Evl.Ex.refl H) _ fun vs H2 e2 r => ?_
        refine ⟨y, z, fun a => nw (Sof ma S H) H a ∧ H2 a ≠ none, h2, fun a z => z.2, by rw [List.append_nil]; exact Gk.fr (fun a z z2 => ⟨z, z2⟩) (Evl.Ex.refl H2) r, fun v H3 e3 r3 => ?_⟩
        obtain ⟨p, l, kvs, v2, v3, v4, v5, rfl, hp, sl, hl, hd, r2, r3, r4, r5⟩ := r3
        have e23 := e2.trans e3
        have up : ∀ a, nw (fun a => nw (Sof ma S H) H a ∧ H2 a ≠ none) H2 a → H3 a ≠ none → grw S H H3 a := fun a za z3 => by
          rcases za with za | za
          · exact grw_in hma a za.1 z3
          · exact ⟨z3, .inr (Evl.fresh_back e2 za)⟩
        have R1 := R.grow e23
        have R2 := ((((R1.setD j1 (up l sl (by rw [hl]; simp)) hl (RpD.fr up (fv_ex (Evl.Ex.refl H3)) hd)).set j2 (Rp.up up r2)).set j3 (Rp.up up r3)).set j4 (Rp.up up r4)).set j5 (Rp.up up r5)
        refine ⟨p, _, rfl, SqT.of hp, rfl, _, _, rfl, _, _, rfl, _, _, rfl, _, _, rfl, _, _, rfl, rfl, ?_⟩
        exact (hk z).ev S0 H0 _ _ H3 R2 o ho D (out_keep (grw_up R.dm e23) (fr_ex e23) qq)⟩
/-- x, y = {}, {} -/
theorem js_dd {α β : Type} (i1 : Rp α) (i2 : Rp β) {x y : Str} {px py pt q1 q2 pt2 pos : Pos} {kt k2} {k : Option (Out τ ρ)} (i j : Nat) (hgt : ∀ X, Fam c X → PG X (.Tuple [.Name x px, .Name y py] kt pt) (gTup c.K 2 (gCons (gName i) (gCons (gName j) gNil)))) (hk : JS c rest tu ((Γ.set i (.odc i1 [])).set j (.odc i2 [])) fr Γf k) (hij : i ≠ j := by decide)
    (hs : ∀ env, swapsWithSole [.Tuple [.Name x px, .Name y py] kt pt] (.Tuple [.Dict [] [] q1, .Dict [] [] q2] k2 pt2) pos.line env = pure false := by intro _; rfl) (hw : ∀ env : Env, env.scope = c.sc → swappedStores [.Tuple [.Name x px, .Name y py] kt pt] (.Tuple [.Dict [] [] q1, .Dict [] [] q2] k2 pt2) env = pure none := by intro env h; first | rfl | (cases env; cases h; rfl)) (h1 : ∀ env, (assignEach [.Tuple [.Name x px, .Name y py] kt pt] env).map (·.2) = [assign (.Tuple [.Name x px, .Name y py] kt pt) env] := by intro _; rfl) :
    JS c (.Assign [.Tuple [.Name x px, .Name y py] kt pt] (.Tuple [.Dict [] [] q1, .Dict [] [] q2] k2 pt2) pos :: rest) (tSeq (tAsg (tTup (tCons tDNewK (tCons tDNewK tNil))) (gTup c.K 2 (gCons (gName i) (gCons (gName j) gNil)))) tu) Γ fr Γf k :=
  ⟨fun X F => pss_cons (ps_asg (pe_tup (pa_cons pe_dnewK (pa_cons pe_dnewK pa_nil (by rfl)) (by rfl))) (hgt X F) (hs _) (hw _ F.hsc) (h1 _)) (hk.ps X F), fun S0 H0 S σ H R o ho D q => by
    refine fun l hl l2 hl2 => ⟨Evl.sz_of (by show 2 ≤ 100000; decide), fun p hp => ?_⟩
    have ex : Ex H (upd H l (.dK [])) := Evl.Ex.new hl
    have nS : ¬ S l := fun z => R.dm l z hl
    have R1 := (R.keep ex).made i (.odc i1 []) rfl ⟨l, [], rfl, nS, upd_same, .nil⟩ (Evl.fresh_back R.ex hl) fun i t _ => fresh_own R hl i t
    have ex2 := Evl.Ex.new (o := .dK []) hl2
    have nS2 : ¬ S l2 := fun z => R1.dm l2 z hl2
    have R2 := (R1.keep ex2).made j (.odc i2 []) rfl ⟨l2, [], rfl, nS2, upd_same, .nil⟩ (Evl.fresh_back R1.ex hl2) fun i t _ => fresh_own R1 hl2 i t
    have ex3 := Evl.Ex.new (o := .tup [.ref l, .ref l2]) hp
    refine ⟨p, _, rfl, SqT.of upd_same, rfl, _, _, rfl, _, _, rfl, rfl, ?_⟩
    exact hk.ev S0 H0 _ _ _ (R2.keep ex3) o ho D (out_keep (fun _ z => z) (fr_ex ((ex.trans ex2).trans ex3)) q)⟩
/-- x = a + b, lists, then grown -/
theorem js_ownCat {α : Type} [i : Rp α] {x : Str} {a b : Expr} {ta tb : TE} {ma mb : Md} {m1 m2 : Option (List α)} {p p2 pos : Pos} {k : List α → Option (Out τ ρ)} (j : Nat) (hN : c.N.Nodup) (ha : JE c a ta Γ ma m1) (hb : JE c b tb Γ mb m2) (hk : ∀ v, JS c rest tu (Γ.set j (.own i v)) fr Γf (k v)) (hma : ma ≠ .an := by decide) (hmb : mb ≠ .an := by decide) (hx : c.N[j]? = some x := by rfl) (hl : Loc c.sc x := by first | exact Or.inl rfl | exact Or.inr rfl) (hf : c.fn x = true := by rfl)
    (hsw : ∀ env, swapsWith (.BinOp a .Add b p2) (some (.Name x p)) pos.line env = pure false := by intro _; rfl) :
    JS c (.Assign [.Name x p] (.BinOp a .Add b p2) pos :: rest) (tSeq (tAsg (tOp rCat ta tb) (gName j)) tu) Γ fr Γf ((m1.bind fun x => m2.bind fun y => oCat x y).bind k) :=
  ⟨fun X F => pss_cons (ps_set (by rw [F.hN]; exact hN) (by rw [F.hN]; exact hx) (by rw [F.hsc]; exact hl) (pe_op op_cat (ha.pe X F) (hb.pe X F)) (hsw _) (.inl (by rw [F.hfn]; exact hf))) ((hk []).ps X F), fun S0 H0 S σ H R o ho D qq => by
    cases h1 : m1 with
    | none => rw [h1] at ho; cases ho
    | some x =>
      cases h2 : m2 with
      | none => rw [h1, h2] at ho; cases ho
      | some y =>
        rw [h1, h2] at ho
        have ho : (oCat x y).bind k = some o := ho
        unfold oCat at ho
        by_cases hlen : x.length + y.length ≤ 100000
        · rw [if_pos hlen] at ho
          have ho : k (x ++ y) = some o := ho
          refine ha.ev S0 H0 S σ H R x h1 H (Evl.Ex.refl H) _ fun v H2 e2 r1 => ?_
          refine hb.ev S0 H0 S σ H R y h2 H2 e2 _ fun u H3 e3 r2 => ?_
          have e23 := e2.trans e3
          have R1 := R.grow e23
          have r1 : Rp.r c.K (grw S H H3) H3 v x := Rp.up (fun a z z2 => grw_in hma a z z2) (Rp.ex e3 r1)
          have r2 : Rp.r c.K (grw S H H3) H3 u y := Rp.up (fun a z z2 => grw_in hmb a (nw_ex e2 a (z.imp (fun q => by cases mb <;> exact q) id)) z2) r2
          obtain ⟨p, vs, rfl, _, hp, pr⟩ := r1
          obtain ⟨p', us, rfl, _, hp', pr'⟩ := r2
          refine ⟨p, p', vs, us, rfl, rfl, hp, hp', by rw [pr.length, pr'.length]; exact Evl.sz_of hlen, fun l hl => ?_⟩
          have ex : Ex H3 (upd H3 l (.lst (vs ++ us))) := Evl.Ex.new hl
          have nS : ¬ grw S H H3 l := fun z => z.1 hl
          exact (hk (x ++ y)).ev S0 H0 _ _ _ ((R1.keep ex).made j (.own i (x ++ y)) rfl ⟨l, vs ++ us, rfl, nS, upd_same, paired_mono (paired_append pr pr') fun _ _ z => Rp.ex ex z⟩ (Evl.fresh_back R1.ex hl) fun i t _ => fresh_own R1 hl i t) o ho D (out_keep (grw_up R.dm e23) (fr_ex (e23.trans ex)) qq)
        · rw [if_neg hlen] at ho; cases ho⟩
end
end Sm
end

section
set_option maxRecDepth 100000
set_option maxHeartbeats 4000000
namespace Sm
open PySem L2

/-! ### texts -/
def oCatS (x y : Str) : Option Str := if x.length + y.length ≤ 1000000 then some (x ++ y) else none
def oSplit (a b : Str) : Option (List Str) := if 0 < b.length ∧ a.length ≤ 1000000 then some (Txt.split a b) else none
def oJoin (b : Str) (ys : List Str) : Option Str := if (ys.map (·.length)).sum + ys.length * b.length ≤ 1000000 then some (Txt.join b ys) else none
def strI (i : Int) : Str := toString i
def oStrI (i : Int) : Option Str := if i.natAbs.log2 < 1900 then some (strI i) else none
def oIntS (a : Str) : Option Int := if a.length ≤ 640 then PySem.intText? a else none
def oCutS (x : Str) (l u : Option Int) : Option Str := if x.length ≤ 1000000 then some (cutS x l u) else none
def oIxS (x : Str) (i : Int) : Option Str := if x.length ≤ 1000000 then (atI x.cps.toList i).map sign else none
def oInS (x y : Str) : Option Bool := match x.cps.toList with
  | [n] => some (decide (n ∈ y.cps.toList))
  | _ => none
def oInT (x y : Str) : Option Bool := match x.cps.toList with
  | [n] => some (!decide (n ∈ y.cps.toList))
  | _ => none
theorem sz6 {n : Nat} (h : n ≤ 1000002) : n ≤ sizeLine := by rw [sizeLine_eq]; omega
section
variable {c : Stc} {Γ : List Sl} {a b e : Expr} {ta tb te : TE} {ma mb : Md} {pos : Pos}
theorem je_cats {m1 m2 : Option Str} (ha : JE c a ta Γ ma m1) (hb : JE c b tb Γ mb m2) : JE c (.BinOp a .Add b pos) (tOp (fun x y H Q => ∃ i j, x = .str i ∧ y = .str j ∧ i.length + j.length ≤ sizeLine ∧ Q (.str (i ++ j)) H) ta tb) Γ .fr (m1.bind fun x => m2.bind fun y => oCatS x y) :=
  je_op oCatS (fun X F p q => pe_op op_add_str p q) (fun x y z v u H r1 r2 hz Q q => by
    unfold oCatS at hz
    split at hz
    · rename_i hl
      cases hz
      exact ⟨x, y, r1, r2, sz6 (by omega), q⟩
    · cases hz) ha hb
theorem je_split {m1 m2 : Option Str} {apos : Pos} (ha : JE c a ta Γ ma m1) (hb : JE c b tb Γ mb m2) (hs : ∀ env, starEach [b] env = [(false, eval b env)] := by intro _; rfl) (hbase : ∀ env, attributeBase a "split" env (eval a env) = eval a env := by intro _; rfl) (hline : (apos.endLine == pos.line) = true := by rfl) :
    JE c (.Call (.Attribute a "split" apos) [b] [] pos) (tM1 (fun x xs H Q => ∃ a b, x = .str a ∧ xs = [.str b] ∧ (b.length == 0) = false ∧ a.length + 2 ≤ sizeLine ∧ rNewStrs (Txt.split a b) H Q) ta tb) Γ .fr (m1.bind fun x => m2.bind fun y => oSplit x y) :=
  ⟨fun X F => pe_split (ha.pe X F) (hb.pe X F) (hs _) (hbase _) hline, fun S0 H0 S σ H R z hz H1 e1 Q q => by
    cases h1 : m1 with
    | none => rw [h1] at hz; cases hz
    | some x =>
      cases h2 : m2 with
      | none => rw [h1, h2] at hz; cases hz
      | some y =>
        rw [h1, h2] at hz
        have hz : oSplit x y = some z := hz
        unfold oSplit at hz
        split at hz
        · rename_i hl
          cases hz
          refine ha.ev S0 H0 S σ H R x h1 H1 e1 _ fun v H2 e2 r1 => ?_
          refine ⟨⟨x, r1⟩, hb.ev S0 H0 S σ H R y h2 H2 (e1.trans e2) _ fun u H3 e3 r2 => ?_⟩
          have r2 : u = .str y := r2
          refine ⟨x, y, r1, by rw [r2], by simp; omega, sz6 (by omega), fun l hl2 => ?_⟩
          have ex : Ex H3 (upd H3 l (.lst ((Txt.split x y).map V.str))) := Evl.Ex.new hl2
          refine q _ _ ((e2.trans e3).trans ex) ⟨l, _, rfl, .inr (Evl.fresh_back (e2.trans e3) hl2), upd_same, ?_⟩
          have go : ∀ xs : List Str, PySem.Paired (Rp.r c.K (nw (Sof .fr S H) H1) (upd H3 l (.lst ((Txt.split x y).map V.str)))) (xs.map V.str) xs := by
            intro xs
            induction xs with
            | nil => exact .nil
            | cons s xs ih => exact .cons rfl ih
          exact go _
        · cases hz⟩
theorem je_join {m1 : Option Str} {m2 : Option (List Str)} {apos : Pos} (ha : JE c a ta Γ ma m1) (hb : JE c b tb Γ mb m2) (hs : ∀ env, starEach [b] env = [(false, eval b env)] := by intro _; rfl) (hbase : ∀ env, attributeBase a "join" env (eval a env) = eval a env := by intro _; rfl) (hline : (apos.endLine == pos.line) = true := by rfl) :
    JE c (.Call (.Attribute a "join" apos) [b] [] pos) (tM1 (fun x xs H Q => ∃ a p, ∃ ys : List Str, x = .str a ∧ xs = [.ref p] ∧ (SqL c.K H p (ys.map V.str) ∨ SqT c.K H p (ys.map V.str)) ∧ (ys.map (·.length)).sum + ys.length * a.length ≤ 16777216 ∧ Q (.str (Txt.join a ys)) H) ta tb) Γ .fr (m1.bind fun x => m2.bind fun y => oJoin x y) :=
  ⟨fun X F => by rw [← F.hK]; exact pe_join (ha.pe X F) (hb.pe X F) (hs _) (hbase _) hline, fun S0 H0 S σ H R z hz H1 e1 Q q => by
    cases h1 : m1 with
    | none => rw [h1] at hz; cases hz
    | some x =>
      cases h2 : m2 with
      | none => rw [h1, h2] at hz; cases hz
      | some y =>
        rw [h1, h2] at hz
        have hz : oJoin x y = some z := hz
        unfold oJoin at hz
        split at hz
        · rename_i hl
          cases hz
          refine ha.ev S0 H0 S σ H R x h1 H1 e1 _ fun v H2 e2 r1 => ?_
          refine ⟨⟨x, r1⟩, hb.ev S0 H0 S σ H R y h2 H2 (e1.trans e2) _ fun u H3 e3 r2 => ?_⟩
          obtain ⟨p, vs, rfl, _, hp, pr⟩ := r2
          have go : ∀ {vs : List V} {xs : List Str}, PySem.Paired (Rp.r c.K (nw (Sof mb S H) H2) H3) vs xs → vs = xs.map V.str := by
            intro vs xs h
            induction h with
            | nil => rfl
            | cons r _ ih => rw [List.map_cons, ← ih, show _ = V.str _ from r]
          rw [go pr] at hp
          exact ⟨x, p, y, r1, rfl, .inl (SqL.of hp), by omega, q _ H3 (e2.trans e3) rfl⟩
        · cases hz⟩
theorem je_strI {m : Option Int} {p : Pos} (hm : c.mg "str" = none) (h : JE c e te Γ ma m) (hg : GlS c.sc "str" := by rfl) (hs : ∀ env, starEach (e :: []) env = (false, eval e env) :: starEach [] env := by intro _; rfl) :
    JE c (.Call (.Name "str" p) [e] [] pos) (tCB (fun xs H Q => ∃ i, xs = [.int i] ∧ i.natAbs.log2 < 1920 ∧ Q (.str (toString i)) H) (tCons te tNil)) Γ .fr (m.bind oStrI) :=
  ⟨fun X F => pe_callTy call_str_int (F.gl hg) (by rw [F.hmg]; exact hm) (by decide +kernel) (pa_cons (h.pe X F) pa_nil (hs _)) (by decide) (by decide) (hs _) rfl, fun S0 H0 S σ H R z hz H1 e1 Q q => by
    cases h1 : m with
    | none => rw [h1] at hz; cases hz
    | some y =>
      rw [h1] at hz
      have hz : oStrI y = some z := hz
      unfold oStrI at hz
      split at hz
      · rename_i hl
        cases hz
        exact h.ev S0 H0 S σ H R y h1 H1 e1 _ fun v H2 e2 r => ⟨y, by rw [show v = V.int y from r] <;> rfl, by omega, q _ H2 e2 rfl⟩
      · cases hz⟩
theorem je_intS {m : Option Str} {p : Pos} (hm : c.mg "int" = none) (h : JE c e te Γ ma m) (hg : GlS c.sc "int" := by rfl) (hs : ∀ env, starEach (e :: []) env = (false, eval e env) :: starEach [] env := by intro _; rfl) :
    JE c (.Call (.Name "int" p) [e] [] pos) (tCB (fun xs H Q => ∃ a n, xs = [.str a] ∧ PySem.intText? a = some n ∧ a.length ≤ 640 ∧ Q (.int n) H) (tCons te tNil)) Γ .fr (m.bind oIntS) :=
  ⟨fun X F => pe_callTy call_int_str (F.gl hg) (by rw [F.hmg]; exact hm) (by decide +kernel) (pa_cons (h.pe X F) pa_nil (hs _)) (by decide) (by decide) (hs _) rfl, fun S0 H0 S σ H R z hz H1 e1 Q q => by
    cases h1 : m with
    | none => rw [h1] at hz; cases hz
    | some y =>
      rw [h1] at hz
      have hz : oIntS y = some z := hz
      unfold oIntS at hz
      split at hz
      · rename_i hl
        exact h.ev S0 H0 S σ H R y h1 H1 e1 _ fun v H2 e2 r => ⟨y, z, by rw [show v = V.str y from r] <;> rfl, hz, hl, q _ H2 e2 rfl⟩
      · cases hz⟩
theorem je_cutS {m : Option Str} {lo hi : Option Expr} {tl th : TO} {m1 m2 : Option (Option Int)} {p2} (h : JE c e te Γ ma m) (hl : JO c lo tl Γ m1) (hh : JO c hi th Γ m2) :
    JE c (.Subscript e (.Slice lo hi none p2) pos) (L2.tSl rSlS te tl th) Γ .fr (m.bind fun x => m1.bind fun l => m2.bind fun u => oCutS x l u) :=
  ⟨fun X F => pe_slice sl_str (h.pe X F) (hl.po X F) (hh.po X F), fun S0 H0 S σ H R z hz H1 e1 Q q => by
    cases h1 : m with
    | none => rw [h1] at hz; cases hz
    | some x =>
      cases h2 : m1 with
      | none => rw [h1, h2] at hz; cases hz
      | some l =>
        cases h3 : m2 with
        | none => rw [h1, h2, h3] at hz; cases hz
        | some u =>
          rw [h1, h2, h3] at hz
          have hz : oCutS x l u = some z := hz
          unfold oCutS at hz
          split at hz
          · rename_i hlen
            cases hz
            refine h.ev S0 H0 S σ H R x h1 H1 e1 _ fun v H2 e2 r => ?_
            refine hl.ev S0 H0 S σ H R l h2 H2 (e1.trans e2) _ fun H3 e3 => ?_
            refine hh.ev S0 H0 S σ H R u h3 H3 ((e1.trans e2).trans e3) _ fun H4 e4 => ?_
            exact ⟨x, r, sz6 (by omega), q _ H4 ((e2.trans e3).trans e4) rfl⟩
          · cases hz⟩
theorem je_ixS {m1 : Option Str} {m2 : Option Int} (ha : JE c a ta Γ ma m1) (hb : JE c b tb Γ mb m2) (hs : PlainIx b := by intro _ _; rfl) : JE c (.Subscript a b pos) (tOp rIxS ta tb) Γ .fr (m1.bind fun x => m2.bind fun y => oIxS x y) :=
  je_op oIxS (fun X F p q => pe_ix ix_str p q hs) (fun x y z v u H r1 r2 hz Q q => by
    unfold oIxS at hz
    split at hz
    · rename_i hl
      cases hc : atI x.cps.toList y with
      | none => rw [hc] at hz; cases hz
      | some n =>
        rw [hc] at hz
        cases hz
        exact ⟨x, y, n, r1, r2, sz6 (by omega), hc, q⟩
    · cases hz) ha hb
theorem je_inS {m1 m2 : Option Str} (ha : JE c a ta Γ ma m1) (hb : JE c b tb Γ mb m2) (hm : behindInMarks .In b = false := by with_unfolding_all rfl) : JE c (.Compare a [.In] [b] pos) (tOp (fun x y H Q => ∃ (c : Nat) (z : Str), x = .str ⟨#[c]⟩ ∧ y = .str z ∧ Q (.bl (decide (c ∈ z.cps.toList))) H) ta tb) Γ .fr (m1.bind fun x => m2.bind fun y => oInS x y) :=
  je_op oInS (fun X F p q => pe_cmpR op_in_sign p q hm) (fun x y z v u H r1 r2 hz Q q => by
    unfold oInS at hz
    split at hz
    · rename_i n hn
      cases hz
      refine ⟨n, y, ?_, r2, q⟩
      rw [show v = V.str x from r1]
      cases x with
      | mk cps =>
        have hn : cps.toList = [n] := hn
        rw [show cps = #[n] from Array.ext' hn]
    · cases hz) ha hb
theorem je_inT {m1 m2 : Option Str} (ha : JE c a ta Γ ma m1) (hb : JE c b tb Γ mb m2) (hm : behindInMarks .NotIn b = false := by with_unfolding_all rfl) : JE c (.Compare a [.NotIn] [b] pos) (tOp (fun x y H Q => ∃ (c : Nat) (z : Str), x = .str ⟨#[c]⟩ ∧ y = .str z ∧ Q (.bl (!decide (c ∈ z.cps.toList))) H) ta tb) Γ .fr (m1.bind fun x => m2.bind fun y => oInT x y) :=
  je_op oInT (fun X F p q => pe_cmpR op_notIn_sign p q hm) (fun x y z v u H r1 r2 hz Q q => by
    unfold oInT at hz
    split at hz
    · rename_i n hn
      cases hz
      refine ⟨n, y, ?_, r2, q⟩
      rw [show v = V.str x from r1]
      cases x with
      | mk cps =>
        have hn : cps.toList = [n] := hn
        rw [show cps = #[n] from Array.ext' hn]
    · cases hz) ha hb
/-! ### f-texts -/
theorem je_fmtS {m : Option Str} (h : JE c e te Γ ma m) : JE c (.FormattedValue e (-1) none pos) (tFmt te) Γ .fr (m.bind fun y => if y.length ≤ 1000000 then some y else none) :=
  ⟨fun X F => pe_fmt (h.pe X F), fun S0 H0 S σ H R z hz H1 e1 Q q => by
    cases h1 : m with
    | none => rw [h1] at hz; cases hz
    | some y =>
      rw [h1] at hz
      have hz : (if y.length ≤ 1000000 then some y else none) = some z := hz
      split at hz
      · rename_i hl
        have hz := Option.some.inj hz
        subst hz
        exact h.ev S0 H0 S σ H R _ h1 H1 e1 _ fun v H2 e2 r => .inl ⟨_, r, sz6 (by omega), q _ H2 e2 rfl⟩
      · cases hz⟩
theorem je_fmtI {m : Option Int} (h : JE c e te Γ ma m) : JE c (.FormattedValue e (-1) none pos) (tFmt te) Γ .fr (m.bind oStrI) :=
  ⟨fun X F => pe_fmt (h.pe X F), fun S0 H0 S σ H R z hz H1 e1 Q q => by
    cases h1 : m with
    | none => rw [h1] at hz; cases hz
    | some y =>
      rw [h1] at hz
      have hz : oStrI y = some z := hz
      unfold oStrI at hz
      split at hz
      · rename_i hl
        cases hz
        exact h.ev S0 H0 S σ H R y h1 H1 e1 _ fun v H2 e2 r => .inr ⟨y, r, by omega, q _ H2 e2 rfl⟩
      · cases hz⟩
def lens (ys : List Str) : Nat := (ys.map (·.length)).sum
def catL : Str → List Str → Str
  | acc, [] => acc
  | acc, y :: ys => catL (acc ++ y) ys
structure JP (c : Stc) (es : List Expr) (ts : List TE) (Γ : List Sl) (m : Option (List Str)) : Prop where
  pj : ∀ X, Fam c X → PJ X es ts
  ev : ∀ S0 H0 S σ H, StR c.K S0 H0 S Γ σ H → ∀ ys, m = some ys → ∀ H1, Ex H H1 → ∀ acc : Str, acc.length + lens ys ≤ 1000000 → ∀ Q : Str → Hp → Prop, (∀ H2, Ex H1 H2 → Q (catL acc ys) H2) → tJs ts acc σ H1 Q
theorem jp_nil : JP c [] [] Γ (some []) := ⟨fun _ _ => .nil, fun S0 H0 S σ H R ys hy H1 e1 acc hl Q q => by cases hy; exact q H1 (Evl.Ex.refl H1)⟩
theorem len_cat (x y : Str) : (x ++ y).length = x.length + y.length := by
  show (x.cps ++ y.cps).size = x.cps.size + y.cps.size
  rw [Array.size_append]
theorem jp_cons {es : List Expr} {ts : List TE} {m1 : Option Str} {m2 : Option (List Str)} (h : JE c e te Γ ma m1) (r : JP c es ts Γ m2) : JP c (e :: es) (te :: ts) Γ (m1.bind fun x => m2.bind fun xs => some (x :: xs)) :=
  ⟨fun X F => .cons (h.pe X F) (r.pj X F), fun S0 H0 S σ H R ys hy H1 e1 acc hl Q q => by
    cases h1 : m1 with
    | none => rw [h1] at hy; cases hy
    | some x =>
      cases h2 : m2 with
      | none => rw [h1, h2] at hy; cases hy
      | some xs =>
        rw [h1, h2] at hy
        cases hy
        have hl : acc.length + (x.length + lens xs) ≤ 1000000 := by
          have : lens (x :: xs) = x.length + lens xs := by unfold lens; rw [List.map_cons, List.sum_cons]
          omega
        refine h.ev S0 H0 S σ H R x h1 H1 e1 _ fun v H2 e2 r1 => ⟨x, r1, sz6 (by rw [len_cat]; omega), ?_⟩
        exact r.ev S0 H0 S σ H R xs h2 H2 (e1.trans e2) (acc ++ x) (by rw [len_cat]; omega) Q fun H3 e3 => q H3 (e2.trans e3)⟩
def oCatL (ys : List Str) : Option Str := if lens ys ≤ 1000000 then some (catL Str.empty ys) else none
theorem je_fstr {v1 v2 : Expr} {rest : List Expr} {ts : List TE} {m : Option (List Str)} (h : JP c (v1 :: v2 :: rest) ts Γ m) : JE c (.JoinedStr (v1 :: v2 :: rest) pos) (fun σ H Q => tJs ts Str.empty σ H fun out H1 => Q (.str out) H1) Γ .fr (m.bind oCatL) :=
  ⟨fun X F => pe_joined (h.pj X F), fun S0 H0 S σ H R z hz H1 e1 Q q => by
    cases h1 : m with
    | none => rw [h1] at hz; cases hz
    | some ys =>
      rw [h1] at hz
      have hz : oCatL ys = some z := hz
      unfold oCatL at hz
      split at hz
      · rename_i hl
        cases hz
        exact h.ev S0 H0 S σ H R ys h1 H1 e1 Str.empty (by show 0 + _ ≤ _; omega) _ fun H2 e2 => q _ H2 e2 rfl
      · cases hz⟩
/-! ### xs.index(y) of texts -/
def oIdx (xs : List Str) (y : Str) : Option Int := match xs.findIdx? (fun z => decide (z = y)) with
  | some j => some (j : Int)
  | none => none
theorem je_index {m1 : Option (List Str)} {m2 : Option Str} {apos : Pos} (ha : JE c a ta Γ ma m1) (hb : JE c b tb Γ mb m2) (hs : ∀ env, starEach (b :: []) env = (false, eval b env) :: starEach [] env := by intro _; rfl) (hbase : ∀ env, attributeBase a "index" env (eval a env) = eval a env := by intro _; rfl) (hline : (apos.endLine == pos.line) = true := by rfl)
    (hfew : ∀ env, ((backTo pos (starEach (b :: []) env)).all (fun x => !x.1) && (backToKw pos (keywordEach [] env)).all (fun x => x.1.isSome) && decide ((b :: []).length + ([] : List Keyword).length + (if ([] : List Keyword).isEmpty then 0 else 1) < 30)) = true := by intro _; rfl) :
    JE c (.Call (.Attribute a "index" apos) [b] [] pos) (tBM c.K "list" (rIndex c.K) ta (tCons tb tNil)) Γ .fr (m1.bind fun x => m2.bind fun y => oIdx x y) :=
  ⟨fun X F => by rw [← F.hK]; exact pe_bm PySem.F.plainAttrs_list PySem.F.slot_list_index PySem.F.type_list_index mt_index (ha.pe X F) (pa_cons (hb.pe X F) pa_nil (hs _)) (hbase _) (hfew _) hline (hs _) rfl, fun S0 H0 S σ H R z hz H1 e1 Q q => by
    cases h1 : m1 with
    | none => rw [h1] at hz; cases hz
    | some x =>
      cases h2 : m2 with
      | none => rw [h1, h2] at hz; cases hz
      | some y =>
        rw [h1, h2] at hz
        have hz : oIdx x y = some z := hz
        unfold oIdx at hz
        split at hz
        · rename_i j hj
          cases hz
          refine ha.ev S0 H0 S σ H R x h1 H1 e1 _ fun v H2 e2 r1 => ?_
          obtain ⟨p, vs, rfl, _, hp, pr⟩ := r1
          refine ⟨.inl ⟨rfl, _, SqL.of hp⟩, ?_⟩
          refine hb.ev S0 H0 S σ H R y h2 H2 (e1.trans e2) _ fun u H3 e3 r2 => ?_
          have e := paired_lit pr
          subst e
          have r2 : u = Lit.e y := r2
          subst r2
          obtain ⟨hlt, hy, hno⟩ := List.findIdx?_eq_some_iff_getElem.mp hj
          have hy := of_decide_eq_true hy
          refine ⟨p, x.map Lit.e, Lit.e y, j, Lit.e x[j], rfl, rfl, SqL.of (e3 p _ hp), Lit.flat y, flat_map _, by rw [List.getElem?_map, List.getElem?_eq_getElem hlt] <;> rfl, (Lit.eqv _ _).mpr hy, fun n z' hn hz' => ?_, q _ H3 (e2.trans e3) rfl⟩
          rw [List.getElem?_map, List.getElem?_eq_getElem (by omega : n < x.length)] at hz'
          cases hz'
          cases q' : eqV (Lit.e x[n]) (Lit.e y) with
          | false => rfl
          | true => exact absurd (decide_eq_true ((Lit.eqv _ _).mp q')) (by have := hno n hn; simpa using this)
        · cases hz⟩
end
end Sm
end

section
set_option maxRecDepth 100000
set_option maxHeartbeats 4000000
namespace L2
open PySem PySem.W PySem.Spec PySem.Calls PyProof.Rows
/-- x, *xs = a list -/
def gStar1 (K : PySem.W.Frag) (i j : Nat) : TG := fun v σ H Q => ∃ a x xs, v = .ref a ∧ SqL K H a (x :: xs) ∧ xs.length ≤ 10000 ∧ ∀ l, H l = none → Q ((σ.set i (some x)).set j (some (.ref l))) (upd H l (.lst xs))
theorem pg_star1 {X : Cx} {i j : Nat} {x y : PySem.Str} {px py ps pos : Pos} {k : Nat} (hc : X.calm = true) (h1 : PG X (.Name x px) (gName i)) (h2 : PG X (.Name y py) (gName j)) : PG X (.Tuple [.Name x px, .Starred (.Name y py) ps] k pos) (gStar1 X.K i j) := by
  refine ⟨fun pins s σ H v u Q I r hw => ?_⟩
  obtain ⟨a, z, zs, e1, hq, hl0, hw⟩ := hw
  subst e1
  cases r
  obtain ⟨its, rv, ht, hz⟩ := I.list hq
  have hl := ht.isList
  have hh := I.ok.hd hc
  obtain ⟨u0, us, rfl, r0, rs⟩ : ∃ u0 us, its = u0 :: us ∧ RelV z u0 ∧ Vals zs us := by
    cases rv with
    | cons r0 rs => exact ⟨_, _, rfl, r0, rs⟩
  have hlen := rs.length
  have hsz : (u0 :: us).toArray.size = us.length + 1 := by simp
  rw [assign_Tuple]
  refine wpAny_bind (wpAny_standAt ?_)
  unfold unpack
  have ea : assignEach [.Name x px, .Starred (.Name y py) ps] X.env = [(false, assign (.Name x px) X.env), (true, assign (.Name y py) X.env)] := by first | rfl | simp [assignEach]
  rw [ea]
  show wpAny _ _ (do assignInOrder [assign (.Name x px) X.env, assign (.Name y py) X.env] (← holding [Value.ref a] (unpackItems (.ref a) 2 (some 1)))) _ _ _
  refine wpAny_bind (wpAny_holding ?_)
  have hlt : a ≠ s.heap.objs.size := by obtain ⟨o, ho, _⟩ := hl; exact Nat.ne_of_lt (Heap.lt_size ho)
  unfold unpackItems
  refine wpAny_bind ?_
  unfold notIterableAtAll
  refine wpAny_bind (wpAny_specialOf hl.typeIs slot_list_iter.lookup ?_)
  refine wpAny_pure ?_
  simp only [Bool.false_eq_true, if_false]
  refine wpAny_bind (wpAny_holding (wpAny_pyIter_list hl ?_))
  refine wpAny_bind (wpAny_holding (kun_draw hlt 1 0 _ _ ⟨_, Heap.get?_push_size _ rfl, rfl, rfl⟩ (hl.push _) (by rw [hsz]; omega) fun h₁ hit₁ hs₁ => ?_))
  have hl₁ := (hl.push { cls := .type "list_iterator", data := .fields #[.ref a, .int 0 0] }).extBut hs₁.extBut hlt
  rw [Nat.zero_add] at hit₁
  have hit₁' := hit₁
  obtain ⟨oi, hoi, _⟩ := hit₁'
  have hl₁' := hl₁
  obtain ⟨ol, hol, _⟩ := hl₁'
  rw [List.drop_zero]
  rw [if_neg (show ¬ (((u0 :: us).toArray.toList.take 1).length < 1) by simp)]
  refine wpAny_bind (wpAny_holding (kun_collect (s := { s with heap := h₁ }) (T := "list_iterator") (.inr (.inr (.inl rfl))) (Walks.list (A := X.A.in1) hh s.heap.objs.size a hlt (u0 :: us).toArray) (fun j u st => st.1.typeIs) (k := 1) (by rw [hsz]; omega) ⟨hit₁, hl₁⟩ (Heap.lt_size hoi) (Heap.lt_size hol) (fun h₂ tk hk => ?_) (by rw [sizeLine_eq, hsz]; omega)))
  have he : Heap.ExtBut s.heap.objs.size s.heap h₂ := fun b o hb e => hk b o hb (hs₁.extBut b o hb (Heap.get?_push_of_some _ e))
  have hdr : (u0 :: us).toArray.toList.drop 1 = us := by simp
  have htk : (u0 :: us).toArray.toList.take 1 = [u0] := by simp
  rw [hdr, htk]
  show wpAny _ _ (if us.length < 2 - 1 - 1 then _ else _) _ _ _
  rw [if_neg (by omega)]
  show wpAny _ _ (newList (us.take (us.length - (2 - 1 - 1))) >>= fun d => pure ([u0] ++ [d] ++ us.drop (us.length - (2 - 1 - 1)))) _ _ _
  rw [show us.length - (2 - 1 - 1) = us.length by omega, List.take_of_length_le (Nat.le_refl _), List.drop_of_length_le (Nat.le_refl _)]
  refine wpAny_bind (wpAny_newList ?_ (by rw [sizeLine_eq]; omega))
  refine wpAny_pure ?_
  have I1 : Inv X pins σ H { s with heap := h₂, toks := tk } := I.kept fun b o e => he b o (Nat.ne_of_lt (Heap.lt_size e)) e
  have hp := I1.hok.fresh (Nat.le_refl _)
  have I2 : Inv X pins σ (upd H h₂.objs.size (.lst zs)) { s with heap := h₂.push { cls := .type "list", data := .seq us.toArray }, toks := tk } := I1.laid (fun b u q => Heap.get?_push_of_some _ q) (Nat.le_refl _) ⟨by rw [sizeLine_eq]; omega, us, _, rs, Heap.get?_push_size _ rfl⟩
  refine assignInOrder_cons (thn (h1.run pins _ σ _ z u0 (fun σ' H' => gName j (.ref h₂.objs.size) σ' H' Q) I2 r0 (hw _ hp)) fun _ s1 ⟨σ1, H1, I3, q1⟩ => ?_)
  exact assignInOrder_cons (thn (h2.run pins s1 σ1 H1 (.ref h₂.objs.size) (.ref h₂.objs.size) Q I3 rfl q1) fun _ s2 q => assignInOrder_nil q)
end L2
end

section
set_option maxRecDepth 100000
set_option maxHeartbeats 4000000
namespace L2
open PySem PySem.Spec PyProof.Rows
def revS (x : PySem.Str) : PySem.Str := ⟨((Builtin.Str.strSliceIndices none none (-1) x.length).filterMap (x.cps[·]?)).toArray⟩
def tRevS (te : TE) : TE := fun σ H Q => te σ H fun x H1 => ∃ z : PySem.Str, x = .str z ∧ (revS z).length ≤ sizeLine ∧ Q (.str (revS z)) H1
theorem pe_revS {X : Cx} {e : Expr} {te : TE} {k : Nat} {p1 p2 p3 pos : Pos} (he : PE X e te) : PE X (.Subscript e (.Slice none none (some (.UnaryOp .USub (.Constant (.int 1) k p1) p2)) p3) pos) (tRevS te) := by
  refine ⟨fun pins s σ H Q I h => ?_⟩
  refine Subscript_ (thn (he.run pins s σ H _ I h) fun v s1 ⟨x, H1, I1, r1, q1⟩ => ?_)
  obtain ⟨z, ex, hz, q⟩ := q1
  subst ex
  obtain ⟨t, rfl⟩ := r1
  have hst : PO X (some (.UnaryOp .USub (.Constant (.int 1) k p1) p2)) (tPart (tUn (rU fun i => .int (-i)) (tC (.int 1)))) := po_some (pe_un un_neg pe_int)
  refine wpAny_Slice (thn (po_none.run pins s1 σ H1 (fun o H2 => o = none ∧ H2 = H1) I1 ⟨rfl, rfl⟩) fun vl s2 ⟨l, H2, I2, pl, el, e2⟩ => ?_)
  subst el e2
  refine thn (po_none.run pins s2 σ H2 (fun o H3 => o = none ∧ H3 = H2) I2 ⟨rfl, rfl⟩) fun vu s3 ⟨u, H3, I3, pu, eu, e3⟩ => ?_
  subst eu e3
  refine thn (hst.run pins s3 σ H3 (fun o H4 => o = some (-1) ∧ H4 = H3) I3 ⟨1, rfl, -1, rfl, rfl, rfl⟩) fun vs s4 ⟨o, H4, I4, ps, eo, e4⟩ => ?_
  subst eo e4
  have I5 : Inv X pins σ H4 { s4 with heap := s4.heap.push { cls := .type "slice", data := .fields #[vl, vu, vs] } } := I4.kept (t' := s4.toks) fun b ob q => Heap.get?_push_of_some _ q
  show wpAny (model X.prog X.w) X.A (subscriptTail e (.Slice none none (some (.UnaryOp .USub (.Constant (.int 1) k p1) p2)) p3) (.str z t) (.ref s4.heap.objs.size)) (EP X pins σ Q) X.xe { s4 with heap := s4.heap.push { cls := .type "slice", data := .fields #[vl, vu, vs] } }
  refine tail_any (ops := [.str z t, .ref s4.heap.objs.size]) (typeIs_str _ _ _) (F.slot_str_getitem.lookup) ?_ (by with_unfolding_all rfl)
  obtain ⟨l, rfl, hl⟩ := IsPart.raw pl
  obtain ⟨u, rfl, hu⟩ := IsPart.raw pu
  obtain ⟨w, rfl, hw⟩ := IsPart.raw ps
  have hsl := Heap.IsSliceOf.new s4.heap (partValue l) (partValue u) (partValue w)
  obtain ⟨os, hos, hcs, hds⟩ := hsl
  refine wpAny_getItem_str_slice (l := l) (u := u) (st := w) ⟨os, hos, hcs, hds⟩ (by rw [hw]; rfl) ?_
  have e : sliceMade z t l u w = .str (revS z) := by
    unfold sliceMade slicePicked
    rw [hl, hu, hw]
    rw [if_neg (by show ¬ (((-1 : Int) == 1) && _) = true; simp)]
    rfl
  rw [e]
  exact ⟨hz, .str (revS z), H4, I5.tok _, ⟨_, rfl⟩, q⟩
end L2
namespace Sm
open PySem L2
def starM {α β : Type} (k : α → List α → Option β) : List α → Option β
  | [] => none
  | v :: vs => if vs.length ≤ 10000 then k v vs else none
def oRevS (x : Str) : Option Str := if (revS x).length ≤ 1000000 then some (revS x) else none
section
variable {c : Stc} {Γ : List Sl} {e : Expr} {te : TE} {ma : Md} {pos : Pos}
theorem je_revS {m : Option Str} {k p1 p2 p3} (h : JE c e te Γ ma m) : JE c (.Subscript e (.Slice none none (some (.UnaryOp .USub (.Constant (.int 1) k p1) p2)) p3) pos) (tRevS te) Γ .fr (m.bind oRevS) :=
  ⟨fun X F => pe_revS (h.pe X F), fun S0 H0 S σ H R z hz H1 e1 Q q => by
    cases h1 : m with
    | none => rw [h1] at hz; cases hz
    | some y =>
      rw [h1] at hz
      have hz : oRevS y = some z := hz
      unfold oRevS at hz
      split at hz
      · rename_i hl
        cases hz
        exact h.ev S0 H0 S σ H R y h1 H1 e1 _ fun v H2 e2 r => ⟨y, r, sz6 (by omega), q _ H2 e2 rfl⟩
      · cases hz⟩
end
section
variable {c : Stc} {Γ : List Sl} {τ ρ : Type} [Rt ρ] {fr : Bool} {Γf : τ → List Sl} {rest : List Stmt} {tu : TS}
/-- x, *xs = e -/
theorem js_star {α : Type} [i : Rp α] [Inhabited α] {x y : Str} {px py ps pt pos : Pos} {kt} {e : Expr} {te : TE} {md : Md} {me : Option (List α)} {k : α → List α → Option (Out τ ρ)} (i1 j : Nat) (he : JE c e te Γ md me)
    (h1 : ∀ X, Fam c X → PG X (.Name x px) (gName i1)) (h2 : ∀ X, Fam c X → PG X (.Name y py) (gName j)) (hk : ∀ v vs, JS c rest tu ((Γ.set i1 (.val i v)).set j (.val (@rpList α i) vs)) fr Γf (k v vs)) (hmd : md ≠ .an := by decide)
    (hs : ∀ env, swapsWithSole [.Tuple [.Name x px, .Starred (.Name y py) ps] kt pt] e pos.line env = pure false := by intro _; rfl) (hw : ∀ env : Env, env.scope = c.sc → swappedStores [.Tuple [.Name x px, .Starred (.Name y py) ps] kt pt] e env = pure none := by intro env h; first | rfl | (cases env; cases h; rfl)) (ha : ∀ env, (assignEach [.Tuple [.Name x px, .Starred (.Name y py) ps] kt pt] env).map (·.2) = [assign (.Tuple [.Name x px, .Starred (.Name y py) ps] kt pt) env] := by intro _; rfl) :
    JS c (.Assign [.Tuple [.Name x px, .Starred (.Name y py) ps] kt pt] e pos :: rest) (tSeq (tAsg te (gStar1 c.K i1 j)) tu) Γ fr Γf (me.bind (starM k)) :=
  ⟨fun X F => pss_cons (ps_asg (he.pe X F) (by rw [← F.hK]; exact pg_star1 F.calm (h1 X F) (h2 X F)) (hs _) (hw _ F.hsc) (ha _)) ((hk default []).ps X F), fun S0 H0 S σ H R o ho D q => by
    cases hm : me with
    | none => rw [hm] at ho; cases ho
    | some l =>
      rw [hm] at ho
      cases l with
      | nil => cases ho
      | cons v vs =>
        have ho : (if vs.length ≤ 10000 then k v vs else none) = some o := ho
        by_cases hl : vs.length ≤ 10000
        · rw [if_pos hl] at ho
          refine he.ev S0 H0 S σ H R _ hm H (Evl.Ex.refl H) _ fun u H1 e1 r => ?_
          obtain ⟨a, us, rfl, sa, hp, pr⟩ := r
          cases pr with
          | @cons u0 _ us' _ r0 rs =>
            refine ⟨a, u0, us', rfl, SqL.of hp, by rw [rs.length]; exact hl, fun l2 hl2 => ?_⟩
            have ex : Ex H1 (upd H1 l2 (.lst us')) := Evl.Ex.new hl2
            have e12 := e1.trans ex
            have g0 : Rp.r c.K (grw S H (upd H1 l2 (.lst us'))) (upd H1 l2 (.lst us')) u0 v := Rp.up (fun a z z2 => grw_in hmd a z z2) (Rp.ex ex r0)
            have g1 : Rp.r c.K (grw S H (upd H1 l2 (.lst us'))) (upd H1 l2 (.lst us')) (.ref l2) vs := ⟨l2, us', rfl, ⟨by rw [upd_same]; simp, .inr (Evl.fresh_back e1 hl2)⟩, upd_same, paired_mono rs fun _ _ z => Rp.up (fun a z z2 => grw_in hmd a z z2) (Rp.ex ex z)⟩
            exact (hk v vs).ev S0 H0 _ _ _ (((R.grow e12).set i1 g0).set j g1) o ho D (out_keep (grw_up R.dm e12) (fr_ex e12) q)
        · rw [if_neg hl] at ho; cases ho⟩
end
end Sm
end

section
set_option maxRecDepth 100000
set_option maxHeartbeats 4000000
namespace Sm
open PySem L2
/-! ### a line or none -/
instance nonQOp3 {α β γ : Type} [Rp α] [Rp β] [Rp γ] : NonQ (Op (T3 α β γ)) := ⟨Op.isNo, fun {K S H v x} h => by
  cases x with
  | no =>
    have h : v = V.non := h
    subst h; rfl
  | yes x =>
    obtain ⟨p, v1, v2, v3, e, _⟩ := h
    subst e; rfl⟩
theorem tit_opl {K : PySem.W.Frag} {α β γ : Type} [Rp α] [Rp β] [Rp γ] : TiT K "tuple" (Op (T3 α β γ)) (fun o => !Op.isNo o) := fun S H v x h => by
  cases x with
  | no =>
    have h : v = V.non := h
    subst h
    exact ⟨_, .base .non, by unfold PySem.W.kitOne; rfl⟩
  | yes x =>
    obtain ⟨p, v1, v2, v3, e, _, hp, _⟩ := h
    subst e
    exact ⟨_, .base (.tup hp), by unfold PySem.W.kitOne; rfl⟩
def unOps {α : Type} : List (Op α) → Option (List α)
  | [] => some []
  | .no :: _ => none
  | .yes x :: r => (unOps r).bind fun l => some (x :: l)
theorem unOps_r {α : Type} [Rp α] {K : PySem.W.Frag} {S : Ft} {H : Hp} {v : V} {x : List (Op α)} {y : List α} (e : unOps x = some y) (h : Rp.r K S H v x) : Rp.r K S H v y := by
  obtain ⟨a, vs, ev, sa, ha, pr⟩ := h
  refine ⟨a, vs, ev, sa, ha, ?_⟩
  clear ha
  induction pr generalizing y with
  | nil => cases e; exact .nil
  | @cons v o vs os r _ ih =>
    cases o with
    | no => cases e
    | yes z =>
      have e : (unOps os).bind (fun l => some (z :: l)) = some y := e
      cases h : unOps os with
      | none => rw [h] at e; cases e
      | some l =>
        rw [h] at e
        cases e
        exact .cons r (ih h)
end Sm
end

section
set_option maxRecDepth 100000
set_option maxHeartbeats 4000000
/-! try: .. except A as n: .. except ..: .., where whatever the body raises is an A: the clauses behind the first are never asked. -/
namespace Sm
open PySem PySem.Spec PyProof.Rows L2
def wFirst (K : PySem.W.Frag) (c : Value) (i : Nat) (ts : Addr → Value → Option Addr → TS) (D : Ends) : WX := fun cls d σ H =>
  PySem.W.exmOne K cls c = some true ∧ ∀ a, H a = none → ts a cls d { nx := fun σ' H' => D.nx (σ'.set i none) H', rt := D.rt, bk := fun σ' H' => D.bk (σ'.set i none) H', ct := fun σ' H' => D.ct (σ'.set i none) H' } (σ.set i (some (.ref a))) H
section
variable {X : Cx} {x n : Str} {c : Value} {i : Nat} {body suite : List Stmt} {b₀ : Stmt} {hds : List ExceptHandler} {np pos pos' : Pos} {tb : WX → TS} {ts : Addr → Value → Option Addr → TS}
theorem caught {D : Ends} {pins : List (Addr × Obj)} {u : Value} {s' : Shared} (hs : X.stack = X.env :: X.outer) (hf : X.env.frame = some X.env.locals) (hN : X.N.Nodup) (hi : X.N[i]? = some n) (hln : X.env.kindOf n = some .local) (hc : Names X x c) (ok : X.Ok) (hfr : X.A.frames = some (X.env :: X.outer))
    (hsu : ∀ (a : Addr) (oe : Obj) (cls : Value) (d : Option Addr) (pn : List (Addr × Obj)), Zc cls d oe → (∃ vs, oe.data = .fields vs) → PSs (X.suite a ((a, oe) :: pn)) (b₀ :: suite) (ts a cls d))
    {pn : List (Addr × Obj)} {xe : Value → Shared → Prop} (hpn : pn = X.pn ++ pins) (h : XE (X.tr pn xe) (wFirst X.K c i ts D) u s') :
    wpAny (model X.prog X.w) X.A (noteFrame u X.env) (fun _ s₂ => wpAny (model X.prog X.w) X.A (setFlight u none) (fun _ s₃ => wpAny (model X.prog X.w) X.A (handleBy u X.env (.ExceptHandler (some (.Name x np)) (some n) (b₀ :: suite) pos' :: hds)) (SP X pins D) X.xe s₃) X.xe s₂) X.xe s' := by
  subst hpn
  obtain ⟨a, B, sI, pins2, σ1, H1, cls, d, rfl, I0, nb, up, sky, na, os, ag, hm, hts⟩ := h
  have I1 : Inv X pins σ1 H1 sI := I0.ofTry ok
  refine Sky.land Zc.steady hfr hf (by rw [← hs]; exact sky) fun h3 fl up3 => ?_
  have I3 : Inv X pins σ1 H1 { s' with heap := h3 } := I1.landed nb fl.1 (up.trans up3) os ag
  obtain ⟨oe, vs, he, hz, hd⟩ := fl.there
  have off : a ∉ frs (X.env :: X.outer) := fun z => by
    obtain ⟨_, o, eo, no⟩ := fl.2.2.1.mem z
    rw [he] at eo
    cases eo
    exact no _ hd
  have off1 : a ≠ X.env.locals := fun e => off (List.mem_filterMap.mpr ⟨X.env, .head _, by rw [hf, e]⟩)
  have off2 : a ∉ X.fs := fun z => by
    obtain ⟨v, hv, q⟩ := List.mem_filterMap.mp z
    exact off (List.mem_filterMap.mpr ⟨v, .tail _ hv, q⟩)
  have IS := I3.suite he hd na off1 off2
  refine wpAny_handleBy_cons (codeAny_handlers_test ?_) (by intro q; cases q)
  have named : ∀ {Q : Value → Shared → Prop} {E : Value → Shared → Prop}, Q c { s' with heap := h3 } → wpAny (model X.prog X.w) (X.A.mark (some (.ref a))) (eval (.Name x np) X.env) Q E { s' with heap := h3 } := fun {Q E} q =>
    hc.2.2.elim (fun g => ld_glob (X := X.suite a ((a, oe) :: (X.pn ++ pins))) IS hc.1 g q hc.2.1) fun g => ld_blt (X := X.suite a ((a, oe) :: (X.pn ++ pins))) IS hc.1 g.1 g.2.1 q g.2.2 hc.2.1
  have asked := PySem.W.exm_one (M := model X.prog X.w) I3.kIn (show PySem.W.Looks (model X.prog X.w) h3 (typeOf (.ref a)) cls from fun A Q E s k q => wpAny_typeOf_ref (k _ _ he) (by rw [hz.1]; exact q)) hm
  refine named (asked.here (codeAny_handlers_suite_as (HandSPX.lands_againZ fl fun h4 fl4 up4 => ?_)))
  have I4 : Inv X pins σ1 H1 { s' with heap := h4 } := I1.landed nb fl4.1 ((up.trans up3).trans up4) os ag
  obtain ⟨oe4, vs4, he4, hz4, hd4⟩ := fl4.there
  refine store_ok (X := X.suite a ((a, oe4) :: (X.pn ++ pins))) (v := .ref a) (I4.suite he4 hd4 na off1 off2) hN hi (.inl hln) rfl (fun s5 I5 => ?_) (.inr hln)
  refine wpAny_mono ((hsu a oe4 cls d (X.pn ++ pins) hz4 ⟨_, hd4⟩).run [] s5 _ H1 _ I5 (hts a na)) (fun f s6 h6 => ?_) (fun _ _ z => z.elim)
  cases f with
  | next => exact h6.elim fun _ h6 => h6.elim fun _ h6 => gone_ok (h6.1.unsuite ok) hN hi hln fun _ J => ⟨_, _, J, h6.2⟩
  | brk => exact h6.elim fun _ h6 => h6.elim fun _ h6 => gone_ok (h6.1.unsuite ok) hN hi hln fun _ J => ⟨_, _, J, h6.2⟩
  | cont => exact h6.elim fun _ h6 => h6.elim fun _ h6 => gone_ok (h6.1.unsuite ok) hN hi hln fun _ J => ⟨_, _, J, h6.2⟩
  | ret u => exact h6.elim fun _ h6 => h6.elim fun _ h6 => h6.elim fun _ h6 => gone_ok (h6.1.unsuite ok) hN hi hln fun _ J => ⟨_, _, _, J, h6.2.1, h6.2.2⟩
theorem ps_try_first (hs : X.stack = X.env :: X.outer) (hf : X.env.frame = some X.env.locals) (hN : X.N.Nodup) (hi : X.N[i]? = some n) (hln : X.env.kindOf n = some .local) (hc : Names X x c)
    (hb : ∀ (W : WX) (pn : List (Addr × Obj)) (xe : Value → Shared → Prop), Takes (X.tr pn xe) W → PassesOwn (model X.prog X.w) X.A X.env xe → PSs (X.tr pn xe) body (tb W))
    (hsu : ∀ (a : Addr) (oe : Obj) (cls : Value) (d : Option Addr) (pn : List (Addr × Obj)), Zc cls d oe → (∃ vs, oe.data = .fields vs) → PSs (X.suite a ((a, oe) :: pn)) (b₀ :: suite) (ts a cls d)) :
    PS X (.Try body (.ExceptHandler (some (.Name x np)) (some n) (b₀ :: suite) pos' :: hds) [] [] pos) (fun D σ H => tb (wFirst X.K c i ts D) D σ H) :=
  ⟨fun pins s σ H D I h => by
    have ok := I.ok
    have hfr : X.A.frames = some (X.env :: X.outer) := by rw [ok.frames, hs]
    refine wpAny_Try_except (wpAny_mono ((hb (wFirst X.K c i ts D) (X.pn ++ pins) _ (fun u s' h => caught hs hf hN hi hln hc ok hfr hsu rfl h) PassesOwn.looking).run [] s σ H D (I.toTry _) h) (fun f s1 h1 => ?_) fun _ _ z => z)
    cases f with
    | next => exact h1.elim fun _ h1 => h1.elim fun _ h1 => wpAny_execs_nil ⟨_, _, h1.1.ofTry ok, h1.2⟩
    | brk => exact h1.elim fun _ h1 => h1.elim fun _ h1 => ⟨_, _, h1.1.ofTry ok, h1.2⟩
    | cont => exact h1.elim fun _ h1 => h1.elim fun _ h1 => ⟨_, _, h1.1.ofTry ok, h1.2⟩
    | ret u => exact h1.elim fun _ h1 => h1.elim fun _ h1 => h1.elim fun _ h1 => ⟨_, _, _, h1.1.ofTry ok, h1.2.1, h1.2.2⟩⟩
end
end Sm
end

section
set_option synthInstance.maxSize 4000
set_option synthInstance.maxHeartbeats 2000000
set_option maxRecDepth 100000
set_option maxHeartbeats 4000000
namespace K
open PySem L2 Sm

def top (i : Nat) : Stmt := PySem.Challenge.pw_pickline_k08_line_texts.main.body.getD i (.Pass ⟨0, 0, 0, 0⟩)
/-- the built-ins that stand, the numbers and classes of the top -/
structure Bt (K : PySem.W.Frag) (mg : Str → Option Value) : Prop where
  len : mg "len" = none
  isinstance : mg "isinstance" = none
  all : mg "all" = none
  any : mg "any" = none
  list : mg "list" = none
  set : mg "set" = none
  enumerate : mg "enumerate" = none
  range : mg "range" = none
  max : mg "max" = none
  int : mg "int" = none
  bool : mg "bool" = none
  str : mg "str" = none
  tuple : mg "tuple" = none
  cMOST_LETTERS : ∃ t, mg "MOST_LETTERS" = some (.int 8 t)
  cMOST_CHANGES : ∃ t, mg "MOST_CHANGES" = some (.int 24 t)
  cMOST_PICKS : ∃ t, mg "MOST_PICKS" = some (.int 40 t)
  cNAME : ∃ t, mg "NAME" = some (.int 0 t)
  cLEANS : ∃ t, mg "LEANS" = some (.int 1 t)
  cBACKS : ∃ t, mg "BACKS" = some (.int 2 t)

/-! ### is_number -/
abbrev s_is_number : Stmt := top 12
theorem sc_is_number : FnScope ["told"] ["told"] (defScope s_is_number) := ⟨rfl, rfl, rfl, by decide +kernel, rfl, by decide +kernel, by decide +kernel⟩
def m_is_number (told : Int) : Option (Out Unit Bool) :=
  (((((((some told)).bind fun _ => some true)).bind fun x => if x then (((((some told)).bind fun _ => some false)).bind fun b => some !b) else some false)).bind fun r => some (Out.rt (τ := Unit) r))
def f_is_number : (Int × Unit) → Option Bool := fun p => outR (m_is_number p.1)
abbrev sp_is_number (K : PySem.W.Frag) : Sp := spOf K (GC Int GN) true f_is_number
theorem ok_is_number {P : Program} {w : World} {K : PySem.W.Frag} {mg : Str → Option Value} {base : Heap} {f : Addr} {fd : FuncData} (F : Fun K "is_number" "is_number" s_is_number f fd) (B : Bt K mg) : FnOk P w K mg base CX0 1 f fd ["told"] (sp_is_number K) := by
  have nd := sc_is_number.nd
  exact def_ok (fr := true) (G := (GC Int GN)) (m := fun p => m_is_number p.1) (Γf := fun _ : Unit => [.no]) F sc_is_number (fun _ => rfl) fun p => by
    obtain ⟨told, u0⟩ := p
    show JS _ _ _ _ _ _ (m_is_number told)
    unfold m_is_number
    exact (js_ret (je_and (je_isi (T := "int") true B.isinstance B.int (by decide +kernel) (by decide +kernel) (je_var 0 (by rfl))) (je_one (je_not (je_isi (T := "bool") false B.isinstance B.bool (by decide +kernel) (by decide +kernel) (je_var 0 (by rfl)))))))
/-! ### is_name -/
abbrev s_is_name : Stmt := top 13
theorem sc_is_name : FnScope ["told", "sign"] ["told"] (defScope s_is_name) := ⟨rfl, rfl, rfl, by decide +kernel, rfl, by decide +kernel, by decide +kernel⟩
def m_is_name (told : Str) : Option (Out Unit Bool) :=
  ((((((((((some told)).bind fun _ => some true)).bind fun b => some !b)).bind fun x => if x then some true else (((((some (1 : Int))).bind fun x => ((((some told)).bind fun x => if x.length ≤ 100000 then some (x.length : Int) else none)).bind fun y => if (decide (x ≤ y)) then ((some (8 : Int))).bind fun z => some (decide (y ≤ z)) else some false)).bind fun b => some !b))).bind fun b => if b then (((some false)).bind fun r => some (Out.rt (τ := Unit) r)) else some (Out.nx (ρ := Bool) ())).bind (Out.go fun _ => (((((((((some told)).bind fun s => some (s.cps.toList.map sign))).bind (lcO (fun i1 => (some true)) (fun i1 => (((some (Str.ofString "a"))).bind fun x => ((some i1)).bind fun y => if sLe x y then ((some (Str.ofString "z"))).bind fun z => some (sLe y z) else some false))))).bind fun x => some (x.all id))).bind fun r => some (Out.rt (τ := Unit) r))))
def f_is_name : (Str × Unit) → Option Bool := fun p => outR (m_is_name p.1)
abbrev sp_is_name (K : PySem.W.Frag) : Sp := spOf K (GC Str GN) true f_is_name
theorem ok_is_name {P : Program} {w : World} {K : PySem.W.Frag} {mg : Str → Option Value} {base : Heap} {f : Addr} {fd : FuncData} (F : Fun K "is_name" "is_name" s_is_name f fd) (B : Bt K mg) : FnOk P w K mg base CX0 1 f fd ["told"] (sp_is_name K) := by
  obtain ⟨tMOST_LETTERS, hMOST_LETTERS⟩ := B.cMOST_LETTERS
  have nd := sc_is_name.nd
  exact def_ok (fr := true) (G := (GC Str GN)) (m := fun p => m_is_name p.1) (Γf := fun _ : Unit => [.no, .no]) F sc_is_name (fun _ => rfl) fun p => by
    obtain ⟨told, u0⟩ := p
    show JS _ _ _ _ _ _ (m_is_name told)
    unfold m_is_name
    exact (js_guard (jt_w (jw_or (jt_not (jt_val (je_isi (T := "str") true B.isinstance B.str (by decide +kernel) (by decide +kernel) (je_var 0 (by rfl))))) (jw_or1 (jt_not (jt_leLe je_int (je_lenS B.len (je_var 0 (by rfl))) (je_glob hMOST_LETTERS)))))) (js_ret je_bl) (js_ret (je_all B.all (je_lc [("sign", 1)] nd (ji_str (je_var 0 (by rfl))) (by dsimp only [Stc.blk]; decide +kernel) (fun X F => (pgn F 1 nd)) (tg_n 1) (fun i1 => jts_nil) (fun i1 => (JE.lit (je_sleSle je_str (je_var 1 (by rfl)) je_str) .fr))))))
/-! ### are_names -/
abbrev s_are_names : Stmt := top 14
theorem sc_are_names : FnScope ["told", "name"] ["told"] (defScope s_are_names) := ⟨rfl, rfl, rfl, by decide +kernel, rfl, by decide +kernel, by decide +kernel⟩
def m_are_names (told : (List Str)) : Option (Out Unit Bool) :=
  (((((((some told)).bind fun _ => some true)).bind fun x => if x then (((((some told)).bind (lcO (fun i1 => (some true)) (fun i1 => (((((some i1)).bind fun x => ((some ())).bind fun y => some (x, y))).bind f_is_name))))).bind fun x => some (x.all id)) else some false)).bind fun r => some (Out.rt (τ := Unit) r))
def f_are_names : ((List Str) × Unit) → Option Bool := fun p => outR (m_are_names p.1)
abbrev sp_are_names (K : PySem.W.Frag) : Sp := spOf K (GC (List Str) GN) true f_are_names
theorem ok_are_names {P : Program} {w : World} {K : PySem.W.Frag} {mg : Str → Option Value} {base : Heap} {f : Addr} {fd : FuncData} (F : Fun K "are_names" "are_names" s_are_names f fd) (B : Bt K mg) (D_is_name : Dn P w K mg base "is_name" 1 (sp_is_name K)) : FnOk P w K mg base CX0 2 f fd ["told"] (sp_are_names K) := by
  have nd := sc_are_names.nd
  exact def_ok (fr := true) (G := (GC (List Str) GN)) (m := fun p => m_are_names p.1) (Γf := fun _ : Unit => [.no, .no]) F sc_are_names (fun _ => rfl) fun p => by
    obtain ⟨told, u0⟩ := p
    show JS _ _ _ _ _ _ (m_are_names told)
    unfold m_are_names
    exact (js_ret (je_and (je_isi (T := "list") true B.isinstance B.list (by decide +kernel) (by decide +kernel) (je_var 0 (by rfl))) (je_one (je_all B.all (je_lc [("name", 1)] nd (ji_list (je_var 0 (by rfl))) (by dsimp only [Stc.blk]; decide +kernel) (fun X F => (pgn F 1 nd)) (tg_n 1) (fun i1 => jts_nil) (fun i1 => (JE.lit (JE.lit (je_call D_is_name (ja_cons (JE.lit (je_var 1 (by rfl)) .fr) ja_nil)) .fr) .fr)))))))
/-! ### are_unlike_names -/
abbrev s_are_unlike_names : Stmt := top 15
theorem sc_are_unlike_names : FnScope ["told"] ["told"] (defScope s_are_unlike_names) := ⟨rfl, rfl, rfl, by decide +kernel, rfl, by decide +kernel, by decide +kernel⟩
def m_are_unlike_names (told : (List Str)) : Option (Out Unit Bool) :=
  (((((((((some told)).bind fun x => ((some ())).bind fun y => some (x, y))).bind f_are_names)).bind fun x => if x then (((((some told)).bind fun xs => if decide xs.Nodup && decide (xs.length ≤ 4000) then some (xs.length : Int) else none)).bind fun x => ((((some told)).bind fun x => some (x.length : Int))).bind fun y => oEq x y) else some false)).bind fun r => some (Out.rt (τ := Unit) r))
def f_are_unlike_names : ((List Str) × Unit) → Option Bool := fun p => outR (m_are_unlike_names p.1)
abbrev sp_are_unlike_names (K : PySem.W.Frag) : Sp := spOf K (GC (List Str) GN) true f_are_unlike_names
theorem ok_are_unlike_names {P : Program} {w : World} {K : PySem.W.Frag} {mg : Str → Option Value} {base : Heap} {f : Addr} {fd : FuncData} (F : Fun K "are_unlike_names" "are_unlike_names" s_are_unlike_names f fd) (B : Bt K mg) (D_are_names : Dn P w K mg base "are_names" 2 (sp_are_names K)) : FnOk P w K mg base CX0 3 f fd ["told"] (sp_are_unlike_names K) := by
  have nd := sc_are_unlike_names.nd
  exact def_ok (fr := true) (G := (GC (List Str) GN)) (m := fun p => m_are_unlike_names p.1) (Γf := fun _ : Unit => [.no]) F sc_are_unlike_names (fun _ => rfl) fun p => by
    obtain ⟨told, u0⟩ := p
    show JS _ _ _ _ _ _ (m_are_unlike_names told)
    unfold m_are_unlike_names
    exact (js_ret (je_and (JE.lit (je_call D_are_names (ja_cons (je_var 0 (by rfl)) ja_nil)) .fr) (je_one (je_eq (je_lenSet B.len B.set (je_var 0 (by rfl))) (je_len B.len (je_var 0 (by rfl)))))))
/-! ### is_plain -/
abbrev s_is_plain : Stmt := top 16
theorem sc_is_plain : FnScope ["book", "told"] ["book", "told"] (defScope s_is_plain) := ⟨rfl, rfl, rfl, by decide +kernel, rfl, by decide +kernel, by decide +kernel⟩
def m_is_plain (book : (Dct (T5 Str (List Str) (Option Str) (List Str) (List Str)))) (told : Str) : Option (Out Unit Bool) :=
  (((((((((some told)).bind fun x => ((some ())).bind fun y => some (x, y))).bind f_is_name)).bind fun x => if x then (((((some told)).bind fun k => some (dhas book k))).bind fun x => if x then (((((((some told)).bind fun k => dget book k)).bind fun x => some (x.c))).bind fun x => some (x.isNone)) else some false) else some false)).bind fun r => some (Out.rt (τ := Unit) r))
def f_is_plain : ((Dct (T5 Str (List Str) (Option Str) (List Str) (List Str))) × Str × Unit) → Option Bool := fun p => outR (m_is_plain p.1 p.2.1)
abbrev sp_is_plain (K : PySem.W.Frag) : Sp := spOf K (GD (T5 Str (List Str) (Option Str) (List Str) (List Str)) (GC Str GN)) true f_is_plain
theorem ok_is_plain {P : Program} {w : World} {K : PySem.W.Frag} {mg : Str → Option Value} {base : Heap} {f : Addr} {fd : FuncData} (F : Fun K "is_plain" "is_plain" s_is_plain f fd) (B : Bt K mg) (D_is_name : Dn P w K mg base "is_name" 1 (sp_is_name K)) : FnOk P w K mg base CX0 2 f fd ["book", "told"] (sp_is_plain K) := by
  obtain ⟨tBACKS, hBACKS⟩ := B.cBACKS
  have nd := sc_is_plain.nd
  exact def_ok (fr := true) (G := (GD (T5 Str (List Str) (Option Str) (List Str) (List Str)) (GC Str GN))) (m := fun p => m_is_plain p.1 p.2.1) (Γf := fun _ : Unit => [.no, .no]) F sc_is_plain (fun _ => rfl) fun p => by
    obtain ⟨book, told, u0⟩ := p
    show JS _ _ _ _ _ _ (m_is_plain book told)
    unfold m_is_plain
    exact (js_ret (je_and (JE.lit (je_call D_is_name (ja_cons (JE.lit (je_var 1 (by rfl)) .fr) ja_nil)) .fr) (je_and (je_din (je_var 1 (by rfl)) (jd_dct (α := (T5 Str (List Str) (Option Str) (List Str) (List Str))) (v := book) 0 (by rfl))) (je_one (je_isN (JE.lit (ixTg (fun (x : (T5 Str (List Str) (Option Str) (List Str) (List Str))) => x.c) hBACKS t5c (je_dget (jd_dct (α := (T5 Str (List Str) (Option Str) (List Str) (List Str))) (v := book) 0 (by rfl)) (je_var 1 (by rfl)))) .fr))))))
/-! ### follows -/
abbrev s_follows : Stmt := top 19
theorem sc_follows : FnScope ["book", "live", "name", "backs", "lean", "other"] ["book", "live", "name"] (defScope s_follows) := ⟨rfl, rfl, rfl, by decide +kernel, rfl, by decide +kernel, by decide +kernel⟩
def m_follows (book : (Dct (T5 Str (List Str) (Option Str) (List Str) (List Str)))) (live : (Dct Bool)) (name : Str) : Option (Out Unit Bool) :=
  (((((((some name)).bind fun k => dget book k)).bind fun x => some (x.c))).bind fun v1 => ((((((((((((((some name)).bind fun k => dget book k)).bind fun x => some (x.b))).bind (lcO (fun i2 => (some true)) (fun i2 => (((some i2)).bind fun k => some (dhas live k)))))).bind fun x => some (x.all id))).bind fun b => some !b)).bind fun b => if b then (((some false)).bind fun r => some (Out.rt (τ := Unit) r)) else some (Out.nx (ρ := Bool) ())).bind (Out.go fun _ => ((((((some v1)).bind fun x => some (x.isNone))).bind fun b => if b then (((((some name)).bind fun k => some (!dhas live k))).bind fun r => some (Out.rt (τ := Unit) r)) else some (Out.nx (ρ := Bool) ())).bind (Out.go fun _ => (((((((((some v1)).bind fun x => x)).bind fun k => some (dhas live k))).bind fun x => if x then (((((lcO (fun i3 => (some true)) (fun i3 => (((((some v1)).bind fun x => x)).bind fun x => ((((((some i3)).bind fun k => dget book k)).bind fun x => some (x.b))).bind fun y => oIn x y)) (live.map (·.1)))).bind fun x => some (x.any id))).bind fun b => some !b) else some false)).bind fun r => some (Out.rt (τ := Unit) r)))))))
def f_follows : ((Dct (T5 Str (List Str) (Option Str) (List Str) (List Str))) × (Dct Bool) × Str × Unit) → Option Bool := fun p => outR (m_follows p.1 p.2.1 p.2.2.1)
abbrev sp_follows (K : PySem.W.Frag) : Sp := spOf K (GD (T5 Str (List Str) (Option Str) (List Str) (List Str)) (GD Bool (GC Str GN))) true f_follows
theorem ok_follows {P : Program} {w : World} {K : PySem.W.Frag} {mg : Str → Option Value} {base : Heap} {f : Addr} {fd : FuncData} (F : Fun K "follows" "follows" s_follows f fd) (B : Bt K mg) : FnOk P w K mg base CX0 1 f fd ["book", "live", "name"] (sp_follows K) := by
  obtain ⟨tBACKS, hBACKS⟩ := B.cBACKS
  obtain ⟨tLEANS, hLEANS⟩ := B.cLEANS
  have nd := sc_follows.nd
  exact def_ok (fr := true) (G := (GD (T5 Str (List Str) (Option Str) (List Str) (List Str)) (GD Bool (GC Str GN)))) (m := fun p => m_follows p.1 p.2.1 p.2.2.1) (Γf := fun _ : Unit => [.no, .no, .no, .no, .no, .no]) F sc_follows (fun _ => rfl) fun p => by
    obtain ⟨book, live, name, u0⟩ := p
    show JS _ _ _ _ _ _ (m_follows book live name)
    unfold m_follows
    exact (js_set 3 nd (JE.lit (ixTg (fun (x : (T5 Str (List Str) (Option Str) (List Str) (List Str))) => x.c) hBACKS t5c (je_dget (jd_dct (α := (T5 Str (List Str) (Option Str) (List Str) (List Str))) (v := book) 0 (by rfl)) (je_var 2 (by rfl)))) .fr) fun v1 => (js_guard (jt_not (jt_val (je_all B.all (je_lc [("lean", 4)] nd (ji_list (ixTg (fun (x : (T5 Str (List Str) (Option Str) (List Str) (List Str))) => x.b) hLEANS t5b (je_dget (jd_dct (α := (T5 Str (List Str) (Option Str) (List Str) (List Str))) (v := book) 0 (by rfl)) (je_var 2 (by rfl))))) (by dsimp only [Stc.blk]; decide +kernel) (fun X F => (pgn F 4 nd)) (tg_n 4) (fun i2 => jts_nil) (fun i2 => (JE.lit (je_din (je_var 4 (by rfl)) (jd_dct (α := Bool) (v := live) 1 (by rfl))) .fr)))))) (js_ret je_bl) (js_guard (jt_isN (je_var 3 (by rfl))) (js_ret (je_dni (je_var 2 (by rfl)) (jd_dct (α := Bool) (v := live) 1 (by rfl)))) (js_ret (je_and (je_din (je_unopt (je_var 3 (by rfl))) (jd_dct (α := Bool) (v := live) 1 (by rfl))) (je_one (je_not (je_any B.any (je_lcK [("other", 5)] 1 (by rfl) nd (by dsimp only [Stc.blk]; decide +kernel) (fun X F => (pgn F 5 nd)) (tg_n 5) (fun i3 => jts_nil) (fun i3 => (JE.lit (je_in (je_unopt (je_var 3 (by rfl))) (ixTg (fun (x : (T5 Str (List Str) (Option Str) (List Str) (List Str))) => x.b) hLEANS t5b (je_dget (jd_dcf (α := (T5 Str (List Str) (Option Str) (List Str) (List Str))) (v := book) 0 (by rfl)) (je_var 5 (by rfl))))) .fr)))))))))))
end K
end

section
set_option synthInstance.maxSize 4000
set_option synthInstance.maxHeartbeats 2000000
set_option maxRecDepth 100000
set_option maxHeartbeats 4000000
namespace K
open PySem L2 Sm

/-! ### is_change -/
abbrev s_is_change : Stmt := top 17
theorem sc_is_change : FnScope ["book", "told", "name", "leans", "backs", "brings", "mends", "lean"] ["book", "told"] (defScope s_is_change) := ⟨rfl, rfl, rfl, by decide +kernel, rfl, by decide +kernel, by decide +kernel⟩
def m_is_change (book : (Dct (T5 Str (List Str) (Option Str) (List Str) (List Str)))) (told : (T5 Str (List Str) (Option Str) (List Str) (List Str))) : Option (Out Unit Bool) :=
  ((((((((((some told)).bind fun _ => some true)).bind fun b => some !b)).bind fun x => if x then some true else (((((some told)).bind fun _ => some (5 : Int))).bind fun x => ((some (5 : Int))).bind fun y => oNe x y))).bind fun b => if b then (((some false)).bind fun r => some (Out.rt (τ := Unit) r)) else some (Out.nx (ρ := Bool) ())).bind (Out.go fun _ => (((some told)).bind fun v1 => ((((((((((((some v1.a)).bind fun x => ((some ())).bind fun y => some (x, y))).bind f_is_name)).bind fun b => some !b)).bind fun x => if x then some true else (((some v1.a)).bind fun k => some (dhas book k)))).bind fun b => if b then (((some false)).bind fun r => some (Out.rt (τ := Unit) r)) else some (Out.nx (ρ := Bool) ())).bind (Out.go fun _ => ((((((((((((some v1.b)).bind fun x => ((some ())).bind fun y => some (x, y))).bind f_are_unlike_names)).bind fun b => some !b)).bind fun x => if x then some true else (((((((some v1.b)).bind (lcO (fun i2 => (some true)) (fun i2 => (((((((some i2)).bind fun x => ((some ())).bind fun y => some (x, y))).bind fun y => some (book, y))).bind f_is_plain))))).bind fun x => some (x.all id))).bind fun b => some !b))).bind fun b => if b then (((some false)).bind fun r => some (Out.rt (τ := Unit) r)) else some (Out.nx (ρ := Bool) ())).bind (Out.go fun _ => ((((((((((((some v1.d)).bind fun x => ((some ())).bind fun y => some (x, y))).bind f_are_unlike_names)).bind fun b => some !b)).bind fun x => if x then some true else (((((((some v1.e)).bind fun x => ((some ())).bind fun y => some (x, y))).bind f_are_unlike_names)).bind fun b => some !b))).bind fun b => if b then (((some false)).bind fun r => some (Out.rt (τ := Unit) r)) else some (Out.nx (ρ := Bool) ())).bind (Out.go fun _ => ((((((some v1.c)).bind fun x => some (x.isNone))).bind fun b => if b then (((some true)).bind fun r => some (Out.rt (τ := Unit) r)) else some (Out.nx (ρ := Bool) ())).bind (Out.go fun _ => (((((((((((((some v1.c)).bind fun x => x)).bind fun x => ((some ())).bind fun y => some (x, y))).bind fun y => some (book, y))).bind f_is_plain)).bind fun x => if x then (((((some v1.d)).bind fun x => some x.isEmpty)).bind fun x => if x then (((some v1.e)).bind fun x => some x.isEmpty) else some false) else some false)).bind fun r => some (Out.rt (τ := Unit) r)))))))))))))
def f_is_change : ((Dct (T5 Str (List Str) (Option Str) (List Str) (List Str))) × (T5 Str (List Str) (Option Str) (List Str) (List Str)) × Unit) → Option Bool := fun p => outR (m_is_change p.1 p.2.1)
abbrev sp_is_change (K : PySem.W.Frag) : Sp := spOf K (GD (T5 Str (List Str) (Option Str) (List Str) (List Str)) (GC (T5 Str (List Str) (Option Str) (List Str) (List Str)) GN)) true f_is_change
theorem ok_is_change {P : Program} {w : World} {K : PySem.W.Frag} {mg : Str → Option Value} {base : Heap} {f : Addr} {fd : FuncData} (F : Fun K "is_change" "is_change" s_is_change f fd) (B : Bt K mg) (D_are_unlike_names : Dn P w K mg base "are_unlike_names" 3 (sp_are_unlike_names K)) (D_is_name : Dn P w K mg base "is_name" 1 (sp_is_name K)) (D_is_plain : Dn P w K mg base "is_plain" 2 (sp_is_plain K)) : FnOk P w K mg base CX0 4 f fd ["book", "told"] (sp_is_change K) := by
  have nd := sc_is_change.nd
  exact def_ok (fr := true) (G := (GD (T5 Str (List Str) (Option Str) (List Str) (List Str)) (GC (T5 Str (List Str) (Option Str) (List Str) (List Str)) GN))) (m := fun p => m_is_change p.1 p.2.1) (Γf := fun _ : Unit => [.no, .no, .no, .no, .no, .no, .no, .no]) F sc_is_change (fun _ => rfl) fun p => by
    obtain ⟨book, told, u0⟩ := p
    show JS _ _ _ _ _ _ (m_is_change book told)
    unfold m_is_change
    exact (js_guard (jt_w (jw_or (jt_not (jt_val (je_isi (T := "tuple") true B.isinstance B.tuple (by decide +kernel) (by decide +kernel) (je_var 1 (by rfl))))) (jw_or1 (jt_ne (je_lenT B.len (je_var 1 (by rfl))) je_int)))) (js_ret je_bl) (js_unp [2, 3, 4, 5, 6] (je_var 1 (by rfl)) (fun X F => (pgt F (pgs_cons (pgn F 2 nd) (pgs_cons (pgn F 3 nd) (pgs_cons (pgn F 4 nd) (pgs_cons (pgn F 5 nd) (pgs_cons (pgn F 6 nd) pgs_nil))))))) (tg_t5 (tg_n 2) (fun _ => tg_n 3) (fun _ _ => tg_n 4) (fun _ _ _ => tg_n 5) (fun _ _ _ _ => tg_n 6)) fun v1 => (js_guard (jt_w (jw_or (jt_not (jt_val (JE.lit (je_call D_is_name (ja_cons (JE.lit (je_var 2 (by rfl)) .fr) ja_nil)) .fr))) (jw_or1 (jt_din (je_var 2 (by rfl)) (jd_dct (α := (T5 Str (List Str) (Option Str) (List Str) (List Str))) (v := book) 0 (by rfl)))))) (js_ret je_bl) (js_guard (jt_w (jw_or (jt_not (jt_val (JE.lit (je_call D_are_unlike_names (ja_cons (je_var 3 (by rfl)) ja_nil)) .fr))) (jw_or1 (jt_not (jt_val (je_all B.all (je_lc [("lean", 7)] nd (ji_list (je_var 3 (by rfl))) (by dsimp only [Stc.blk]; decide +kernel) (fun X F => (pgn F 7 nd)) (tg_n 7) (fun i2 => jts_nil) (fun i2 => (JE.lit (JE.lit (je_call D_is_plain (ja_dct 0 (by rfl) (ja_cons (JE.lit (je_var 7 (by rfl)) .fr) ja_nil))) .fr) .fr))))))))) (js_ret je_bl) (js_guard (jt_w (jw_or (jt_not (jt_val (JE.lit (je_call D_are_unlike_names (ja_cons (je_var 5 (by rfl)) ja_nil)) .fr))) (jw_or1 (jt_not (jt_val (JE.lit (je_call D_are_unlike_names (ja_cons (je_var 6 (by rfl)) ja_nil)) .fr)))))) (js_ret je_bl) (js_guard (jt_isN (je_var 4 (by rfl))) (js_ret je_bl) (js_ret (je_and (JE.lit (je_call D_is_plain (ja_dct 0 (by rfl) (ja_cons (JE.lit (je_unopt (je_var 4 (by rfl))) .fr) ja_nil))) .fr) (je_and (je_notL (je_var 5 (by rfl))) (je_one (je_notL (je_var 6 (by rfl)))))))))))))
/-! ### stands -/
abbrev s_stands : Stmt := top 20
theorem sc_stands : FnScope ["book", "row", "live", "name"] ["book", "row"] (defScope s_stands) := ⟨rfl, rfl, rfl, by decide +kernel, rfl, by decide +kernel, by decide +kernel⟩
def m_stands (book : (Dct (T5 Str (List Str) (Option Str) (List Str) (List Str)))) (row : (List Str)) : Option (Out Unit Bool) :=
  (((some row)).bind fun xs => (loopM (fun (s2 : (Dct Bool)) (i1 : Str) => ((((((((((((((some i1)).bind fun x => ((some ())).bind fun y => some (x, y))).bind fun y => some (s2, y))).bind fun y => some (book, y))).bind f_follows)).bind fun b => some !b)).bind fun b => if b then (((some false)).bind fun r => some (Out.rt (τ := Unit) r)) else some (Out.nx (ρ := Bool) ())).bind (Out.go fun _ => (((some i1)).bind fun k => (putM book s2 k).bind fun v3 => (some (Out.nx (ρ := Bool) v3)))))) ([] : (Dct Bool)) xs).bind (Out.go fun s2 => (((some true)).bind fun r => some (Out.rt (τ := Unit) r))))
def f_stands : ((Dct (T5 Str (List Str) (Option Str) (List Str) (List Str))) × (List Str) × Unit) → Option Bool := fun p => outR (m_stands p.1 p.2.1)
abbrev sp_stands (K : PySem.W.Frag) : Sp := spOf K (GD (T5 Str (List Str) (Option Str) (List Str) (List Str)) (GC (List Str) GN)) true f_stands
theorem ok_stands {P : Program} {w : World} {K : PySem.W.Frag} {mg : Str → Option Value} {base : Heap} {f : Addr} {fd : FuncData} (F : Fun K "stands" "stands" s_stands f fd) (D_follows : Dn P w K mg base "follows" 1 (sp_follows K)) (D_put : Dn P w K mg base "put" 1 (spPut K)) : FnOk P w K mg base CX0 2 f fd ["book", "row"] (sp_stands K) := by
  have nd := sc_stands.nd
  exact def_ok (fr := true) (G := (GD (T5 Str (List Str) (Option Str) (List Str) (List Str)) (GC (List Str) GN))) (m := fun p => m_stands p.1 p.2.1) (Γf := fun _ : Unit => [.no, .no, .no, .no]) F sc_stands (fun _ => rfl) fun p => by
    obtain ⟨book, row, u0⟩ := p
    show JS _ _ _ _ _ _ (m_stands book row)
    unfold m_stands
    exact (js_odc (α := Bool) inferInstance 2 nd (js_for (Γl := fun (s2 : (Dct Bool)) => [D_ (α := (T5 Str (List Str) (Option Str) (List Str) (List Str))) book, V_ (row : (List Str)), E_ (α := Bool) s2, .no]) [3] ([] : (Dct Bool)) (Sub.same (Sub.same (Sub.same (Sub.same Sub.nil)))) (ji_list (je_var 1 (by rfl))) (fun X F => (pgn F 3 nd)) (fun s2 => (tg_n 3)) (fun s2 i1 => (js_guard (jt_not (jt_val (JE.lit (je_call D_follows (ja_dct 0 (by rfl) (ja_odc 2 (by rfl) (ja_cons (JE.lit (je_var 3 (by rfl)) .fr) ja_nil)))) .fr))) (js_ret je_bl) (js_put 0 2 (by rfl) (by rfl) D_put (je_var 3 (by rfl)) fun v3 => (js_nil v3 (Sub.same (Sub.same (Sub.same (Sub.drop Sub.nil)))))))) fun s2 => (js_ret je_bl)))
/-! ### wrong_change -/
abbrev s_wrong_change : Stmt := top 21
theorem sc_wrong_change : FnScope ["trunk", "book", "live", "place", "change", "name"] ["trunk"] (defScope s_wrong_change) := ⟨rfl, rfl, rfl, by decide +kernel, rfl, by decide +kernel, by decide +kernel⟩
def m_wrong_change (trunk : (List (T5 Str (List Str) (Option Str) (List Str) (List Str)))) : Option (Out Unit (Option Int)) :=
  ((((((((((some trunk)).bind fun _ => some true)).bind fun b => some !b)).bind fun x => if x then some true else (((((some trunk)).bind fun x => some !x.isEmpty)).bind fun b => some !b))).bind fun b => if b then (((((some (0 : Int))).bind fun x => some (some x))).bind fun r => some (Out.rt (τ := Unit) r)) else some (Out.nx (ρ := (Option Int)) ())).bind (Out.go fun _ => (((((some trunk)).bind fun xs => some (xs.zipIdx.map fun p => T2.mk (p.2 : Int) p.1))).bind fun xs => (loopM (fun (s2 : ((Dct (T5 Str (List Str) (Option Str) (List Str) (List Str))) × (Dct Bool))) (i1 : (T2 Int (T5 Str (List Str) (Option Str) (List Str) (List Str)))) => ((((((((some i1.a)).bind fun x => ((some (24 : Int))).bind fun y => oEq x y)).bind fun x => if x then some true else (((((((((some i1.b)).bind fun x => ((some ())).bind fun y => some (x, y))).bind fun y => some (s2.1, y))).bind f_is_change)).bind fun b => some !b))).bind fun b => if b then (((((some i1.a)).bind fun x => some (some x))).bind fun r => some (Out.rt (τ := Unit) r)) else some (Out.nx (ρ := (Option Int)) ())).bind (Out.go fun _ => (((((some i1.b)).bind fun x => some (x.a))).bind fun v3 => (((some i1.b)).bind fun v4 => ((some v3)).bind fun k5 => if s2.1.length < 50000 then ((((((((((((((some v3)).bind fun x => ((some ())).bind fun y => some (x, y))).bind fun y => some (s2.2, y))).bind fun y => some ((dput s2.1 k5 v4), y))).bind f_follows)).bind fun b => some !b)).bind fun b => if b then (((((some i1.a)).bind fun x => some (some x))).bind fun r => some (Out.rt (τ := Unit) r)) else some (Out.nx (ρ := (Option Int)) ())).bind (Out.go fun _ => (((some v3)).bind fun k => (putM (dput s2.1 k5 v4) s2.2 k).bind fun v6 => (some (Out.nx (ρ := (Option Int)) ((dput s2.1 k5 v4), v6)))))) else none))))) (([] : (Dct (T5 Str (List Str) (Option Str) (List Str) (List Str)))), ([] : (Dct Bool))) xs).bind (Out.go fun s2 => (((some (none : Option Int))).bind fun r => some (Out.rt (τ := Unit) r))))))
def f_wrong_change : ((List (T5 Str (List Str) (Option Str) (List Str) (List Str))) × Unit) → Option (Option Int) := fun p => outR (m_wrong_change p.1)
abbrev sp_wrong_change (K : PySem.W.Frag) : Sp := spOf K (GC (List (T5 Str (List Str) (Option Str) (List Str) (List Str))) GN) true f_wrong_change
theorem ok_wrong_change {P : Program} {w : World} {K : PySem.W.Frag} {mg : Str → Option Value} {base : Heap} {f : Addr} {fd : FuncData} (F : Fun K "wrong_change" "wrong_change" s_wrong_change f fd) (B : Bt K mg) (D_follows : Dn P w K mg base "follows" 1 (sp_follows K)) (D_is_change : Dn P w K mg base "is_change" 4 (sp_is_change K)) (D_put : Dn P w K mg base "put" 1 (spPut K)) : FnOk P w K mg base CX0 5 f fd ["trunk"] (sp_wrong_change K) := by
  obtain ⟨tMOST_CHANGES, hMOST_CHANGES⟩ := B.cMOST_CHANGES
  obtain ⟨tNAME, hNAME⟩ := B.cNAME
  have nd := sc_wrong_change.nd
  exact def_ok (fr := true) (G := (GC (List (T5 Str (List Str) (Option Str) (List Str) (List Str))) GN)) (m := fun p => m_wrong_change p.1) (Γf := fun _ : Unit => [.no, .no, .no, .no, .no, .no]) F sc_wrong_change (fun _ => rfl) fun p => by
    obtain ⟨trunk, u0⟩ := p
    show JS _ _ _ _ _ _ (m_wrong_change trunk)
    unfold m_wrong_change
    exact (js_guard (jt_w (jw_or (jt_not (jt_val (je_isi (T := "list") true B.isinstance B.list (by decide +kernel) (by decide +kernel) (je_var 0 (by rfl))))) (jw_or1 (jt_not (jt_truth (je_var 0 (by rfl))))))) (js_ret (je_optI je_int)) (js_odc (α := (T5 Str (List Str) (Option Str) (List Str) (List Str))) inferInstance 1 nd (js_odc (α := Bool) inferInstance 2 nd (js_for (Γl := fun (s2 : ((Dct (T5 Str (List Str) (Option Str) (List Str) (List Str))) × (Dct Bool))) => [V_ (trunk : (List (T5 Str (List Str) (Option Str) (List Str) (List Str)))), E_ (α := (T5 Str (List Str) (Option Str) (List Str) (List Str))) s2.1, E_ (α := Bool) s2.2, .no, .no, .no]) [3, 4] (([] : (Dct (T5 Str (List Str) (Option Str) (List Str) (List Str)))), ([] : (Dct Bool))) (Sub.same (Sub.same (Sub.same (Sub.same (Sub.same (Sub.same Sub.nil)))))) (ji_enum B.enumerate (je_var 0 (by rfl))) (fun X F => (pgt F (pgs_cons (pgn F 3 nd) (pgs_cons (pgn F 4 nd) pgs_nil)))) (fun s2 => (tg_t2 (tg_n 3) (fun _ => tg_n 4))) (fun s2 i1 => (js_guard (jt_w (jw_or (jt_eq (je_var 3 (by rfl)) (je_glob hMOST_CHANGES)) (jw_or1 (jt_not (jt_val (JE.lit (je_call D_is_change (ja_odc 1 (by rfl) (ja_cons (je_var 4 (by rfl)) ja_nil))) .fr)))))) (js_ret (JE.lit (je_optI (je_var 3 (by rfl))) .fr)) (js_set 5 nd (JE.lit (ixTg (fun (x : (T5 Str (List Str) (Option Str) (List Str) (List Str))) => x.a) hNAME t5a (je_var 4 (by rfl))) .fr) fun v3 => (js_dput 1 (by rfl) (je_var 4 (by rfl)) (je_var 5 (by rfl)) fun v4 k5 => (js_guard (jt_not (jt_val (JE.lit (je_call D_follows (ja_odc 1 (by rfl) (ja_odc 2 (by rfl) (ja_cons (JE.lit (je_var 5 (by rfl)) .fr) ja_nil)))) .fr))) (js_ret (JE.lit (je_optI (je_var 3 (by rfl))) .fr)) (js_putO 1 2 (by rfl) (by rfl) D_put (je_var 5 (by rfl)) fun v6 => (js_nil ((dput s2.1 k5 v4), v6) (Sub.same (Sub.same (Sub.same (Sub.drop (Sub.drop (Sub.drop Sub.nil))))))))))))) fun s2 => (js_ret je_nonI)))))
/-! ### book_of -/
abbrev s_book_of : Stmt := top 23
theorem sc_book_of : FnScope ["trunk", "change"] ["trunk"] (defScope s_book_of) := ⟨rfl, rfl, rfl, by decide +kernel, rfl, by decide +kernel, by decide +kernel⟩
def m_book_of (trunk : (List (T5 Str (List Str) (Option Str) (List Str) (List Str)))) : Option (Out Unit (DD (T5 Str (List Str) (Option Str) (List Str) (List Str)))) :=
  (((((some trunk)).bind (dcO (fun (i1 : (T5 Str (List Str) (Option Str) (List Str) (List Str))) => (((some i1)).bind fun x => some (x.a))) (fun (i1 : (T5 Str (List Str) (Option Str) (List Str) (List Str))) => (some i1))))).bind fun r => some (Out.rt (τ := Unit) (DD.mk r)))
def f_book_of : ((List (T5 Str (List Str) (Option Str) (List Str) (List Str))) × Unit) → Option (Dct (T5 Str (List Str) (Option Str) (List Str) (List Str))) := fun p => outD (m_book_of p.1)
abbrev sp_book_of (K : PySem.W.Frag) : Sp := spOfD K (GC (List (T5 Str (List Str) (Option Str) (List Str) (List Str))) GN) f_book_of
theorem ok_book_of {P : Program} {w : World} {K : PySem.W.Frag} {mg : Str → Option Value} {base : Heap} {f : Addr} {fd : FuncData} (F : Fun K "book_of" "book_of" s_book_of f fd) (B : Bt K mg) : FnOk P w K mg base CX0 1 f fd ["trunk"] (sp_book_of K) := by
  obtain ⟨tNAME, hNAME⟩ := B.cNAME
  have nd := sc_book_of.nd
  exact def_okD (G := (GC (List (T5 Str (List Str) (Option Str) (List Str) (List Str))) GN)) (m := fun p => m_book_of p.1) (Γf := fun _ : Unit => [.no, .no]) F sc_book_of (fun _ => rfl) fun p => by
    obtain ⟨trunk, u0⟩ := p
    show JS _ _ _ _ _ _ (m_book_of trunk)
    unfold m_book_of
    exact (js_retDE (JDO.de (je_dc 1 [("change", 1)] nd (ji_list (je_var 0 (by rfl))) (by dsimp only [Stc.blk]; decide +kernel) (fun X F => pgn F 1 nd) (fun i1 => (JE.lit (ixTg (fun (x : (T5 Str (List Str) (Option Str) (List Str) (List Str))) => x.a) hNAME t5a (je_var 1 (by rfl))) .fr)) (jv_self 1))))
/-! ### checked_trunk -/
abbrev s_checked_trunk : Stmt := top 22
theorem sc_checked_trunk : FnScope ["trunk", "place"] ["trunk"] (defScope s_checked_trunk) := ⟨rfl, rfl, rfl, by decide +kernel, rfl, by decide +kernel, by decide +kernel⟩
def m_checked_trunk (trunk : (List (T5 Str (List Str) (Option Str) (List Str) (List Str)))) : Option (Out Unit (DD (T5 Str (List Str) (Option Str) (List Str) (List Str)))) :=
  (((((((some trunk)).bind fun x => ((some ())).bind fun y => some (x, y))).bind f_wrong_change)).bind fun v1 => ((((((some v1)).bind fun x => some (!x.isNone))).bind fun b => if b then (none : Option (Out Unit (DD (T5 Str (List Str) (Option Str) (List Str) (List Str))))) else some (Out.nx (ρ := (DD (T5 Str (List Str) (Option Str) (List Str) (List Str)))) ())).bind (Out.go fun _ => ((((((some trunk)).bind fun x => ((some ())).bind fun y => some (x, y))).bind f_book_of).bind fun r => some (Out.rt (τ := Unit) (DD.mk r))))))
def f_checked_trunk : ((List (T5 Str (List Str) (Option Str) (List Str) (List Str))) × Unit) → Option (Dct (T5 Str (List Str) (Option Str) (List Str) (List Str))) := fun p => outD (m_checked_trunk p.1)
abbrev sp_checked_trunk (K : PySem.W.Frag) : Sp := spOfD K (GC (List (T5 Str (List Str) (Option Str) (List Str) (List Str))) GN) f_checked_trunk
theorem ok_checked_trunk {P : Program} {w : World} {K : PySem.W.Frag} {mg : Str → Option Value} {base : Heap} {f : Addr} {fd : FuncData} (F : Fun K "checked_trunk" "checked_trunk" s_checked_trunk f fd) (D_book_of : Dn P w K mg base "book_of" 1 (sp_book_of K)) (D_wrong_change : Dn P w K mg base "wrong_change" 5 (sp_wrong_change K)) : FnOk P w K mg base CX0 6 f fd ["trunk"] (sp_checked_trunk K) := by
  have nd := sc_checked_trunk.nd
  exact def_okD (G := (GC (List (T5 Str (List Str) (Option Str) (List Str) (List Str))) GN)) (m := fun p => m_checked_trunk p.1) (Γf := fun _ : Unit => [.no, .no]) F sc_checked_trunk (fun _ => rfl) fun p => by
    obtain ⟨trunk, u0⟩ := p
    show JS _ _ _ _ _ _ (m_checked_trunk trunk)
    unfold m_checked_trunk
    exact (js_set 1 nd (JE.lit (je_call D_wrong_change (ja_cons (je_var 0 (by rfl)) ja_nil)) .fr) fun v1 => (js_guard (jt_notG (je_var 1 (by rfl))) js_never (js_retDE (jde_call D_book_of (ja_cons (je_var 0 (by rfl)) ja_nil)))))
/-! ### row_of -/
abbrev s_row_of : Stmt := top 24
theorem sc_row_of : FnScope ["book", "line", "name", "many", "picks"] ["book", "line"] (defScope s_row_of) := ⟨rfl, rfl, rfl, by decide +kernel, rfl, by decide +kernel, by decide +kernel⟩
def m_row_of (book : (Dct (T5 Str (List Str) (Option Str) (List Str) (List Str)))) (line : (T3 Str Int (List Str))) : Option (Out Unit (List Str)) :=
  (((some line)).bind fun v1 => (((((((some (book.map (·.1)))).bind fun x => ((some none)).bind fun l => ((((some v1.b)).bind fun x => some (some x))).bind fun u => some (cut x l u))).bind fun x => ((some v1.c)).bind fun y => oCat x y)).bind fun r => some (Out.rt (τ := Unit) r)))
def f_row_of : ((Dct (T5 Str (List Str) (Option Str) (List Str) (List Str))) × (T3 Str Int (List Str)) × Unit) → Option (List Str) := fun p => outR (m_row_of p.1 p.2.1)
abbrev sp_row_of (K : PySem.W.Frag) : Sp := spOf K (GD (T5 Str (List Str) (Option Str) (List Str) (List Str)) (GC (T3 Str Int (List Str)) GN)) true f_row_of
theorem ok_row_of {P : Program} {w : World} {K : PySem.W.Frag} {mg : Str → Option Value} {base : Heap} {f : Addr} {fd : FuncData} (F : Fun K "row_of" "row_of" s_row_of f fd) (B : Bt K mg) : FnOk P w K mg base CX0 1 f fd ["book", "line"] (sp_row_of K) := by
  have nd := sc_row_of.nd
  exact def_ok (fr := true) (G := (GD (T5 Str (List Str) (Option Str) (List Str) (List Str)) (GC (T3 Str Int (List Str)) GN))) (m := fun p => m_row_of p.1 p.2.1) (Γf := fun _ : Unit => [.no, .no, .no, .no, .no]) F sc_row_of (fun _ => rfl) fun p => by
    obtain ⟨book, line, u0⟩ := p
    show JS _ _ _ _ _ _ (m_row_of book line)
    unfold m_row_of
    exact (js_unp [2, 3, 4] (je_var 1 (by rfl)) (fun X F => (pgt F (pgs_cons (pgn F 2 nd) (pgs_cons (pgn F 3 nd) (pgs_cons (pgn F 4 nd) pgs_nil))))) (tg_t3 (tg_n 2) (fun _ => tg_n 3) (fun _ _ => tg_n 4)) fun v1 => (js_ret (je_catF (je_sliceF (je_listD 0 (by rfl) B.list) jo_none (jo_some (je_var 3 (by rfl)))) (je_var 4 (by rfl)))))
/-! ### is_line:o -/
abbrev s_is_line : Stmt := top 25
theorem sc_is_line : FnScope ["book", "told", "name", "many", "picks", "pick"] ["book", "told"] (defScope s_is_line) := ⟨rfl, rfl, rfl, by decide +kernel, rfl, by decide +kernel, by decide +kernel⟩
def m_is_line_o (book : (Dct (T5 Str (List Str) (Option Str) (List Str) (List Str)))) (told : (Op (T3 Str Int (List Str)))) : Option (Out Unit Bool) :=
  ((((((((((some told)).bind fun x => some (!Op.isNo x))).bind fun b => some !b)).bind fun x => if x then some true else (((((((some told)).bind Op.get)).bind fun _ => some (3 : Int))).bind fun x => ((some (3 : Int))).bind fun y => oNe x y))).bind fun b => if b then (((some false)).bind fun r => some (Out.rt (τ := Unit) r)) else some (Out.nx (ρ := Bool) ())).bind (Out.go fun _ => (((((some told)).bind Op.get)).bind fun v1 => ((((((((((((some v1.a)).bind fun x => ((some ())).bind fun y => some (x, y))).bind f_is_name)).bind fun b => some !b)).bind fun x => if x then some true else (((((((((some v1.b)).bind fun x => ((some ())).bind fun y => some (x, y))).bind f_is_number)).bind fun b => some !b)).bind fun x => if x then some true else (((((some (0 : Int))).bind fun x => ((some v1.b)).bind fun y => if (decide (x ≤ y)) then ((some (book.length : Int))).bind fun z => some (decide (y ≤ z)) else some false)).bind fun b => some !b)))).bind fun b => if b then (((some false)).bind fun r => some (Out.rt (τ := Unit) r)) else some (Out.nx (ρ := Bool) ())).bind (Out.go fun _ => ((((((((((((some v1.c)).bind fun x => ((some ())).bind fun y => some (x, y))).bind f_are_names)).bind fun b => some !b)).bind fun x => if x then some true else (((((some v1.c)).bind fun x => some (x.length : Int))).bind fun x => ((some (40 : Int))).bind fun y => oGt x y))).bind fun b => if b then (((some false)).bind fun r => some (Out.rt (τ := Unit) r)) else some (Out.nx (ρ := Bool) ())).bind (Out.go fun _ => (((((((((some v1.c)).bind (lcO (fun i2 => (some true)) (fun i2 => (((some i2)).bind fun k => some (dhas book k)))))).bind fun x => some (x.all id))).bind fun x => if x then (((((((((((((((some told)).bind Op.get)).bind fun x => ((some ())).bind fun y => some (x, y))).bind fun y => some (book, y))).bind f_row_of)).bind fun x => ((some ())).bind fun y => some (x, y))).bind fun y => some (book, y))).bind f_stands) else some false)).bind fun r => some (Out.rt (τ := Unit) r)))))))))
def f_is_line_o : ((Dct (T5 Str (List Str) (Option Str) (List Str) (List Str))) × (Op (T3 Str Int (List Str))) × Unit) → Option Bool := fun p => outR (m_is_line_o p.1 p.2.1)
abbrev sp_is_line_o (K : PySem.W.Frag) : Sp := spOf K (GD (T5 Str (List Str) (Option Str) (List Str) (List Str)) (GC (Op (T3 Str Int (List Str))) GN)) true f_is_line_o
theorem ok_is_line_o {P : Program} {w : World} {K : PySem.W.Frag} {mg : Str → Option Value} {base : Heap} {f : Addr} {fd : FuncData} (F : Fun K "is_line" "is_line" s_is_line f fd) (B : Bt K mg) (D_are_names : Dn P w K mg base "are_names" 2 (sp_are_names K)) (D_is_name : Dn P w K mg base "is_name" 1 (sp_is_name K)) (D_is_number : Dn P w K mg base "is_number" 1 (sp_is_number K)) (D_row_of : Dn P w K mg base "row_of" 1 (sp_row_of K)) (D_stands : Dn P w K mg base "stands" 2 (sp_stands K)) : FnOk P w K mg base CX0 3 f fd ["book", "told"] (sp_is_line_o K) := by
  obtain ⟨tMOST_PICKS, hMOST_PICKS⟩ := B.cMOST_PICKS
  have nd := sc_is_line.nd
  exact def_ok (fr := true) (G := (GD (T5 Str (List Str) (Option Str) (List Str) (List Str)) (GC (Op (T3 Str Int (List Str))) GN))) (m := fun p => m_is_line_o p.1 p.2.1) (Γf := fun _ : Unit => [.no, .no, .no, .no, .no, .no]) F sc_is_line (fun _ => rfl) fun p => by
    obtain ⟨book, told, u0⟩ := p
    show JS _ _ _ _ _ _ (m_is_line_o book told)
    unfold m_is_line_o
    exact (js_guard (jt_w (jw_or (jt_not (jt_val (je_isiY (T := "tuple") B.isinstance B.tuple tit_opl (by decide +kernel) (je_var 1 (by rfl))))) (jw_or1 (jt_ne (je_lenT B.len (je_unO (je_var 1 (by rfl)))) je_int)))) (js_ret je_bl) (js_unp [2, 3, 4] (je_unO (je_var 1 (by rfl))) (fun X F => (pgt F (pgs_cons (pgn F 2 nd) (pgs_cons (pgn F 3 nd) (pgs_cons (pgn F 4 nd) pgs_nil))))) (tg_t3 (tg_n 2) (fun _ => tg_n 3) (fun _ _ => tg_n 4)) fun v1 => (js_guard (jt_w (jw_or (jt_not (jt_val (JE.lit (je_call D_is_name (ja_cons (JE.lit (je_var 2 (by rfl)) .fr) ja_nil)) .fr))) (jw_or (jt_not (jt_val (JE.lit (je_call D_is_number (ja_cons (JE.lit (je_var 3 (by rfl)) .fr) ja_nil)) .fr))) (jw_or1 (jt_not (jt_leLe je_int (je_var 3 (by rfl)) (je_lenD 0 (by rfl) B.len))))))) (js_ret je_bl) (js_guard (jt_w (jw_or (jt_not (jt_val (JE.lit (je_call D_are_names (ja_cons (je_var 4 (by rfl)) ja_nil)) .fr))) (jw_or1 (jt_gt (je_len B.len (je_var 4 (by rfl))) (je_glob hMOST_PICKS))))) (js_ret je_bl) (js_ret (je_and (je_all B.all (je_lc [("pick", 5)] nd (ji_list (je_var 4 (by rfl))) (by dsimp only [Stc.blk]; decide +kernel) (fun X F => (pgn F 5 nd)) (tg_n 5) (fun i2 => jts_nil) (fun i2 => (JE.lit (je_din (je_var 5 (by rfl)) (jd_dct (α := (T5 Str (List Str) (Option Str) (List Str) (List Str))) (v := book) 0 (by rfl))) .fr)))) (je_one (JE.lit (je_call D_stands (ja_dct 0 (by rfl) (ja_cons (je_call D_row_of (ja_dct 0 (by rfl) (ja_cons (je_unO (je_var 1 (by rfl))) ja_nil))) ja_nil))) .fr))))))))
/-! ### is_line:l -/
def m_is_line_l (book : (Dct (T5 Str (List Str) (Option Str) (List Str) (List Str)))) (told : (T3 Str Int (List Str))) : Option (Out Unit Bool) :=
  ((((((((((some told)).bind fun _ => some true)).bind fun b => some !b)).bind fun x => if x then some true else (((((some told)).bind fun _ => some (3 : Int))).bind fun x => ((some (3 : Int))).bind fun y => oNe x y))).bind fun b => if b then (((some false)).bind fun r => some (Out.rt (τ := Unit) r)) else some (Out.nx (ρ := Bool) ())).bind (Out.go fun _ => (((some told)).bind fun v1 => ((((((((((((some v1.a)).bind fun x => ((some ())).bind fun y => some (x, y))).bind f_is_name)).bind fun b => some !b)).bind fun x => if x then some true else (((((((((some v1.b)).bind fun x => ((some ())).bind fun y => some (x, y))).bind f_is_number)).bind fun b => some !b)).bind fun x => if x then some true else (((((some (0 : Int))).bind fun x => ((some v1.b)).bind fun y => if (decide (x ≤ y)) then ((some (book.length : Int))).bind fun z => some (decide (y ≤ z)) else some false)).bind fun b => some !b)))).bind fun b => if b then (((some false)).bind fun r => some (Out.rt (τ := Unit) r)) else some (Out.nx (ρ := Bool) ())).bind (Out.go fun _ => ((((((((((((some v1.c)).bind fun x => ((some ())).bind fun y => some (x, y))).bind f_are_names)).bind fun b => some !b)).bind fun x => if x then some true else (((((some v1.c)).bind fun x => some (x.length : Int))).bind fun x => ((some (40 : Int))).bind fun y => oGt x y))).bind fun b => if b then (((some false)).bind fun r => some (Out.rt (τ := Unit) r)) else some (Out.nx (ρ := Bool) ())).bind (Out.go fun _ => (((((((((some v1.c)).bind (lcO (fun i2 => (some true)) (fun i2 => (((some i2)).bind fun k => some (dhas book k)))))).bind fun x => some (x.all id))).bind fun x => if x then (((((((((((((some told)).bind fun x => ((some ())).bind fun y => some (x, y))).bind fun y => some (book, y))).bind f_row_of)).bind fun x => ((some ())).bind fun y => some (x, y))).bind fun y => some (book, y))).bind f_stands) else some false)).bind fun r => some (Out.rt (τ := Unit) r)))))))))
def f_is_line_l : ((Dct (T5 Str (List Str) (Option Str) (List Str) (List Str))) × (T3 Str Int (List Str)) × Unit) → Option Bool := fun p => outR (m_is_line_l p.1 p.2.1)
abbrev sp_is_line_l (K : PySem.W.Frag) : Sp := spOf K (GD (T5 Str (List Str) (Option Str) (List Str) (List Str)) (GC (T3 Str Int (List Str)) GN)) true f_is_line_l
theorem ok_is_line_l {P : Program} {w : World} {K : PySem.W.Frag} {mg : Str → Option Value} {base : Heap} {f : Addr} {fd : FuncData} (F : Fun K "is_line" "is_line" s_is_line f fd) (B : Bt K mg) (D_are_names : Dn P w K mg base "are_names" 2 (sp_are_names K)) (D_is_name : Dn P w K mg base "is_name" 1 (sp_is_name K)) (D_is_number : Dn P w K mg base "is_number" 1 (sp_is_number K)) (D_row_of : Dn P w K mg base "row_of" 1 (sp_row_of K)) (D_stands : Dn P w K mg base "stands" 2 (sp_stands K)) : FnOk P w K mg base CX0 3 f fd ["book", "told"] (sp_is_line_l K) := by
  obtain ⟨tMOST_PICKS, hMOST_PICKS⟩ := B.cMOST_PICKS
  have nd := sc_is_line.nd
  exact def_ok (fr := true) (G := (GD (T5 Str (List Str) (Option Str) (List Str) (List Str)) (GC (T3 Str Int (List Str)) GN))) (m := fun p => m_is_line_l p.1 p.2.1) (Γf := fun _ : Unit => [.no, .no, .no, .no, .no, .no]) F sc_is_line (fun _ => rfl) fun p => by
    obtain ⟨book, told, u0⟩ := p
    show JS _ _ _ _ _ _ (m_is_line_l book told)
    unfold m_is_line_l
    exact (js_guard (jt_w (jw_or (jt_not (jt_val (je_isi (T := "tuple") true B.isinstance B.tuple (by decide +kernel) (by decide +kernel) (je_var 1 (by rfl))))) (jw_or1 (jt_ne (je_lenT B.len (je_var 1 (by rfl))) je_int)))) (js_ret je_bl) (js_unp [2, 3, 4] (je_var 1 (by rfl)) (fun X F => (pgt F (pgs_cons (pgn F 2 nd) (pgs_cons (pgn F 3 nd) (pgs_cons (pgn F 4 nd) pgs_nil))))) (tg_t3 (tg_n 2) (fun _ => tg_n 3) (fun _ _ => tg_n 4)) fun v1 => (js_guard (jt_w (jw_or (jt_not (jt_val (JE.lit (je_call D_is_name (ja_cons (JE.lit (je_var 2 (by rfl)) .fr) ja_nil)) .fr))) (jw_or (jt_not (jt_val (JE.lit (je_call D_is_number (ja_cons (JE.lit (je_var 3 (by rfl)) .fr) ja_nil)) .fr))) (jw_or1 (jt_not (jt_leLe je_int (je_var 3 (by rfl)) (je_lenD 0 (by rfl) B.len))))))) (js_ret je_bl) (js_guard (jt_w (jw_or (jt_not (jt_val (JE.lit (je_call D_are_names (ja_cons (je_var 4 (by rfl)) ja_nil)) .fr))) (jw_or1 (jt_gt (je_len B.len (je_var 4 (by rfl))) (je_glob hMOST_PICKS))))) (js_ret je_bl) (js_ret (je_and (je_all B.all (je_lc [("pick", 5)] nd (ji_list (je_var 4 (by rfl))) (by dsimp only [Stc.blk]; decide +kernel) (fun X F => (pgn F 5 nd)) (tg_n 5) (fun i2 => jts_nil) (fun i2 => (JE.lit (je_din (je_var 5 (by rfl)) (jd_dct (α := (T5 Str (List Str) (Option Str) (List Str) (List Str))) (v := book) 0 (by rfl))) .fr)))) (je_one (JE.lit (je_call D_stands (ja_dct 0 (by rfl) (ja_cons (je_call D_row_of (ja_dct 0 (by rfl) (ja_cons (je_var 1 (by rfl)) ja_nil))) ja_nil))) .fr))))))))
end K
end

section
set_option synthInstance.maxSize 4000
set_option synthInstance.maxHeartbeats 2000000
set_option maxRecDepth 100000
set_option maxHeartbeats 4000000
namespace K
open PySem L2 Sm

/-! ### _law_cell_at -/
abbrev s_law_cell_at : Stmt := top 34
theorem sc_law_cell_at : FnScope ["_law_script", "_law_k"] ["_law_script", "_law_k"] (defScope s_law_cell_at) := ⟨rfl, rfl, rfl, by decide +kernel, rfl, by decide +kernel, by decide +kernel⟩
def m_law_cell_at (law_script : Scr) (law_k : Int) : Option (Out Unit Int) :=
  ((((((some law_k)).bind fun x => ((((some law_script)).bind fun x => some (x.ns.length : Int))).bind fun y => oLt x y)).bind fun b => if b then (((((some law_script)).bind fun x => ((some law_k)).bind fun y => oIx x.ns y)).bind fun r => some (Out.rt (τ := Unit) r)) else some (Out.nx (ρ := Int) ())).bind (Out.go fun _ => ((((((some law_script)).bind fun x => some x.ns.isEmpty)).bind fun b => if b then (((((some law_k)).bind fun x => ((some (48271 : Int))).bind fun y => oMul x y)).bind fun r => some (Out.rt (τ := Unit) r)) else some (Out.nx (ρ := Int) ())).bind (Out.go fun _ => (((((((((((some law_script)).bind fun x => ((((some law_k)).bind fun x => ((((some law_script)).bind fun x => some (x.ns.length : Int))).bind fun y => oMod x y)).bind fun y => oIx x.ns y)).bind fun x => ((some law_k)).bind fun y => oAdd x y)).bind fun x => ((some (48271 : Int))).bind fun y => oMul x y)).bind fun x => ((some (2147483647 : Int))).bind fun y => oMod x y)).bind fun r => some (Out.rt (τ := Unit) r))))))
def f_law_cell_at : (Scr × Int × Unit) → Option Int := fun p => outR (m_law_cell_at p.1 p.2.1)
abbrev sp_law_cell_at (K : PySem.W.Frag) : Sp := spOf K (GC Scr (GC Int GN)) true f_law_cell_at
theorem ok_law_cell_at {P : Program} {w : World} {K : PySem.W.Frag} {mg : Str → Option Value} {base : Heap} {f : Addr} {fd : FuncData} (F : Fun K "_law_cell_at" "_law_cell_at" s_law_cell_at f fd) (B : Bt K mg) : FnOk P w K mg base CX0 1 f fd ["_law_script", "_law_k"] (sp_law_cell_at K) := by
  have nd := sc_law_cell_at.nd
  exact def_ok (fr := true) (G := (GC Scr (GC Int GN))) (m := fun p => m_law_cell_at p.1 p.2.1) (Γf := fun _ : Unit => [.no, .no]) F sc_law_cell_at (fun _ => rfl) fun p => by
    obtain ⟨law_script, law_k, u0⟩ := p
    show JS _ _ _ _ _ _ (m_law_cell_at law_script law_k)
    unfold m_law_cell_at
    exact (js_guard (jt_lt (je_var 1 (by rfl)) (je_lenScr B.len (je_var 0 (by rfl)))) (js_ret (je_ixScr (je_var 0 (by rfl)) (je_var 1 (by rfl)))) (js_guard (jt_eqScr (je_var 0 (by rfl))) (js_ret (je_mul (je_var 1 (by rfl)) je_int)) (js_ret (je_mod (je_mul (je_add (je_ixScr (je_var 0 (by rfl)) (je_mod (je_var 1 (by rfl)) (je_lenScr B.len (je_var 0 (by rfl))))) (je_var 1 (by rfl))) je_int) je_int))))
/-! ### _law_numbers -/
abbrev s_law_numbers : Stmt := top 35
theorem sc_law_numbers : FnScope ["_law_cell", "_law_bounds", "_law_left", "_law_found", "_law_bound"] ["_law_cell", "_law_bounds"] (defScope s_law_numbers) := ⟨rfl, rfl, rfl, by decide +kernel, rfl, by decide +kernel, by decide +kernel⟩
def m_law_numbers (law_cell : Int) (law_bounds : (List Int)) : Option (Out Unit (List Int)) :=
  (((some law_cell)).bind fun v1 => ((((((some law_cell)).bind fun x => ((((some (10 : Int))).bind fun x => ((some (18 : Int))).bind fun y => oPow x y)).bind fun y => oLt x y)).bind fun b => if b then (((((((((((((some law_cell)).bind fun x => ((some (2147483647 : Int))).bind fun y => oMod x y)).bind fun x => ((some (48271 : Int))).bind fun y => oMul x y)).bind fun x => ((some (12345 : Int))).bind fun y => oAdd x y)).bind fun x => ((some (5 : Int))).bind fun y => oPow x y)).bind fun x => ((some (1013 : Int))).bind fun y => oDiv x y)).bind fun v2 => (some (Out.nx (ρ := (List Int)) v2))) else (some (Out.nx (ρ := (List Int)) v1))).bind (Out.go fun s3 => (((some law_bounds)).bind fun xs => (loopM (fun (s5 : ((List Int) × Int)) (i4 : Int) => (((((some s5.2)).bind fun x => ((some i4)).bind fun y => oMod x y)).bind fun v6 => if s5.1.length < 50000 then (((((some s5.2)).bind fun x => ((some i4)).bind fun y => oDiv x y)).bind fun v7 => (some (Out.nx (ρ := (List Int)) ((s5.1 ++ [v6]), v7)))) else none)) (([] : (List Int)), s3) xs).bind (Out.go fun s5 => (some (Out.rt (τ := Unit) s5.1)))))))
def f_law_numbers : (Int × (List Int) × Unit) → Option (List Int) := fun p => outR (m_law_numbers p.1 p.2.1)
abbrev sp_law_numbers (K : PySem.W.Frag) : Sp := spOf K (GC Int (GC (List Int) GN)) true f_law_numbers
theorem ok_law_numbers {P : Program} {w : World} {K : PySem.W.Frag} {mg : Str → Option Value} {base : Heap} {f : Addr} {fd : FuncData} (F : Fun K "_law_numbers" "_law_numbers" s_law_numbers f fd) : FnOk P w K mg base CX0 1 f fd ["_law_cell", "_law_bounds"] (sp_law_numbers K) := by
  have nd := sc_law_numbers.nd
  exact def_ok (fr := true) (G := (GC Int (GC (List Int) GN))) (m := fun p => m_law_numbers p.1 p.2.1) (Γf := fun _ : Unit => [.no, .no, .no, .no, .no]) F sc_law_numbers (fun _ => rfl) fun p => by
    obtain ⟨law_cell, law_bounds, u0⟩ := p
    show JS _ _ _ _ _ _ (m_law_numbers law_cell law_bounds)
    unfold m_law_numbers
    exact (js_set 2 nd (je_var 0 (by rfl)) fun v1 => (js_if (Γ1 := fun (s3 : Int) => [V_ (law_cell : Int), V_ (law_bounds : (List Int)), V_ (s3 : Int), .no, .no]) (jt_lt (je_var 0 (by rfl)) (je_pow je_int je_int)) (js_set 2 nd (je_div (je_pow (je_add (je_mul (je_mod (je_var 0 (by rfl)) je_int) je_int) je_int) je_int) je_int) fun v2 => (js_nil v2 (Sub.same (Sub.same (Sub.same (Sub.same (Sub.same Sub.nil))))))) (js_nil v1 (Sub.same (Sub.same (Sub.same (Sub.same (Sub.same Sub.nil)))))) fun s3 => (js_own (α := Int) inferInstance 3 nd (js_for (Γl := fun (s5 : ((List Int) × Int)) => [V_ (law_cell : Int), V_ (law_bounds : (List Int)), V_ (s5.2 : Int), O_ (α := Int) s5.1, .no]) [4] (([] : (List Int)), s3) (Sub.same (Sub.same (Sub.same (Sub.same (Sub.same Sub.nil))))) (ji_list (je_var 1 (by rfl))) (fun X F => (pgn F 4 nd)) (fun s5 => (tg_n 4)) (fun s5 i4 => (js_app 3 (by rfl) (je_mod (je_var 2 (by rfl)) (je_var 4 (by rfl))) fun v6 => (js_set 2 nd (je_div (je_var 2 (by rfl)) (je_var 4 (by rfl))) fun v7 => (js_nil ((s5.1 ++ [v6]), v7) (Sub.same (Sub.same (Sub.same (Sub.same (Sub.drop Sub.nil))))))))) fun s5 => (js_retOl 3 (by rfl))))))
/-! ### _law_names -/
abbrev s_law_names : Stmt := top 36
theorem sc_law_names : FnScope ["_law_first"] ([] : List Str) (defScope s_law_names) := ⟨rfl, rfl, rfl, by decide +kernel, rfl, by decide +kernel, by decide +kernel⟩
def m_law_names  : Option (Out Unit (List Str)) :=
  (((((((some (Str.ofString "a"))).bind fun x => ((((some (Str.ofString "change"))).bind fun x => ((((some (Str.ofString "on"))).bind fun x => ((((some (Str.ofString "back"))).bind fun x => ((((some (Str.ofString "b"))).bind fun x => ((((some (Str.ofString "brings"))).bind fun x => ((((some (Str.ofString "mends"))).bind fun x => ((((some (Str.ofString "line"))).bind fun x => ((((some (Str.ofString "c"))).bind fun x => ((((some (Str.ofString "d"))).bind fun x => ((((some (Str.ofString "e"))).bind fun x => ((((some (Str.ofString "f"))).bind fun x => ((some ([] : (List Str)))).bind fun y => some (x :: y))).bind fun y => some (x :: y))).bind fun y => some (x :: y))).bind fun y => some (x :: y))).bind fun y => some (x :: y))).bind fun y => some (x :: y))).bind fun y => some (x :: y))).bind fun y => some (x :: y))).bind fun y => some (x :: y))).bind fun y => some (x :: y))).bind fun y => some (x :: y))).bind fun y => some (x :: y))).bind fun x => if x.length ≤ 100000 then some x else none)).bind fun v1 => (((((some v1)).bind fun x => ((((((some (Str.ofString "g"))).bind fun x => ((((some (Str.ofString "h"))).bind fun x => ((((some (Str.ofString "i"))).bind fun x => ((((some (Str.ofString "j"))).bind fun x => ((((some (Str.ofString "k"))).bind fun x => ((((some (Str.ofString "l"))).bind fun x => ((((some (Str.ofString "m"))).bind fun x => ((((some (Str.ofString "n"))).bind fun x => ((((some (Str.ofString "o"))).bind fun x => ((((some (Str.ofString "p"))).bind fun x => ((((some (Str.ofString "zzzzzzzz"))).bind fun x => ((((some (Str.ofString "r"))).bind fun x => ((some ([] : (List Str)))).bind fun y => some (x :: y))).bind fun y => some (x :: y))).bind fun y => some (x :: y))).bind fun y => some (x :: y))).bind fun y => some (x :: y))).bind fun y => some (x :: y))).bind fun y => some (x :: y))).bind fun y => some (x :: y))).bind fun y => some (x :: y))).bind fun y => some (x :: y))).bind fun y => some (x :: y))).bind fun y => some (x :: y))).bind fun x => if x.length ≤ 100000 then some x else none)).bind fun y => oCat x y)).bind fun r => some (Out.rt (τ := Unit) r)))
def f_law_names : Unit → Option (List Str) := fun p => outR (m_law_names )
abbrev sp_law_names (K : PySem.W.Frag) : Sp := spOf K GN true f_law_names
theorem ok_law_names {P : Program} {w : World} {K : PySem.W.Frag} {mg : Str → Option Value} {base : Heap} {f : Addr} {fd : FuncData} (F : Fun K "_law_names" "_law_names" s_law_names f fd) : FnOk P w K mg base CX0 1 f fd ([] : List Str) (sp_law_names K) := by
  have nd := sc_law_names.nd
  exact def_ok (fr := true) (G := GN) (m := fun p => m_law_names) (Γf := fun _ : Unit => [.no]) F sc_law_names (fun _ => rfl) fun p => by
    show JS _ _ _ _ _ _ (m_law_names )
    unfold m_law_names
    exact (js_set 0 nd (je_list (jl_cons (JE.lit je_str .fr) (jl_cons (JE.lit je_str .fr) (jl_cons (JE.lit je_str .fr) (jl_cons (JE.lit je_str .fr) (jl_cons (JE.lit je_str .fr) (jl_cons (JE.lit je_str .fr) (jl_cons (JE.lit je_str .fr) (jl_cons (JE.lit je_str .fr) (jl_cons (JE.lit je_str .fr) (jl_cons (JE.lit je_str .fr) (jl_cons (JE.lit je_str .fr) (jl_cons (JE.lit je_str .fr) (jl_nil (α := Str))))))))))))))) fun v1 => (js_ret (je_catF (je_var 0 (by rfl)) (je_list (jl_cons (JE.lit je_str .fr) (jl_cons (JE.lit je_str .fr) (jl_cons (JE.lit je_str .fr) (jl_cons (JE.lit je_str .fr) (jl_cons (JE.lit je_str .fr) (jl_cons (JE.lit je_str .fr) (jl_cons (JE.lit je_str .fr) (jl_cons (JE.lit je_str .fr) (jl_cons (JE.lit je_str .fr) (jl_cons (JE.lit je_str .fr) (jl_cons (JE.lit je_str .fr) (jl_cons (JE.lit je_str .fr) (jl_nil (α := Str))))))))))))))))))
/-! ### _law_faults -/
abbrev s_law_faults : Stmt := top 37
theorem sc_law_faults : FnScope ([] : List Str) ([] : List Str) (defScope s_law_faults) := ⟨rfl, rfl, rfl, by decide +kernel, rfl, by decide +kernel, by decide +kernel⟩
def m_law_faults  : Option (Out Unit (List Str)) :=
  (((((((some (Str.ofString "x"))).bind fun x => ((((some (Str.ofString "on"))).bind fun x => ((((some (Str.ofString "back"))).bind fun x => ((((some (Str.ofString "y"))).bind fun x => ((((some (Str.ofString "change"))).bind fun x => ((some ([] : (List Str)))).bind fun y => some (x :: y))).bind fun y => some (x :: y))).bind fun y => some (x :: y))).bind fun y => some (x :: y))).bind fun y => some (x :: y))).bind fun x => if x.length ≤ 100000 then some x else none)).bind fun r => some (Out.rt (τ := Unit) r))
def f_law_faults : Unit → Option (List Str) := fun p => outR (m_law_faults )
abbrev sp_law_faults (K : PySem.W.Frag) : Sp := spOf K GN true f_law_faults
theorem ok_law_faults {P : Program} {w : World} {K : PySem.W.Frag} {mg : Str → Option Value} {base : Heap} {f : Addr} {fd : FuncData} (F : Fun K "_law_faults" "_law_faults" s_law_faults f fd) : FnOk P w K mg base CX0 1 f fd ([] : List Str) (sp_law_faults K) := by
  have nd := sc_law_faults.nd
  exact def_ok (fr := true) (G := GN) (m := fun p => m_law_faults) (Γf := fun _ : Unit => []) F sc_law_faults (fun _ => rfl) fun p => by
    show JS _ _ _ _ _ _ (m_law_faults )
    unfold m_law_faults
    exact (js_ret (je_list (jl_cons (JE.lit je_str .fr) (jl_cons (JE.lit je_str .fr) (jl_cons (JE.lit je_str .fr) (jl_cons (JE.lit je_str .fr) (jl_cons (JE.lit je_str .fr) (jl_nil (α := Str)))))))))
/-! ### _law_of -/
abbrev s_law_of : Stmt := top 38
theorem sc_law_of : FnScope ["_law_trunk_here", "_law_name", "_law_change"] ["_law_trunk_here", "_law_name"] (defScope s_law_of) := ⟨rfl, rfl, rfl, by decide +kernel, rfl, by decide +kernel, by decide +kernel⟩
def m_law_of (law_trunk_here : (List (T5 Str (List Str) (Option Str) (List Str) (List Str)))) (law_name : Str) : Option (Out Unit (T5 Str (List Str) (Option Str) (List Str) (List Str))) :=
  (((((((some law_trunk_here)).bind (lcO (fun i1 => (((((some i1)).bind fun x => some (x.a))).bind fun x => ((some law_name)).bind fun y => oEq x y)) fun x => some x))).bind fun x => ((some (0 : Int))).bind fun y => oIx x y)).bind fun r => some (Out.rt (τ := Unit) r))
def f_law_of : ((List (T5 Str (List Str) (Option Str) (List Str) (List Str))) × Str × Unit) → Option (T5 Str (List Str) (Option Str) (List Str) (List Str)) := fun p => outR (m_law_of p.1 p.2.1)
abbrev sp_law_of (K : PySem.W.Frag) : Sp := spOf K (GC (List (T5 Str (List Str) (Option Str) (List Str) (List Str))) (GC Str GN)) false f_law_of
theorem ok_law_of {P : Program} {w : World} {K : PySem.W.Frag} {mg : Str → Option Value} {base : Heap} {f : Addr} {fd : FuncData} (F : Fun K "_law_of" "_law_of" s_law_of f fd) : FnOk P w K mg base CX0 1 f fd ["_law_trunk_here", "_law_name"] (sp_law_of K) := by
  have nd := sc_law_of.nd
  exact def_ok (fr := false) (G := (GC (List (T5 Str (List Str) (Option Str) (List Str) (List Str))) (GC Str GN))) (m := fun p => m_law_of p.1 p.2.1) (Γf := fun _ : Unit => [.no, .no, .no]) F sc_law_of (fun _ => rfl) fun p => by
    obtain ⟨law_trunk_here, law_name, u0⟩ := p
    show JS _ _ _ _ _ _ (m_law_of law_trunk_here law_name)
    unfold m_law_of
    exact (js_ret (je_ix (je_lcI 2 [("_law_change", 2)] nd (ji_list (je_var 0 (by rfl))) (by dsimp only [Stc.blk]; decide +kernel) (fun X F => pgn F 2 nd) (fun X F => pv_fam F 2) (fun i1 => (jts_one (jt_eq (JE.lit (ixT (fun (x : (T5 Str (List Str) (Option Str) (List Str) (List Str))) => x.a) t5a (je_var 2 (by rfl))) .fr) (je_var 1 (by rfl)))))) je_int))
/-! ### _law_live -/
abbrev s_law_live : Stmt := top 39
theorem sc_law_live : FnScope ["_law_trunk_here", "_law_row_here", "_law_last", "_law_at", "_law_name", "_law_gone", "_law_change", "_law_found", "_law_leans", "_law_backs", "_law_brings", "_law_mends"] ["_law_trunk_here", "_law_row_here"] (defScope s_law_live) := ⟨rfl, rfl, rfl, by decide +kernel, rfl, by decide +kernel, by decide +kernel⟩
def m_law_live (law_trunk_here : (List (T5 Str (List Str) (Option Str) (List Str) (List Str)))) (law_row_here : (List Str)) : Option (Out Unit (List Str)) :=
  (((((some law_row_here)).bind fun xs => some (xs.zipIdx.map fun p => T2.mk (p.2 : Int) p.1))).bind fun xs => (loopM (fun (s2 : (Dct Int)) (i1 : (T2 Int Str)) => (((some i1.a)).bind fun v3 => ((some i1.b)).bind fun k4 => if s2.length < 50000 then (some (Out.nx (ρ := (List Str)) (dput s2 k4 v3))) else none)) ([] : (Dct Int)) xs).bind (Out.go fun s2 => (((some law_trunk_here)).bind fun xs => (loopM (fun (s6 : (Dct Int)) (i5 : (T5 Str (List Str) (Option Str) (List Str) (List Str))) => ((((((((some i5)).bind fun x => some (x.c))).bind fun x => some (!x.isNone))).bind fun b => if b then (((((some law_row_here)).bind fun xs => some (xs.zipIdx.map fun p => T2.mk (p.2 : Int) p.1))).bind fun xs => (loopM (fun (s8 : (Dct Int)) (i7 : (T2 Int Str)) => ((((((some i7.b)).bind fun x => ((((some i5)).bind fun x => some (x.a))).bind fun y => oEq x y)).bind fun b => if b then (((((some i7.a)).bind fun x => ((((((((some i5)).bind fun x => some (x.c))).bind fun x => x)).bind fun k => ((((some (1 : Int))).bind fun x => some (-x))).bind fun x => some ((dget s8 k).getD x))).bind fun y => some (if y > x then y else x))).bind fun v9 => ((((((some i5)).bind fun x => some (x.c))).bind fun x => x)).bind fun k10 => if s8.length < 50000 then (some (Out.nx (ρ := (List Str)) (dput s8 k10 v9))) else none) else (some (Out.nx (ρ := (List Str)) s8))).bind (Out.go fun s11 => (some (Out.nx (ρ := (List Str)) s11))))) s6 xs).bind (Out.go fun s8 => (some (Out.nx (ρ := (List Str)) s8)))) else (some (Out.nx (ρ := (List Str)) s6))).bind (Out.go fun s12 => (some (Out.nx (ρ := (List Str)) s12))))) ([] : (Dct Int)) xs).bind (Out.go fun s6 => (((some law_trunk_here)).bind fun xs => (loopM (fun (s14 : (List Str)) (i13 : (T5 Str (List Str) (Option Str) (List Str) (List Str))) => ((((((((some i13.c)).bind fun x => some (x.isNone))).bind fun x => if x then (((((some i13.a)).bind fun k => some (dhas s2 k))).bind fun x => if x then (((((some i13.a)).bind fun k => ((((some (1 : Int))).bind fun x => some (-x))).bind fun x => some ((dget s6 k).getD x))).bind fun x => ((((some i13.a)).bind fun k => dget s2 k)).bind fun y => oLt x y) else some false) else some false)).bind fun b => if b then (((some i13.a)).bind fun v15 => if s14.length < 50000 then (some (Out.nx (ρ := (List Str)) (s14 ++ [v15]))) else none) else (some (Out.nx (ρ := (List Str)) s14))).bind (Out.go fun s16 => (some (Out.nx (ρ := (List Str)) s16))))) ([] : (List Str)) xs).bind (Out.go fun s14 => (some (Out.rt (τ := Unit) s14))))))))
def f_law_live : ((List (T5 Str (List Str) (Option Str) (List Str) (List Str))) × (List Str) × Unit) → Option (List Str) := fun p => outR (m_law_live p.1 p.2.1)
abbrev sp_law_live (K : PySem.W.Frag) : Sp := spOf K (GC (List (T5 Str (List Str) (Option Str) (List Str) (List Str))) (GC (List Str) GN)) true f_law_live
theorem ok_law_live {P : Program} {w : World} {K : PySem.W.Frag} {mg : Str → Option Value} {base : Heap} {f : Addr} {fd : FuncData} (F : Fun K "_law_live" "_law_live" s_law_live f fd) (B : Bt K mg) : FnOk P w K mg base CX0 1 f fd ["_law_trunk_here", "_law_row_here"] (sp_law_live K) := by
  have nd := sc_law_live.nd
  exact def_ok (fr := true) (G := (GC (List (T5 Str (List Str) (Option Str) (List Str) (List Str))) (GC (List Str) GN))) (m := fun p => m_law_live p.1 p.2.1) (Γf := fun _ : Unit => [.no, .no, .no, .no, .no, .no, .no, .no, .no, .no, .no, .no]) F sc_law_live (fun _ => rfl) fun p => by
    obtain ⟨law_trunk_here, law_row_here, u0⟩ := p
    show JS _ _ _ _ _ _ (m_law_live law_trunk_here law_row_here)
    unfold m_law_live
    exact (js_odc (α := Int) inferInstance 2 nd (js_for (Γl := fun (s2 : (Dct Int)) => [V_ (law_trunk_here : (List (T5 Str (List Str) (Option Str) (List Str) (List Str)))), V_ (law_row_here : (List Str)), E_ (α := Int) s2, .no, .no, .no, .no, .no, .no, .no, .no, .no]) [3, 4] ([] : (Dct Int)) (Sub.same (Sub.same (Sub.same (Sub.same (Sub.same (Sub.same (Sub.same (Sub.same (Sub.same (Sub.same (Sub.same (Sub.same Sub.nil)))))))))))) (ji_enum B.enumerate (je_var 1 (by rfl))) (fun X F => (pgt F (pgs_cons (pgn F 3 nd) (pgs_cons (pgn F 4 nd) pgs_nil)))) (fun s2 => (tg_t2 (tg_n 3) (fun _ => tg_n 4))) (fun s2 i1 => (js_dput 2 (by rfl) (je_var 3 (by rfl)) (je_var 4 (by rfl)) fun v3 k4 => (js_nil (dput s2 k4 v3) (Sub.same (Sub.same (Sub.same (Sub.drop (Sub.drop (Sub.same (Sub.same (Sub.same (Sub.same (Sub.same (Sub.same (Sub.same Sub.nil))))))))))))))) fun s2 => (js_odc (α := Int) inferInstance 5 nd (js_for (Γl := fun (s6 : (Dct Int)) => [V_ (law_trunk_here : (List (T5 Str (List Str) (Option Str) (List Str) (List Str)))), V_ (law_row_here : (List Str)), E_ (α := Int) s2, .no, .no, E_ (α := Int) s6, .no, .no, .no, .no, .no, .no]) [6] ([] : (Dct Int)) (Sub.same (Sub.same (Sub.same (Sub.same (Sub.same (Sub.same (Sub.same (Sub.same (Sub.same (Sub.same (Sub.same (Sub.same Sub.nil)))))))))))) (ji_list (je_var 0 (by rfl))) (fun X F => (pgn F 6 nd)) (fun s6 => (tg_n 6)) (fun s6 i5 => (js_if (Γ1 := fun (s12 : (Dct Int)) => [V_ (law_trunk_here : (List (T5 Str (List Str) (Option Str) (List Str) (List Str)))), V_ (law_row_here : (List Str)), E_ (α := Int) s2, .no, .no, E_ (α := Int) s12, V_ (i5 : (T5 Str (List Str) (Option Str) (List Str) (List Str))), .no, .no, .no, .no, .no]) (jt_notN (JE.lit (ixT (fun (x : (T5 Str (List Str) (Option Str) (List Str) (List Str))) => x.c) t5c (je_var 6 (by rfl))) .fr)) (js_for (Γl := fun (s8 : (Dct Int)) => [V_ (law_trunk_here : (List (T5 Str (List Str) (Option Str) (List Str) (List Str)))), V_ (law_row_here : (List Str)), E_ (α := Int) s2, .no, .no, E_ (α := Int) s8, V_ (i5 : (T5 Str (List Str) (Option Str) (List Str) (List Str))), .no, .no, .no, .no, .no]) [3, 4] s6 (Sub.same (Sub.same (Sub.same (Sub.same (Sub.same (Sub.same (Sub.same (Sub.same (Sub.same (Sub.same (Sub.same (Sub.same Sub.nil)))))))))))) (ji_enum B.enumerate (je_var 1 (by rfl))) (fun X F => (pgt F (pgs_cons (pgn F 3 nd) (pgs_cons (pgn F 4 nd) pgs_nil)))) (fun s8 => (tg_t2 (tg_n 3) (fun _ => tg_n 4))) (fun s8 i7 => (js_if (Γ1 := fun (s11 : (Dct Int)) => [V_ (law_trunk_here : (List (T5 Str (List Str) (Option Str) (List Str) (List Str)))), V_ (law_row_here : (List Str)), E_ (α := Int) s2, V_ (i7.a : Int), V_ (i7.b : Str), E_ (α := Int) s11, V_ (i5 : (T5 Str (List Str) (Option Str) (List Str) (List Str))), .no, .no, .no, .no, .no]) (jt_eq (je_var 4 (by rfl)) (JE.lit (ixT (fun (x : (T5 Str (List Str) (Option Str) (List Str) (List Str))) => x.a) t5a (je_var 6 (by rfl))) .fr)) (js_dput 5 (by rfl) (je_max B.max (je_var 3 (by rfl)) (je_dget2 (jd_odc (α := Int) (v := s8) 5 (by rfl)) (je_unopt (JE.lit (ixT (fun (x : (T5 Str (List Str) (Option Str) (List Str) (List Str))) => x.c) t5c (je_var 6 (by rfl))) .fr)) (je_neg je_int))) (je_unopt (JE.lit (ixT (fun (x : (T5 Str (List Str) (Option Str) (List Str) (List Str))) => x.c) t5c (je_var 6 (by rfl))) .fr)) fun v9 k10 => (js_nil (dput s8 k10 v9) (Sub.same (Sub.same (Sub.same (Sub.same (Sub.same (Sub.same (Sub.same (Sub.same (Sub.same (Sub.same (Sub.same (Sub.same Sub.nil)))))))))))))) (js_nil s8 (Sub.same (Sub.same (Sub.same (Sub.same (Sub.same (Sub.same (Sub.same (Sub.same (Sub.same (Sub.same (Sub.same (Sub.same Sub.nil))))))))))))) fun s11 => (js_nil s11 (Sub.same (Sub.same (Sub.same (Sub.drop (Sub.drop (Sub.same (Sub.same (Sub.same (Sub.same (Sub.same (Sub.same (Sub.same Sub.nil))))))))))))))) fun s8 => (js_nil s8 (Sub.same (Sub.same (Sub.same (Sub.same (Sub.same (Sub.same (Sub.same (Sub.same (Sub.same (Sub.same (Sub.same (Sub.same Sub.nil)))))))))))))) (js_nil s6 (Sub.same (Sub.same (Sub.same (Sub.same (Sub.same (Sub.same (Sub.same (Sub.same (Sub.same (Sub.same (Sub.same (Sub.same Sub.nil))))))))))))) fun s12 => (js_nil s12 (Sub.same (Sub.same (Sub.same (Sub.same (Sub.same (Sub.same (Sub.drop (Sub.same (Sub.same (Sub.same (Sub.same (Sub.same Sub.nil))))))))))))))) fun s6 => (js_own (α := Str) inferInstance 7 nd (js_for (Γl := fun (s14 : (List Str)) => [V_ (law_trunk_here : (List (T5 Str (List Str) (Option Str) (List Str) (List Str)))), V_ (law_row_here : (List Str)), E_ (α := Int) s2, .no, .no, E_ (α := Int) s6, .no, O_ (α := Str) s14, .no, .no, .no, .no]) [4, 8, 9, 10, 11] ([] : (List Str)) (Sub.same (Sub.same (Sub.same (Sub.same (Sub.same (Sub.same (Sub.same (Sub.same (Sub.same (Sub.same (Sub.same (Sub.same Sub.nil)))))))))))) (ji_list (je_var 0 (by rfl))) (fun X F => (pgt F (pgs_cons (pgn F 4 nd) (pgs_cons (pgn F 8 nd) (pgs_cons (pgn F 9 nd) (pgs_cons (pgn F 10 nd) (pgs_cons (pgn F 11 nd) pgs_nil))))))) (fun s14 => (tg_t5 (tg_n 4) (fun _ => tg_n 8) (fun _ _ => tg_n 9) (fun _ _ _ => tg_n 10) (fun _ _ _ _ => tg_n 11))) (fun s14 i13 => (js_if (Γ1 := fun (s16 : (List Str)) => [V_ (law_trunk_here : (List (T5 Str (List Str) (Option Str) (List Str) (List Str)))), V_ (law_row_here : (List Str)), E_ (α := Int) s2, .no, V_ (i13.a : Str), E_ (α := Int) s6, .no, O_ (α := Str) s16, V_ (i13.b : (List Str)), V_ (i13.c : (Option Str)), V_ (i13.d : (List Str)), V_ (i13.e : (List Str))]) (jt_w (jw_and (jt_isN (je_var 9 (by rfl))) (jw_and (jt_din (je_var 4 (by rfl)) (jd_odc (α := Int) (v := s2) 2 (by rfl))) (jw_and1 (jt_lt (je_dget2 (jd_odc (α := Int) (v := s6) 5 (by rfl)) (je_var 4 (by rfl)) (je_neg je_int)) (JE.lit (je_dget (jd_odc (α := Int) (v := s2) 2 (by rfl)) (je_var 4 (by rfl))) .fr)))))) (js_app 7 (by rfl) (je_var 4 (by rfl)) fun v15 => (js_nil (s14 ++ [v15]) (Sub.same (Sub.same (Sub.same (Sub.same (Sub.same (Sub.same (Sub.same (Sub.same (Sub.same (Sub.same (Sub.same (Sub.same Sub.nil)))))))))))))) (js_nil s14 (Sub.same (Sub.same (Sub.same (Sub.same (Sub.same (Sub.same (Sub.same (Sub.same (Sub.same (Sub.same (Sub.same (Sub.same Sub.nil))))))))))))) fun s16 => (js_nil s16 (Sub.same (Sub.same (Sub.same (Sub.same (Sub.drop (Sub.same (Sub.same (Sub.same (Sub.drop (Sub.drop (Sub.drop (Sub.drop Sub.nil))))))))))))))) fun s14 => (js_retOl 7 (by rfl))))))))
end K
end

section
set_option synthInstance.maxSize 4000
set_option synthInstance.maxHeartbeats 2000000
set_option maxRecDepth 100000
set_option maxHeartbeats 4000000
namespace K
open PySem L2 Sm

/-! ### _law_can_come -/
abbrev s_law_can_come : Stmt := top 40
theorem sc_law_can_come : FnScope ["_law_trunk_here", "_law_live_here", "_law_name", "_law_change", "_law_one"] ["_law_trunk_here", "_law_live_here", "_law_name"] (defScope s_law_can_come) := ⟨rfl, rfl, rfl, by decide +kernel, rfl, by decide +kernel, by decide +kernel⟩
def m_law_can_come (law_trunk_here : (List (T5 Str (List Str) (Option Str) (List Str) (List Str)))) (law_live_here : (List Str)) (law_name : Str) : Option (Out Unit Bool) :=
  (((((((some law_trunk_here)).bind fun x => ((((some law_name)).bind fun x => ((some ())).bind fun y => some (x, y))).bind fun y => some (x, y))).bind f_law_of)).bind fun v1 => ((((((((((((some v1)).bind fun x => some (x.b))).bind (lcO (fun i2 => (some true)) (fun i2 => (((some i2)).bind fun x => ((some law_live_here)).bind fun y => oIn x y))))).bind fun x => some (x.all id))).bind fun b => some !b)).bind fun b => if b then (((some false)).bind fun r => some (Out.rt (τ := Unit) r)) else some (Out.nx (ρ := Bool) ())).bind (Out.go fun _ => ((((((((some v1)).bind fun x => some (x.c))).bind fun x => some (x.isNone))).bind fun b => if b then (((((some law_name)).bind fun x => ((some law_live_here)).bind fun y => oNi x y)).bind fun r => some (Out.rt (τ := Unit) r)) else some (Out.nx (ρ := Bool) ())).bind (Out.go fun _ => (((((((((((some v1)).bind fun x => some (x.c))).bind fun x => x)).bind fun x => ((some law_live_here)).bind fun y => oIn x y)).bind fun x => if x then (((((((some law_live_here)).bind (lcO (fun i3 => (some true)) (fun i3 => (((((((some v1)).bind fun x => some (x.c))).bind fun x => x)).bind fun x => ((((((((some law_trunk_here)).bind fun x => ((((some i3)).bind fun x => ((some ())).bind fun y => some (x, y))).bind fun y => some (x, y))).bind f_law_of)).bind fun x => some (x.b))).bind fun y => oIn x y))))).bind fun x => some (x.any id))).bind fun b => some !b) else some false)).bind fun r => some (Out.rt (τ := Unit) r)))))))
def f_law_can_come : ((List (T5 Str (List Str) (Option Str) (List Str) (List Str))) × (List Str) × Str × Unit) → Option Bool := fun p => outR (m_law_can_come p.1 p.2.1 p.2.2.1)
abbrev sp_law_can_come (K : PySem.W.Frag) : Sp := spOf K (GC (List (T5 Str (List Str) (Option Str) (List Str) (List Str))) (GC (List Str) (GC Str GN))) true f_law_can_come
theorem ok_law_can_come {P : Program} {w : World} {K : PySem.W.Frag} {mg : Str → Option Value} {base : Heap} {f : Addr} {fd : FuncData} (F : Fun K "_law_can_come" "_law_can_come" s_law_can_come f fd) (B : Bt K mg) (D_law_of : Dn P w K mg base "_law_of" 1 (sp_law_of K)) : FnOk P w K mg base CX0 2 f fd ["_law_trunk_here", "_law_live_here", "_law_name"] (sp_law_can_come K) := by
  have nd := sc_law_can_come.nd
  exact def_ok (fr := true) (G := (GC (List (T5 Str (List Str) (Option Str) (List Str) (List Str))) (GC (List Str) (GC Str GN)))) (m := fun p => m_law_can_come p.1 p.2.1 p.2.2.1) (Γf := fun _ : Unit => [.no, .no, .no, .no, .no]) F sc_law_can_come (fun _ => rfl) fun p => by
    obtain ⟨law_trunk_here, law_live_here, law_name, u0⟩ := p
    show JS _ _ _ _ _ _ (m_law_can_come law_trunk_here law_live_here law_name)
    unfold m_law_can_come
    exact (js_set 3 nd (je_call D_law_of (ja_cons (je_var 0 (by rfl)) (ja_cons (JE.lit (je_var 2 (by rfl)) .fr) ja_nil))) fun v1 => (js_guard (jt_not (jt_val (je_all B.all (je_lc [("_law_one", 4)] nd (ji_list (ixT (fun (x : (T5 Str (List Str) (Option Str) (List Str) (List Str))) => x.b) t5b (je_var 3 (by rfl)))) (by dsimp only [Stc.blk]; decide +kernel) (fun X F => (pgn F 4 nd)) (tg_n 4) (fun i2 => jts_nil) (fun i2 => (JE.lit (je_in (je_var 4 (by rfl)) (je_var 1 (by rfl))) .fr)))))) (js_ret je_bl) (js_guard (jt_isN (JE.lit (ixT (fun (x : (T5 Str (List Str) (Option Str) (List Str) (List Str))) => x.c) t5c (je_var 3 (by rfl))) .fr)) (js_ret (je_ni (je_var 2 (by rfl)) (je_var 1 (by rfl)))) (js_ret (je_and (je_in (je_unopt (JE.lit (ixT (fun (x : (T5 Str (List Str) (Option Str) (List Str) (List Str))) => x.c) t5c (je_var 3 (by rfl))) .fr)) (je_var 1 (by rfl))) (je_one (je_not (je_any B.any (je_lc [("_law_one", 4)] nd (ji_list (je_var 1 (by rfl))) (by dsimp only [Stc.blk]; decide +kernel) (fun X F => (pgn F 4 nd)) (tg_n 4) (fun i3 => jts_nil) (fun i3 => (JE.lit (je_in (je_unopt (JE.lit (ixT (fun (x : (T5 Str (List Str) (Option Str) (List Str) (List Str))) => x.c) t5c (je_var 3 (by rfl))) .fr)) (ixT (fun (x : (T5 Str (List Str) (Option Str) (List Str) (List Str))) => x.b) t5b (je_call D_law_of (ja_cons (je_var 0 (by rfl)) (ja_cons (JE.lit (je_var 4 (by rfl)) .fr) ja_nil))))) .fr)))))))))))
/-! ### _law_some -/
abbrev s_law_some : Stmt := top 42
theorem sc_law_some : FnScope ["_law_cell", "_law_names_here", "_law_most", "_law_found", "_law_k", "_law_one"] ["_law_cell", "_law_names_here", "_law_most"] (defScope s_law_some) := ⟨rfl, rfl, rfl, by decide +kernel, rfl, by decide +kernel, by decide +kernel⟩
def m_law_some (law_cell : Int) (law_names_here : (List Str)) (law_most : Int) : Option (Out Unit (List Str)) :=
  (((((some law_most)).bind fun n => if 0 ≤ n ∧ n ≤ 100000 then some (rng 0 n) else none)).bind fun xs => (loopM (fun (s2 : ((List Str) × Int)) (i1 : Int) => (((((some s2.2)).bind fun x => ((((((some law_names_here)).bind fun x => some (x.length : Int))).bind fun x => ((some (2 : Int))).bind fun y => oAdd x y)).bind fun y => oMod x y)).bind fun v3 => ((((((((some v3)).bind fun x => ((((some law_names_here)).bind fun x => some (x.length : Int))).bind fun y => oLt x y)).bind fun x => if x then (((((some law_names_here)).bind fun x => ((some v3)).bind fun y => oIx x y)).bind fun x => ((some s2.1)).bind fun y => oNi x y) else some false)).bind fun b => if b then (((((some law_names_here)).bind fun x => ((some v3)).bind fun y => oIx x y)).bind fun v4 => if s2.1.length < 50000 then (some (Out.nx (ρ := (List Str)) (s2.1 ++ [v4]))) else none) else (some (Out.nx (ρ := (List Str)) s2.1))).bind (Out.go fun s5 => (((((some s2.2)).bind fun x => ((some (7 : Int))).bind fun y => oDiv x y)).bind fun v6 => (some (Out.nx (ρ := (List Str)) (s5, v6)))))))) (([] : (List Str)), law_cell) xs).bind (Out.go fun s2 => (some (Out.rt (τ := Unit) s2.1))))
def f_law_some : (Int × (List Str) × Int × Unit) → Option (List Str) := fun p => outR (m_law_some p.1 p.2.1 p.2.2.1)
abbrev sp_law_some (K : PySem.W.Frag) : Sp := spOf K (GC Int (GC (List Str) (GC Int GN))) true f_law_some
theorem ok_law_some {P : Program} {w : World} {K : PySem.W.Frag} {mg : Str → Option Value} {base : Heap} {f : Addr} {fd : FuncData} (F : Fun K "_law_some" "_law_some" s_law_some f fd) (B : Bt K mg) : FnOk P w K mg base CX0 1 f fd ["_law_cell", "_law_names_here", "_law_most"] (sp_law_some K) := by
  have nd := sc_law_some.nd
  exact def_ok (fr := true) (G := (GC Int (GC (List Str) (GC Int GN)))) (m := fun p => m_law_some p.1 p.2.1 p.2.2.1) (Γf := fun _ : Unit => [.no, .no, .no, .no, .no, .no]) F sc_law_some (fun _ => rfl) fun p => by
    obtain ⟨law_cell, law_names_here, law_most, u0⟩ := p
    show JS _ _ _ _ _ _ (m_law_some law_cell law_names_here law_most)
    unfold m_law_some
    exact (js_own (α := Str) inferInstance 3 nd (js_for (Γl := fun (s2 : ((List Str) × Int)) => [V_ (s2.2 : Int), V_ (law_names_here : (List Str)), V_ (law_most : Int), O_ (α := Str) s2.1, .no, .no]) [4] (([] : (List Str)), law_cell) (Sub.same (Sub.same (Sub.same (Sub.same (Sub.same (Sub.same Sub.nil)))))) (ji_range1 B.range (je_var 2 (by rfl))) (fun X F => (pgn F 4 nd)) (fun s2 => (tg_n 4)) (fun s2 i1 => (js_set 5 nd (je_mod (je_var 0 (by rfl)) (je_add (je_len B.len (je_var 1 (by rfl))) je_int)) fun v3 => (js_if (Γ1 := fun (s5 : (List Str)) => [V_ (s2.2 : Int), V_ (law_names_here : (List Str)), V_ (law_most : Int), O_ (α := Str) s5, V_ (i1 : Int), V_ (v3 : Int)]) (jt_w (jw_and (jt_lt (je_var 5 (by rfl)) (je_len B.len (je_var 1 (by rfl)))) (jw_and1 (jt_ni (JE.lit (je_ix (je_var 1 (by rfl)) (je_var 5 (by rfl))) .fr) (je_own 3 (by rfl)))))) (js_app 3 (by rfl) (JE.lit (je_ix (je_var 1 (by rfl)) (je_var 5 (by rfl))) .fr) fun v4 => (js_nil (s2.1 ++ [v4]) (Sub.same (Sub.same (Sub.same (Sub.same (Sub.same (Sub.same Sub.nil)))))))) (js_nil s2.1 (Sub.same (Sub.same (Sub.same (Sub.same (Sub.same (Sub.same Sub.nil))))))) fun s5 => (js_set 0 nd (je_div (je_var 0 (by rfl)) je_int) fun v6 => (js_nil (s5, v6) (Sub.same (Sub.same (Sub.same (Sub.same (Sub.drop (Sub.drop Sub.nil))))))))))) fun s2 => (js_retOl 3 (by rfl))))
/-! ### _law_trunk -/
abbrev s_law_trunk : Stmt := top 43
theorem sc_law_trunk : FnScope ["_law_script", "_law_at", "_law_limit", "_law_names_here", "_law_start", "_law_found", "_law_k", "_law_digits", "_law_live_here", "_law_free", "_law_gone", "_law_rest", "_law_leans", "_law_brings", "_law_mends", "_law_change", "_law_name", "_law_one"] ["_law_script", "_law_at", "_law_limit"] (defScope s_law_trunk) := ⟨rfl, rfl, rfl, by decide +kernel, rfl, by decide +kernel, by decide +kernel⟩
def m_law_trunk (law_script : Scr) (law_at : Int) (law_limit : Int) : Option (Out Unit (List (T5 Str (List Str) (Option Str) (List Str) (List Str)))) :=
  (((f_law_names ())).bind fun v1 => (((((((((((some law_script)).bind fun x => ((((some law_at)).bind fun x => ((some ())).bind fun y => some (x, y))).bind fun y => some (x, y))).bind f_law_cell_at)).bind fun x => ((some (24 : Int))).bind fun y => oDiv x y)).bind fun x => ((some (24 : Int))).bind fun y => oMod x y)).bind fun v2 => (((((((some v1)).bind fun x => ((((some v2)).bind fun x => some (some x))).bind fun l => ((some none)).bind fun u => some (cut x l u))).bind fun x => ((((some v1)).bind fun x => ((some none)).bind fun l => ((((some v2)).bind fun x => some (some x))).bind fun u => some (cut x l u))).bind fun y => oCat x y)).bind fun v3 => (((((((some (1 : Int))).bind fun x => ((((((((some law_script)).bind fun x => ((((some law_at)).bind fun x => ((some ())).bind fun y => some (x, y))).bind fun y => some (x, y))).bind f_law_cell_at)).bind fun x => ((some law_limit)).bind fun y => oMod x y)).bind fun y => oAdd x y)).bind fun n => if 0 ≤ n ∧ n ≤ 100000 then some (rng 0 n) else none)).bind fun xs => (loopM (fun (s5 : (List (T5 Str (List Str) (Option Str) (List Str) (List Str)))) (i4 : Int) => (((((((((((some law_script)).bind fun x => ((((((((some law_at)).bind fun x => ((some (1 : Int))).bind fun y => oAdd x y)).bind fun x => ((some i4)).bind fun y => oAdd x y)).bind fun x => ((some ())).bind fun y => some (x, y))).bind fun y => some (x, y))).bind f_law_cell_at)).bind fun x => ((((((((some (7 : Int))).bind fun x => ((((some (343 : Int))).bind fun x => ((((some (343 : Int))).bind fun x => ((((some (343 : Int))).bind fun x => ((((some (24 : Int))).bind fun x => ((some ([] : (List Int)))).bind fun y => some (x :: y))).bind fun y => some (x :: y))).bind fun y => some (x :: y))).bind fun y => some (x :: y))).bind fun y => some (x :: y))).bind fun x => if x.length ≤ 100000 then some x else none)).bind fun x => ((some ())).bind fun y => some (x, y))).bind fun y => some (x, y))).bind f_law_numbers)).bind fun v6 => (((((((some s5)).bind fun x => ((((((some s5)).bind (lcO (fun i8 => (some true)) (fun i8 => (((some i8)).bind fun x => some (x.a)))))).bind fun x => ((some ())).bind fun y => some (x, y))).bind fun y => some (x, y))).bind f_law_live)).bind fun v7 => (((((some v7)).bind (lcO (fun i11 => (((((((some v7)).bind (lcO (fun i12 => (some true)) (fun i12 => (((some i11)).bind fun x => ((((((((some s5)).bind fun x => ((((some i12)).bind fun x => ((some ())).bind fun y => some (x, y))).bind fun y => some (x, y))).bind f_law_of)).bind fun x => some (x.b))).bind fun y => oIn x y))))).bind fun x => some (x.any id))).bind fun b => some !b)) (fun i11 => (some i11))))).bind fun v10 => ((((((((((some v6)).bind fun x => ((some (0 : Int))).bind fun y => oIx x y)).bind fun x => ((some (6 : Int))).bind fun y => oEq x y)).bind fun x => if x then (((some v10)).bind fun x => ((some ([] : (List Str)))).bind fun y => dNe x y) else some false)).bind fun b => if b then (((((some v10)).bind fun x => ((((((some v6)).bind fun x => ((some (4 : Int))).bind fun y => oIx x y)).bind fun x => ((((some v10)).bind fun x => some (x.length : Int))).bind fun y => oMod x y)).bind fun y => oIx x y)).bind fun v13 => (((((some v7)).bind (lcO (fun i15 => (((some i15)).bind fun x => ((some v13)).bind fun y => oNe x y)) (fun i15 => (some i15))))).bind fun v14 => (((((((((some v3)).bind fun x => ((some i4)).bind fun y => oIx x y)).bind fun x => ((((((((((some v6)).bind fun x => ((some (1 : Int))).bind fun y => oIx x y)).bind fun x => ((((some v14)).bind fun x => ((((some (1 : Int))).bind fun x => ((some ())).bind fun y => some (x, y))).bind fun y => some (x, y))).bind fun y => some (x, y))).bind f_law_some)).bind fun x => ((((((some v13)).bind fun x => some (some x))).bind fun x => ((((some ([] : (List Str)))).bind fun x => ((((some ([] : (List Str)))).bind fun x => ((some ())).bind fun y => some (x, y))).bind fun y => some (x, y))).bind fun y => some (x, y))).bind fun y => some (x, y))).bind fun y => some (x, y))).bind fun x => some (T5.mk x.1 x.2.1 x.2.2.1 x.2.2.2.1 x.2.2.2.2.1))).bind fun v16 => if s5.length < 50000 then (some (Out.nx (ρ := (List (T5 Str (List Str) (Option Str) (List Str) (List Str)))) (s5 ++ [v16]))) else none))) else (((((((((some v6)).bind fun x => ((some (1 : Int))).bind fun y => oIx x y)).bind fun x => ((((some v7)).bind fun x => ((((((some (1 : Int))).bind fun x => ((((((some v6)).bind fun x => ((some (4 : Int))).bind fun y => oIx x y)).bind fun x => ((some (3 : Int))).bind fun y => oMod x y)).bind fun y => oAdd x y)).bind fun x => ((some ())).bind fun y => some (x, y))).bind fun y => some (x, y))).bind fun y => some (x, y))).bind f_law_some)).bind fun v17 => (((((((((some v6)).bind fun x => ((some (2 : Int))).bind fun y => oIx x y)).bind fun x => ((((f_law_faults ())).bind fun x => ((((some (2 : Int))).bind fun x => ((some ())).bind fun y => some (x, y))).bind fun y => some (x, y))).bind fun y => some (x, y))).bind f_law_some)).bind fun v18 => ((((((((some v6)).bind fun x => ((some (3 : Int))).bind fun y => oIx x y)).bind fun x => ((((f_law_faults ())).bind fun x => ((((some (2 : Int))).bind fun x => ((some ())).bind fun y => some (x, y))).bind fun y => some (x, y))).bind fun y => some (x, y))).bind f_law_some)).bind fun v19 => (((((((((some v3)).bind fun x => ((some i4)).bind fun y => oIx x y)).bind fun x => ((((some v17)).bind fun x => ((((some (none : Option Str))).bind fun x => ((((some v18)).bind fun x => ((((some v19)).bind fun x => ((some ())).bind fun y => some (x, y))).bind fun y => some (x, y))).bind fun y => some (x, y))).bind fun y => some (x, y))).bind fun y => some (x, y))).bind fun x => some (T5.mk x.1 x.2.1 x.2.2.1 x.2.2.2.1 x.2.2.2.2.1))).bind fun v20 => if s5.length < 50000 then (some (Out.nx (ρ := (List (T5 Str (List Str) (Option Str) (List Str) (List Str)))) (s5 ++ [v20]))) else none)))).bind (Out.go fun s21 => (some (Out.nx (ρ := (List (T5 Str (List Str) (Option Str) (List Str) (List Str)))) s21)))))))) ([] : (List (T5 Str (List Str) (Option Str) (List Str) (List Str)))) xs).bind (Out.go fun s5 => (some (Out.rt (τ := Unit) s5)))))))
def f_law_trunk : (Scr × Int × Int × Unit) → Option (List (T5 Str (List Str) (Option Str) (List Str) (List Str))) := fun p => outR (m_law_trunk p.1 p.2.1 p.2.2.1)
abbrev sp_law_trunk (K : PySem.W.Frag) : Sp := spOf K (GC Scr (GC Int (GC Int GN))) false f_law_trunk
theorem ok_law_trunk {P : Program} {w : World} {K : PySem.W.Frag} {mg : Str → Option Value} {base : Heap} {f : Addr} {fd : FuncData} (F : Fun K "_law_trunk" "_law_trunk" s_law_trunk f fd) (B : Bt K mg) (D_law_cell_at : Dn P w K mg base "_law_cell_at" 1 (sp_law_cell_at K)) (D_law_faults : Dn P w K mg base "_law_faults" 1 (sp_law_faults K)) (D_law_live : Dn P w K mg base "_law_live" 1 (sp_law_live K)) (D_law_names : Dn P w K mg base "_law_names" 1 (sp_law_names K)) (D_law_numbers : Dn P w K mg base "_law_numbers" 1 (sp_law_numbers K)) (D_law_of : Dn P w K mg base "_law_of" 1 (sp_law_of K)) (D_law_some : Dn P w K mg base "_law_some" 1 (sp_law_some K)) : FnOk P w K mg base CX0 2 f fd ["_law_script", "_law_at", "_law_limit"] (sp_law_trunk K) := by
  have nd := sc_law_trunk.nd
  exact def_ok (fr := false) (G := (GC Scr (GC Int (GC Int GN)))) (m := fun p => m_law_trunk p.1 p.2.1 p.2.2.1) (Γf := fun _ : Unit => [.no, .no, .no, .no, .no, .no, .no, .no, .no, .no, .no, .no, .no, .no, .no, .no, .no, .no]) F sc_law_trunk (fun _ => rfl) fun p => by
    obtain ⟨law_script, law_at, law_limit, u0⟩ := p
    show JS _ _ _ _ _ _ (m_law_trunk law_script law_at law_limit)
    unfold m_law_trunk
    exact (js_set 3 nd (je_call0 D_law_names) fun v1 => (js_set 4 nd (je_mod (je_div (JE.lit (je_call D_law_cell_at (ja_cons (je_var 0 (by rfl)) (ja_cons (JE.lit (je_var 1 (by rfl)) .fr) ja_nil))) .fr) je_int) je_int) fun v2 => (js_set 3 nd (je_catF (je_sliceF (je_var 3 (by rfl)) (jo_some (je_var 4 (by rfl))) jo_none) (je_sliceF (je_var 3 (by rfl)) jo_none (jo_some (je_var 4 (by rfl))))) fun v3 => (js_own (α := (T5 Str (List Str) (Option Str) (List Str) (List Str))) inferInstance 5 nd (js_for (Γl := fun (s5 : (List (T5 Str (List Str) (Option Str) (List Str) (List Str)))) => [V_ (law_script : Scr), V_ (law_at : Int), V_ (law_limit : Int), V_ (v3 : (List Str)), V_ (v2 : Int), O_ (α := (T5 Str (List Str) (Option Str) (List Str) (List Str))) s5, .no, .no, .no, .no, .no, .no, .no, .no, .no, .no, .no, .no]) [6] ([] : (List (T5 Str (List Str) (Option Str) (List Str) (List Str)))) (Sub.same (Sub.same (Sub.same (Sub.same (Sub.same (Sub.same (Sub.same (Sub.same (Sub.same (Sub.same (Sub.same (Sub.same (Sub.same (Sub.same (Sub.same (Sub.same (Sub.same (Sub.same Sub.nil)))))))))))))))))) (ji_range1 B.range (je_add je_int (je_mod (JE.lit (je_call D_law_cell_at (ja_cons (je_var 0 (by rfl)) (ja_cons (JE.lit (je_var 1 (by rfl)) .fr) ja_nil))) .fr) (je_var 2 (by rfl))))) (fun X F => (pgn F 6 nd)) (fun s5 => (tg_n 6)) (fun s5 i4 => (js_set 7 nd (je_call D_law_numbers (ja_cons (JE.lit (JE.lit (je_call D_law_cell_at (ja_cons (je_var 0 (by rfl)) (ja_cons (JE.lit (je_add (je_add (je_var 1 (by rfl)) je_int) (je_var 6 (by rfl))) .fr) ja_nil))) .fr) .fr) (ja_cons (je_list (jl_cons (JE.lit je_int .fr) (jl_cons (JE.lit je_int .fr) (jl_cons (JE.lit je_int .fr) (jl_cons (JE.lit je_int .fr) (jl_cons (JE.lit je_int .fr) (jl_nil (α := Int)))))))) ja_nil))) fun v6 => (js_set 8 nd (je_call D_law_live (ja_cons (je_own 5 (by rfl)) (ja_cons (je_lc [("_law_change", 15)] nd (ji_list (je_own 5 (by rfl))) (by dsimp only [Stc.blk]; decide +kernel) (fun X F => (pgn F 15 nd)) (tg_n 15) (fun i8 => jts_nil) (fun i8 => (JE.lit (JE.lit (ixT (fun (x : (T5 Str (List Str) (Option Str) (List Str) (List Str))) => x.a) t5a (je_var 15 (by rfl))) .fr) .fr))) ja_nil))) fun v7 => (js_setLc 9 [("_law_name", 16)] nd (ji_list (je_var 8 (by rfl))) (by dsimp only [Stc.blk]; decide +kernel) (fun X F => (pgn F 16 nd)) (tg_n 16) (fun i11 => (jts_one (jt_not (jt_val (je_any B.any (je_lc [("_law_one", 17)] nd (ji_list (je_var 8 (by rfl))) (by dsimp only [Stc.blk]; decide +kernel) (fun X F => (pgn F 17 nd)) (tg_n 17) (fun i12 => jts_nil) (fun i12 => (JE.lit (je_in (je_var 16 (by rfl)) (ixT (fun (x : (T5 Str (List Str) (Option Str) (List Str) (List Str))) => x.b) t5b (je_call D_law_of (ja_cons (je_var 5 (by rfl)) (ja_cons (JE.lit (je_var 17 (by rfl)) .fr) ja_nil))))) .fr)))))))) (fun i11 => (JE.lit (je_var 16 (by rfl)) .fr)) fun v10 => (js_if (Γ1 := fun (s21 : (List (T5 Str (List Str) (Option Str) (List Str) (List Str)))) => [V_ (law_script : Scr), V_ (law_at : Int), V_ (law_limit : Int), V_ (v3 : (List Str)), V_ (v2 : Int), O_ (α := (T5 Str (List Str) (Option Str) (List Str) (List Str))) s21, V_ (i4 : Int), V_ (v6 : (List Int)), V_ (v7 : (List Str)), V_ (v10 : (List Str)), .no, .no, .no, .no, .no, .no, .no, .no]) (jt_w (jw_and (jt_eq (JE.lit (je_ix (je_var 7 (by rfl)) je_int) .fr) je_int) (jw_and1 (jt_neD (by decide) (je_var 9 (by rfl)) (je_nil (α := Str)))))) (js_set 10 nd (JE.lit (je_ix (je_var 9 (by rfl)) (je_mod (JE.lit (je_ix (je_var 7 (by rfl)) je_int) .fr) (je_len B.len (je_var 9 (by rfl))))) .fr) fun v13 => (js_setLc 11 [("_law_name", 16)] nd (ji_list (je_var 8 (by rfl))) (by dsimp only [Stc.blk]; decide +kernel) (fun X F => (pgn F 16 nd)) (tg_n 16) (fun i15 => (jts_one (jt_ne (je_var 16 (by rfl)) (je_var 10 (by rfl))))) (fun i15 => (JE.lit (je_var 16 (by rfl)) .fr)) fun v14 => (js_app 5 (by rfl) (je_t5 (ja_cons (JE.lit (JE.lit (je_ix (je_var 3 (by rfl)) (je_var 6 (by rfl))) .fr) .fr) (ja_cons (je_call D_law_some (ja_cons (JE.lit (JE.lit (je_ix (je_var 7 (by rfl)) je_int) .fr) .fr) (ja_cons (je_var 11 (by rfl)) (ja_cons (JE.lit je_int .fr) ja_nil)))) (ja_cons (JE.lit (je_opt (je_var 10 (by rfl))) .fr) (ja_cons (je_nil (α := Str)) (ja_cons (je_nil (α := Str)) ja_nil)))))) fun v16 => (js_nil (s5 ++ [v16]) (Sub.same (Sub.same (Sub.same (Sub.same (Sub.same (Sub.same (Sub.same (Sub.same (Sub.same (Sub.same (Sub.drop (Sub.drop (Sub.same (Sub.same (Sub.same (Sub.same (Sub.same (Sub.same Sub.nil)))))))))))))))))))))) (js_set 12 nd (je_call D_law_some (ja_cons (JE.lit (JE.lit (je_ix (je_var 7 (by rfl)) je_int) .fr) .fr) (ja_cons (je_var 8 (by rfl)) (ja_cons (JE.lit (je_add je_int (je_mod (JE.lit (je_ix (je_var 7 (by rfl)) je_int) .fr) je_int)) .fr) ja_nil)))) fun v17 => (js_par 13 14 nd (je_call D_law_some (ja_cons (JE.lit (JE.lit (je_ix (je_var 7 (by rfl)) je_int) .fr) .fr) (ja_cons (je_call0 D_law_faults) (ja_cons (JE.lit je_int .fr) ja_nil)))) (je_call D_law_some (ja_cons (JE.lit (JE.lit (je_ix (je_var 7 (by rfl)) je_int) .fr) .fr) (ja_cons (je_call0 D_law_faults) (ja_cons (JE.lit je_int .fr) ja_nil)))) (fun v18 v19 => (js_app 5 (by rfl) (je_t5 (ja_cons (JE.lit (JE.lit (je_ix (je_var 3 (by rfl)) (je_var 6 (by rfl))) .fr) .fr) (ja_cons (je_var 12 (by rfl)) (ja_cons (JE.lit je_non .fr) (ja_cons (je_var 13 (by rfl)) (ja_cons (je_var 14 (by rfl)) ja_nil)))))) fun v20 => (js_nil (s5 ++ [v20]) (Sub.same (Sub.same (Sub.same (Sub.same (Sub.same (Sub.same (Sub.same (Sub.same (Sub.same (Sub.same (Sub.same (Sub.same (Sub.drop (Sub.drop (Sub.drop (Sub.same (Sub.same (Sub.same Sub.nil))))))))))))))))))))) (hw := by intro env h; cases env; cases h; rfl))) fun s21 => (js_nil s21 (Sub.same (Sub.same (Sub.same (Sub.same (Sub.same (Sub.same (Sub.drop (Sub.drop (Sub.drop (Sub.drop (Sub.same (Sub.same (Sub.same (Sub.same (Sub.same (Sub.same (Sub.same (Sub.same Sub.nil)))))))))))))))))))))))) fun s5 => (js_retO 5 (by rfl)))))))
/-! ### _law_line -/
abbrev s_law_line : Stmt := top 44
theorem sc_law_line : FnScope ["_law_trunk_here", "_law_name", "_law_cell", "_law_picks", "_law_many", "_law_row_here", "_law_found", "_law_one", "_law_can", "_law_change"] ["_law_trunk_here", "_law_name", "_law_cell", "_law_picks"] (defScope s_law_line) := ⟨rfl, rfl, rfl, by decide +kernel, rfl, by decide +kernel, by decide +kernel⟩
def m_law_line (law_trunk_here : (List (T5 Str (List Str) (Option Str) (List Str) (List Str)))) (law_name : Str) (law_cell : Int) (law_picks : (List Int)) : Option (Out Unit (T3 Str Int (List Str))) :=
  (((((some law_cell)).bind fun x => ((((((some law_trunk_here)).bind fun x => some (x.length : Int))).bind fun x => ((some (1 : Int))).bind fun y => oAdd x y)).bind fun y => oMod x y)).bind fun v1 => (((((((some law_trunk_here)).bind fun x => ((some none)).bind fun l => ((((some v1)).bind fun x => some (some x))).bind fun u => some (cut x l u))).bind (lcO (fun i3 => (some true)) (fun i3 => (((some i3)).bind fun x => some (x.a)))))).bind fun v2 => (((some law_picks)).bind fun xs => (loopM (fun (s6 : (List Str)) (i5 : Int) => (((((some law_trunk_here)).bind (lcO (fun i9 => (((((some law_trunk_here)).bind fun x => ((((((((some law_trunk_here)).bind fun x => ((((((some v2)).bind fun x => ((some s6)).bind fun y => oCat x y)).bind fun x => ((some ())).bind fun y => some (x, y))).bind fun y => some (x, y))).bind f_law_live)).bind fun x => ((((((some i9)).bind fun x => some (x.a))).bind fun x => ((some ())).bind fun y => some (x, y))).bind fun y => some (x, y))).bind fun y => some (x, y))).bind f_law_can_come)) (fun i9 => (((some i9)).bind fun x => some (x.a)))))).bind fun v7 => ((((((some v7)).bind fun x => ((some ([] : (List Str)))).bind fun y => dNe x y)).bind fun b => if b then (((((some v7)).bind fun x => ((((some i5)).bind fun x => ((((some v7)).bind fun x => some (x.length : Int))).bind fun y => oMod x y)).bind fun y => oIx x y)).bind fun v10 => if s6.length < 50000 then (some (Out.nx (ρ := (T3 Str Int (List Str))) (s6 ++ [v10]))) else none) else (some (Out.nx (ρ := (T3 Str Int (List Str))) s6))).bind (Out.go fun s11 => (some (Out.nx (ρ := (T3 Str Int (List Str))) s11)))))) ([] : (List Str)) xs).bind (Out.go fun s6 => (((((((some law_name)).bind fun x => ((((some v1)).bind fun x => ((((some s6)).bind fun x => ((some ())).bind fun y => some (x, y))).bind fun y => some (x, y))).bind fun y => some (x, y))).bind fun x => some (T3.mk x.1 x.2.1 x.2.2.1))).bind fun r => some (Out.rt (τ := Unit) r))))))
def f_law_line : ((List (T5 Str (List Str) (Option Str) (List Str) (List Str))) × Str × Int × (List Int) × Unit) → Option (T3 Str Int (List Str)) := fun p => outR (m_law_line p.1 p.2.1 p.2.2.1 p.2.2.2.1)
abbrev sp_law_line (K : PySem.W.Frag) : Sp := spOf K (GC (List (T5 Str (List Str) (Option Str) (List Str) (List Str))) (GC Str (GC Int (GC (List Int) GN)))) false f_law_line
theorem ok_law_line {P : Program} {w : World} {K : PySem.W.Frag} {mg : Str → Option Value} {base : Heap} {f : Addr} {fd : FuncData} (F : Fun K "_law_line" "_law_line" s_law_line f fd) (B : Bt K mg) (D_law_can_come : Dn P w K mg base "_law_can_come" 2 (sp_law_can_come K)) (D_law_live : Dn P w K mg base "_law_live" 1 (sp_law_live K)) : FnOk P w K mg base CX0 3 f fd ["_law_trunk_here", "_law_name", "_law_cell", "_law_picks"] (sp_law_line K) := by
  have nd := sc_law_line.nd
  exact def_ok (fr := false) (G := (GC (List (T5 Str (List Str) (Option Str) (List Str) (List Str))) (GC Str (GC Int (GC (List Int) GN))))) (m := fun p => m_law_line p.1 p.2.1 p.2.2.1 p.2.2.2.1) (Γf := fun _ : Unit => [.no, .no, .no, .no, .no, .no, .no, .no, .no, .no]) F sc_law_line (fun _ => rfl) fun p => by
    obtain ⟨law_trunk_here, law_name, law_cell, law_picks, u0⟩ := p
    show JS _ _ _ _ _ _ (m_law_line law_trunk_here law_name law_cell law_picks)
    unfold m_law_line
    exact (js_set 4 nd (je_mod (je_var 2 (by rfl)) (je_add (je_len B.len (je_var 0 (by rfl))) je_int)) fun v1 => (js_setC 5 nd (je_lc [("_law_change", 9)] nd (ji_list (je_slice (je_var 0 (by rfl)) jo_none (jo_some (je_var 4 (by rfl))))) (by dsimp only [Stc.blk]; decide +kernel) (fun X F => (pgn F 9 nd)) (tg_n 9) (fun i3 => jts_nil) (fun i3 => (JE.lit (JE.lit (ixT (fun (x : (T5 Str (List Str) (Option Str) (List Str) (List Str))) => x.a) t5a (je_var 9 (by rfl))) .fr) .fr))) fun v2 => (js_own (α := Str) inferInstance 6 nd (js_for (Γl := fun (s6 : (List Str)) => [V_ (law_trunk_here : (List (T5 Str (List Str) (Option Str) (List Str) (List Str)))), V_ (law_name : Str), V_ (law_cell : Int), V_ (law_picks : (List Int)), V_ (v1 : Int), V_ (v2 : (List Str)), O_ (α := Str) s6, .no, .no, .no]) [7] ([] : (List Str)) (Sub.same (Sub.same (Sub.same (Sub.same (Sub.same (Sub.same (Sub.same (Sub.same (Sub.same (Sub.same Sub.nil)))))))))) (ji_list (je_var 3 (by rfl))) (fun X F => (pgn F 7 nd)) (fun s6 => (tg_n 7)) (fun s6 i5 => (js_setLc 8 [("_law_change", 9)] nd (ji_list (je_var 0 (by rfl))) (by dsimp only [Stc.blk]; decide +kernel) (fun X F => (pgn F 9 nd)) (tg_n 9) (fun i9 => (jts_one (jt_val (JE.lit (je_call D_law_can_come (ja_cons (je_var 0 (by rfl)) (ja_cons (je_call D_law_live (ja_cons (je_var 0 (by rfl)) (ja_cons (je_catF (je_var 5 (by rfl)) (je_var 6 (by rfl))) ja_nil))) (ja_cons (JE.lit (JE.lit (ixT (fun (x : (T5 Str (List Str) (Option Str) (List Str) (List Str))) => x.a) t5a (je_var 9 (by rfl))) .fr) .fr) ja_nil)))) .fr)))) (fun i9 => (JE.lit (JE.lit (ixT (fun (x : (T5 Str (List Str) (Option Str) (List Str) (List Str))) => x.a) t5a (je_var 9 (by rfl))) .fr) .fr)) fun v7 => (js_if (Γ1 := fun (s11 : (List Str)) => [V_ (law_trunk_here : (List (T5 Str (List Str) (Option Str) (List Str) (List Str)))), V_ (law_name : Str), V_ (law_cell : Int), V_ (law_picks : (List Int)), V_ (v1 : Int), V_ (v2 : (List Str)), O_ (α := Str) s11, V_ (i5 : Int), V_ (v7 : (List Str)), .no]) (jt_neD (by decide) (je_var 8 (by rfl)) (je_nil (α := Str))) (js_app 6 (by rfl) (JE.lit (je_ix (je_var 8 (by rfl)) (je_mod (je_var 7 (by rfl)) (je_len B.len (je_var 8 (by rfl))))) .fr) fun v10 => (js_nil (s6 ++ [v10]) (Sub.same (Sub.same (Sub.same (Sub.same (Sub.same (Sub.same (Sub.same (Sub.same (Sub.same (Sub.same Sub.nil)))))))))))) (js_nil s6 (Sub.same (Sub.same (Sub.same (Sub.same (Sub.same (Sub.same (Sub.same (Sub.same (Sub.same (Sub.same Sub.nil))))))))))) fun s11 => (js_nil s11 (Sub.same (Sub.same (Sub.same (Sub.same (Sub.same (Sub.same (Sub.same (Sub.drop (Sub.drop (Sub.same Sub.nil)))))))))))))) fun s6 => (js_rel (js_ret (je_t3 (ja_cons (JE.lit (je_var 1 (by rfl)) .fr) (ja_cons (JE.lit (je_var 4 (by rfl)) .fr) (ja_cons (je_var 6 (by rfl)) ja_nil))))) no_nx)))))
/-! ### _law_row -/
abbrev s_law_row : Stmt := top 45
theorem sc_law_row : FnScope ["_law_trunk_here", "_law_line_here", "_law_change"] ["_law_trunk_here", "_law_line_here"] (defScope s_law_row) := ⟨rfl, rfl, rfl, by decide +kernel, rfl, by decide +kernel, by decide +kernel⟩
def m_law_row (law_trunk_here : (List (T5 Str (List Str) (Option Str) (List Str) (List Str)))) (law_line_here : (T3 Str Int (List Str))) : Option (Out Unit (List Str)) :=
  (((((((((some law_trunk_here)).bind fun x => ((some none)).bind fun l => ((((((some law_line_here)).bind fun x => some (x.b))).bind fun x => some (some x))).bind fun u => some (cut x l u))).bind (lcO (fun i1 => (some true)) (fun i1 => (((some i1)).bind fun x => some (x.a)))))).bind fun x => ((((some law_line_here)).bind fun x => some (x.c))).bind fun y => oCat x y)).bind fun r => some (Out.rt (τ := Unit) r))
def f_law_row : ((List (T5 Str (List Str) (Option Str) (List Str) (List Str))) × (T3 Str Int (List Str)) × Unit) → Option (List Str) := fun p => outR (m_law_row p.1 p.2.1)
abbrev sp_law_row (K : PySem.W.Frag) : Sp := spOf K (GC (List (T5 Str (List Str) (Option Str) (List Str) (List Str))) (GC (T3 Str Int (List Str)) GN)) true f_law_row
theorem ok_law_row {P : Program} {w : World} {K : PySem.W.Frag} {mg : Str → Option Value} {base : Heap} {f : Addr} {fd : FuncData} (F : Fun K "_law_row" "_law_row" s_law_row f fd) : FnOk P w K mg base CX0 1 f fd ["_law_trunk_here", "_law_line_here"] (sp_law_row K) := by
  have nd := sc_law_row.nd
  exact def_ok (fr := true) (G := (GC (List (T5 Str (List Str) (Option Str) (List Str) (List Str))) (GC (T3 Str Int (List Str)) GN))) (m := fun p => m_law_row p.1 p.2.1) (Γf := fun _ : Unit => [.no, .no, .no]) F sc_law_row (fun _ => rfl) fun p => by
    obtain ⟨law_trunk_here, law_line_here, u0⟩ := p
    show JS _ _ _ _ _ _ (m_law_row law_trunk_here law_line_here)
    unfold m_law_row
    exact (js_ret (je_catF (je_lc [("_law_change", 2)] nd (ji_list (je_slice (je_var 0 (by rfl)) jo_none (jo_some (JE.lit (ixT (fun (x : (T3 Str Int (List Str))) => x.b) t3b (je_var 1 (by rfl))) .fr)))) (by dsimp only [Stc.blk]; decide +kernel) (fun X F => (pgn F 2 nd)) (tg_n 2) (fun i1 => jts_nil) (fun i1 => (JE.lit (JE.lit (ixT (fun (x : (T5 Str (List Str) (Option Str) (List Str) (List Str))) => x.a) t5a (je_var 2 (by rfl))) .fr) .fr))) (ixT (fun (x : (T3 Str Int (List Str))) => x.c) t3c (je_var 1 (by rfl)))))
/-! ### _law_copied -/
abbrev s_law_copied : Stmt := top 46
theorem sc_law_copied : FnScope ["_law_trunk_here", "_law_name", "_law_leans", "_law_backs", "_law_brings", "_law_mends"] ["_law_trunk_here"] (defScope s_law_copied) := ⟨rfl, rfl, rfl, by decide +kernel, rfl, by decide +kernel, by decide +kernel⟩
def m_law_copied (law_trunk_here : (List (T5 Str (List Str) (Option Str) (List Str) (List Str)))) : Option (Out Unit (List (T5 Str (List Str) (Option Str) (List Str) (List Str)))) :=
  (((((some law_trunk_here)).bind (lcO (fun i1 => (some true)) (fun i1 => (((((some i1.a)).bind fun x => ((((some i1.b)).bind fun x => ((((some i1.c)).bind fun x => ((((some i1.d)).bind fun x => ((((some i1.e)).bind fun x => ((some ())).bind fun y => some (x, y))).bind fun y => some (x, y))).bind fun y => some (x, y))).bind fun y => some (x, y))).bind fun y => some (x, y))).bind fun x => some (T5.mk x.1 x.2.1 x.2.2.1 x.2.2.2.1 x.2.2.2.2.1)))))).bind fun r => some (Out.rt (τ := Unit) r))
def f_law_copied : ((List (T5 Str (List Str) (Option Str) (List Str) (List Str))) × Unit) → Option (List (T5 Str (List Str) (Option Str) (List Str) (List Str))) := fun p => outR (m_law_copied p.1)
abbrev sp_law_copied (K : PySem.W.Frag) : Sp := spOf K (GC (List (T5 Str (List Str) (Option Str) (List Str) (List Str))) GN) true f_law_copied
theorem ok_law_copied {P : Program} {w : World} {K : PySem.W.Frag} {mg : Str → Option Value} {base : Heap} {f : Addr} {fd : FuncData} (F : Fun K "_law_copied" "_law_copied" s_law_copied f fd) (B : Bt K mg) : FnOk P w K mg base CX0 1 f fd ["_law_trunk_here"] (sp_law_copied K) := by
  have nd := sc_law_copied.nd
  exact def_ok (fr := true) (G := (GC (List (T5 Str (List Str) (Option Str) (List Str) (List Str))) GN)) (m := fun p => m_law_copied p.1) (Γf := fun _ : Unit => [.no, .no, .no, .no, .no, .no]) F sc_law_copied (fun _ => rfl) fun p => by
    obtain ⟨law_trunk_here, u0⟩ := p
    show JS _ _ _ _ _ _ (m_law_copied law_trunk_here)
    unfold m_law_copied
    exact (js_ret (je_lc [("_law_name", 1), ("_law_leans", 2), ("_law_backs", 3), ("_law_brings", 4), ("_law_mends", 5)] nd (ji_list (je_var 0 (by rfl))) (by dsimp only [Stc.blk]; decide +kernel) (fun X F => (pgt F (pgs_cons (pgn F 1 nd) (pgs_cons (pgn F 2 nd) (pgs_cons (pgn F 3 nd) (pgs_cons (pgn F 4 nd) (pgs_cons (pgn F 5 nd) pgs_nil))))))) (tg_t5 (tg_n 1) (fun _ => tg_n 2) (fun _ _ => tg_n 3) (fun _ _ _ => tg_n 4) (fun _ _ _ _ => tg_n 5)) (fun i1 => jts_nil) (fun i1 => (je_t5 (ja_cons (JE.lit (je_var 1 (by rfl)) .fr) (ja_cons (je_listF (je_var 2 (by rfl)) B.list) (ja_cons (JE.lit (je_var 3 (by rfl)) .fr) (ja_cons (je_listF (je_var 4 (by rfl)) B.list) (ja_cons (je_listF (je_var 5 (by rfl)) B.list) ja_nil)))))))))
/-! ### _law_has -/
abbrev s_law_has : Stmt := top 47
theorem sc_law_has : FnScope ["_law_trunk_here", "_law_line_here"] ["_law_trunk_here", "_law_line_here"] (defScope s_law_has) := ⟨rfl, rfl, rfl, by decide +kernel, rfl, by decide +kernel, by decide +kernel⟩
def m_law_has (law_trunk_here : (List (T5 Str (List Str) (Option Str) (List Str) (List Str)))) (law_line_here : (T3 Str Int (List Str))) : Option (Out Unit (List Str)) :=
  (((((((some law_trunk_here)).bind fun x => ((((((((some law_trunk_here)).bind fun x => ((((some law_line_here)).bind fun x => ((some ())).bind fun y => some (x, y))).bind fun y => some (x, y))).bind f_law_row)).bind fun x => ((some ())).bind fun y => some (x, y))).bind fun y => some (x, y))).bind f_law_live)).bind fun r => some (Out.rt (τ := Unit) r))
def f_law_has : ((List (T5 Str (List Str) (Option Str) (List Str) (List Str))) × (T3 Str Int (List Str)) × Unit) → Option (List Str) := fun p => outR (m_law_has p.1 p.2.1)
abbrev sp_law_has (K : PySem.W.Frag) : Sp := spOf K (GC (List (T5 Str (List Str) (Option Str) (List Str) (List Str))) (GC (T3 Str Int (List Str)) GN)) true f_law_has
theorem ok_law_has {P : Program} {w : World} {K : PySem.W.Frag} {mg : Str → Option Value} {base : Heap} {f : Addr} {fd : FuncData} (F : Fun K "_law_has" "_law_has" s_law_has f fd) (D_law_live : Dn P w K mg base "_law_live" 1 (sp_law_live K)) (D_law_row : Dn P w K mg base "_law_row" 1 (sp_law_row K)) : FnOk P w K mg base CX0 2 f fd ["_law_trunk_here", "_law_line_here"] (sp_law_has K) := by
  have nd := sc_law_has.nd
  exact def_ok (fr := true) (G := (GC (List (T5 Str (List Str) (Option Str) (List Str) (List Str))) (GC (T3 Str Int (List Str)) GN))) (m := fun p => m_law_has p.1 p.2.1) (Γf := fun _ : Unit => [.no, .no]) F sc_law_has (fun _ => rfl) fun p => by
    obtain ⟨law_trunk_here, law_line_here, u0⟩ := p
    show JS _ _ _ _ _ _ (m_law_has law_trunk_here law_line_here)
    unfold m_law_has
    exact (js_ret (je_call D_law_live (ja_cons (je_var 0 (by rfl)) (ja_cons (je_call D_law_row (ja_cons (je_var 0 (by rfl)) (ja_cons (je_var 1 (by rfl)) ja_nil))) ja_nil))))
end K
end

section
set_option synthInstance.maxSize 4000
set_option synthInstance.maxHeartbeats 2000000
set_option maxRecDepth 100000
set_option maxHeartbeats 4000000
namespace K
open PySem L2 Sm

/-! ### wrong_line:o -/
abbrev s_wrong_line : Stmt := top 26
theorem sc_wrong_line : FnScope ["book", "lines", "names", "place", "line"] ["book", "lines"] (defScope s_wrong_line) := ⟨rfl, rfl, rfl, by decide +kernel, rfl, by decide +kernel, by decide +kernel⟩
def m_wrong_line_o (book : (Dct (T5 Str (List Str) (Option Str) (List Str) (List Str)))) (lines : (List (Op (T3 Str Int (List Str))))) : Option (Out Unit (Option Int)) :=
  (((((some lines)).bind fun xs => some (xs.zipIdx.map fun p => T2.mk (p.2 : Int) p.1))).bind fun xs => (loopM (fun (s2 : (List Str)) (i1 : (T2 Int (Op (T3 Str Int (List Str))))) => ((((((((((((((some i1.b)).bind fun x => ((some ())).bind fun y => some (x, y))).bind fun y => some (book, y))).bind f_is_line_o)).bind fun b => some !b)).bind fun x => if x then some true else (((((((some i1.b)).bind Op.get)).bind fun x => some (x.a))).bind fun x => ((some s2)).bind fun y => oIn x y))).bind fun b => if b then (((((some i1.a)).bind fun x => some (some x))).bind fun r => some (Out.rt (τ := Unit) r)) else some (Out.nx (ρ := (Option Int)) ())).bind (Out.go fun _ => (((((((some i1.b)).bind Op.get)).bind fun x => some (x.a))).bind fun v3 => if s2.length < 50000 then (some (Out.nx (ρ := (Option Int)) (s2 ++ [v3]))) else none)))) ([] : (List Str)) xs).bind (Out.go fun s2 => (((some (none : Option Int))).bind fun r => some (Out.rt (τ := Unit) r))))
def f_wrong_line_o : ((Dct (T5 Str (List Str) (Option Str) (List Str) (List Str))) × (List (Op (T3 Str Int (List Str)))) × Unit) → Option (Option Int) := fun p => outR (m_wrong_line_o p.1 p.2.1)
abbrev sp_wrong_line_o (K : PySem.W.Frag) : Sp := spOf K (GD (T5 Str (List Str) (Option Str) (List Str) (List Str)) (GC (List (Op (T3 Str Int (List Str)))) GN)) true f_wrong_line_o
theorem ok_wrong_line_o {P : Program} {w : World} {K : PySem.W.Frag} {mg : Str → Option Value} {base : Heap} {f : Addr} {fd : FuncData} (F : Fun K "wrong_line" "wrong_line" s_wrong_line f fd) (B : Bt K mg) (D_is_line_o : Dn P w K mg base "is_line" 3 (sp_is_line_o K)) : FnOk P w K mg base CX0 4 f fd ["book", "lines"] (sp_wrong_line_o K) := by
  obtain ⟨tNAME, hNAME⟩ := B.cNAME
  have nd := sc_wrong_line.nd
  exact def_ok (fr := true) (G := (GD (T5 Str (List Str) (Option Str) (List Str) (List Str)) (GC (List (Op (T3 Str Int (List Str)))) GN))) (m := fun p => m_wrong_line_o p.1 p.2.1) (Γf := fun _ : Unit => [.no, .no, .no, .no, .no]) F sc_wrong_line (fun _ => rfl) fun p => by
    obtain ⟨book, lines, u0⟩ := p
    show JS _ _ _ _ _ _ (m_wrong_line_o book lines)
    unfold m_wrong_line_o
    exact (js_own (α := Str) inferInstance 2 nd (js_for (Γl := fun (s2 : (List Str)) => [D_ (α := (T5 Str (List Str) (Option Str) (List Str) (List Str))) book, V_ (lines : (List (Op (T3 Str Int (List Str))))), O_ (α := Str) s2, .no, .no]) [3, 4] ([] : (List Str)) (Sub.same (Sub.same (Sub.same (Sub.same (Sub.same Sub.nil))))) (ji_enum B.enumerate (je_var 1 (by rfl))) (fun X F => (pgt F (pgs_cons (pgn F 3 nd) (pgs_cons (pgn F 4 nd) pgs_nil)))) (fun s2 => (tg_t2 (tg_n 3) (fun _ => tg_n 4))) (fun s2 i1 => (js_guard (jt_w (jw_or (jt_not (jt_val (JE.lit (je_call D_is_line_o (ja_dct 0 (by rfl) (ja_cons (je_var 4 (by rfl)) ja_nil))) .fr))) (jw_or1 (jt_in (JE.lit (ixTg (fun (x : (T3 Str Int (List Str))) => x.a) hNAME t3a (je_unO (je_var 4 (by rfl)))) .fr) (je_own 2 (by rfl)))))) (js_ret (JE.lit (je_optI (je_var 3 (by rfl))) .fr)) (js_app 2 (by rfl) (JE.lit (ixTg (fun (x : (T3 Str Int (List Str))) => x.a) hNAME t3a (je_unO (je_var 4 (by rfl)))) .fr) fun v3 => (js_nil (s2 ++ [v3]) (Sub.same (Sub.same (Sub.same (Sub.drop (Sub.drop Sub.nil))))))))) fun s2 => (js_ret je_nonI)))
/-! ### wrong_line:l -/
def m_wrong_line_l (book : (Dct (T5 Str (List Str) (Option Str) (List Str) (List Str)))) (lines : (List (T3 Str Int (List Str)))) : Option (Out Unit (Option Int)) :=
  (((((some lines)).bind fun xs => some (xs.zipIdx.map fun p => T2.mk (p.2 : Int) p.1))).bind fun xs => (loopM (fun (s2 : (List Str)) (i1 : (T2 Int (T3 Str Int (List Str)))) => ((((((((((((((some i1.b)).bind fun x => ((some ())).bind fun y => some (x, y))).bind fun y => some (book, y))).bind f_is_line_l)).bind fun b => some !b)).bind fun x => if x then some true else (((((some i1.b)).bind fun x => some (x.a))).bind fun x => ((some s2)).bind fun y => oIn x y))).bind fun b => if b then (((((some i1.a)).bind fun x => some (some x))).bind fun r => some (Out.rt (τ := Unit) r)) else some (Out.nx (ρ := (Option Int)) ())).bind (Out.go fun _ => (((((some i1.b)).bind fun x => some (x.a))).bind fun v3 => if s2.length < 50000 then (some (Out.nx (ρ := (Option Int)) (s2 ++ [v3]))) else none)))) ([] : (List Str)) xs).bind (Out.go fun s2 => (((some (none : Option Int))).bind fun r => some (Out.rt (τ := Unit) r))))
def f_wrong_line_l : ((Dct (T5 Str (List Str) (Option Str) (List Str) (List Str))) × (List (T3 Str Int (List Str))) × Unit) → Option (Option Int) := fun p => outR (m_wrong_line_l p.1 p.2.1)
abbrev sp_wrong_line_l (K : PySem.W.Frag) : Sp := spOf K (GD (T5 Str (List Str) (Option Str) (List Str) (List Str)) (GC (List (T3 Str Int (List Str))) GN)) true f_wrong_line_l
theorem ok_wrong_line_l {P : Program} {w : World} {K : PySem.W.Frag} {mg : Str → Option Value} {base : Heap} {f : Addr} {fd : FuncData} (F : Fun K "wrong_line" "wrong_line" s_wrong_line f fd) (B : Bt K mg) (D_is_line_l : Dn P w K mg base "is_line" 3 (sp_is_line_l K)) : FnOk P w K mg base CX0 4 f fd ["book", "lines"] (sp_wrong_line_l K) := by
  obtain ⟨tNAME, hNAME⟩ := B.cNAME
  have nd := sc_wrong_line.nd
  exact def_ok (fr := true) (G := (GD (T5 Str (List Str) (Option Str) (List Str) (List Str)) (GC (List (T3 Str Int (List Str))) GN))) (m := fun p => m_wrong_line_l p.1 p.2.1) (Γf := fun _ : Unit => [.no, .no, .no, .no, .no]) F sc_wrong_line (fun _ => rfl) fun p => by
    obtain ⟨book, lines, u0⟩ := p
    show JS _ _ _ _ _ _ (m_wrong_line_l book lines)
    unfold m_wrong_line_l
    exact (js_own (α := Str) inferInstance 2 nd (js_for (Γl := fun (s2 : (List Str)) => [D_ (α := (T5 Str (List Str) (Option Str) (List Str) (List Str))) book, V_ (lines : (List (T3 Str Int (List Str)))), O_ (α := Str) s2, .no, .no]) [3, 4] ([] : (List Str)) (Sub.same (Sub.same (Sub.same (Sub.same (Sub.same Sub.nil))))) (ji_enum B.enumerate (je_var 1 (by rfl))) (fun X F => (pgt F (pgs_cons (pgn F 3 nd) (pgs_cons (pgn F 4 nd) pgs_nil)))) (fun s2 => (tg_t2 (tg_n 3) (fun _ => tg_n 4))) (fun s2 i1 => (js_guard (jt_w (jw_or (jt_not (jt_val (JE.lit (je_call D_is_line_l (ja_dct 0 (by rfl) (ja_cons (je_var 4 (by rfl)) ja_nil))) .fr))) (jw_or1 (jt_in (JE.lit (ixTg (fun (x : (T3 Str Int (List Str))) => x.a) hNAME t3a (je_var 4 (by rfl))) .fr) (je_own 2 (by rfl)))))) (js_ret (JE.lit (je_optI (je_var 3 (by rfl))) .fr)) (js_app 2 (by rfl) (JE.lit (ixTg (fun (x : (T3 Str Int (List Str))) => x.a) hNAME t3a (je_var 4 (by rfl))) .fr) fun v3 => (js_nil (s2 ++ [v3]) (Sub.same (Sub.same (Sub.same (Sub.drop (Sub.drop Sub.nil))))))))) fun s2 => (js_ret je_nonI)))
/-! ### check_lines -/
abbrev s_check_lines : Stmt := top 27
theorem sc_check_lines : FnScope ["book", "lines"] ["book", "lines"] (defScope s_check_lines) := ⟨rfl, rfl, rfl, by decide +kernel, rfl, by decide +kernel, by decide +kernel⟩
def m_check_lines (book : (Dct (T5 Str (List Str) (Option Str) (List Str) (List Str)))) (lines : (List (T3 Str Int (List Str)))) : Option (Out Unit Unit) :=
  ((((((((((some lines)).bind fun _ => some true)).bind fun b => some !b)).bind fun x => if x then some true else (((((((((some lines)).bind fun x => ((some ())).bind fun y => some (x, y))).bind fun y => some (book, y))).bind f_wrong_line_l)).bind fun x => some (!x.isNone)))).bind fun b => if b then (none : Option (Out Unit Unit)) else some (Out.nx (ρ := Unit) ())).bind (Out.go fun _ => (some (Out.nx (ρ := Unit) ()))))
def f_check_lines : ((Dct (T5 Str (List Str) (Option Str) (List Str) (List Str))) × (List (T3 Str Int (List Str))) × Unit) → Option Unit := fun p => outU (m_check_lines p.1 p.2.1)
abbrev sp_check_lines (K : PySem.W.Frag) : Sp := spOf K (GD (T5 Str (List Str) (Option Str) (List Str) (List Str)) (GC (List (T3 Str Int (List Str))) GN)) true f_check_lines
theorem ok_check_lines {P : Program} {w : World} {K : PySem.W.Frag} {mg : Str → Option Value} {base : Heap} {f : Addr} {fd : FuncData} (F : Fun K "check_lines" "check_lines" s_check_lines f fd) (B : Bt K mg) (D_wrong_line_l : Dn P w K mg base "wrong_line" 4 (sp_wrong_line_l K)) : FnOk P w K mg base CX0 5 f fd ["book", "lines"] (sp_check_lines K) := by
  have nd := sc_check_lines.nd
  exact def_okU (G := (GD (T5 Str (List Str) (Option Str) (List Str) (List Str)) (GC (List (T3 Str Int (List Str))) GN))) (m := fun p => m_check_lines p.1 p.2.1) (Γf := fun _ : Unit => [.no, .no]) F sc_check_lines (fun _ => rfl) fun p => by
    obtain ⟨book, lines, u0⟩ := p
    show JS _ _ _ _ _ _ (m_check_lines book lines)
    unfold m_check_lines
    exact (js_guard (jt_w (jw_or (jt_not (jt_val (je_isi (T := "list") true B.isinstance B.list (by decide +kernel) (by decide +kernel) (je_var 1 (by rfl))))) (jw_or1 (jt_notG (JE.lit (je_call D_wrong_line_l (ja_dct 0 (by rfl) (ja_cons (je_var 1 (by rfl)) ja_nil))) .fr))))) js_never (js_nil () (Sub.drop (Sub.drop Sub.nil))))
/-! ### row_of_line -/
abbrev s_row_of_line : Stmt := top 31
theorem sc_row_of_line : FnScope ["line", "name", "many", "picks", "row"] ["line"] (defScope s_row_of_line) := ⟨rfl, rfl, rfl, by decide +kernel, rfl, by decide +kernel, by decide +kernel⟩
def m_row_of_line (line : (T3 Str Int (List Str))) : Option (Out Unit Str) :=
  (((some line)).bind fun v1 => (((((((some (Str.ofString "line "))).bind fun x => ((((((some v1.a)).bind fun y => if y.length ≤ 1000000 then some y else none)).bind fun x => ((((some (Str.ofString " "))).bind fun x => ((((((some v1.b)).bind oStrI)).bind fun x => ((some ([] : List Str))).bind fun xs => some (x :: xs))).bind fun xs => some (x :: xs))).bind fun xs => some (x :: xs))).bind fun xs => some (x :: xs))).bind oCatL)).bind fun v2 => ((((((some v1.c)).bind fun x => some !x.isEmpty)).bind fun b => if b then (((((((some v2)).bind fun x => ((some (Str.ofString ": "))).bind fun y => oCatS x y)).bind fun x => ((((some (Str.ofString " "))).bind fun x => ((some v1.c)).bind fun y => oJoin x y)).bind fun y => oCatS x y)).bind fun v3 => (some (Out.nx (ρ := Str) v3))) else (some (Out.nx (ρ := Str) v2))).bind (Out.go fun s4 => (((some s4)).bind fun r => some (Out.rt (τ := Unit) r))))))
def f_row_of_line : ((T3 Str Int (List Str)) × Unit) → Option Str := fun p => outR (m_row_of_line p.1)
abbrev sp_row_of_line (K : PySem.W.Frag) : Sp := spOf K (GC (T3 Str Int (List Str)) GN) true f_row_of_line
theorem ok_row_of_line {P : Program} {w : World} {K : PySem.W.Frag} {mg : Str → Option Value} {base : Heap} {f : Addr} {fd : FuncData} (F : Fun K "row_of_line" "row_of_line" s_row_of_line f fd) : FnOk P w K mg base CX0 1 f fd ["line"] (sp_row_of_line K) := by
  have nd := sc_row_of_line.nd
  exact def_ok (fr := true) (G := (GC (T3 Str Int (List Str)) GN)) (m := fun p => m_row_of_line p.1) (Γf := fun _ : Unit => [.no, .no, .no, .no, .no]) F sc_row_of_line (fun _ => rfl) fun p => by
    obtain ⟨line, u0⟩ := p
    show JS _ _ _ _ _ _ (m_row_of_line line)
    unfold m_row_of_line
    exact (js_unp [1, 2, 3] (je_var 0 (by rfl)) (fun X F => (pgt F (pgs_cons (pgn F 1 nd) (pgs_cons (pgn F 2 nd) (pgs_cons (pgn F 3 nd) pgs_nil))))) (tg_t3 (tg_n 1) (fun _ => tg_n 2) (fun _ _ => tg_n 3)) fun v1 => (js_set 4 nd (je_fstr (jp_cons je_str (jp_cons (je_fmtS (je_var 1 (by rfl))) (jp_cons je_str (jp_cons (je_fmtI (je_var 2 (by rfl))) jp_nil))))) fun v2 => (js_if (Γ1 := fun (s4 : Str) => [V_ (line : (T3 Str Int (List Str))), V_ (v1.a : Str), V_ (v1.b : Int), V_ (v1.c : (List Str)), V_ (s4 : Str)]) (jt_truth (je_var 3 (by rfl))) (js_set 4 nd (je_cats (je_cats (je_var 4 (by rfl)) je_str) (je_join je_str (je_var 3 (by rfl)))) fun v3 => (js_nil v3 (Sub.same (Sub.same (Sub.same (Sub.same (Sub.same Sub.nil))))))) (js_nil v2 (Sub.same (Sub.same (Sub.same (Sub.same (Sub.same Sub.nil)))))) fun s4 => (js_ret (JE.lit (je_var 4 (by rfl)) .fr)))))
/-! ### line_of_row -/
abbrev s_line_of_row : Stmt := top 32
theorem sc_line_of_row : FnScope ["row", "head", "parts", "words", "counts", "picks", "line", "many"] ["row"] (defScope s_line_of_row) := ⟨rfl, rfl, rfl, by decide +kernel, rfl, by decide +kernel, by decide +kernel⟩
def m_line_of_row (row : Str) : Option (Out Unit (Op (T3 Str Int (List Str)))) :=
  (((((some row)).bind fun x => ((some (Str.ofString ": "))).bind fun y => oSplit x y)).bind (starM fun v1 v2 => (((((some v1)).bind fun x => ((some (Str.ofString " "))).bind fun y => oSplit x y)).bind fun v3 => (((((((((some (24 : Int))).bind fun x => ((some (1 : Int))).bind fun y => oAdd x y)).bind fun n => if 0 ≤ n ∧ n ≤ 100000 then some (rng 0 n) else none)).bind (lcO (fun i5 => (some true)) (fun i5 => (((some i5)).bind oStrI))))).bind fun v4 => ((((((((((some v3)).bind fun x => some (x.length : Int))).bind fun x => ((some (3 : Int))).bind fun y => oNe x y)).bind fun x => if x then some true else (((((some v3)).bind fun x => ((some (2 : Int))).bind fun y => oIx x y)).bind fun x => ((some v4)).bind fun y => oNi x y))).bind fun b => if b then (((some (Op.no : (Op (T3 Str Int (List Str)))))).bind fun r => some (Out.rt (τ := Unit) r)) else some (Out.nx (ρ := (Op (T3 Str Int (List Str)))) ())).bind (Out.go fun _ => (((((((some v2)).bind fun x => some !x.isEmpty)).bind fun x => if x then (((((some v2)).bind fun x => ((some (0 : Int))).bind fun y => oIx x y)).bind fun x => ((some (Str.ofString " "))).bind fun y => oSplit x y) else (some ([] : (List Str))))).bind fun v6 => (((((((((some v3)).bind fun x => ((some (1 : Int))).bind fun y => oIx x y)).bind fun x => ((((((some v4)).bind fun x => ((((some v3)).bind fun x => ((some (2 : Int))).bind fun y => oIx x y)).bind fun y => oIdx x y)).bind fun x => ((((some v6)).bind fun x => ((some ())).bind fun y => some (x, y))).bind fun y => some (x, y))).bind fun y => some (x, y))).bind fun x => some (T3.mk x.1 x.2.1 x.2.2.1))).bind fun v7 => (((((((((((some v7)).bind fun x => ((some ())).bind fun y => some (x, y))).bind f_row_of_line)).bind fun x => ((some row)).bind fun y => oEq x y)).bind fun x => if x then (((some v7)).bind fun x => some (Op.yes x)) else (some (Op.no : (Op (T3 Str Int (List Str))))))).bind fun r => some (Out.rt (τ := Unit) r))))))))))
def f_line_of_row : (Str × Unit) → Option (Op (T3 Str Int (List Str))) := fun p => outR (m_line_of_row p.1)
abbrev sp_line_of_row (K : PySem.W.Frag) : Sp := spOf K (GC Str GN) false f_line_of_row
theorem ok_line_of_row {P : Program} {w : World} {K : PySem.W.Frag} {mg : Str → Option Value} {base : Heap} {f : Addr} {fd : FuncData} (F : Fun K "line_of_row" "line_of_row" s_line_of_row f fd) (B : Bt K mg) (D_row_of_line : Dn P w K mg base "row_of_line" 1 (sp_row_of_line K)) : FnOk P w K mg base CX0 2 f fd ["row"] (sp_line_of_row K) := by
  obtain ⟨tMOST_CHANGES, hMOST_CHANGES⟩ := B.cMOST_CHANGES
  have nd := sc_line_of_row.nd
  exact def_ok (fr := false) (G := (GC Str GN)) (m := fun p => m_line_of_row p.1) (Γf := fun _ : Unit => [.no, .no, .no, .no, .no, .no, .no, .no]) F sc_line_of_row (fun _ => rfl) fun p => by
    obtain ⟨row, u0⟩ := p
    show JS _ _ _ _ _ _ (m_line_of_row row)
    unfold m_line_of_row
    exact (js_star 1 2 (je_split (je_var 0 (by rfl)) je_str) (fun X F => (pgn F 1 nd)) (fun X F => (pgn F 2 nd)) fun v1 v2 => (js_set 3 nd (je_split (je_var 1 (by rfl)) je_str) fun v3 => (js_setLc 4 [("many", 7)] nd (ji_range1 B.range (je_add (je_glob hMOST_CHANGES) je_int)) (by dsimp only [Stc.blk]; decide +kernel) (fun X F => (pgn F 7 nd)) (tg_n 7) (fun i5 => jts_nil) (fun i5 => (JE.lit (je_strI B.str (je_var 7 (by rfl))) .fr)) fun v4 => (js_guard (jt_w (jw_or (jt_ne (je_len B.len (je_var 3 (by rfl))) je_int) (jw_or1 (jt_ni (JE.lit (je_ix (je_var 3 (by rfl)) je_int) .fr) (je_var 4 (by rfl)))))) (js_ret (je_nonO (α := (T3 Str Int (List Str))))) (js_set 5 nd (je_if (jt_truth (je_var 2 (by rfl))) (je_split (JE.lit (je_ix (je_var 2 (by rfl)) je_int) .fr) je_str) (je_nil (α := Str))) fun v6 => (js_set 6 nd (je_t3 (ja_cons (JE.lit (JE.lit (je_ix (je_var 3 (by rfl)) je_int) .fr) .fr) (ja_cons (JE.lit (je_index (je_var 4 (by rfl)) (JE.lit (je_ix (je_var 3 (by rfl)) je_int) .fr)) .fr) (ja_cons (je_var 5 (by rfl)) ja_nil)))) fun v7 => (js_ret (je_if (jt_eq (JE.lit (je_call D_row_of_line (ja_cons (je_var 6 (by rfl)) ja_nil)) .fr) (je_var 0 (by rfl))) (je_yes (je_var 6 (by rfl))) (je_nonO (α := (T3 Str Int (List Str))))))))))))
/-! ### written_lines -/
abbrev s_written_lines : Stmt := top 29
theorem sc_written_lines : FnScope ["trunk", "lines", "book", "line"] ["trunk", "lines"] (defScope s_written_lines) := ⟨rfl, rfl, rfl, by decide +kernel, rfl, by decide +kernel, by decide +kernel⟩
def m_written_lines (trunk : (List (T5 Str (List Str) (Option Str) (List Str) (List Str)))) (lines : (List (T3 Str Int (List Str)))) : Option (Out Unit Str) :=
  ((((((some trunk)).bind fun x => ((some ())).bind fun y => some (x, y))).bind f_checked_trunk).bind fun v1 => (((((((((some lines)).bind fun x => ((some ())).bind fun y => some (x, y))).bind fun y => some (v1, y))).bind f_check_lines)).bind fun _ => (((((some (Str.ofString "
"))).bind fun x => ((((some lines)).bind (lcO (fun i2 => (some true)) (fun i2 => (((((some i2)).bind fun x => ((some ())).bind fun y => some (x, y))).bind f_row_of_line))))).bind fun y => oJoin x y)).bind fun r => some (Out.rt (τ := Unit) r))))
def f_written_lines : ((List (T5 Str (List Str) (Option Str) (List Str) (List Str))) × (List (T3 Str Int (List Str))) × Unit) → Option Str := fun p => outR (m_written_lines p.1 p.2.1)
abbrev sp_written_lines (K : PySem.W.Frag) : Sp := spOf K (GC (List (T5 Str (List Str) (Option Str) (List Str) (List Str))) (GC (List (T3 Str Int (List Str))) GN)) true f_written_lines
theorem ok_written_lines {P : Program} {w : World} {K : PySem.W.Frag} {mg : Str → Option Value} {base : Heap} {f : Addr} {fd : FuncData} (F : Fun K "written_lines" "written_lines" s_written_lines f fd) (D_check_lines : Dn P w K mg base "check_lines" 5 (sp_check_lines K)) (D_checked_trunk : Dn P w K mg base "checked_trunk" 6 (sp_checked_trunk K)) (D_row_of_line : Dn P w K mg base "row_of_line" 1 (sp_row_of_line K)) : FnOk P w K mg base CX0 7 f fd ["trunk", "lines"] (sp_written_lines K) := by
  have nd := sc_written_lines.nd
  exact def_ok (fr := true) (G := (GC (List (T5 Str (List Str) (Option Str) (List Str) (List Str))) (GC (List (T3 Str Int (List Str))) GN))) (m := fun p => m_written_lines p.1 p.2.1) (Γf := fun _ : Unit => [.no, .no, .no, .no]) F sc_written_lines (fun _ => rfl) fun p => by
    obtain ⟨trunk, lines, u0⟩ := p
    show JS _ _ _ _ _ _ (m_written_lines trunk lines)
    unfold m_written_lines
    exact (js_setD 2 nd D_checked_trunk (ja_cons (je_var 0 (by rfl)) ja_nil) fun v1 => (js_expr (JE.lit (je_call D_check_lines (ja_dct 2 (by rfl) (ja_cons (je_var 1 (by rfl)) ja_nil))) .fr) (js_ret (je_join je_str (je_lc [("line", 3)] nd (ji_list (je_var 1 (by rfl))) (by dsimp only [Stc.blk]; decide +kernel) (fun X F => (pgn F 3 nd)) (tg_n 3) (fun i2 => jts_nil) (fun i2 => (JE.lit (JE.lit (je_call D_row_of_line (ja_cons (je_var 3 (by rfl)) ja_nil)) .fr) .fr)))))))
end K
end

section
set_option synthInstance.maxSize 4000
set_option synthInstance.maxHeartbeats 2000000
set_option maxRecDepth 100000
set_option maxHeartbeats 4000000
namespace K
open PySem L2 Sm

/-! ### _law_stands -/
abbrev s_law_stands : Stmt := top 41
theorem sc_law_stands : FnScope ["_law_trunk_here", "_law_row_here", "_law_begin", "_law_at"] ["_law_trunk_here", "_law_row_here", "_law_begin"] (defScope s_law_stands) := ⟨rfl, rfl, rfl, by decide +kernel, rfl, by decide +kernel, by decide +kernel⟩
def m_law_stands (law_trunk_here : (List (T5 Str (List Str) (Option Str) (List Str) (List Str)))) (law_row_here : (List Str)) (law_begin : Int) : Option (Out Unit Bool) :=
  (((((((((some law_begin)).bind fun x => ((((some law_row_here)).bind fun x => some (x.length : Int))).bind fun y => if (0 ≤ x ∧ x ≤ 100000) ∧ (0 ≤ y ∧ y ≤ 100000) then some (rng x y) else none)).bind (lcO (fun i1 => (some true)) (fun i1 => (((((some law_trunk_here)).bind fun x => ((((((((some law_trunk_here)).bind fun x => ((((((some law_row_here)).bind fun x => ((some none)).bind fun l => ((((some i1)).bind fun x => some (some x))).bind fun u => some (cut x l u))).bind fun x => ((some ())).bind fun y => some (x, y))).bind fun y => some (x, y))).bind f_law_live)).bind fun x => ((((((some law_row_here)).bind fun x => ((some i1)).bind fun y => oIx x y)).bind fun x => ((some ())).bind fun y => some (x, y))).bind fun y => some (x, y))).bind fun y => some (x, y))).bind f_law_can_come))))).bind fun x => some (x.all id))).bind fun r => some (Out.rt (τ := Unit) r))
def f_law_stands : ((List (T5 Str (List Str) (Option Str) (List Str) (List Str))) × (List Str) × Int × Unit) → Option Bool := fun p => outR (m_law_stands p.1 p.2.1 p.2.2.1)
abbrev sp_law_stands (K : PySem.W.Frag) : Sp := spOf K (GC (List (T5 Str (List Str) (Option Str) (List Str) (List Str))) (GC (List Str) (GC Int GN))) true f_law_stands
theorem ok_law_stands {P : Program} {w : World} {K : PySem.W.Frag} {mg : Str → Option Value} {base : Heap} {f : Addr} {fd : FuncData} (F : Fun K "_law_stands" "_law_stands" s_law_stands f fd) (B : Bt K mg) (D_law_can_come : Dn P w K mg base "_law_can_come" 2 (sp_law_can_come K)) (D_law_live : Dn P w K mg base "_law_live" 1 (sp_law_live K)) : FnOk P w K mg base CX0 3 f fd ["_law_trunk_here", "_law_row_here", "_law_begin"] (sp_law_stands K) := by
  have nd := sc_law_stands.nd
  exact def_ok (fr := true) (G := (GC (List (T5 Str (List Str) (Option Str) (List Str) (List Str))) (GC (List Str) (GC Int GN)))) (m := fun p => m_law_stands p.1 p.2.1 p.2.2.1) (Γf := fun _ : Unit => [.no, .no, .no, .no]) F sc_law_stands (fun _ => rfl) fun p => by
    obtain ⟨law_trunk_here, law_row_here, law_begin, u0⟩ := p
    show JS _ _ _ _ _ _ (m_law_stands law_trunk_here law_row_here law_begin)
    unfold m_law_stands
    exact (js_ret (je_all B.all (je_lc [("_law_at", 3)] nd (ji_range2 B.range (je_var 2 (by rfl)) (je_len B.len (je_var 1 (by rfl)))) (by dsimp only [Stc.blk]; decide +kernel) (fun X F => (pgn F 3 nd)) (tg_n 3) (fun i1 => jts_nil) (fun i1 => (JE.lit (JE.lit (je_call D_law_can_come (ja_cons (je_var 0 (by rfl)) (ja_cons (je_call D_law_live (ja_cons (je_var 0 (by rfl)) (ja_cons (je_sliceF (je_var 1 (by rfl)) jo_none (jo_some (je_var 3 (by rfl)))) ja_nil))) (ja_cons (JE.lit (JE.lit (je_ix (je_var 1 (by rfl)) (je_var 3 (by rfl))) .fr) .fr) ja_nil)))) .fr) .fr)))))
/-! ### _law_row_of -/
abbrev s_law_row_of : Stmt := top 48
theorem sc_law_row_of : FnScope ["_law_line_here"] ["_law_line_here"] (defScope s_law_row_of) := ⟨rfl, rfl, rfl, by decide +kernel, rfl, by decide +kernel, by decide +kernel⟩
def m_law_row_of (law_line_here : (T3 Str Int (List Str))) : Option (Out Unit Str) :=
  (((((((((((some (Str.ofString "line "))).bind fun x => ((((some law_line_here)).bind fun x => some (x.a))).bind fun y => oCatS x y)).bind fun x => ((some (Str.ofString " "))).bind fun y => oCatS x y)).bind fun x => ((((((some law_line_here)).bind fun x => some (x.b))).bind oStrI)).bind fun y => oCatS x y)).bind fun x => ((((((((some law_line_here)).bind fun x => some (x.c))).bind fun x => ((some ([] : (List Str)))).bind fun y => dNe x y)).bind fun x => if x then (((some (Str.ofString ": "))).bind fun x => ((((some (Str.ofString " "))).bind fun x => ((((some law_line_here)).bind fun x => some (x.c))).bind fun y => oJoin x y)).bind fun y => oCatS x y) else (some (Str.ofString "")))).bind fun y => oCatS x y)).bind fun r => some (Out.rt (τ := Unit) r))
def f_law_row_of : ((T3 Str Int (List Str)) × Unit) → Option Str := fun p => outR (m_law_row_of p.1)
abbrev sp_law_row_of (K : PySem.W.Frag) : Sp := spOf K (GC (T3 Str Int (List Str)) GN) true f_law_row_of
theorem ok_law_row_of {P : Program} {w : World} {K : PySem.W.Frag} {mg : Str → Option Value} {base : Heap} {f : Addr} {fd : FuncData} (F : Fun K "_law_row_of" "_law_row_of" s_law_row_of f fd) (B : Bt K mg) : FnOk P w K mg base CX0 1 f fd ["_law_line_here"] (sp_law_row_of K) := by
  have nd := sc_law_row_of.nd
  exact def_ok (fr := true) (G := (GC (T3 Str Int (List Str)) GN)) (m := fun p => m_law_row_of p.1) (Γf := fun _ : Unit => [.no]) F sc_law_row_of (fun _ => rfl) fun p => by
    obtain ⟨law_line_here, u0⟩ := p
    show JS _ _ _ _ _ _ (m_law_row_of law_line_here)
    unfold m_law_row_of
    exact (js_ret (je_cats (je_cats (je_cats (je_cats je_str (JE.lit (ixT (fun (x : (T3 Str Int (List Str))) => x.a) t3a (je_var 0 (by rfl))) .fr)) je_str) (je_strI B.str (JE.lit (ixT (fun (x : (T3 Str Int (List Str))) => x.b) t3b (je_var 0 (by rfl))) .fr))) (JE.lit (je_if (jt_neD (by decide) (ixT (fun (x : (T3 Str Int (List Str))) => x.c) t3c (je_var 0 (by rfl))) (je_nil (α := Str))) (je_cats je_str (je_join je_str (ixT (fun (x : (T3 Str Int (List Str))) => x.c) t3c (je_var 0 (by rfl))))) je_str) .fr)))
/-! ### _law_line_in -/
abbrev s_law_line_in : Stmt := top 49
theorem sc_law_line_in : FnScope ["_law_trunk_here", "_law_row_here", "_law_parts", "_law_words", "_law_letters", "_law_picks", "_law_names_here", "_law_many", "_law_sign", "_law_change", "_law_name"] ["_law_trunk_here", "_law_row_here"] (defScope s_law_line_in) := ⟨rfl, rfl, rfl, by decide +kernel, rfl, by decide +kernel, by decide +kernel⟩
def m_law_line_in (law_trunk_here : (List (T5 Str (List Str) (Option Str) (List Str) (List Str)))) (law_row_here : Str) : Option (Out Unit (Op (T3 Str Int (List Str)))) :=
  (((((some law_row_here)).bind fun x => ((some (Str.ofString ": "))).bind fun y => oSplit x y)).bind fun v1 => (((((((some v1)).bind fun x => ((some (0 : Int))).bind fun y => oIx x y)).bind fun x => ((some (Str.ofString " "))).bind fun y => oSplit x y)).bind fun v2 => (((some (Str.ofString "abcdefghijklmnopqrstuvwxyz"))).bind fun v3 => ((((((((((some v1)).bind fun x => some (x.length : Int))).bind fun x => ((some (2 : Int))).bind fun y => oGt x y)).bind fun x => if x then some true else (((((((some v2)).bind fun x => some (x.length : Int))).bind fun x => ((some (3 : Int))).bind fun y => oNe x y)).bind fun x => if x then some true else (((((((some v2)).bind fun x => ((some (0 : Int))).bind fun y => oIx x y)).bind fun x => ((some (Str.ofString "line"))).bind fun y => oNe x y)).bind fun x => if x then some true else (((((some (1 : Int))).bind fun x => ((((((some v2)).bind fun x => ((some (1 : Int))).bind fun y => oIx x y)).bind fun x => if x.length ≤ 100000 then some (x.length : Int) else none)).bind fun y => if (decide (x ≤ y)) then ((some (8 : Int))).bind fun z => some (decide (y ≤ z)) else some false)).bind fun b => some !b))))).bind fun b => if b then (((some (Op.no : (Op (T3 Str Int (List Str)))))).bind fun r => some (Out.rt (τ := Unit) r)) else some (Out.nx (ρ := (Op (T3 Str Int (List Str)))) ())).bind (Out.go fun _ => ((((((((((((((((some v2)).bind fun x => ((some (1 : Int))).bind fun y => oIx x y)).bind fun s => some (s.cps.toList.map sign))).bind (lcO (fun i4 => (some true)) (fun i4 => (((some i4)).bind fun x => ((some v3)).bind fun y => oInS x y))))).bind fun x => some (x.all id))).bind fun b => some !b)).bind fun x => if x then some true else (((((some (1 : Int))).bind fun x => ((((((some v2)).bind fun x => ((some (2 : Int))).bind fun y => oIx x y)).bind fun x => if x.length ≤ 100000 then some (x.length : Int) else none)).bind fun y => if (decide (x ≤ y)) then ((some (2 : Int))).bind fun z => some (decide (y ≤ z)) else some false)).bind fun b => some !b))).bind fun b => if b then (((some (Op.no : (Op (T3 Str Int (List Str)))))).bind fun r => some (Out.rt (τ := Unit) r)) else some (Out.nx (ρ := (Op (T3 Str Int (List Str)))) ())).bind (Out.go fun _ => ((((((((((((((((some v2)).bind fun x => ((some (2 : Int))).bind fun y => oIx x y)).bind fun s => some (s.cps.toList.map sign))).bind (lcO (fun i5 => (some true)) (fun i5 => (((some i5)).bind fun x => ((some (Str.ofString "0123456789"))).bind fun y => oInS x y))))).bind fun x => some (x.all id))).bind fun b => some !b)).bind fun x => if x then some true else (((((((((some v2)).bind fun x => ((some (2 : Int))).bind fun y => oIx x y)).bind fun x => ((some (0 : Int))).bind fun y => oIxS x y)).bind fun x => ((some (Str.ofString "0"))).bind fun y => oEq x y)).bind fun x => if x then (((((some v2)).bind fun x => ((some (2 : Int))).bind fun y => oIx x y)).bind fun x => ((some (Str.ofString "0"))).bind fun y => oNe x y) else some false))).bind fun b => if b then (((some (Op.no : (Op (T3 Str Int (List Str)))))).bind fun r => some (Out.rt (τ := Unit) r)) else some (Out.nx (ρ := (Op (T3 Str Int (List Str)))) ())).bind (Out.go fun _ => (((((((((some v1)).bind fun x => some (x.length : Int))).bind fun x => ((some (2 : Int))).bind fun y => oEq x y)).bind fun x => if x then (((((some v1)).bind fun x => ((some (1 : Int))).bind fun y => oIx x y)).bind fun x => ((some (Str.ofString " "))).bind fun y => oSplit x y) else (some ([] : (List Str))))).bind fun v6 => (((((some law_trunk_here)).bind (lcO (fun i8 => (some true)) (fun i8 => (((some i8)).bind fun x => some (x.a)))))).bind fun v7 => ((((((((((((some v2)).bind fun x => ((some (2 : Int))).bind fun y => oIx x y)).bind oIntS)).bind fun x => ((((some law_trunk_here)).bind fun x => some (x.length : Int))).bind fun y => oGt x y)).bind fun x => if x then some true else (((((((some v6)).bind fun x => some (x.length : Int))).bind fun x => ((some (40 : Int))).bind fun y => oGt x y)).bind fun x => if x then some true else (((((((some v6)).bind (lcO (fun i10 => (some true)) (fun i10 => (((some i10)).bind fun x => ((some v7)).bind fun y => oIn x y))))).bind fun x => some (x.all id))).bind fun b => some !b)))).bind fun b => if b then (((some (Op.no : (Op (T3 Str Int (List Str)))))).bind fun r => some (Out.rt (τ := Unit) r)) else some (Out.nx (ρ := (Op (T3 Str Int (List Str)))) ())).bind (Out.go fun _ => (((((((some v2)).bind fun x => ((some (2 : Int))).bind fun y => oIx x y)).bind oIntS)).bind fun v11 => (((((((((some law_trunk_here)).bind fun x => ((((((((some v7)).bind fun x => ((some none)).bind fun l => ((((some v11)).bind fun x => some (some x))).bind fun u => some (cut x l u))).bind fun x => ((some v6)).bind fun y => oCat x y)).bind fun x => ((((some v11)).bind fun x => ((some ())).bind fun y => some (x, y))).bind fun y => some (x, y))).bind fun y => some (x, y))).bind f_law_stands)).bind fun x => if x then (((((((((some v2)).bind fun x => ((some (1 : Int))).bind fun y => oIx x y)).bind fun x => ((((some v11)).bind fun x => ((((some v6)).bind fun x => ((some ())).bind fun y => some (x, y))).bind fun y => some (x, y))).bind fun y => some (x, y))).bind fun x => some (T3.mk x.1 x.2.1 x.2.2.1))).bind fun x => some (Op.yes x)) else (some (Op.no : (Op (T3 Str Int (List Str))))))).bind fun r => some (Out.rt (τ := Unit) r))))))))))))))))
def f_law_line_in : ((List (T5 Str (List Str) (Option Str) (List Str) (List Str))) × Str × Unit) → Option (Op (T3 Str Int (List Str))) := fun p => outR (m_law_line_in p.1 p.2.1)
abbrev sp_law_line_in (K : PySem.W.Frag) : Sp := spOf K (GC (List (T5 Str (List Str) (Option Str) (List Str) (List Str))) (GC Str GN)) false f_law_line_in
theorem ok_law_line_in {P : Program} {w : World} {K : PySem.W.Frag} {mg : Str → Option Value} {base : Heap} {f : Addr} {fd : FuncData} (F : Fun K "_law_line_in" "_law_line_in" s_law_line_in f fd) (B : Bt K mg) (D_law_stands : Dn P w K mg base "_law_stands" 3 (sp_law_stands K)) : FnOk P w K mg base CX0 4 f fd ["_law_trunk_here", "_law_row_here"] (sp_law_line_in K) := by
  have nd := sc_law_line_in.nd
  exact def_ok (fr := false) (G := (GC (List (T5 Str (List Str) (Option Str) (List Str) (List Str))) (GC Str GN))) (m := fun p => m_law_line_in p.1 p.2.1) (Γf := fun _ : Unit => [.no, .no, .no, .no, .no, .no, .no, .no, .no, .no, .no]) F sc_law_line_in (fun _ => rfl) fun p => by
    obtain ⟨law_trunk_here, law_row_here, u0⟩ := p
    show JS _ _ _ _ _ _ (m_law_line_in law_trunk_here law_row_here)
    unfold m_law_line_in
    exact (js_set 2 nd (je_split (je_var 1 (by rfl)) je_str) fun v1 => (js_set 3 nd (je_split (JE.lit (je_ix (je_var 2 (by rfl)) je_int) .fr) je_str) fun v2 => (js_set 4 nd je_str fun v3 => (js_guard (jt_w (jw_or (jt_gt (je_len B.len (je_var 2 (by rfl))) je_int) (jw_or (jt_ne (je_len B.len (je_var 3 (by rfl))) je_int) (jw_or (jt_ne (JE.lit (je_ix (je_var 3 (by rfl)) je_int) .fr) je_str) (jw_or1 (jt_not (jt_leLe je_int (je_lenS B.len (JE.lit (je_ix (je_var 3 (by rfl)) je_int) .fr)) je_int))))))) (js_ret (je_nonO (α := (T3 Str Int (List Str))))) (js_guard (jt_w (jw_or (jt_not (jt_val (je_all B.all (je_lc [("_law_sign", 8)] nd (ji_str (JE.lit (je_ix (je_var 3 (by rfl)) je_int) .fr)) (by dsimp only [Stc.blk]; decide +kernel) (fun X F => (pgn F 8 nd)) (tg_n 8) (fun i4 => jts_nil) (fun i4 => (JE.lit (je_inS (je_var 8 (by rfl)) (je_var 4 (by rfl))) .fr)))))) (jw_or1 (jt_not (jt_leLe je_int (je_lenS B.len (JE.lit (je_ix (je_var 3 (by rfl)) je_int) .fr)) je_int))))) (js_ret (je_nonO (α := (T3 Str Int (List Str))))) (js_guard (jt_w (jw_or (jt_not (jt_val (je_all B.all (je_lc [("_law_sign", 8)] nd (ji_str (JE.lit (je_ix (je_var 3 (by rfl)) je_int) .fr)) (by dsimp only [Stc.blk]; decide +kernel) (fun X F => (pgn F 8 nd)) (tg_n 8) (fun i5 => jts_nil) (fun i5 => (JE.lit (je_inS (je_var 8 (by rfl)) je_str) .fr)))))) (jw_or1 (jt_w (jw_and (jt_eq (je_ixS (JE.lit (je_ix (je_var 3 (by rfl)) je_int) .fr) je_int) je_str) (jw_and1 (jt_ne (JE.lit (je_ix (je_var 3 (by rfl)) je_int) .fr) je_str))))))) (js_ret (je_nonO (α := (T3 Str Int (List Str))))) (js_set 5 nd (je_if (jt_eq (je_len B.len (je_var 2 (by rfl))) je_int) (je_split (JE.lit (je_ix (je_var 2 (by rfl)) je_int) .fr) je_str) (je_nil (α := Str))) fun v6 => (js_setC 6 nd (je_lc [("_law_change", 9)] nd (ji_list (je_var 0 (by rfl))) (by dsimp only [Stc.blk]; decide +kernel) (fun X F => (pgn F 9 nd)) (tg_n 9) (fun i8 => jts_nil) (fun i8 => (JE.lit (JE.lit (ixT (fun (x : (T5 Str (List Str) (Option Str) (List Str) (List Str))) => x.a) t5a (je_var 9 (by rfl))) .fr) .fr))) fun v7 => (js_guard (jt_w (jw_or (jt_gt (je_intS B.int (JE.lit (je_ix (je_var 3 (by rfl)) je_int) .fr)) (je_len B.len (je_var 0 (by rfl)))) (jw_or (jt_gt (je_len B.len (je_var 5 (by rfl))) je_int) (jw_or1 (jt_not (jt_val (je_all B.all (je_lc [("_law_name", 10)] nd (ji_list (je_var 5 (by rfl))) (by dsimp only [Stc.blk]; decide +kernel) (fun X F => (pgn F 10 nd)) (tg_n 10) (fun i10 => jts_nil) (fun i10 => (JE.lit (je_in (je_var 10 (by rfl)) (je_var 6 (by rfl))) .fr)))))))))) (js_ret (je_nonO (α := (T3 Str Int (List Str))))) (js_set 7 nd (je_intS B.int (JE.lit (je_ix (je_var 3 (by rfl)) je_int) .fr)) fun v11 => (js_ret (je_if (jt_val (JE.lit (je_call D_law_stands (ja_cons (je_var 0 (by rfl)) (ja_cons (je_catF (je_sliceF (je_var 6 (by rfl)) jo_none (jo_some (je_var 7 (by rfl)))) (je_var 5 (by rfl))) (ja_cons (JE.lit (je_var 7 (by rfl)) .fr) ja_nil)))) .fr)) (je_yes (je_t3 (ja_cons (JE.lit (JE.lit (je_ix (je_var 3 (by rfl)) je_int) .fr) .fr) (ja_cons (JE.lit (je_var 7 (by rfl)) .fr) (ja_cons (je_var 5 (by rfl)) ja_nil))))) (je_nonO (α := (T3 Str Int (List Str))))))))))))))))
/-! ### _law_read -/
abbrev s_law_read : Stmt := top 50
theorem sc_law_read : FnScope ["_law_trunk_here", "_law_text", "_law_found", "_law_rows", "_law_at", "_law_line_here", "_law_other"] ["_law_trunk_here", "_law_text"] (defScope s_law_read) := ⟨rfl, rfl, rfl, by decide +kernel, rfl, by decide +kernel, by decide +kernel⟩
def m_law_read (law_trunk_here : (List (T5 Str (List Str) (Option Str) (List Str) (List Str)))) (law_text : Str) : Option (Out Unit (T2 (Option Int) (List (T3 Str Int (List Str))))) :=
  (((((((some law_text)).bind fun x => ((some (Str.ofString ""))).bind fun y => oNe x y)).bind fun x => if x then (((some law_text)).bind fun x => ((some (Str.ofString "
"))).bind fun y => oSplit x y) else (some ([] : (List Str))))).bind fun v1 => (((((((some v1)).bind fun x => some (x.length : Int))).bind fun n => if 0 ≤ n ∧ n ≤ 100000 then some (rng 0 n) else none)).bind fun xs => (loopM (fun (s3 : (List (T3 Str Int (List Str)))) (i2 : Int) => (((((((some law_trunk_here)).bind fun x => ((((((some v1)).bind fun x => ((some i2)).bind fun y => oIx x y)).bind fun x => ((some ())).bind fun y => some (x, y))).bind fun y => some (x, y))).bind f_law_line_in)).bind fun v4 => ((((((((some v4)).bind fun x => some ((Op.isNo x)))).bind fun x => if x then some true else (((((((some v4)).bind Op.get)).bind fun x => some (x.a))).bind fun x => ((((some s3)).bind (lcO (fun i5 => (some true)) (fun i5 => (((some i5)).bind fun x => some (x.a)))))).bind fun y => oIn x y))).bind fun b => if b then (((((((((some i2)).bind fun x => some (some x))).bind fun x => ((((some s3)).bind fun x => ((some ())).bind fun y => some (x, y))).bind fun y => some (x, y))).bind fun x => some (T2.mk x.1 x.2.1))).bind fun r => some (Out.rt (τ := Unit) r)) else some (Out.nx (ρ := (T2 (Option Int) (List (T3 Str Int (List Str))))) ())).bind (Out.go fun _ => (((((some v4)).bind Op.get)).bind fun v7 => if s3.length < 50000 then (some (Out.nx (ρ := (T2 (Option Int) (List (T3 Str Int (List Str))))) (s3 ++ [v7]))) else none))))) ([] : (List (T3 Str Int (List Str)))) xs).bind (Out.go fun s3 => (((((((some (none : Option Int))).bind fun x => ((((some s3)).bind fun x => ((some ())).bind fun y => some (x, y))).bind fun y => some (x, y))).bind fun x => some (T2.mk x.1 x.2.1))).bind fun r => some (Out.rt (τ := Unit) r)))))
def f_law_read : ((List (T5 Str (List Str) (Option Str) (List Str) (List Str))) × Str × Unit) → Option (T2 (Option Int) (List (T3 Str Int (List Str)))) := fun p => outR (m_law_read p.1 p.2.1)
abbrev sp_law_read (K : PySem.W.Frag) : Sp := spOf K (GC (List (T5 Str (List Str) (Option Str) (List Str) (List Str))) (GC Str GN)) false f_law_read
theorem ok_law_read {P : Program} {w : World} {K : PySem.W.Frag} {mg : Str → Option Value} {base : Heap} {f : Addr} {fd : FuncData} (F : Fun K "_law_read" "_law_read" s_law_read f fd) (B : Bt K mg) (D_law_line_in : Dn P w K mg base "_law_line_in" 4 (sp_law_line_in K)) : FnOk P w K mg base CX0 5 f fd ["_law_trunk_here", "_law_text"] (sp_law_read K) := by
  have nd := sc_law_read.nd
  exact def_ok (fr := false) (G := (GC (List (T5 Str (List Str) (Option Str) (List Str) (List Str))) (GC Str GN))) (m := fun p => m_law_read p.1 p.2.1) (Γf := fun _ : Unit => [.no, .no, .no, .no, .no, .no, .no]) F sc_law_read (fun _ => rfl) fun p => by
    obtain ⟨law_trunk_here, law_text, u0⟩ := p
    show JS _ _ _ _ _ _ (m_law_read law_trunk_here law_text)
    unfold m_law_read
    exact (js_own (α := (T3 Str Int (List Str))) inferInstance 2 nd (js_set 3 nd (je_if (jt_ne (je_var 1 (by rfl)) je_str) (je_split (je_var 1 (by rfl)) je_str) (je_nil (α := Str))) fun v1 => (js_for (Γl := fun (s3 : (List (T3 Str Int (List Str)))) => [V_ (law_trunk_here : (List (T5 Str (List Str) (Option Str) (List Str) (List Str)))), V_ (law_text : Str), O_ (α := (T3 Str Int (List Str))) s3, V_ (v1 : (List Str)), .no, .no, .no]) [4] ([] : (List (T3 Str Int (List Str)))) (Sub.same (Sub.same (Sub.same (Sub.same (Sub.same (Sub.same (Sub.same Sub.nil))))))) (ji_range1 B.range (je_len B.len (je_var 3 (by rfl)))) (fun X F => (pgn F 4 nd)) (fun s3 => (tg_n 4)) (fun s3 i2 => (js_set 5 nd (je_call D_law_line_in (ja_cons (je_var 0 (by rfl)) (ja_cons (JE.lit (JE.lit (je_ix (je_var 3 (by rfl)) (je_var 4 (by rfl))) .fr) .fr) ja_nil))) fun v4 => (js_guard (jt_w (jw_or (jt_isG (je_var 5 (by rfl))) (jw_or1 (jt_in (JE.lit (ixT (fun (x : (T3 Str Int (List Str))) => x.a) t3a (je_unO (je_var 5 (by rfl)))) .fr) (je_lc [("_law_other", 6)] nd (ji_list (je_own 2 (by rfl))) (by dsimp only [Stc.blk]; decide +kernel) (fun X F => (pgn F 6 nd)) (tg_n 6) (fun i5 => jts_nil) (fun i5 => (JE.lit (JE.lit (ixT (fun (x : (T3 Str Int (List Str))) => x.a) t3a (je_var 6 (by rfl))) .fr) .fr))))))) (js_rel (js_ret (je_t2 (ja_cons (JE.lit (je_optI (je_var 4 (by rfl))) .fr) (ja_cons (je_var 2 (by rfl)) ja_nil)))) no_nx) (js_app 2 (by rfl) (je_unO (je_var 5 (by rfl))) fun v7 => (js_nil (s3 ++ [v7]) (Sub.same (Sub.same (Sub.same (Sub.same (Sub.drop (Sub.drop (Sub.same Sub.nil)))))))))))) fun s3 => (js_rel (js_ret (je_t2 (ja_cons (JE.lit je_nonI .fr) (ja_cons (je_var 2 (by rfl)) ja_nil)))) no_nx))))
/-! ### _law_spoilt -/
abbrev s_law_spoilt : Stmt := top 52
theorem sc_law_spoilt : FnScope ["_law_text", "_law_cell", "_law_at", "_law_signs", "_law_sign"] ["_law_text", "_law_cell"] (defScope s_law_spoilt) := ⟨rfl, rfl, rfl, by decide +kernel, rfl, by decide +kernel, by decide +kernel⟩
def m_law_spoilt (law_text : Str) (law_cell : Int) : Option (Out Unit Str) :=
  (((((((some law_cell)).bind fun x => ((some (3 : Int))).bind fun y => oDiv x y)).bind fun x => ((((((some law_text)).bind fun x => if x.length ≤ 100000 then some (x.length : Int) else none)).bind fun x => ((some (1 : Int))).bind fun y => oAdd x y)).bind fun y => oMod x y)).bind fun v1 => (((some (Str.ofString "  ::
abdlineo0123456789"))).bind fun v2 => (((((some v2)).bind fun x => ((((((((some law_cell)).bind fun x => ((some (48271 : Int))).bind fun y => oMul x y)).bind fun x => ((some (1000003 : Int))).bind fun y => oMod x y)).bind fun x => ((((some v2)).bind fun x => if x.length ≤ 100000 then some (x.length : Int) else none)).bind fun y => oMod x y)).bind fun y => oIxS x y)).bind fun v3 => ((((((((some law_cell)).bind fun x => ((some (3 : Int))).bind fun y => oMod x y)).bind fun x => ((some (0 : Int))).bind fun y => oEq x y)).bind fun b => if b then (((((((((some law_text)).bind fun x => ((some none)).bind fun l => ((((some v1)).bind fun x => some (some x))).bind fun u => oCutS x l u)).bind fun x => ((some v3)).bind fun y => oCatS x y)).bind fun x => ((((some law_text)).bind fun x => ((((some v1)).bind fun x => some (some x))).bind fun l => ((some none)).bind fun u => oCutS x l u)).bind fun y => oCatS x y)).bind fun r => some (Out.rt (τ := Unit) r)) else some (Out.nx (ρ := Str) ())).bind (Out.go fun _ => ((((((((some law_cell)).bind fun x => ((some (3 : Int))).bind fun y => oMod x y)).bind fun x => ((some (1 : Int))).bind fun y => oEq x y)).bind fun b => if b then (((((((some law_text)).bind fun x => ((some none)).bind fun l => ((((some v1)).bind fun x => some (some x))).bind fun u => oCutS x l u)).bind fun x => ((((some law_text)).bind fun x => ((((((some v1)).bind fun x => ((some (1 : Int))).bind fun y => oAdd x y)).bind fun x => some (some x))).bind fun l => ((some none)).bind fun u => oCutS x l u)).bind fun y => oCatS x y)).bind fun r => some (Out.rt (τ := Unit) r)) else some (Out.nx (ρ := Str) ())).bind (Out.go fun _ => (((((((((some law_text)).bind fun x => ((some none)).bind fun l => ((((some v1)).bind fun x => some (some x))).bind fun u => oCutS x l u)).bind fun x => ((((((some law_text)).bind fun x => ((((some v1)).bind fun x => some (some x))).bind fun l => ((((((some v1)).bind fun x => ((some (2 : Int))).bind fun y => oAdd x y)).bind fun x => some (some x))).bind fun u => oCutS x l u)).bind oRevS)).bind fun y => oCatS x y)).bind fun x => ((((some law_text)).bind fun x => ((((((some v1)).bind fun x => ((some (2 : Int))).bind fun y => oAdd x y)).bind fun x => some (some x))).bind fun l => ((some none)).bind fun u => oCutS x l u)).bind fun y => oCatS x y)).bind fun r => some (Out.rt (τ := Unit) r)))))))))
def f_law_spoilt : (Str × Int × Unit) → Option Str := fun p => outR (m_law_spoilt p.1 p.2.1)
abbrev sp_law_spoilt (K : PySem.W.Frag) : Sp := spOf K (GC Str (GC Int GN)) true f_law_spoilt
theorem ok_law_spoilt {P : Program} {w : World} {K : PySem.W.Frag} {mg : Str → Option Value} {base : Heap} {f : Addr} {fd : FuncData} (F : Fun K "_law_spoilt" "_law_spoilt" s_law_spoilt f fd) (B : Bt K mg) : FnOk P w K mg base CX0 1 f fd ["_law_text", "_law_cell"] (sp_law_spoilt K) := by
  have nd := sc_law_spoilt.nd
  exact def_ok (fr := true) (G := (GC Str (GC Int GN))) (m := fun p => m_law_spoilt p.1 p.2.1) (Γf := fun _ : Unit => [.no, .no, .no, .no, .no]) F sc_law_spoilt (fun _ => rfl) fun p => by
    obtain ⟨law_text, law_cell, u0⟩ := p
    show JS _ _ _ _ _ _ (m_law_spoilt law_text law_cell)
    unfold m_law_spoilt
    exact (js_set 2 nd (je_mod (je_div (je_var 1 (by rfl)) je_int) (je_add (je_lenS B.len (je_var 0 (by rfl))) je_int)) fun v1 => (js_set 3 nd je_str fun v2 => (js_set 4 nd (je_ixS (je_var 3 (by rfl)) (je_mod (je_mod (je_mul (je_var 1 (by rfl)) je_int) je_int) (je_lenS B.len (je_var 3 (by rfl))))) fun v3 => (js_guard (jt_eq (je_mod (je_var 1 (by rfl)) je_int) je_int) (js_ret (je_cats (je_cats (je_cutS (je_var 0 (by rfl)) jo_none (jo_some (je_var 2 (by rfl)))) (je_var 4 (by rfl))) (je_cutS (je_var 0 (by rfl)) (jo_some (je_var 2 (by rfl))) jo_none))) (js_guard (jt_eq (je_mod (je_var 1 (by rfl)) je_int) je_int) (js_ret (je_cats (je_cutS (je_var 0 (by rfl)) jo_none (jo_some (je_var 2 (by rfl)))) (je_cutS (je_var 0 (by rfl)) (jo_some (je_add (je_var 2 (by rfl)) je_int)) jo_none))) (js_ret (je_cats (je_cats (je_cutS (je_var 0 (by rfl)) jo_none (jo_some (je_var 2 (by rfl)))) (je_revS (je_cutS (je_var 0 (by rfl)) (jo_some (je_var 2 (by rfl))) (jo_some (je_add (je_var 2 (by rfl)) je_int))))) (je_cutS (je_var 0 (by rfl)) (jo_some (je_add (je_var 2 (by rfl)) je_int)) jo_none))))))))
end K
end

section
set_option maxRecDepth 100000
set_option maxHeartbeats 1000000
namespace K
open PySem L2 Sm

/-! ### loops and comprehensions in general -/
theorem loop_ok {τ ρ α : Type} {b : τ → α → Option (Out τ ρ)} (P : τ → List α → Prop) (xs : List α) (s0 : τ) (h0 : P s0 []) (hs : ∀ s pre x post, xs = pre ++ x :: post → P s pre → ∃ s', b s x = some (.nx s') ∧ P s' (pre ++ [x])) :
    ∃ s', loopM b s0 xs = some (.nx s') ∧ P s' xs := by
  have go : ∀ post pre s, xs = pre ++ post → P s pre → ∃ s', loopM b s post = some (.nx s') ∧ P s' xs := by
    intro post
    induction post with
    | nil => intro pre s e p; rw [List.append_nil] at e; exact ⟨s, rfl, e ▸ p⟩
    | cons x post ih =>
      intro pre s e p
      obtain ⟨s1, h1, p1⟩ := hs s pre x post e p
      obtain ⟨s2, h2, p2⟩ := ih (pre ++ [x]) s1 (by rw [e, List.append_assoc] <;> rfl) p1
      refine ⟨s2, ?_, p2⟩
      show (b s x).bind _ = _
      rw [h1]
      exact h2
  exact go xs [] s0 rfl h0
/-- a loop that looks: it goes through, or returns at the first of its kind -/
theorem loop_all {ρ α : Type} {b : Unit → α → Option (Out Unit ρ)} (xs : List α) (h : ∀ x ∈ xs, b () x = some (.nx ())) : loopM b () xs = some (.nx ()) := by
  obtain ⟨s, h1, _⟩ := loop_ok (b := b) (fun _ _ => True) xs () trivial (fun s pre x post e _ => ⟨(), h x (by rw [e]; simp), trivial⟩)
  exact h1
theorem lcM_ok {α β : Type} {f : α → Option Bool} {h : α → Option β} (p : α → Bool) (g : α → β) : ∀ xs : List α, (∀ x ∈ xs, f x = some (p x)) → (∀ x ∈ xs, p x = true → h x = some (g x)) → lcM f h xs = some ((xs.filter p).map g)
  | [], _, _ => rfl
  | x :: xs, h1, h2 => by
    have ih := lcM_ok p g xs (fun y hy => h1 y (List.mem_cons_of_mem _ hy)) (fun y hy => h2 y (List.mem_cons_of_mem _ hy))
    show (f x).bind _ = _
    rw [h1 x List.mem_cons_self]
    show (if p x = true then (h x).bind _ else _) = _
    cases hp : p x with
    | true =>
      rw [if_pos rfl, h2 x List.mem_cons_self hp, List.filter_cons_of_pos hp]
      show (lcM f h xs).bind _ = _
      rw [ih] <;> rfl
    | false =>
      rw [if_neg (by decide), List.filter_cons_of_neg (by rw [hp]; decide)]
      exact ih
theorem lcO_ok {α β : Type} {f : α → Option Bool} {h : α → Option β} (p : α → Bool) (g : α → β) (xs : List α) (hl : xs.length ≤ 40000) (h1 : ∀ x ∈ xs, f x = some (p x)) (h2 : ∀ x ∈ xs, p x = true → h x = some (g x)) : lcO f h xs = some ((xs.filter p).map g) := by
  unfold lcO
  rw [if_pos hl]
  exact lcM_ok p g xs h1 h2
/-- every item, no test -/
theorem lcO_map {α β : Type} {h : α → Option β} (g : α → β) (xs : List α) (hl : xs.length ≤ 40000) (h2 : ∀ x ∈ xs, h x = some (g x)) : lcO (fun _ => some true) h xs = some (xs.map g) := by
  have := lcO_ok (f := fun _ => some true) (h := h) (fun _ => true) g xs hl (fun _ _ => rfl) fun x hx _ => h2 x hx
  rw [List.filter_eq_self.mpr (fun _ _ => rfl)] at this
  exact this
theorem lcO_filter {α : Type} {f : α → Option Bool} (p : α → Bool) (xs : List α) (hl : xs.length ≤ 40000) (h1 : ∀ x ∈ xs, f x = some (p x)) : lcO f (fun x => some x) xs = some (xs.filter p) := by
  have := lcO_ok (f := f) (h := fun x => some x) p id xs hl h1 fun _ _ _ => rfl
  rw [List.map_id] at this
  exact this
theorem all_map {α : Type} (g : α → Bool) (xs : List α) : (xs.map g).all id = xs.all g := by
  rw [List.all_map] <;> rfl
theorem any_map {α : Type} (g : α → Bool) (xs : List α) : (xs.map g).any id = xs.any g := by
  rw [List.any_map] <;> rfl

/-! ### dicts -/
section
variable {α : Type}
theorem dget_nil (x : Str) : dget ([] : Dct α) x = none := rfl
theorem dget_cons (a : Str) (b : α) (l : Dct α) (x : Str) : dget ((a, b) :: l) x = if x = a then some b else dget l x := by
  show List.lookup x ((a, b) :: l) = if x = a then some b else List.lookup x l
  by_cases e : x = a
  · subst e; simp [List.lookup]
  · have hb : (x == a) = false := by rw [beq_eq_false_iff_ne]; exact e
    simp [List.lookup, hb, e]
theorem dget_none {d : Dct α} {x : Str} (h : ∀ p ∈ d, p.1 ≠ x) : dget d x = none := by
  induction d with
  | nil => rfl
  | cons p d ih =>
    obtain ⟨a, b⟩ := p
    rw [dget_cons, if_neg (fun e => h _ List.mem_cons_self e.symm)]
    exact ih fun p hp => h p (List.mem_cons_of_mem _ hp)
theorem dget_mem {d : Dct α} {x : Str} {v : α} (h : dget d x = some v) : (x, v) ∈ d := by
  induction d with
  | nil => cases h
  | cons p d ih =>
    obtain ⟨a, b⟩ := p
    rw [dget_cons] at h
    by_cases e : x = a
    · rw [if_pos e] at h; cases h; rw [e]; exact List.mem_cons_self
    · rw [if_neg e] at h; exact List.mem_cons_of_mem _ (ih h)
theorem dhas_get (d : Dct α) (x : Str) : dhas d x = (dget d x).isSome := rfl
theorem dhas_iff {d : Dct α} {x : Str} : dhas d x = true ↔ x ∈ d.map (·.1) := by
  induction d with
  | nil => simp [dhas, List.lookup]
  | cons p d ih =>
    obtain ⟨a, b⟩ := p
    rw [dhas_get, dget_cons]
    by_cases e : x = a
    · rw [if_pos e]; simp [e]
    · rw [if_neg e, ← dhas_get, ih]; simp [e]
theorem dget_append (d e : Dct α) (x : Str) : dget (d ++ e) x = match dget d x with | some v => some v | none => dget e x := by
  induction d with
  | nil => rfl
  | cons p d ih =>
    obtain ⟨a, b⟩ := p
    rw [List.cons_append, dget_cons, dget_cons]
    by_cases h : x = a
    · rw [if_pos h, if_pos h]
    · rw [if_neg h, if_neg h]; exact ih
theorem dget_map_put (k : Str) (v : α) (d : Dct α) (x : Str) : dget (d.map fun p => if p.1 = k then (p.1, v) else p) x = if x = k then (dget d x).map fun _ => v else dget d x := by
  induction d with
  | nil =>
    by_cases e : x = k
    · rw [if_pos e] <;> rfl
    · rw [if_neg e] <;> rfl
  | cons p d ih =>
    obtain ⟨a, b⟩ := p
    rw [List.map_cons]
    by_cases e : a = k
    · subst e
      rw [if_pos rfl, dget_cons, dget_cons]
      by_cases h : x = a
      · rw [if_pos h, if_pos h, if_pos h] <;> rfl
      · rw [if_neg h, if_neg h, if_neg h, ih, if_neg h]
    · rw [if_neg e, dget_cons, dget_cons]
      by_cases h : x = a
      · rw [if_pos h, if_pos h, if_neg (by rw [h]; exact e)]
      · rw [if_neg h, if_neg h]; exact ih
theorem any_key {d : Dct α} {k : Str} : (d.any fun p => decide (p.1 = k)) = dhas d k := by
  rw [Bool.eq_iff_iff, dhas_iff, List.any_eq_true]
  constructor
  · rintro ⟨p, hp, e⟩; exact List.mem_map.mpr ⟨p, hp, of_decide_eq_true e⟩
  · intro h
    obtain ⟨p, hp, e⟩ := List.mem_map.mp h
    exact ⟨p, hp, decide_eq_true e⟩
theorem dget_put (d : Dct α) (k x : Str) (v : α) : dget (dput d k v) x = if x = k then some v else dget d x := by
  unfold dput
  rw [any_key]
  by_cases h : dhas d k = true
  · rw [if_pos h, dget_map_put]
    by_cases e : x = k
    · rw [if_pos e, if_pos e, e]
      rw [dhas_get] at h
      cases q : dget d k with
      | none => rw [q] at h; cases h
      | some u => rfl
    · rw [if_neg e, if_neg e]
  · rw [if_neg h, dget_append]
    by_cases e : x = k
    · rw [if_pos e, e]
      have : dget d k = none := by
        rw [dhas_get] at h
        cases q : dget d k with
        | none => rfl
        | some u => rw [q] at h; exact absurd rfl h
      rw [this, dget_cons, if_pos rfl]
    · rw [if_neg e, dget_cons, if_neg e, dget_nil]
      cases dget d x <;> rfl
theorem dhas_put (d : Dct α) (k x : Str) (v : α) : dhas (dput d k v) x = (decide (x = k) || dhas d x) := by
  rw [dhas_get, dget_put, dhas_get]
  by_cases e : x = k
  · rw [if_pos e]; simp [e]
  · rw [if_neg e]; simp [e]
theorem dhas_drop (d : Dct α) (k x : Str) : dhas (ddrop d k) x = (!decide (x = k) && dhas d x) := by
  rw [Bool.eq_iff_iff, Bool.and_eq_true, dhas_iff, dhas_iff]
  unfold ddrop
  constructor
  · intro h
    obtain ⟨p, hp, e⟩ := List.mem_map.mp h
    obtain ⟨h1, h2⟩ := List.mem_filter.mp hp
    subst e
    exact ⟨by simpa using h2, List.mem_map.mpr ⟨p, h1, rfl⟩⟩
  · rintro ⟨h1, h2⟩
    obtain ⟨p, hp, e⟩ := List.mem_map.mp h2
    subst e
    exact List.mem_map.mpr ⟨p, List.mem_filter.mpr ⟨hp, by simpa using h1⟩, rfl⟩
theorem ddrop_len (d : Dct α) (k : Str) : (ddrop d k).length ≤ d.length := List.length_filter_le _ _
end

/-! ### a trunk as a book -/
abbrev Trk := List Chg
def look (T : Trk) (n : Str) : Option Chg := T.find? fun c => decide (c.a = n)
def bookOf (T : Trk) : Dct Chg := T.map fun c => (c.a, c)
def nms (T : Trk) : List Str := T.map (·.a)
theorem dget_book (T : Trk) (n : Str) : dget (bookOf T) n = look T n := by
  induction T with
  | nil => rfl
  | cons c T ih =>
    show dget ((c.a, c) :: bookOf T) n = _
    rw [dget_cons]
    unfold look
    by_cases e : n = c.a
    · rw [if_pos e, List.find?_cons_of_pos (by simp [e])]
    · rw [if_neg e, List.find?_cons_of_neg (by simpa using fun h => e h.symm)]
      exact ih
theorem keys_book (T : Trk) : (bookOf T).map (·.1) = nms T := by
  unfold bookOf nms
  rw [List.map_map]
  rfl
theorem len_book (T : Trk) : (bookOf T).length = T.length := List.length_map _
theorem look_mem {T : Trk} {n : Str} {c : Chg} (h : look T n = some c) : c ∈ T ∧ c.a = n := ⟨List.mem_of_find?_eq_some h, by simpa using List.find?_some h⟩
theorem look_of {T : Trk} (hn : (nms T).Nodup) {c : Chg} (h : c ∈ T) : look T c.a = some c := by
  induction T with
  | nil => cases h
  | cons d T ih =>
    have hn' : (d.a :: nms T).Nodup := hn
    obtain ⟨h1, h2⟩ := List.nodup_cons.mp hn'
    unfold look
    rcases List.mem_cons.mp h with rfl | h
    · rw [List.find?_cons_of_pos (by simp)]
    · have : ¬ d.a = c.a := fun e => h1 (by rw [e]; exact List.mem_map.mpr ⟨c, h, rfl⟩)
      rw [List.find?_cons_of_neg (by simpa using this)]
      exact ih h2 h
theorem look_none {T : Trk} {n : Str} (h : n ∉ nms T) : look T n = none := by
  unfold look
  rw [List.find?_eq_none]
  intro c hc e
  exact h (List.mem_map.mpr ⟨c, hc, by simpa using e⟩)
theorem look_some {T : Trk} {n : Str} (h : n ∈ nms T) : ∃ c, look T n = some c := by
  cases e : look T n with
  | some c => exact ⟨c, rfl⟩
  | none =>
    obtain ⟨c, hc, hn⟩ := List.mem_map.mp h
    unfold look at e
    rw [List.find?_eq_none] at e
    exact absurd (by simpa using hn) (e c hc)
theorem look_append {T U : Trk} {n : Str} (h : n ∈ nms T) : look (T ++ U) n = look T n := by
  obtain ⟨c, hc⟩ := look_some h
  unfold look at hc ⊢
  rw [List.find?_append, hc] <;> rfl

/-! ### what is live: by a function from names -/
def lvS (T : Trk) (P : Str → Bool) (n : Str) : Str → Bool := fun x => match look T n with
  | none => P x
  | some c => match c.c with
    | none => decide (x = n) || P x
    | some b => !decide (x = b) && P x
def lv (T : Trk) (row : List Str) : Str → Bool := row.foldl (lvS T) fun _ => false
theorem lv_snoc (T : Trk) (row : List Str) (n : Str) : lv T (row ++ [n]) = lvS T (lv T row) n := by
  unfold lv
  rw [List.foldl_append] <;> rfl
/-- whether a change may stand behind a row in which these are live -/
def fol (T : Trk) (P : Str → Bool) (c : Chg) : Bool := c.b.all P && match c.c with
  | none => !P c.a
  | some b => P b && !(T.any fun d => P d.a && d.b.any fun y => decide (y = b))
end K
end

section
set_option maxRecDepth 100000
set_option maxHeartbeats 1000000
namespace K
open PySem L2 Sm

theorem outR_rt {ρ : Type} (r : ρ) : outR (some (Out.rt r) : Option (Out Unit ρ)) = some r := rfl
theorem go_nx {τ τ' ρ : Type} (k : τ → Option (Out τ' ρ)) (s : τ) : Out.go k (Out.nx (ρ := ρ) s) = k s := rfl
theorem go_rt {τ τ' ρ : Type} (k : τ → Option (Out τ' ρ)) (r : ρ) : Out.go k (Out.rt r) = some (Out.rt r) := rfl
theorem q_str (x y : Str) : Eqs.q x y = decide (x = y) := rfl
theorem q_int (x y : Int) : Eqs.q x y = decide (x = y) := rfl
theorem q_bool (x y : Bool) : Eqs.q x y = decide (x = y) := rfl
theorem q_opt (x y : Option Str) : Eqs.q x y = decide (x = y) := rfl

theorem fol_eq {T : Trk} {D : Dct Bool} {n : Str} {c : Chg} (hn : (nms T).Nodup) (hc : look T n = some c) (hk : ∀ x, dhas D x = true → x ∈ nms T) (h1 : c.b.length ≤ 40000) (h2 : D.length ≤ 40000) : f_follows (bookOf T, D, n, ()) = some (fol T (dhas D) c) := by
  have hcn := (look_mem hc).2
  unfold f_follows m_follows
  simp only [Option.bind_some, dget_book, hc]
  rw [lcO_map (dhas D) c.b h1 (fun x _ => rfl)]
  simp only [Option.bind_some, all_map]
  unfold fol
  cases hall : c.b.all (dhas D) with
  | false => simp only [Bool.not_false, if_true, Option.bind_some, go_rt, outR_rt, Bool.false_and]
  | true =>
    simp only [Bool.not_true, Bool.false_eq_true, if_false, Option.bind_some, go_nx, Bool.true_and]
    cases hcc : c.c with
    | none => simp only [Option.isNone_none, if_true, Option.bind_some, go_rt, outR_rt, hcn]
    | some b =>
      simp only [Option.isNone_some, Bool.false_eq_true, if_false, Option.bind_some, go_nx]
      cases hb : dhas D b with
      | false => simp only [Bool.false_eq_true, if_false, Option.bind_some, outR_rt, Bool.false_and]
      | true =>
        have hkeys : lcO (fun _ => some true) (fun i3 => (look T i3).bind fun x => oIn b x.b) (D.map (·.1)) = some ((D.map (·.1)).map fun o => match look T o with | some d => d.b.any fun y => decide (y = b) | none => false) := by
          refine lcO_map _ _ (by rw [List.length_map]; exact h2) fun x hx => ?_
          obtain ⟨d, hd⟩ := look_some (hk x (dhas_iff.mpr hx))
          rw [hd] <;> rfl
        simp only [if_true, Option.bind_assoc, Option.bind_some] at hkeys ⊢
        rw [hkeys]
        simp only [Option.bind_some, any_map, outR_rt, Bool.true_and]
        congr 2
        rw [Bool.eq_iff_iff, List.any_eq_true, List.any_eq_true]
        constructor
        · rintro ⟨o, ho, e⟩
          have ho' := dhas_iff.mpr ho
          obtain ⟨d, hd⟩ := look_some (hk o ho')
          rw [hd] at e
          obtain ⟨m, en⟩ := look_mem hd
          exact ⟨d, m, by rw [en, ho']; exact e⟩
        · rintro ⟨d, hd, e⟩
          rw [Bool.and_eq_true] at e
          refine ⟨d.a, dhas_iff.mp e.1, ?_⟩
          rw [look_of hn hd]
          exact e.2
/-- the live names as a dict: built as put builds it -/
theorem put_eq {T : Trk} {D : Dct Bool} {n : Str} {c : Chg} (hc : look T n = some c) (hl : D.length < 50000) : ∃ D', putM (bookOf T) D n = some D' ∧ (∀ x, dhas D' x = lvS T (dhas D) n x) ∧ D'.length ≤ D.length + 1 := by
  unfold putM
  rw [dget_book, hc]
  show ∃ D', (match c.c with | none => if D.length < 50000 then some (dput D n true) else none | some b => some (ddrop D b)) = some D' ∧ _
  cases hcc : c.c with
  | none =>
    refine ⟨dput D n true, if_pos hl, fun x => ?_, dput_len _ _ _⟩
    rw [dhas_put]
    unfold lvS
    rw [hc]
    simp only [hcc]
  | some b =>
    refine ⟨ddrop D b, rfl, fun x => ?_, by have := ddrop_len D b; omega⟩
    rw [dhas_drop]
    unfold lvS
    rw [hc]
    simp only [hcc]
theorem lv_names {T : Trk} : ∀ {row : List Str} {x : Str}, lv T row x = true → ∃ c, look T x = some c ∧ c.c = none ∧ x ∈ row := by
  intro row
  have rev : ∀ r : List Str, ∀ x, lv T r.reverse x = true → ∃ c, look T x = some c ∧ c.c = none ∧ x ∈ r.reverse := by
    intro r
    induction r with
    | nil => intro x h; cases h
    | cons n r ih =>
      intro x h
      rw [List.reverse_cons] at h ⊢
      rw [lv_snoc] at h
      unfold lvS at h
      cases hl : look T n with
      | none =>
        rw [hl] at h
        obtain ⟨c, h1, h2, h3⟩ := ih x h
        exact ⟨c, h1, h2, by simp [h3] <;> exact .inl (by simpa using h3)⟩
      | some c =>
        rw [hl] at h
        cases hc : c.c with
        | none =>
          simp only [hc, Bool.or_eq_true, decide_eq_true_eq] at h
          rcases h with h | h
          · subst h; exact ⟨c, hl, hc, by simp⟩
          · obtain ⟨c', h1, h2, h3⟩ := ih x h
            exact ⟨c', h1, h2, List.mem_append_left _ h3⟩
        | some b =>
          simp only [hc, Bool.and_eq_true] at h
          obtain ⟨c', h1, h2, h3⟩ := ih x h.2
          exact ⟨c', h1, h2, List.mem_append_left _ h3⟩
  intro x h
  have := rev row.reverse x (by rw [List.reverse_reverse]; exact h)
  rwa [List.reverse_reverse] at this
/-- a row that stands -/
def stB (T : Trk) (row : List Str) : Prop := ∀ pre n post, row = pre ++ n :: post → ∃ c, look T n = some c ∧ fol T (lv T pre) c = true
theorem stB.mem {T : Trk} {row : List Str} (h : stB T row) : ∀ n ∈ row, n ∈ nms T := fun n hn => by
  obtain ⟨pre, post, e⟩ := List.append_of_mem hn
  obtain ⟨c, hc, _⟩ := h pre n post e
  obtain ⟨m, e2⟩ := look_mem hc
  exact List.mem_map.mpr ⟨c, m, e2⟩
theorem stands_eq {T : Trk} {row : List Str} (hn : (nms T).Nodup) (hb : ∀ c ∈ T, c.b.length ≤ 40000) (hs : stB T row) (hl : row.length ≤ 40000) : f_stands (bookOf T, row, ()) = some true := by
  have hr := hs.mem
  obtain ⟨D, h1, h2⟩ := loop_ok (ρ := Bool) (b := fun (s2 : (Dct Bool)) (i1 : Str) => ((((((((((((((some i1)).bind fun x => ((some ())).bind fun y => some (x, y))).bind fun y => some (s2, y))).bind fun y => some (bookOf T, y))).bind f_follows)).bind fun b => some !b)).bind fun b => if b then (((some false)).bind fun r => some (Out.rt (τ := Unit) r)) else some (Out.nx (ρ := Bool) ())).bind (Out.go fun _ => (((some i1)).bind fun k => (putM (bookOf T) s2 k).bind fun v3 => (some (Out.nx (ρ := Bool) v3))))))
    (fun D pre => (∀ x, dhas D x = lv T pre x) ∧ D.length ≤ pre.length) row [] ⟨fun _ => rfl, Nat.le_refl _⟩ (fun D pre n post e ⟨p1, p2⟩ => by
      have hlen : pre.length < row.length := by rw [e, List.length_append, List.length_cons]; omega
      obtain ⟨c, hc, hf⟩ := hs pre n post e
      obtain ⟨D', hp, q1, q2⟩ := put_eq (D := D) hc (by omega)
      have ed : dhas D = lv T pre := funext p1
      refine ⟨D', ?_, fun x => ?_, by rw [List.length_append]; show _ ≤ pre.length + 1; omega⟩
      · have hfe := fol_eq (D := D) hn hc (fun x hx => by
          rw [p1] at hx
          obtain ⟨c', h', _⟩ := lv_names hx
          obtain ⟨m, e2⟩ := look_mem h'
          exact List.mem_map.mpr ⟨c', m, e2⟩) (hb c (look_mem hc).1) (by omega)
        simp only [Option.bind_some, hfe, ed, hf, Bool.not_true, Bool.false_eq_true, if_false, go_nx, hp]
      · rw [q1, lv_snoc, ed])
  unfold f_stands m_stands
  simp only [Option.bind_some] at h1 ⊢
  rw [h1]
  rfl
end K
end

section
set_option maxRecDepth 100000
set_option maxHeartbeats 1000000
namespace K
open PySem L2 Sm

theorem loop_then {τ ρ α β : Type} {b : τ → α → Option (Out τ ρ)} {xs : List α} {s0 : τ} {k : Out τ ρ → Option β} {r : Option β} (P : τ → List α → Prop) (h0 : P s0 []) (hs : ∀ s pre x post, xs = pre ++ x :: post → P s pre → ∃ s', b s x = some (.nx s') ∧ P s' (pre ++ [x])) (hk : ∀ s', P s' xs → k (.nx s') = r) : (loopM b s0 xs).bind k = r := by
  obtain ⟨s, h1, h2⟩ := loop_ok P xs s0 h0 hs
  rw [h1]
  exact hk s h2
/-- a loop that goes on just as a fold does -/
theorem loop_fold {τ ρ α : Type} {b : τ → α → Option (Out τ ρ)} (g : τ → α → τ) (xs : List α) (s0 : τ) (I : τ → Prop) (h0 : I s0) (h : ∀ s x, x ∈ xs → I s → b s x = some (.nx (g s x)) ∧ I (g s x)) : loopM b s0 xs = some (.nx (xs.foldl g s0)) ∧ I (xs.foldl g s0) := by
  induction xs generalizing s0 with
  | nil => exact ⟨rfl, h0⟩
  | cons x xs ih =>
    obtain ⟨h1, h2⟩ := h s0 x List.mem_cons_self h0
    obtain ⟨h3, h4⟩ := ih (g s0 x) h2 fun s y hy => h s y (List.mem_cons_of_mem _ hy)
    refine ⟨?_, h4⟩
    show (b s0 x).bind _ = _
    rw [h1]
    exact h3

abbrev Nm (x : Str) : Prop := f_is_name (x, ()) = some true
def pl (T : Trk) (x : Str) : Prop := ∃ d, look T x = some d ∧ d.c = none ∧ Nm x
structure okN (xs : List Str) : Prop where
  nm : ∀ x ∈ xs, Nm x
  nd : xs.Nodup
  ln : xs.length ≤ 4000
structure okC (T : Trk) (c : Chg) : Prop where
  a : Nm c.a
  n : c.a ∉ nms T
  b : ∀ x ∈ c.b, pl T x
  bn : c.b.Nodup
  bl : c.b.length ≤ 4000
  d : okN c.d
  e : okN c.e
  k : ∀ b, c.c = some b → pl T b ∧ c.d = [] ∧ c.e = []
  f : fol T (lv T (nms T)) c = true
inductive okT : Trk → Prop
  | nil : okT []
  | snoc {T : Trk} {c : Chg} : okT T → okC T c → okT (T ++ [c])
theorem nms_append (T U : Trk) : nms (T ++ U) = nms T ++ nms U := List.map_append
theorem okT.nodup {T : Trk} (h : okT T) : (nms T).Nodup := by
  induction h with
  | nil => exact List.nodup_nil
  | snoc _ hc ih =>
    rw [nms_append, List.nodup_append]
    refine ⟨ih, by simp [nms], ?_⟩
    intro a ha b hb e
    subst e
    have hb' : a = _ := List.mem_singleton.mp hb
    rw [hb'] at ha
    exact hc.n ha
theorem okT.split {T : Trk} (h : okT T) : ∀ pre c post, T = pre ++ c :: post → okT pre ∧ okC pre c := by
  induction h with
  | nil => intro pre c post e; simp at e
  | @snoc T c hT hc ih =>
    intro pre c' post e
    rcases List.eq_nil_or_concat post with rfl | ⟨post', d, rfl⟩
    · have := List.append_inj' e rfl
      obtain ⟨e1, e2⟩ := this
      cases e2
      subst e1
      exact ⟨hT, hc⟩
    · rw [List.concat_eq_append, ← List.cons_append, ← List.append_assoc] at e
      obtain ⟨e1, _⟩ := List.append_inj' e rfl
      exact ih pre c' post' e1
theorem okT.bl {T : Trk} (h : okT T) : ∀ c ∈ T, c.b.length ≤ 40000 := fun c hc => by
  obtain ⟨pre, post, e⟩ := List.append_of_mem hc
  have := (h.split pre c post e).2.bl
  omega
theorem okT.nm {T : Trk} (h : okT T) : ∀ n ∈ nms T, Nm n := fun n hn => by
  obtain ⟨c, hc, e⟩ := List.mem_map.mp hn
  obtain ⟨pre, post, e2⟩ := List.append_of_mem hc
  exact e ▸ (h.split pre c post e2).2.a
theorem are_names_t {xs : List Str} (h : ∀ x ∈ xs, Nm x) (hl : xs.length ≤ 40000) : f_are_names (xs, ()) = some true := by
  unfold f_are_names m_are_names
  simp only [Option.bind_some, if_true]
  rw [lcO_map (h := fun i1 => f_is_name (i1, ())) (fun _ => true) xs hl (fun x hx => h x hx)]
  simp only [Option.bind_some, all_map, outR_rt]
  simp
theorem unlike_t {xs : List Str} (h : okN xs) : f_are_unlike_names (xs, ()) = some true := by
  have hl := h.ln
  unfold f_are_unlike_names m_are_unlike_names
  simp only [Option.bind_some, are_names_t h.nm (by omega), if_true, decide_eq_true h.nd, decide_eq_true h.ln, Bool.and_self, oEq, q_int, outR_rt, decide_true]
theorem plain_t {T : Trk} {x : Str} (h : pl T x) : f_is_plain (bookOf T, x, ()) = some true := by
  obtain ⟨d, h1, h2, h3⟩ := h
  unfold f_is_plain m_is_plain
  simp only [Option.bind_some, show f_is_name (x, ()) = some true from h3, if_true, dhas_get, dget_book, h1, Option.isSome_some, h2, Option.isNone_none, outR_rt]
theorem dhas_book (T : Trk) (n : Str) : dhas (bookOf T) n = decide (n ∈ nms T) := by
  rw [Bool.eq_iff_iff, dhas_iff, keys_book, decide_eq_true_eq]
theorem change_t {T : Trk} {c : Chg} (h : okC T c) : f_is_change (bookOf T, c, ()) = some true := by
  have hb := h.bl
  have hbs : lcO (fun _ => some true) (fun i2 => f_is_plain (bookOf T, i2, ())) c.b = some (c.b.map fun _ => true) := lcO_map _ _ (by omega) fun x hx => plain_t (h.b x hx)
  have hbn : okN c.b := ⟨fun x hx => (h.b x hx).choose_spec.2.2, h.bn, hb⟩
  unfold f_is_change m_is_change
  simp only [Option.bind_some, Bool.not_true, Bool.false_eq_true, if_false, oNe, q_int, decide_true, go_nx, show f_is_name (c.a, ()) = some true from h.a, dhas_book, decide_eq_false h.n, unlike_t hbn, hbs, all_map, unlike_t h.d, unlike_t h.e]
  have : (c.b.all fun _ => true) = true := by simp
  simp only [this, Bool.not_true, Bool.false_eq_true, if_false, Option.bind_some, go_nx]
  cases hc : c.c with
  | none => simp only [Option.isNone_none, if_true, Option.bind_some, go_rt, outR_rt]
  | some b =>
    obtain ⟨k1, k2, k3⟩ := h.k b hc
    simp only [Option.isNone_some, Bool.false_eq_true, if_false, if_true, Option.bind_some, go_nx, plain_t k1, k2, k3, List.isEmpty_nil, outR_rt]

/-! ### what lies behind doesn't matter -/
theorem look_pre {pre post : Trk} (hn : (nms (pre ++ post)).Nodup) {n : Str} (h : n ∈ nms pre) : look (pre ++ post) n = look pre n := look_append h
theorem lv_pre {pre post : Trk} : ∀ {row : List Str}, (∀ n ∈ row, n ∈ nms pre) → lv (pre ++ post) row = lv pre row := by
  intro row h
  have rev : ∀ r : List Str, (∀ n ∈ r.reverse, n ∈ nms pre) → lv (pre ++ post) r.reverse = lv pre r.reverse := by
    intro r
    induction r with
    | nil => intro _; rfl
    | cons n r ih =>
      intro h
      rw [List.reverse_cons] at h ⊢
      rw [lv_snoc, lv_snoc, ih fun m hm => h m (List.mem_append_left _ hm)]
      unfold lvS
      rw [look_append (h n (by simp))]
  have := rev row.reverse (by rw [List.reverse_reverse]; exact h)
  rwa [List.reverse_reverse] at this
theorem lv_in {T : Trk} {row : List Str} {x : Str} (h : lv T row x = true) : x ∈ nms T := by
  obtain ⟨c, hc, _⟩ := lv_names h
  obtain ⟨m, e⟩ := look_mem hc
  exact List.mem_map.mpr ⟨c, m, e⟩
theorem fol_pre {pre post : Trk} {P : Str → Bool} {c : Chg} (hn : (nms (pre ++ post)).Nodup) (hP : ∀ x, P x = true → x ∈ nms pre) : fol (pre ++ post) P c = fol pre P c := by
  unfold fol
  cases c.c with
  | none => rfl
  | some b =>
    have : (post.any fun d => P d.a && d.b.any fun y => decide (y = b)) = false := by
      rw [List.any_eq_false]
      intro d hd e
      rw [Bool.and_eq_true] at e
      rw [nms_append, List.nodup_append] at hn
      exact hn.2.2 d.a (hP _ e.1) d.a (List.mem_map.mpr ⟨d, hd, rfl⟩) rfl
    show (_ && (_ && !List.any (pre ++ post) _)) = _
    rw [List.any_append, this, Bool.or_false]
theorem okT.stands {T : Trk} (h : okT T) (m : Nat) : stB T ((nms T).take m) := by
  intro pre n post e
  have e1 : nms T = pre ++ n :: (post ++ (nms T).drop m) := by
    have h0 := List.take_append_drop m (nms T)
    rw [e] at h0
    rw [← List.cons_append, ← List.append_assoc]
    exact h0.symm
  obtain ⟨p, c, q, e2, e3, e4⟩ : ∃ p c q, T = p ++ c :: q ∧ nms p = pre ∧ c.a = n := by
    obtain ⟨p, r, e2, e3, e4⟩ := List.map_eq_append_iff.mp e1
    obtain ⟨c, q, e5, e6, e7⟩ := List.map_eq_cons_iff.mp e4
    exact ⟨p, c, q, by rw [e2, e5], e3, e6⟩
  obtain ⟨hp, hc⟩ := h.split p c q e2
  have hn := h.nodup
  refine ⟨c, ?_, ?_⟩
  · rw [← e4]; exact look_of hn (by rw [e2]; simp)
  · subst e2
    rw [← e3, lv_pre (fun n hn => hn), fol_pre hn fun x hx => lv_in hx]
    exact hc.f

/-! ### what the program's tests tell of a trunk that is one -/
theorem enum_split {α : Type} {T : List α} {pre : List (T2 Int α)} {x : T2 Int α} {post : List (T2 Int α)} (e : (T.zipIdx.map fun p => T2.mk (p.2 : Int) p.1) = pre ++ x :: post) : T = pre.map (·.b) ++ x.b :: post.map (·.b) ∧ x.a = (pre.length : Int) := by
  have h1 : (T.zipIdx.map fun p => (T2.mk (p.2 : Int) p.1).b) = T := by
    show T.zipIdx.map Prod.fst = T
    exact List.zipIdx_map_fst 0 T
  constructor
  · have := congrArg (List.map (·.b)) e
    rw [List.map_map, List.map_append, List.map_cons] at this
    exact h1.symm.trans this
  · have := congrArg (fun l => l[pre.length]?) e
    simp only [List.getElem?_map, List.getElem?_zipIdx, Nat.zero_add] at this
    rw [List.getElem?_append_right (Nat.le_refl _), Nat.sub_self, List.getElem?_cons_zero] at this
    cases q : T[pre.length]? with
    | none => rw [q] at this; cases this
    | some c => rw [q] at this; exact (congrArg (fun o => (o : Option (T2 Int α)).map (·.a)) this |> fun h => by simpa using h.symm)
theorem enum_len {α : Type} (T : List α) : (T.zipIdx.map fun p => T2.mk (p.2 : Int) p.1).length = T.length := by simp
theorem put_book {T : Trk} {c : Chg} (h : c.a ∉ nms T) : dput (bookOf T) c.a c = bookOf (T ++ [c]) := by
  unfold dput
  rw [any_key, dhas_book, decide_eq_false h]
  simp only [Bool.false_eq_true, if_false]
  unfold bookOf
  rw [List.map_append] <;> rfl
theorem lvS_pre {pre post : Trk} {P : Str → Bool} {n : Str} (h : n ∈ nms pre) : lvS (pre ++ post) P n = lvS pre P n := by
  unfold lvS
  rw [look_append h]
theorem wrong_t {T : Trk} (h : okT T) (h0 : T ≠ []) (hl : T.length ≤ 24) : f_wrong_change (T, ()) = some none := by
  have he : T.isEmpty = false := by cases T with | nil => exact absurd rfl h0 | cons => rfl
  unfold f_wrong_change m_wrong_change
  simp only [Option.bind_some, Bool.not_true, Bool.not_false, Bool.false_eq_true, if_false, he, go_nx]
  rw [loop_then (r := some (Out.rt (none : Option Int))) (fun (s : Dct Chg × Dct Bool) pre => s.1 = bookOf (pre.map (·.b)) ∧ (∀ x, dhas s.2 x = lv (pre.map (·.b)) (nms (pre.map (·.b))) x) ∧ s.2.length ≤ pre.length)]
  · rfl
  · exact ⟨rfl, fun _ => rfl, Nat.le_refl _⟩
  · rintro ⟨bk, D⟩ pre ⟨i, c⟩ post e ⟨p1, p2, p3⟩
    obtain ⟨e1, e2⟩ := enum_split e
    simp only at e1 e2 p1 p2 p3
    obtain ⟨hp, hc⟩ := h.split _ _ _ e1
    have hlen : pre.length < 24 := by
      have := congrArg List.length e1
      rw [List.length_append, List.length_map, List.length_cons, List.length_map] at this
      omega
    have hn1 : (nms (pre.map (·.b) ++ [c])).Nodup := (okT.snoc hp hc).nodup
    have hlk : look (pre.map (·.b) ++ [c]) c.a = some c := look_of hn1 (by simp)
    have hin : ∀ x, dhas D x = true → x ∈ nms (pre.map (·.b)) := fun x hx => lv_in (by rw [← p2]; exact hx)
    have hf : f_follows (bookOf (pre.map (·.b) ++ [c]), D, c.a, ()) = some true := by
      rw [fol_eq hn1 hlk (fun x hx => by rw [nms_append]; exact List.mem_append_left _ (hin x hx)) (by have := hc.bl; omega) (by omega), fol_pre hn1 hin, show dhas D = lv (pre.map (·.b)) (nms (pre.map (·.b))) from funext p2, hc.f]
    obtain ⟨D', hp', q1, q2⟩ := put_eq (T := pre.map (·.b) ++ [c]) (D := D) hlk (by omega)
    refine ⟨(bookOf (pre.map (·.b) ++ [c]), D'), ?_, by simp, fun x => ?_, by rw [List.length_append]; show D'.length ≤ pre.length + 1; omega⟩
    · subst p1
      have hlt : (bookOf (pre.map (·.b))).length < 50000 := by rw [len_book, List.length_map]; omega
      have h24 : decide (i = 24) = false := by rw [decide_eq_false_iff_not]; omega
      simp only [Option.bind_some, oEq, q_int, h24, Bool.false_eq_true, if_false, change_t hc, Bool.not_true, go_nx, if_pos hlt, put_book hc.n, hf, hp']
    · rw [List.map_append, List.map_cons, List.map_nil, nms_append, show nms [c] = [c.a] from rfl, lv_snoc, lv_pre (fun n hn => hn), q1, show dhas D = lv (pre.map (·.b)) (nms (pre.map (·.b))) from funext p2]
  · rintro ⟨bk, D⟩ ⟨p1, _⟩
    simp only [go_nx]
theorem book_t {T : Trk} (h : okT T) (hl : T.length ≤ 24) : f_book_of (T, ()) = some (bookOf T) := by
  have go : ∀ post pre, T = pre ++ post → dcM (fun i1 : Chg => some i1.a) (fun i1 : Chg => some i1) (bookOf pre) post = some (bookOf T) := by
    intro post
    induction post with
    | nil => intro pre e; rw [List.append_nil] at e; rw [e] <;> rfl
    | cons c post ih =>
      intro pre e
      show dcM _ _ (dput (bookOf pre) c.a c) post = _
      rw [put_book (h.split pre c post e).2.n]
      exact ih (pre ++ [c]) (by rw [e, List.append_assoc] <;> rfl)
  unfold f_book_of m_book_of
  simp only [Option.bind_some, dcO, if_pos (show T.length ≤ 40000 by omega)]
  rw [show ([] : Dct Chg) = bookOf [] from rfl, go T [] rfl]
  rfl
theorem trunk_t {T : Trk} (h : okT T) (h0 : T ≠ []) (hl : T.length ≤ 24) : f_checked_trunk (T, ()) = some (bookOf T) := by
  unfold f_checked_trunk m_checked_trunk
  simp only [Option.bind_some, wrong_t h h0 hl, Option.isNone_none, Bool.not_true, Bool.false_eq_true, if_false, go_nx, book_t h hl]
  rfl
end K
end

section
set_option maxRecDepth 100000
set_option maxHeartbeats 1000000
namespace K
open PySem L2 Sm
abbrev Lin := T3 Str Int (List Str)
def rowOf (T : Trk) (L : Lin) : List Str := (nms T).take L.b.toNat ++ L.c
structure okL (T : Trk) (L : Lin) : Prop where
  a : Nm L.a
  b0 : 0 ≤ L.b
  b1 : L.b ≤ (T.length : Int)
  cl : L.c.length ≤ 40
  s : stB T (rowOf T L)
structure Ok (T : Trk) : Prop where
  t : okT T
  n0 : T ≠ []
  l : T.length ≤ 24
theorem cut_take {α : Type} (xs : List α) {m : Int} (h : 0 ≤ m) : cut xs none (some m) = xs.take m.toNat := by
  unfold cut HT.sIx
  show (xs.drop 0).take ((if m < 0 then _ else min m.toNat xs.length) - 0) = _
  rw [if_neg (by omega), List.drop_zero, Nat.sub_zero]
  exact (List.take_eq_take_min ..).symm
theorem cut_drop {α : Type} (xs : List α) {m : Int} (h : 0 ≤ m) : cut xs (some m) none = xs.drop m.toNat := by
  unfold cut HT.sIx
  show (xs.drop (if m < 0 then _ else min m.toNat xs.length)).take (xs.length - (if m < 0 then _ else min m.toNat xs.length)) = _
  rw [if_neg (by omega)]
  rw [List.take_of_length_le (by rw [List.length_drop]; omega)]
  by_cases q : m.toNat ≤ xs.length
  · rw [Nat.min_eq_left q]
  · rw [Nat.min_eq_right (by omega), List.drop_of_length_le (Nat.le_refl _), List.drop_of_length_le (by omega)]
theorem row_of_t {T : Trk} {L : Lin} (b0 : 0 ≤ L.b) (h1 : T.length ≤ 24) (h2 : L.c.length ≤ 40) : f_row_of (bookOf T, L, ()) = some (rowOf T L) := by
  have hl : ((nms T).take L.b.toNat).length + L.c.length ≤ 100000 := by
    rw [List.length_take]
    have : (nms T).length = T.length := List.length_map _
    omega
  unfold f_row_of m_row_of
  simp only [Option.bind_some, keys_book, cut_take _ b0, oCat, if_pos hl, outR_rt]
  rfl
theorem rowOf_len {T : Trk} {L : Lin} (h1 : T.length ≤ 24) (h2 : L.c.length ≤ 40) : (rowOf T L).length ≤ 64 := by
  unfold rowOf
  rw [List.length_append, List.length_take]
  have : (nms T).length = T.length := List.length_map _
  omega
theorem line_t {T : Trk} {L : Lin} (hT : Ok T) (hL : okL T L) : f_is_line_l (bookOf T, L, ()) = some true := by
  have hcl := hL.cl
  have hc : ∀ x ∈ L.c, x ∈ nms T := fun x hx => hL.s.mem x (List.mem_append_right _ hx)
  have hs := stands_eq hT.t.nodup hT.t.bl hL.s (by have := rowOf_len (L := L) hT.l hL.cl; omega)
  have hnum : f_is_number (L.b, ()) = some true := by
    unfold f_is_number m_is_number
    simp only [Option.bind_some, if_true, Bool.not_false, outR_rt]
  have h40 : decide ((40 : Int) < (L.c.length : Int)) = false := by rw [decide_eq_false_iff_not]; omega
  have hbook : lcO (fun _ => some true) (fun i2 => some (dhas (bookOf T) i2)) L.c = some (L.c.map fun _ => true) := lcO_map _ _ (by omega) fun x hx => by rw [dhas_book, decide_eq_true (hc x hx)]
  have hall : (L.c.all fun _ => true) = true := by simp
  unfold f_is_line_l m_is_line_l
  simp only [Option.bind_some, Bool.not_true, Bool.false_eq_true, if_false, oNe, q_int, decide_true, go_nx, show f_is_name (L.a, ()) = some true from hL.a, hnum, decide_eq_true hL.b0, if_true, len_book, decide_eq_true hL.b1, are_names_t (fun x hx => hT.t.nm x (hc x hx)) (by omega : L.c.length ≤ 40000), oGt, h40, hbook, all_map, hall, row_of_t hL.b0 hT.l hL.cl, hs, outR_rt]
/-- what a row leaves live, in the trunk's order -/
def lvL (T : Trk) (row : List Str) : List Str := (nms T).filter (lv T row)
theorem in_any (x : Str) (xs : List Str) : (xs.any fun y => decide (y = x)) = decide (x ∈ xs) := by
  rw [Bool.eq_iff_iff, List.any_eq_true, decide_eq_true_eq]
  exact ⟨fun ⟨y, hy, e⟩ => of_decide_eq_true e ▸ hy, fun h => ⟨x, h, decide_eq_true rfl⟩⟩
def lns (T : Trk) (x : Str) : List Str := match look T x with | some c => c.b | none => []
theorem lns_of {T : Trk} {x : Str} {c : Chg} (h : look T x = some c) : lns T x = c.b := by unfold lns; rw [h]
/-- one who looks whether this leans on n, or on what hangs -/
def hgS (ln : Str → List Str) (n : Str) (acc : List Str) (x : Str) : List Str := if ((ln x).any fun l => decide (l = n) || decide (l ∈ acc)) = true then acc ++ [x] else acc
theorem hgS_len {ln : Str → List Str} {n : Str} (acc : List Str) (x : Str) : (hgS ln n acc x).length ≤ acc.length + 1 := by
  unfold hgS
  split
  · rw [List.length_append]; exact Nat.le_refl _
  · omega
theorem lvL_len {T : Trk} {row : List Str} (h : T.length ≤ 24) : (lvL T row).length ≤ 24 := by
  have h1 := List.length_filter_le (lv T row) (nms T)
  have h2 : (nms T).length = T.length := List.length_map _
  unfold lvL
  omega
/-- a line's first picks -/
def cutL (L : Lin) (k : Int) : Lin := ⟨L.a, L.b, L.c.take k.toNat⟩
theorem cutL_mem {T : Trk} {L : Lin} {k : Int} (h : ∀ n ∈ rowOf T L, n ∈ nms T) : ∀ n ∈ rowOf T (cutL L k), n ∈ nms T := fun n hn => by
  rcases List.mem_append.mp hn with h1 | h1
  · exact h n (List.mem_append_left _ h1)
  · exact h n (List.mem_append_right _ (List.mem_of_mem_take h1))
theorem cutL_len {L : Lin} {k : Int} (h : L.c.length ≤ 40) : (cutL L k).c.length ≤ 40 := by
  show (L.c.take _).length ≤ 40
  rw [List.length_take]; omega
theorem outs {α : Type} (xs ys : List Str) (hl : xs.length ≤ 24) : lcO (fun i => some (!decide (i ∈ ys))) (fun i => some i) xs = some (xs.filter fun i => !decide (i ∈ ys)) := lcO_filter _ _ (by omega) fun _ _ => rfl
end K
end

section
set_option maxRecDepth 100000
set_option maxHeartbeats 1000000
namespace K
open PySem L2 Sm
theorem head_find {α : Type} (p : α → Bool) (xs : List α) : (xs.filter p)[0]? = xs.find? p := by
  rw [← List.head?_eq_getElem?, List.head?_filter]
theorem oIx_zero {α : Type} (xs : List α) : oIx xs 0 = xs[0]? := by
  cases xs with
  | nil => rfl
  | cons x xs => unfold oIx atI ixN; simp
theorem oIx_nat {α : Type} (xs : List α) (k : Nat) (h : k < xs.length) : oIx xs (k : Int) = xs[k]? := by
  unfold oIx atI ixN
  rw [if_pos (by omega), if_pos (by omega)]
  simp only [Option.bind_some, Int.toNat_natCast]
theorem law_of_t {T : Trk} (n : Str) (hl : T.length ≤ 24) : f_law_of (T, n, ()) = look T n := by
  unfold f_law_of m_law_of
  simp only [Option.bind_some, oEq, q_str]
  rw [lcO_filter (fun c : Chg => decide (c.a = n)) T (by omega) fun _ _ => rfl]
  simp only [Option.bind_some, oIx_zero, head_find]
  unfold look
  cases T.find? _ <;> rfl

/-! ### what is live, by last places -/
def lxr : List Str → Str → Int
  | [], _ => -1
  | n :: r, x => if x = n then (r.length : Int) else lxr r x
def lx (row : List Str) (x : Str) : Int := lxr row.reverse x
theorem lx_snoc (row : List Str) (n x : Str) : lx (row ++ [n]) x = if x = n then (row.length : Int) else lx row x := by
  unfold lx
  rw [List.reverse_append]
  show (if x = n then (row.reverse.length : Int) else _) = _
  rw [List.length_reverse] <;> rfl
theorem lxr_lt : ∀ (r : List Str) (x : Str), lxr r x < (r.length : Int) ∧ -1 ≤ lxr r x
  | [], _ => ⟨by show (-1 : Int) < 0; decide, Int.le_refl _⟩
  | n :: r, x => by
    obtain ⟨h1, h2⟩ := lxr_lt r x
    show (if x = n then (r.length : Int) else lxr r x) < ((r.length + 1 : Nat) : Int) ∧ -1 ≤ (if x = n then (r.length : Int) else lxr r x)
    split <;> omega
theorem lx_lt (row : List Str) (x : Str) : lx row x < (row.length : Int) ∧ -1 ≤ lx row x := by
  have := lxr_lt row.reverse x
  rw [List.length_reverse] at this
  exact this
def gxS (row : List Str) (y : Str) (m : Int) (c : Chg) : Int := if c.c = some y then max m (lx row c.a) else m
def gx (T : Trk) (row : List Str) (y : Str) : Int := T.foldl (gxS row y) (-1)
theorem fold_same {T : Trk} {row : List Str} {n y : Str} (h : ∀ c ∈ T, c.c = some y → c.a ≠ n) (m : Int) : T.foldl (gxS (row ++ [n]) y) m = T.foldl (gxS row y) m := by
  induction T generalizing m with
  | nil => rfl
  | cons c T ih =>
    rw [List.foldl_cons, List.foldl_cons, ih (fun d hd => h d (List.mem_cons_of_mem _ hd))]
    congr 1
    unfold gxS
    by_cases e : c.c = some y
    · rw [if_pos e, if_pos e, lx_snoc, if_neg (h c List.mem_cons_self e)]
    · rw [if_neg e, if_neg e]
theorem fold_lt {T : Trk} {row : List Str} {y : Str} (m : Int) (hm : m < (row.length : Int)) : T.foldl (gxS row y) m < (row.length : Int) := by
  induction T generalizing m with
  | nil => exact hm
  | cons c T ih =>
    rw [List.foldl_cons]
    refine ih _ ?_
    unfold gxS
    have := (lx_lt row c.a).1
    split
    · rw [Int.max_def]; split <;> assumption
    · exact hm
theorem fold_ge {T : Trk} {row : List Str} {y : Str} (m : Int) : m ≤ T.foldl (gxS row y) m := by
  induction T generalizing m with
  | nil => exact Int.le_refl _
  | cons c T ih =>
    rw [List.foldl_cons]
    refine Int.le_trans ?_ (ih _)
    unfold gxS
    split
    · exact Int.le_max_left _ _
    · exact Int.le_refl _
theorem fold_in {T : Trk} {row : List Str} {y : Str} {c : Chg} (hc : c ∈ T) (h : c.c = some y) (m : Int) : lx row c.a ≤ T.foldl (gxS row y) m := by
  induction T generalizing m with
  | nil => cases hc
  | cons d T ih =>
    rw [List.foldl_cons]
    rcases List.mem_cons.mp hc with rfl | hc
    · refine Int.le_trans ?_ (fold_ge _)
      unfold gxS
      rw [if_pos h]
      exact Int.le_max_right _ _
    · exact ih hc _
/-- by the last places: just the same names are live -/
theorem lv_last {T : Trk} (hn : (nms T).Nodup) {x : Str} {d : Chg} (hx : look T x = some d) (hd : d.c = none) : ∀ row : List Str, (∀ n ∈ row, n ∈ nms T) → lv T row x = decide (gx T row x < lx row x) := by
  intro row hr
  have rev : ∀ r : List Str, (∀ n ∈ r.reverse, n ∈ nms T) → lv T r.reverse x = decide (gx T r.reverse x < lx r.reverse x) := by
    intro r
    induction r with
    | nil =>
      intro _
      symm
      rw [show ([] : List Str).reverse = [] from rfl]
      show decide _ = false
      rw [decide_eq_false_iff_not]
      have := fold_ge (T := T) (row := []) (y := x) (-1)
      show ¬ (T.foldl (gxS [] x) (-1) < -1)
      omega
    | cons n r ih =>
      intro h
      rw [List.reverse_cons] at h ⊢
      have ih' := ih fun m hm => h m (List.mem_append_left _ hm)
      rw [lv_snoc]
      obtain ⟨c, hc⟩ := look_some (h n (by simp))
      have hcm := look_mem hc
      have hxm := look_mem hx
      unfold lvS
      rw [hc]
      simp only [lx_snoc]
      cases hcc : c.c with
      | none =>
        have hg : gx T (r.reverse ++ [n]) x = gx T r.reverse x := fold_same (fun e he hec hea => by
          have h1 := look_of hn he
          rw [hea, hc] at h1
          cases h1
          rw [hcc] at hec; cases hec) _
        rw [hg]
        simp only
        by_cases e : x = n
        · rw [if_pos e, decide_eq_true e, Bool.true_or, eq_comm, decide_eq_true_eq]
          exact fold_lt _ (by omega)
        · rw [if_neg e, decide_eq_false e, Bool.false_or, ih']
      | some b =>
        have hxn : x ≠ n := fun e => by
          subst e
          rw [hc] at hx
          cases hx
          rw [hcc] at hd; cases hd
        rw [if_neg hxn]
        simp only
        by_cases e : x = b
        · rw [decide_eq_true e, Bool.not_true, Bool.false_and, eq_comm, decide_eq_false_iff_not]
          have h1 := fold_in (row := r.reverse ++ [n]) hcm.1 (hcc.trans (congrArg some e.symm)) (-1)
          rw [hcm.2, lx_snoc, if_pos rfl] at h1
          have h2 := (lx_lt r.reverse x).1
          unfold gx
          omega
        · have hg : gx T (r.reverse ++ [n]) x = gx T r.reverse x := fold_same (fun f hf hfc hfa => by
            have h1 := look_of hn hf
            rw [hfa, hc] at h1
            cases h1
            rw [hcc] at hfc
            cases hfc
            exact e rfl) _
          rw [hg, decide_eq_false e, Bool.not_false, Bool.true_and, ih']
  have := rev row.reverse (by rw [List.reverse_reverse]; exact hr)
  rwa [List.reverse_reverse] at this
end K
end

section
set_option maxRecDepth 100000
set_option maxHeartbeats 1000000
namespace K
open PySem L2 Sm
abbrev enum {α : Type} (xs : List α) : List (T2 Int α) := xs.zipIdx.map fun p => T2.mk (p.2 : Int) p.1
theorem lx_in (row : List Str) (x : Str) : x ∈ row ↔ 0 ≤ lx row x := by
  have rev : ∀ r : List Str, x ∈ r ↔ 0 ≤ lxr r x := by
    intro r
    induction r with
    | nil => exact ⟨fun h => (by cases h), fun h => by have : (0 : Int) ≤ -1 := h; omega⟩
    | cons n r ih =>
      show _ ↔ 0 ≤ (if x = n then (r.length : Int) else lxr r x)
      rw [List.mem_cons, ih]
      by_cases e : x = n
      · rw [if_pos e]; exact ⟨fun _ => by omega, fun _ => .inl e⟩
      · rw [if_neg e]; exact ⟨fun h => h.resolve_left e, fun h => .inr h⟩
  unfold lx
  rw [← rev, List.mem_reverse]
/-- the first loop: the last places -/
theorem last_t {ρ : Type} {b : Dct Int → T2 Int Str → Option (Out (Dct Int) ρ)} (row : List Str) (hl : row.length ≤ 100) (hb : ∀ s i, s.length < 50000 → b s i = some (.nx (dput s i.b i.a))) :
    ∃ D, loopM b [] (enum row) = some (.nx D) ∧ (∀ x, dget D x = if x ∈ row then some (lx row x) else none) := by
  obtain ⟨D, h1, h2, _⟩ := loop_ok (b := b) (fun D pre => (∀ x, dget D x = if x ∈ pre.map (·.b) then some (lx (pre.map (·.b)) x) else none) ∧ D.length ≤ pre.length) (enum row) []
    ⟨fun x => rfl, Nat.le_refl _⟩ (fun D pre x post e ⟨p1, p2⟩ => by
      obtain ⟨e1, e2⟩ := enum_split e
      have hlen : pre.length < 100 := by
        have := congrArg List.length e1
        rw [List.length_append, List.length_map, List.length_cons, List.length_map] at this
        omega
      refine ⟨_, hb D x (by omega), fun y => ?_, by have := dput_len D x.b x.a; rw [List.length_append]; show _ ≤ pre.length + 1; omega⟩
      rw [dget_put, List.map_append, List.map_cons, List.map_nil, lx_snoc, p1, List.length_map]
      by_cases q : y = x.b
      · rw [if_pos q, if_pos q, if_pos (by simp [q]), e2]
      · rw [if_neg q, if_neg q]
        by_cases r : y ∈ pre.map (·.b)
        · rw [if_pos r, if_pos (List.mem_append_left _ r)]
        · rw [if_neg r, if_neg (by simp only [List.mem_append, List.mem_singleton]; exact fun h => h.elim r q)])
  refine ⟨D, h1, ?_⟩
  have : (enum row).map (·.b) = row := by rw [List.map_map]; exact List.zipIdx_map_fst 0 row
  rw [this] at h2
  exact h2
/-- the middle loop: where a change that backs stands last -/
theorem gone_t {ρ : Type} {b : Dct Int → T2 Int Str → Option (Out (Dct Int) ρ)} (row : List Str) (hl : row.length ≤ 100) (n k : Str) (D0 : Dct Int) (h0 : D0.length ≤ 5000) (hge : -1 ≤ (dget D0 k).getD (-1))
    (hb : ∀ s i, s.length < 50000 → b s i = some (.nx (if i.b = n then dput s k (max i.a ((dget s k).getD (-1))) else s))) :
    ∃ D, loopM b D0 (enum row) = some (.nx D) ∧ (∀ y, (dget D y).getD (-1) = if y = k then max ((dget D0 y).getD (-1)) (lx row n) else (dget D0 y).getD (-1)) ∧ D.length ≤ D0.length + row.length := by
  obtain ⟨D, h1, h2, h3⟩ := loop_ok (b := b) (fun D pre => (∀ y, (dget D y).getD (-1) = if y = k then max ((dget D0 y).getD (-1)) (lx (pre.map (·.b)) n) else (dget D0 y).getD (-1)) ∧ D.length ≤ D0.length + pre.length) (enum row) D0
    ⟨fun y => by
      by_cases q : y = k
      · rw [if_pos q, q]
        show _ = max _ (-1)
        rw [Int.max_def]
        split
        · omega
        · rfl
      · rw [if_neg q], Nat.le_refl _⟩ (fun D pre x post e ⟨p1, p2⟩ => by
      obtain ⟨e1, e2⟩ := enum_split e
      have hlen : pre.length < 100 := by
        have := congrArg List.length e1
        rw [List.length_append, List.length_map, List.length_cons, List.length_map] at this
        omega
      refine ⟨_, hb D x (by omega), fun y => ?_, ?_⟩
      · rw [List.map_append, List.map_cons, List.map_nil, lx_snoc, List.length_map]
        by_cases q : x.b = n
        · rw [if_pos q, if_pos q.symm, dget_put]
          by_cases r : y = k
          · rw [if_pos r, if_pos r, r]
            show max x.a ((dget D k).getD (-1)) = _
            have := p1 k
            rw [if_pos rfl] at this
            rw [this, e2]
            have := (lx_lt (pre.map (·.b)) n).1
            rw [List.length_map] at this
            simp only [Int.max_def]
            repeat' split
            all_goals omega
          · rw [if_neg r, if_neg r, p1, if_neg r]
        · rw [if_neg q, p1, if_neg (show ¬ n = x.b from fun h => q h.symm)]
      · rw [List.length_append]
        show _ ≤ D0.length + (pre.length + 1)
        split
        · have := dput_len D k (max x.a ((dget D k).getD (-1))); omega
        · omega)
  refine ⟨D, h1, ?_, by rw [enum_len] at h3; exact h3⟩
  have : (enum row).map (·.b) = row := by rw [List.map_map]; exact List.zipIdx_map_fst 0 row
  rw [this] at h2
  exact h2
theorem gx_snoc (T : Trk) (c : Chg) (row : List Str) (y : Str) : gx (T ++ [c]) row y = gxS row y (gx T row y) c := by
  unfold gx
  rw [List.foldl_append] <;> rfl
theorem nms_filter {T : Trk} (hn : (nms T).Nodup) (p : Chg → Bool) (q : Str → Bool) (h : ∀ c ∈ T, p c = q c.a) : (T.filter p).map (·.a) = (nms T).filter q := by
  unfold nms
  rw [List.filter_map]
  congr 1
  exact List.filter_congr fun c hc => h c hc
theorem law_live_t {T : Trk} {row : List Str} (hn : (nms T).Nodup) (hl : T.length ≤ 24) (hr : ∀ n ∈ row, n ∈ nms T) (hrl : row.length ≤ 100) : f_law_live (T, row, ()) = some (lvL T row) := by
  unfold f_law_live m_law_live
  simp only [Option.bind_some]
  obtain ⟨D, h1, h2⟩ := last_t (ρ := List Str) (b := fun (s2 : Dct Int) (i1 : T2 Int Str) => if s2.length < 50000 then some (Out.nx (ρ := List Str) (dput s2 i1.b i1.a)) else none) row hrl (fun s i h => if_pos h)
  rw [h1]
  simp only [Option.bind_some, go_nx]
  rw [loop_then (r := some (Out.rt (lvL T row))) (fun (G : Dct Int) pre => (∀ y, (dget G y).getD (-1) = gx pre row y) ∧ G.length ≤ pre.length * 100)]
  · rfl
  · exact ⟨fun y => rfl, Nat.le_refl _⟩
  · intro G pre c post e ⟨p1, p2⟩
    have hlen : pre.length < 24 := by
      have := congrArg List.length e
      rw [List.length_append, List.length_cons] at this
      omega
    cases hc : c.c with
    | none =>
      refine ⟨G, ?_, fun y => ?_, by rw [List.length_append]; show _ ≤ (pre.length + 1) * 100; omega⟩
      · simp only [Option.isNone_none, Bool.not_true, Bool.false_eq_true, if_false, Option.bind_some, go_nx]
      · rw [gx_snoc, p1]
        unfold gxS
        rw [hc, if_neg (by intro h; cases h)]
    | some k =>
      obtain ⟨G', g1, g2, g3⟩ := gone_t (ρ := List Str) (b := fun (s8 : Dct Int) (i7 : T2 Int Str) => (if decide (i7.b = c.a) = true then (if s8.length < 50000 then some (Out.nx (ρ := List Str) (dput s8 k (if (dget s8 k).getD (-1) > i7.a then (dget s8 k).getD (-1) else i7.a))) else none) else some (Out.nx (ρ := List Str) s8)).bind (Out.go fun s11 => some (Out.nx (ρ := List Str) s11))) row hrl c.a k G (by omega) (by rw [p1]; exact fold_ge _) (fun s i h => by
        by_cases q : i.b = c.a
        · have hm : max i.a ((dget s k).getD (-1)) = if (dget s k).getD (-1) > i.a then (dget s k).getD (-1) else i.a := by
            rw [Int.max_def]
            repeat' split
            all_goals omega
          simp only [decide_eq_true q, if_true, if_pos h, Option.bind_some, go_nx, if_pos q, hm]
        · simp only [decide_eq_false q, Bool.false_eq_true, if_false, Option.bind_some, go_nx, if_neg q])
      refine ⟨G', ?_, fun y => ?_, by rw [List.length_append]; show _ ≤ (pre.length + 1) * 100; omega⟩
      · simp only [Option.isNone_some, Bool.not_false, if_true, Option.bind_some, oEq, q_str]
        rw [g1]
        simp only [Option.bind_some, go_nx]
      · rw [gx_snoc, g2, p1]
        unfold gxS
        rw [hc]
        by_cases q : y = k
        · rw [if_pos q, if_pos (congrArg some q.symm)]
        · rw [if_neg q, if_neg (fun h => q (Option.some.inj h).symm)]
  · intro G ⟨p1, _⟩
    simp only [go_nx]
    have hgo : ∀ c ∈ T, lv T row c.a = (c.c.isNone && (decide (c.a ∈ row) && decide (gx T row c.a < lx row c.a))) := fun c hc => by
      have hlk := look_of hn hc
      cases hcc : c.c with
      | none =>
        rw [lv_last hn hlk hcc row hr]
        by_cases q : c.a ∈ row
        · rw [decide_eq_true q] <;> rfl
        · rw [decide_eq_false q, decide_eq_false_iff_not.mpr]
          · rfl
          · have h3 : ¬ 0 ≤ lx row c.a := fun h => q ((lx_in row c.a).mpr h)
            have h4 := fold_ge (T := T) (row := row) (y := c.a) (-1)
            unfold gx
            omega
      | some b =>
        cases hv : lv T row c.a with
        | false => rfl
        | true =>
          obtain ⟨c', h', h'', _⟩ := lv_names hv
          rw [hlk] at h'
          cases h'
          rw [hcc] at h''; cases h''
    rw [loop_then (r := some (Out.rt (lvL T row))) (fun (s : List Str) pre => s = (pre.filter fun c => lv T row c.a).map (·.a) ∧ s.length ≤ pre.length)]
    · exact ⟨rfl, Nat.le_refl _⟩
    · intro s pre c post e ⟨q1, q2⟩
      have hlen : pre.length < 24 := by
        have := congrArg List.length e
        rw [List.length_append, List.length_cons] at this
        omega
      have hg := hgo c (by rw [e]; simp)
      refine ⟨if lv T row c.a = true then s ++ [c.a] else s, ?_, ?_, ?_⟩
      · rw [hg]
        cases hcc : c.c.isNone with
        | false => simp only [Bool.false_eq_true, if_false, Option.bind_some, go_nx, Bool.false_and]
        | true =>
          by_cases r : c.a ∈ row
          · have r2 : dget D c.a = some (lx row c.a) := by rw [h2, if_pos r]
            simp only [if_true, Option.bind_some, dhas_get, r2, Option.isSome_some, oLt, p1, decide_eq_true r, Bool.true_and]
            by_cases z : gx T row c.a < lx row c.a
            · simp only [decide_eq_true z, if_true, if_pos (show s.length < 50000 by omega), Option.bind_some, go_nx]
            · simp only [decide_eq_false z, Bool.false_eq_true, if_false, Option.bind_some, go_nx]
          · have r2 : dget D c.a = none := by rw [h2, if_neg r]
            simp only [if_true, Option.bind_some, dhas_get, r2, Option.isSome_none, Bool.false_eq_true, if_false, go_nx, decide_eq_false r, Bool.false_and, Bool.and_false]
      · rw [List.filter_append, List.map_append, ← q1]
        cases hv : lv T row c.a with
        | true => simp [hv]
        | false => simp [hv]
      · rw [List.length_append]
        show _ ≤ pre.length + 1
        split
        · rw [List.length_append]; show s.length + 1 ≤ _; omega
        · omega
    · intro s ⟨q1, _⟩
      simp only [go_nx]
      rw [q1, nms_filter hn _ (lv T row) fun _ _ => rfl]
      rfl
end K
end

section
set_option maxRecDepth 100000
set_option maxHeartbeats 1000000
namespace K
open PySem L2 Sm
theorem mem_lvL {T : Trk} {row : List Str} (x : Str) : decide (x ∈ lvL T row) = lv T row x := by
  rw [Bool.eq_iff_iff, decide_eq_true_eq]
  unfold lvL
  rw [List.mem_filter]
  exact ⟨fun h => h.2, fun h => ⟨lv_in h, h⟩⟩
theorem can_come_t {T : Trk} {row : List Str} {n : Str} {c : Chg} (hn : (nms T).Nodup) (hl : T.length ≤ 24) (hb : ∀ c ∈ T, c.b.length ≤ 40000) (hc : look T n = some c) : f_law_can_come (T, lvL T row, n, ()) = some (fol T (lv T row) c) := by
  have hcn := (look_mem hc).2
  have h24 := lvL_len (T := T) (row := row) hl
  unfold f_law_can_come m_law_can_come
  simp only [Option.bind_some, law_of_t _ hl, hc, oIn, oNi, q_str, in_any, mem_lvL]
  rw [lcO_map (lv T row) c.b (hb c (look_mem hc).1) (fun x _ => rfl)]
  simp only [Option.bind_some, all_map]
  unfold fol
  cases hall : c.b.all (lv T row) with
  | false => simp only [Bool.not_false, if_true, Option.bind_some, go_rt, outR_rt, Bool.false_and]
  | true =>
    simp only [Bool.not_true, Bool.false_eq_true, if_false, Option.bind_some, go_nx, Bool.true_and]
    cases hcc : c.c with
    | none => simp only [Option.isNone_none, if_true, Option.bind_some, go_rt, outR_rt, hcn]
    | some b =>
      simp only [Option.isNone_some, Bool.false_eq_true, if_false, Option.bind_some, go_nx]
      cases hbl : lv T row b with
      | false => simp only [Bool.false_eq_true, if_false, Option.bind_some, outR_rt, Bool.false_and]
      | true =>
        have hk : lcO (fun _ => some true) (fun i3 => ((look T i3).bind fun x => some x.b).bind fun y => some (decide (b ∈ y))) (lvL T row) = some ((lvL T row).map fun o => decide (b ∈ lns T o)) := by
          refine lcO_map _ _ (by omega) fun x hx => ?_
          obtain ⟨d, hd⟩ := look_some (List.mem_filter.mp hx).1
          rw [hd, lns_of hd] <;> rfl
        simp only [if_true, Option.bind_some, hk, any_map, outR_rt, Bool.true_and]
        congr 2
        rw [Bool.eq_iff_iff, List.any_eq_true, List.any_eq_true]
        constructor
        · rintro ⟨o, ho, e⟩
          obtain ⟨d, hd⟩ := look_some (List.mem_filter.mp ho).1
          rw [lns_of hd] at e
          obtain ⟨m, en⟩ := look_mem hd
          refine ⟨d, m, ?_⟩
          rw [en, (List.mem_filter.mp ho).2, in_any, e] <;> rfl
        · rintro ⟨d, hd, e⟩
          rw [Bool.and_eq_true] at e
          refine ⟨d.a, List.mem_filter.mpr ⟨List.mem_map.mpr ⟨d, hd, rfl⟩, e.1⟩, ?_⟩
          rw [lns_of (look_of hn hd), ← in_any]
          exact e.2

/-! ### numbers -/
theorem log_of {n k : Nat} (h : n < 2 ^ k) : n.log2 ≤ k := by
  by_cases e : n = 0
  · subst e; exact Nat.zero_le _
  · exact Nat.le_of_lt ((Nat.log2_lt e).mpr h)
theorem bits_add {z k : Int} {B : Nat} (h : Builtin.Int.intBits z ≤ B) (hk : k.natAbs ≤ 1024) : (z + k).natAbs.log2 ≤ B + 11 := by
  apply log_of
  have h1 : z.natAbs < 2 ^ B := by
    unfold Builtin.Int.intBits at h
    by_cases e : z = 0
    · subst e; exact Nat.two_pow_pos B
    · rw [if_neg (by simpa using e)] at h
      exact Nat.lt_of_lt_of_le Nat.lt_log2_self (Nat.pow_le_pow_right (by decide) h)
  have h2 : (2 : Nat) ^ (B + 11) = 2 ^ B * 2048 := by rw [Nat.pow_add] <;> rfl
  have h3 : (z + k).natAbs ≤ z.natAbs + k.natAbs := Int.natAbs_add_le z k
  have h4 : 1 ≤ 2 ^ B := Nat.two_pow_pos B
  rw [h2]
  generalize (2 : Nat) ^ B = q at *
  omega
theorem oMod_ok (i : Int) {j : Int} (h : 0 < j) : oMod i j = some (i % j) := if_pos h
theorem oDiv_ok (i : Int) {j : Int} (h : 0 < j) (h2 : j.natAbs.log2 < 9000) : oDiv i j = some (i / j) := if_pos ⟨h, h2⟩
theorem cell_t {ns : List Int} (hl : ns.length ≤ 63) (hb : ∀ z ∈ ns, Builtin.Int.intBits z ≤ 1048576) (k : Int) (h0 : 0 ≤ k) (h1 : k ≤ 1000) : ∃ z, f_law_cell_at (⟨ns⟩, k, ()) = some z := by
  unfold f_law_cell_at m_law_cell_at
  simp only [Option.bind_some, oLt]
  by_cases h : k < (ns.length : Int)
  · obtain ⟨m, rfl⟩ := Int.eq_ofNat_of_zero_le h0
    have hm : m < ns.length := by omega
    refine ⟨ns[m], ?_⟩
    simp only [decide_eq_true h, if_true, oIx_nat ns m hm, List.getElem?_eq_getElem hm, Option.bind_some, go_rt, outR_rt]
  · simp only [decide_eq_false h, Bool.false_eq_true, if_false, Option.bind_some, go_nx]
    cases ns with
    | nil =>
      refine ⟨k * 48271, ?_⟩
      have : oMul k 48271 = some (k * 48271) := if_pos (by
        show _ + _ < _
        have h2 := log_of (n := k.natAbs) (k := 10) (by omega)
        have h3 : ((48271 : Int).natAbs).log2 ≤ 16 := log_of (by decide)
        omega)
      simp only [List.isEmpty_nil, if_true, this, Option.bind_some, go_rt, outR_rt]
    | cons z zs =>
      have hp : 0 < (((z :: zs).length : Nat) : Int) := by rw [List.length_cons]; omega
      obtain ⟨m, hm⟩ := Int.eq_ofNat_of_zero_le (Int.emod_nonneg k (by omega : (((z :: zs).length : Nat) : Int) ≠ 0))
      have hm2 := Int.emod_lt_of_pos k hp
      have hm3 : m < (z :: zs).length := by omega
      have hz := hb _ (List.getElem_mem hm3)
      have hmul : oMul ((z :: zs)[m] + k) 48271 = some (((z :: zs)[m] + k) * 48271) := if_pos (by
        show _ + _ < _
        have h2 := bits_add hz (k := k) (by omega)
        have h3 : ((48271 : Int).natAbs).log2 ≤ 16 := log_of (by decide)
        omega)
      refine ⟨((z :: zs)[m] + k) * 48271 % 2147483647, ?_⟩
      simp only [List.isEmpty_cons, Bool.false_eq_true, if_false, Option.bind_some, go_nx, oMod_ok k hp, hm]
      rw [oIx_nat _ m hm3, List.getElem?_eq_getElem hm3]
      simp only [Option.bind_some, oAdd, hmul, oMod_ok _ (by decide : (0 : Int) < 2147483647), outR_rt]
theorem numbers_t (z : Int) : ∃ a b c d e : Int, f_law_numbers (z, [7, 343, 343, 343, 24], ()) = some [a, b, c, d, e] := by
  have hfin : ∀ s : Int, ∃ a b c d e : Int, outR ((loopM (fun (s5 : ((List Int) × Int)) (i4 : Int) => (oMod s5.2 i4).bind fun v6 => if s5.1.length < 50000 then ((oDiv s5.2 i4).bind fun v7 => (some (Out.nx (ρ := (List Int)) ((s5.1 ++ [v6]), v7)))) else none) (([] : (List Int)), s) [7, 343, 343, 343, 24]).bind (Out.go fun s5 => (some (Out.rt (τ := Unit) s5.1)))) = some [a, b, c, d, e] := by
    intro s
    have l7 : ((7 : Int).natAbs).log2 < 9000 := Nat.lt_of_le_of_lt (log_of (k := 10) (by decide)) (by decide)
    have l3 : ((343 : Int).natAbs).log2 < 9000 := Nat.lt_of_le_of_lt (log_of (k := 10) (by decide)) (by decide)
    have l4 : ((24 : Int).natAbs).log2 < 9000 := Nat.lt_of_le_of_lt (log_of (k := 10) (by decide)) (by decide)
    simp only [loopM, oMod_ok _ (by decide : (0 : Int) < 7), oMod_ok _ (by decide : (0 : Int) < 343), oMod_ok _ (by decide : (0 : Int) < 24), oDiv_ok _ (by decide : (0 : Int) < 7) l7, oDiv_ok _ (by decide : (0 : Int) < 343) l3, oDiv_ok _ (by decide : (0 : Int) < 24) l4, Option.bind_some, go_nx, List.length_nil, List.length_append, List.length_cons, List.nil_append, List.cons_append, outR_rt]
    exact ⟨_, _, _, _, _, rfl⟩
  unfold f_law_numbers m_law_numbers
  have hp : oPow 10 18 = some (10 ^ 18) := if_pos ⟨by decide, by decide, by decide⟩
  simp only [Option.bind_some, hp, oLt]
  by_cases h : z < 10 ^ 18
  · have m0 := Int.emod_nonneg z (by decide : (2147483647 : Int) ≠ 0)
    have m1 := Int.emod_lt_of_pos z (by decide : (0 : Int) < 2147483647)
    have h1 : oMul (z % 2147483647) 48271 = some (z % 2147483647 * 48271) := if_pos (by
      show _ + _ < _
      have h2 := log_of (n := (z % 2147483647).natAbs) (k := 31) (by omega)
      have h3 : ((48271 : Int).natAbs).log2 ≤ 16 := log_of (by decide)
      omega)
    have h2 : oPow (z % 2147483647 * 48271 + 12345) 5 = some ((z % 2147483647 * 48271 + 12345) ^ 5) := if_pos ⟨by decide, by decide, by omega⟩
    have l1 : ((1013 : Int).natAbs).log2 < 9000 := Nat.lt_of_le_of_lt (log_of (k := 10) (by decide)) (by decide)
    simp only [decide_eq_true h, if_true, Option.bind_some, oMod_ok _ (by decide : (0 : Int) < 2147483647), h1, oAdd, h2, show ((5 : Int).toNat) = 5 from rfl, oDiv_ok _ (by decide : (0 : Int) < 1013) l1, go_nx]
    exact hfin _
  · simp only [decide_eq_false h, Bool.false_eq_true, if_false, Option.bind_some, go_nx]
    exact hfin _
theorem some_tN (z : Int) (xs : List Str) (m : Int) (hx : xs.length ≤ 100) (h0 : 0 ≤ m) (h1 : m ≤ 10) : ∃ ys, f_law_some (z, xs, m, ()) = some ys ∧ ys.Nodup ∧ (∀ y ∈ ys, y ∈ xs) ∧ (ys.length : Int) ≤ m := by
  unfold f_law_some m_law_some
  have l7 : ((7 : Int).natAbs).log2 < 9000 := Nat.lt_of_le_of_lt (log_of (k := 10) (by decide)) (by decide)
  simp only [Option.bind_some, if_pos (show 0 ≤ m ∧ m ≤ 100000 by omega)]
  have hrl : (rng 0 m).length = m.toNat := by
    unfold rng
    rw [List.length_map, List.length_range]; omega
  have hpos : (0 : Int) < (xs.length : Int) + 2 := by omega
  obtain ⟨s, g1, g2, g3, g4⟩ := loop_ok (ρ := List Str) (b := fun (s2 : ((List Str) × Int)) (i1 : Int) => ((oAdd (xs.length : Int) 2).bind fun y => oMod s2.2 y).bind fun v3 => (((oLt v3 (xs.length : Int)).bind fun x => if x = true then ((oIx xs v3).bind fun x => oNi x s2.1) else some false).bind fun b => if b = true then ((oIx xs v3).bind fun v4 => if s2.1.length < 50000 then (some (Out.nx (ρ := (List Str)) (s2.1 ++ [v4]))) else none) else (some (Out.nx (ρ := (List Str)) s2.1))).bind (Out.go fun s5 => ((oDiv s2.2 7).bind fun v6 => (some (Out.nx (ρ := (List Str)) (s5, v6))))))
    (fun s pre => s.1.Nodup ∧ (∀ y ∈ s.1, y ∈ xs) ∧ s.1.length ≤ pre.length) (rng 0 m) ([], z) ⟨List.nodup_nil, fun y h => (by cases h), Nat.le_refl _⟩ (fun s pre x post e ⟨p1, p2, p3⟩ => by
      have hlen : pre.length < 10 := by
        have := congrArg List.length e
        rw [List.length_append, List.length_cons] at this
        omega
      obtain ⟨q, hq⟩ := Int.eq_ofNat_of_zero_le (Int.emod_nonneg s.2 (by omega : (xs.length : Int) + 2 ≠ 0))
      simp only [oAdd, Option.bind_some, oMod_ok _ hpos, hq, oLt, oDiv_ok _ (by decide : (0 : Int) < 7) l7, oNi, q_str, in_any]
      by_cases hlt : q < xs.length
      · have hix := oIx_nat xs q hlt
        rw [List.getElem?_eq_getElem hlt] at hix
        simp only [decide_eq_true (show (q : Int) < (xs.length : Int) by omega), if_true, hix, Option.bind_some]
        by_cases hin : xs[q] ∈ s.1
        · refine ⟨(s.1, s.2 / 7), ?_, p1, p2, by rw [List.length_append]; show s.1.length ≤ pre.length + 1; omega⟩
          simp only [decide_eq_true hin, Bool.not_true, Bool.false_eq_true, if_false, Option.bind_some, go_nx]
        · refine ⟨(s.1 ++ [xs[q]], s.2 / 7), ?_, ?_, ?_, by rw [List.length_append, List.length_append]; show s.1.length + 1 ≤ pre.length + 1; omega⟩
          · simp only [decide_eq_false hin, Bool.not_false, if_true, if_pos (show s.1.length < 50000 by omega), Option.bind_some, go_nx]
          · rw [List.nodup_append]
            refine ⟨p1, by simp, fun a ha b hb e => hin ?_⟩
            have hb' : b = xs[q] := List.mem_singleton.mp hb
            rw [← hb', ← e]; exact ha
          · intro y hy
            rcases List.mem_append.mp hy with h | h
            · exact p2 y h
            · rw [List.mem_singleton.mp h]; exact List.getElem_mem hlt
      · refine ⟨(s.1, s.2 / 7), ?_, p1, p2, by rw [List.length_append]; show s.1.length ≤ pre.length + 1; omega⟩
        simp only [decide_eq_false (show ¬ (q : Int) < (xs.length : Int) by omega), Bool.false_eq_true, if_false, Option.bind_some, go_nx])
  refine ⟨s.1, ?_, g2, g3, by omega⟩
  rw [g1] <;> rfl
theorem some_t (z : Int) (xs : List Str) (m : Int) (hx : xs.length ≤ 100) (h0 : 0 ≤ m) (h1 : m ≤ 10) : ∃ ys, f_law_some (z, xs, m, ()) = some ys ∧ ys.Nodup ∧ (∀ y ∈ ys, y ∈ xs) ∧ ys.length ≤ 10 := by
  obtain ⟨ys, h1', h2, h3, h4⟩ := some_tN z xs m hx h0 h1
  exact ⟨ys, h1', h2, h3, by omega⟩
end K
end

section
set_option maxRecDepth 100000
set_option maxHeartbeats 1000000
namespace K
open PySem L2 Sm
def nm24 : List Str := (f_law_names ()).getD []
def fl5 : List Str := (f_law_faults ()).getD []
abbrev Sk (x : Str) : Prop := PyData.strOk x = true
theorem names_t : f_law_names () = some nm24 ∧ nm24.length = 24 ∧ nm24.Nodup ∧ (∀ x ∈ nm24, Nm x ∧ Sk x) := by decide +kernel
theorem faults_t : f_law_faults () = some fl5 ∧ fl5.length = 5 ∧ (∀ x ∈ fl5, Nm x ∧ Sk x) := by decide +kernel
/-- words that no trunk of the law has -/
def Un (x : Str) : Prop := x ≠ Str.ofString "z" ∧ x ≠ Str.ofString "nobody" ∧ x ≠ Str.ofString "qq"
instance : DecidablePred Un := fun x => inferInstanceAs (Decidable (_ ∧ _ ∧ _))
theorem names_un : ∀ x ∈ nm24, Un x := by decide +kernel
theorem names_ex : ∃ N, f_law_names () = some N ∧ N.length = 24 ∧ N.Nodup ∧ (∀ x ∈ N, Nm x ∧ Sk x) ∧ ∀ x ∈ N, Un x := ⟨nm24, names_t.1, names_t.2.1, names_t.2.2.1, names_t.2.2.2, names_un⟩
theorem faults_ex2 : ∃ N, f_law_faults () = some N ∧ N.length = 5 ∧ (∀ x ∈ N, Nm x ∧ Sk x) ∧ N = fl5 := ⟨fl5, faults_t.1, faults_t.2.1, faults_t.2.2, rfl⟩
theorem faults_ex : ∃ N, f_law_faults () = some N ∧ N.length = 5 ∧ (∀ x ∈ N, Nm x ∧ Sk x) := ⟨fl5, faults_t⟩
theorem rng_split {n : Int} {pre : List Int} {x : Int} {post : List Int} (e : rng 0 n = pre ++ x :: post) : x = (pre.length : Int) ∧ (pre.length : Int) < n := by
  unfold rng at e
  have h1 := congrArg List.length e
  rw [List.length_map, List.length_range, List.length_append, List.length_cons] at h1
  have h2 := congrArg (fun l => l[pre.length]?) e
  simp only [List.getElem?_map] at h2
  rw [List.getElem?_append_right (Nat.le_refl _), Nat.sub_self, List.getElem?_cons_zero, List.getElem?_range (by omega)] at h2
  have h3 : 0 + ((pre.length : Nat) : Int) = x := Option.some.inj h2
  omega
structure skC (g : Chg) : Prop where
  a : Sk g.a
  b : ∀ x ∈ g.b, Sk x
  c : ∀ x, g.c = some x → Sk x
  d : ∀ x ∈ g.d, Sk x
  e : ∀ x ∈ g.e, Sk x
  el : g.e.length ≤ 2
structure skF (g : Chg) : Prop where
  k : skC g
  df : ∀ x ∈ g.d, x ∈ fl5
  ef : ∀ x ∈ g.e, x ∈ fl5
theorem skL {xs : List Str} (h : ∀ x ∈ xs, Sk x) : Dat.ok xs = true := by
  show xs.all PyData.strOk = true
  rw [List.all_eq_true]; exact h
theorem skC.ok {c : Chg} (h : skC c) : Dat.ok c = true := by
  show (PyData.strOk c.a && (Dat.ok c.b && (Dat.ok c.c && (Dat.ok c.d && Dat.ok c.e)))) = true
  rw [show PyData.strOk c.a = true from h.a, skL h.b, skL h.d, skL h.e]
  cases hc : c.c with
  | none => rfl
  | some x => show (true && (true && (PyData.strOk x && (true && true)))) = true; rw [show PyData.strOk x = true from h.c x hc] <;> rfl
theorem qAll_self {α : Type} {q : α → α → Bool} (h : ∀ x, q x x = true) : ∀ xs : List α, qAll q xs xs = true
  | [] => rfl
  | x :: xs => by show (q x x && qAll q xs xs) = true; rw [h, qAll_self h xs] <;> rfl
theorem q_list {xs ys : List Str} : Dat.q xs ys = decide (xs = ys) := by
  show qAll (fun x y => x == y) xs ys = _
  rw [Bool.eq_iff_iff, decide_eq_true_eq]
  induction xs generalizing ys with
  | nil => cases ys <;> simp [qAll]
  | cons x xs ih =>
    cases ys with
    | nil => simp [qAll]
    | cons y ys =>
      show (x == y && qAll _ xs ys) = true ↔ _
      rw [Bool.and_eq_true, ih, beq_iff_eq, List.cons.injEq]
theorem dNe_t {xs ys : List Str} (h1 : ∀ x ∈ xs, Sk x) (h2 : ∀ x ∈ ys, Sk x) : dNe xs ys = some (!decide (xs = ys)) := by
  unfold dNe
  rw [skL h1, skL h2, q_list] <;> rfl
theorem dEq_t {xs ys : List Str} (h1 : ∀ x ∈ xs, Sk x) (h2 : ∀ x ∈ ys, Sk x) : dEq xs ys = some (decide (xs = ys)) := by
  unfold dEq
  rw [skL h1, skL h2, q_list] <;> rfl
/-- one of a list that isn't empty -/
theorem one_of {xs : List Str} (h : xs ≠ []) (z : Int) : ∃ g ∈ xs, ((oMod z (xs.length : Int)).bind fun y => oIx xs y) = some g := by
  have hl : 0 < xs.length := List.length_pos_iff.mpr h
  have hp : (0 : Int) < (xs.length : Int) := by omega
  obtain ⟨q, hq⟩ := Int.eq_ofNat_of_zero_le (Int.emod_nonneg z (by omega : (xs.length : Int) ≠ 0))
  have hlt := Int.emod_lt_of_pos z hp
  have h3 : q < xs.length := by omega
  refine ⟨xs[q], List.getElem_mem h3, ?_⟩
  rw [oMod_ok _ hp, Option.bind_some, hq, oIx_nat _ _ h3, List.getElem?_eq_getElem h3]
theorem loop_outR {τ ρ α : Type} {b : τ → α → Option (Out τ ρ)} {xs : List α} {s0 : τ} {k : Out τ ρ → Option (Out Unit ρ)} {Q : ρ → Prop} (P : τ → List α → Prop) (h0 : P s0 []) (hs : ∀ s pre x post, xs = pre ++ x :: post → P s pre → ∃ s', b s x = some (.nx s') ∧ P s' (pre ++ [x])) (hk : ∀ s, P s xs → ∃ T, k (.nx s) = some (.rt T) ∧ Q T) : ∃ T, outR ((loopM b s0 xs).bind k) = some T ∧ Q T := by
  obtain ⟨s, h1, h2⟩ := loop_ok P xs s0 h0 hs
  obtain ⟨T, h3, h4⟩ := hk s h2
  refine ⟨T, ?_, h4⟩
  rw [h1, Option.bind_some, h3] <;> rfl
theorem plain_ok {T : Trk} {w : Str} {ys us vs : List Str} (h1 : Nm w) (h2 : w ∉ nms T) (h3 : ∀ y ∈ ys, pl T y) (h4 : ys.Nodup) (h5 : ys.length ≤ 10) (h6 : okN us) (h7 : okN vs) (h8 : ys.all (lv T (nms T)) = true) (h9 : lv T (nms T) w = false) : okC T ⟨w, ys, none, us, vs⟩ where
  a := h1
  n := h2
  b := h3
  bn := h4
  bl := by show ys.length ≤ 4000; omega
  d := h6
  e := h7
  k := fun b hb => by cases hb
  f := by
    show (ys.all (lv T (nms T)) && !lv T (nms T) w) = true
    rw [h8, h9] <;> rfl
theorem trunk_lawF {ns : List Int} (hl : ns.length ≤ 63) (hb : ∀ z ∈ ns, Builtin.Int.intBits z ≤ 1048576) (lim : Int) (lp : 0 < lim) (lq : lim ≤ 24) : ∃ T, f_law_trunk (⟨ns⟩, 0, lim, ()) = some T ∧ Ok T ∧ (∀ c ∈ T, skF c) ∧ (∀ x ∈ nms T, Un x) ∧ (T.length : Int) ≤ lim := by
  obtain ⟨N24, n1, n2, n3, n4, n5⟩ := names_ex
  obtain ⟨F5, m1, m2, m3, m4⟩ := faults_ex2
  obtain ⟨z0, hz0⟩ := cell_t hl hb 0 (by decide) (by decide)
  have l24 : ((24 : Int).natAbs).log2 < 9000 := Nat.lt_of_le_of_lt (log_of (k := 10) (by decide)) (by decide)
  have p24 : (0 : Int) < 24 := by decide
  have s0 := Int.emod_nonneg (z0 / 24) (by decide : (24 : Int) ≠ 0)
  have k0 := Int.emod_nonneg z0 (by omega : lim ≠ 0)
  have k1 := Int.emod_lt_of_pos z0 lp
  generalize hst : z0 / 24 % 24 = st at *
  generalize hkk : z0 % lim = kk at *
  have hrot : ∃ R : List Str, R = N24.drop st.toNat ++ N24.take st.toNat ∧ R.length = 24 ∧ R.Nodup ∧ (∀ x ∈ R, Nm x ∧ Sk x) ∧ ∀ x ∈ R, Un x := by
    refine ⟨_, rfl, ?_, ?_, ?_, ?_⟩
    · rw [List.length_append, List.length_drop, List.length_take]; omega
    · refine (List.Perm.nodup_iff List.perm_append_comm).mp ?_
      rw [List.take_append_drop]; exact n3
    · intro x hx
      rcases List.mem_append.mp hx with h | h
      · exact n4 x (List.mem_of_mem_drop h)
      · exact n4 x (List.mem_of_mem_take h)
    · intro x hx
      rcases List.mem_append.mp hx with h | h
      · exact n5 x (List.mem_of_mem_drop h)
      · exact n5 x (List.mem_of_mem_take h)
  obtain ⟨R, hR, r1, r2, r3, r4⟩ := hrot
  have hcat : oCat (N24.drop st.toNat) (N24.take st.toNat) = some R := by
    unfold oCat
    rw [if_pos (by rw [List.length_drop, List.length_take]; omega), hR]
  unfold f_law_trunk m_law_trunk
  simp only [Option.bind_some, n1, hz0, oDiv_ok _ p24 l24, oMod_ok _ p24, oMod_ok _ lp, hst, hkk, cut_drop _ s0, cut_take _ s0, hcat, oAdd, if_pos (show 0 ≤ 1 + kk ∧ 1 + kk ≤ 100000 by omega)]
  refine loop_outR (fun (T : Trk) pre => okT T ∧ T.length = pre.length ∧ nms T = R.take pre.length ∧ ∀ c ∈ T, skF c) ⟨.nil, rfl, rfl, fun c h => (by cases h)⟩ ?_ ?_
  · intro T pre x post e ⟨p1, p2, p3, p4⟩
    obtain ⟨e1, e2⟩ := rng_split e
    have hpl : pre.length < 24 := by omega
    have hT24 : T.length ≤ 24 := by omega
    have hlt : T.length < 50000 := by omega
    obtain ⟨z, hz⟩ := cell_t hl hb (0 + 1 + x) (by omega) (by omega)
    obtain ⟨d0, d1, d2, d3, d4, hd⟩ := numbers_t z
    have hns : lcO (fun _ => some true) (fun i8 : Chg => some i8.a) T = some (nms T) := lcO_map (fun c : Chg => c.a) T (by omega) fun _ _ => rfl
    have hnl : (nms T).length ≤ 100 := by rw [show (nms T).length = T.length from List.length_map _]; omega
    have hlive := law_live_t p1.nodup hT24 (fun n h => h) hnl
    generalize hV : lvL T (nms T) = V at hlive
    have hVl : V.length ≤ 24 := by rw [← hV]; exact lvL_len hT24
    have hVm : ∀ x, decide (x ∈ V) = lv T (nms T) x := fun x => by rw [← hV]; exact mem_lvL x
    have hVi : ∀ x ∈ V, lv T (nms T) x = true := fun x hx => by rw [← hVm, decide_eq_true hx]
    have hVn : V.Nodup := by rw [← hV]; exact p1.nodup.filter _
    have hVp : ∀ x ∈ V, pl T x ∧ Sk x := fun x hx => by
      have hv := hVi x hx
      obtain ⟨c, c1, c2, _⟩ := lv_names hv
      obtain ⟨cm, ce⟩ := look_mem c1
      exact ⟨⟨c, c1, c2, p1.nm x (lv_in hv)⟩, ce ▸ (p4 c cm).k.a⟩
    have hfree : lcO (fun i10 => ((lcO (fun _ => some true) (fun i11 => ((f_law_of (T, i11, ())).bind fun x => some x.b).bind fun y => oIn i10 y) V).bind fun x => some (x.any id)).bind fun b => some !b) (fun i => some i) V = some (V.filter fun x => !(V.any fun o => decide (x ∈ lns T o))) := by
      refine lcO_filter _ V (by omega) fun i hi => ?_
      rw [lcO_map (fun o => decide (i ∈ lns T o)) V (by omega) fun o ho => ?_]
      · simp only [Option.bind_some, any_map]
      · obtain ⟨c, c1, _⟩ := (hVp o ho).1
        rw [law_of_t o hT24, c1, lns_of c1]
        simp only [Option.bind_some, oIn, q_str, in_any]
    have hkR : pre.length < R.length := by omega
    have hnm : oIx R x = some R[pre.length] := by rw [e1, oIx_nat R _ hkR, List.getElem?_eq_getElem hkR]
    have htk : R.take (pre.length + 1) = R.take pre.length ++ [R[pre.length]] := List.take_succ_eq_append_getElem hkR
    have hnew : R[pre.length] ∉ nms T := by
      rw [p3]
      intro h
      have h1 : (R.take pre.length ++ [R[pre.length]]).Nodup := htk ▸ r2.sublist (List.take_sublist _ _)
      exact (List.nodup_append.mp h1).2.2 _ h _ List.mem_cons_self rfl
    have hRN := r3 _ (List.getElem_mem hkR)
    generalize R[pre.length] = w at *
    have hcheck : ∀ c : Chg, c.a = w → okC T c → skF c → okT (T ++ [c]) ∧ (T ++ [c]).length = (pre ++ [x]).length ∧ nms (T ++ [c]) = R.take (pre ++ [x]).length ∧ ∀ d ∈ T ++ [c], skF d := by
      intro c h1 h2 h3
      refine ⟨.snoc p1 h2, by rw [List.length_append, List.length_append, p2] <;> rfl, ?_, ?_⟩
      · rw [nms_append, p3, show nms [c] = [c.a] from rfl, h1, List.length_append]
        exact htk.symm
      · intro d hd
        rcases List.mem_append.mp hd with h | h
        · exact p4 d h
        · rw [List.mem_singleton.mp h]; exact h3
    have hfs : ∀ x ∈ V.filter (fun x => !(V.any fun o => decide (x ∈ lns T o))), Sk x := fun x hx => (hVp x (List.mem_filter.mp hx).1).2
    have hok : ∀ ys : List Str, ys.Nodup → (∀ y ∈ ys, y ∈ F5) → ys.length ≤ 10 → okN ys ∧ ∀ y ∈ ys, Sk y := fun ys h1 h2 h3 => ⟨⟨fun y hy => (m3 y (h2 y hy)).1, h1, by omega⟩, fun y hy => (m3 y (h2 y hy)).2⟩
    have hdn := dNe_t (xs := V.filter fun x => !(V.any fun o => decide (x ∈ lns T o))) (ys := []) hfs (fun x h => (by cases h))
    have hfol : ∀ c : Chg, (∀ y ∈ c.b, y ∈ V) → c.b.all (lv T (nms T)) = true := fun c h => by
      rw [List.all_eq_true]; exact fun y hy => hVi y (h y hy)
    have c5 : ([7, 343, 343, 343, 24] : List Int).length ≤ 100000 := by decide
    simp only [Option.bind_some, oAdd, hz, if_pos c5, hd, hns, hlive, hfree, hnm]
    generalize hF : V.filter (fun x => !(V.any fun o => decide (x ∈ lns T o))) = F at *
    simp only [show oIx [d0, d1, d2, d3, d4] 0 = some d0 from rfl, show oIx [d0, d1, d2, d3, d4] 1 = some d1 from rfl, show oIx [d0, d1, d2, d3, d4] 2 = some d2 from rfl, show oIx [d0, d1, d2, d3, d4] 3 = some d3 from rfl, show oIx [d0, d1, d2, d3, d4] 4 = some d4 from rfl, Option.bind_some, oEq, q_int, hdn]
    by_cases hsix : d0 = 6 ∧ F ≠ []
    · obtain ⟨g, hgF, hg⟩ := one_of hsix.2 d4
      have hgV : g ∈ V ∧ (V.any fun o => decide (g ∈ lns T o)) = false := by
        rw [← hF] at hgF
        obtain ⟨h1, h2⟩ := List.mem_filter.mp hgF
        exact ⟨h1, by simpa using h2⟩
      have hrest : lcO (fun i14 => oNe i14 g) (fun i => some i) V = some (V.filter fun y => !decide (y = g)) := lcO_filter _ V (by omega) fun _ _ => rfl
      have hrl := List.length_filter_le (fun y => !decide (y = g)) V
      obtain ⟨ys, hys, y1, y2, y3⟩ := some_t d1 (V.filter fun y => !decide (y = g)) 1 (by omega) (by decide) (by decide)
      have hyV : ∀ y ∈ ys, y ∈ V := fun y hy => (List.mem_filter.mp (y2 y hy)).1
      refine ⟨T ++ [⟨w, ys, some g, [], []⟩], ?_, hcheck _ rfl ⟨hRN.1, hnew, fun y hy => (hVp y (hyV y hy)).1, y1, by show ys.length ≤ _; omega, ⟨fun x h => (by cases h), List.nodup_nil, Nat.zero_le _⟩, ⟨fun x h => (by cases h), List.nodup_nil, Nat.zero_le _⟩, fun b hb => by
          cases hb; exact ⟨(hVp g hgV.1).1, rfl, rfl⟩, ?_⟩ ⟨⟨hRN.2, fun y hy => (hVp y (hyV y hy)).2, fun x h => by cases h; exact (hVp g hgV.1).2, fun x h => (by cases h), fun x h => (by cases h), Nat.zero_le _⟩, fun x h => (by cases h), fun x h => (by cases h)⟩⟩
      · simp only [decide_eq_true hsix.1, if_true, decide_eq_false hsix.2, Bool.not_false, hg, Option.bind_some, hrest, hys, if_pos hlt, go_nx]
      · unfold fol
        rw [hfol _ hyV, Bool.true_and]
        show (lv T (nms T) g && !(T.any fun d => lv T (nms T) d.a && d.b.any fun y => decide (y = g))) = true
        rw [hVi g hgV.1, Bool.true_and]
        have : (T.any fun d => lv T (nms T) d.a && d.b.any fun y => decide (y = g)) = false := by
          rw [List.any_eq_false]
          intro d hd2 h
          rw [Bool.and_eq_true, in_any] at h
          have h2 := List.any_eq_false.mp hgV.2 d.a (of_decide_eq_true ((hVm d.a).trans h.1))
          rw [lns_of (look_of p1.nodup hd2)] at h2
          exact h2 h.2
        rw [this] <;> rfl
    · have hd4 := Int.emod_nonneg d4 (by decide : (3 : Int) ≠ 0)
      have hd5 := Int.emod_lt_of_pos d4 (by decide : (0 : Int) < 3)
      have hd40 : 0 ≤ 1 + d4 % 3 := by omega
      have hd41 : 1 + d4 % 3 ≤ 10 := by omega
      obtain ⟨ys, hys, y1, y2, y3⟩ := some_t d1 V (1 + d4 % 3) (by omega) hd40 hd41
      obtain ⟨us, hus, u1, u2, u3⟩ := some_t d2 F5 2 (by omega) (by decide) (by decide)
      obtain ⟨vs, hvs, v1, v2, v4⟩ := some_tN d3 F5 2 (by omega) (by decide) (by decide)
      have v3 : vs.length ≤ 10 := by omega
      have hu := hok us u1 u2 u3
      have hv := hok vs v1 v2 v3
      have hT0 : ∀ y ∈ ys, pl T y := fun y hy => (hVp y (y2 y hy)).1
      have hT1 : ∀ y ∈ ys, Sk y := fun y hy => (hVp y (y2 y hy)).2
      have hcond : (if decide (d0 = 6) = true then some (!decide (F = [])) else some false) = some false := by
        by_cases h6 : d0 = 6
        · rw [if_pos (decide_eq_true h6)]
          by_cases hf : F = []
          · rw [decide_eq_true hf] <;> rfl
          · exact absurd ⟨h6, hf⟩ hsix
        · rw [if_neg (by simpa using h6)]
      have hnw : lv T (nms T) w = false := by
        cases hv : lv T (nms T) w with
        | false => rfl
        | true => exact absurd (lv_in hv) hnew
      have hfo := hfol ⟨w, ys, none, us, vs⟩ y2
      have hcC : okC T ⟨w, ys, none, us, vs⟩ := plain_ok hRN.1 hnew hT0 y1 y3 hu.1 hv.1 hfo hnw
      have hcS : skF ⟨w, ys, none, us, vs⟩ := ⟨⟨hRN.2, hT1, fun x h => (by cases h), hu.2, hv.2, by show vs.length ≤ 2; omega⟩, fun x hx => m4 ▸ u2 x hx, fun x hx => m4 ▸ v2 x hx⟩
      refine ⟨T ++ [⟨w, ys, none, us, vs⟩], ?_, hcheck ⟨w, ys, none, us, vs⟩ rfl hcC hcS⟩
      rw [hcond]
      simp only [Option.bind_some, Bool.false_eq_true, if_false, oMod_ok _ (by decide : (0 : Int) < 3), hys, m1, hus, hvs, if_pos hlt, go_nx]
  · intro T ⟨p1, p2, p3, p4⟩
    have hlen : (rng 0 (1 + kk)).length = (1 + kk).toNat := by
      unfold rng; rw [List.length_map, List.length_range]; omega
    refine ⟨T, rfl, ⟨p1, ?_, by omega⟩, p4, fun x hx => r4 x (List.mem_of_mem_take (p3 ▸ hx)), by omega⟩
    intro h
    rw [h] at p2
    have : (0 : Nat) = _ := p2
    omega
theorem trunk_lawN {ns : List Int} (hl : ns.length ≤ 63) (hb : ∀ z ∈ ns, Builtin.Int.intBits z ≤ 1048576) (lim : Int) (lp : 0 < lim) (lq : lim ≤ 24) : ∃ T, f_law_trunk (⟨ns⟩, 0, lim, ()) = some T ∧ Ok T ∧ (∀ c ∈ T, skC c) ∧ (∀ x ∈ nms T, Un x) ∧ (T.length : Int) ≤ lim := by
  obtain ⟨T, h1, h2, h3, h4, h5⟩ := trunk_lawF hl hb lim lp lq
  exact ⟨T, h1, h2, fun c hc => (h3 c hc).k, h4, h5⟩
theorem trunk_lawG {ns : List Int} (hl : ns.length ≤ 63) (hb : ∀ z ∈ ns, Builtin.Int.intBits z ≤ 1048576) (lim : Int) (lp : 0 < lim) (lq : lim ≤ 24) : ∃ T, f_law_trunk (⟨ns⟩, 0, lim, ()) = some T ∧ Ok T ∧ ∀ c ∈ T, skC c := by
  obtain ⟨T, h1, h2, h3, _, _⟩ := trunk_lawN hl hb lim lp lq
  exact ⟨T, h1, h2, h3⟩
theorem trunk_law {ns : List Int} (hl : ns.length ≤ 63) (hb : ∀ z ∈ ns, Builtin.Int.intBits z ≤ 1048576) : ∃ T, f_law_trunk (⟨ns⟩, 0, 24, ()) = some T ∧ Ok T ∧ ∀ c ∈ T, skC c := trunk_lawG hl hb 24 (by decide) (by decide)
end K
end

section
set_option maxRecDepth 100000
set_option maxHeartbeats 1000000
namespace K
open PySem L2 Sm
theorem stB_snoc {T : Trk} {row : List Str} {n : Str} {c : Chg} (h : stB T row) (hc : look T n = some c) (hf : fol T (lv T row) c = true) : stB T (row ++ [n]) := by
  intro pre n' post e
  rcases List.eq_nil_or_concat post with rfl | ⟨post', d, rfl⟩
  · obtain ⟨e1, e2⟩ := List.append_inj' e rfl
    cases e2
    subst e1
    exact ⟨c, hc, hf⟩
  · rw [List.concat_eq_append, ← List.cons_append, ← List.append_assoc] at e
    obtain ⟨e1, _⟩ := List.append_inj' e rfl
    exact h pre n' post' e1
theorem nms_len (T : Trk) : (nms T).length = T.length := List.length_map _
theorem nms_take (T : Trk) (m : Nat) : (T.take m).map (fun c => c.a) = (nms T).take m := List.map_take
theorem line_lawP {T : Trk} (hT : Ok T) (hS : ∀ c ∈ T, skC c) {name : Str} (hname : Nm name) (cell : Int) (picks : List Int) (hp : picks.length ≤ 20) : ∃ L, f_law_line (T, name, cell, picks, ()) = some L ∧ okL T L ∧ L.a = name ∧ L.c.length ≤ picks.length := by
  have h24 := hT.l
  have hn := hT.t.nodup
  have hpos : (0 : Int) < (T.length : Int) + 1 := by omega
  have b0 := Int.emod_nonneg cell (by omega : (T.length : Int) + 1 ≠ 0)
  have b1 := Int.emod_lt_of_pos cell hpos
  generalize hm : cell % ((T.length : Int) + 1) = m at *
  have hrow : lcO (fun _ => some true) (fun i3 : Chg => some i3.a) (T.take m.toNat) = some ((nms T).take m.toNat) := by
    rw [lcO_map (fun c : Chg => c.a) (T.take m.toNat) (by rw [List.length_take]; omega) fun _ _ => rfl, nms_take]
  have htl : ((nms T).take m.toNat).length ≤ 24 := by rw [List.length_take, nms_len]; omega
  unfold f_law_line m_law_line
  simp only [Option.bind_some, oAdd, oMod_ok _ hpos, hm, cut_take _ b0, hrow]
  refine loop_outR (fun (s : List Str) pre => stB T ((nms T).take m.toNat ++ s) ∧ s.length ≤ pre.length) ⟨by rw [List.append_nil]; exact hT.t.stands _, Nat.le_refl _⟩ ?_ ?_
  · intro s pre x post e ⟨p1, p2⟩
    have hpl : pre.length < 20 := by
      have := congrArg List.length e
      rw [List.length_append, List.length_cons] at this
      omega
    have hcat : oCat ((nms T).take m.toNat) s = some ((nms T).take m.toNat ++ s) := if_pos (by omega)
    have hlive := law_live_t hn h24 p1.mem (by rw [List.length_append]; omega)
    generalize hrw : (nms T).take m.toNat ++ s = row at *
    have hcan : lcO (fun i7 : Chg => f_law_can_come (T, lvL T row, i7.a, ())) (fun i7 => some i7.a) T = some ((T.filter fun c => fol T (lv T row) c).map fun c => c.a) := lcO_ok _ _ T (by omega) (fun c hc => can_come_t hn h24 hT.t.bl (look_of hn hc)) fun _ _ _ => rfl
    simp only [Option.bind_some, hcat, hlive, hcan]
    have hcm : ∀ n ∈ (T.filter fun c => fol T (lv T row) c).map (fun c => c.a), ∃ c, look T n = some c ∧ fol T (lv T row) c = true := fun n hn' => by
      obtain ⟨c, hc, e⟩ := List.mem_map.mp hn'
      obtain ⟨h1, h2⟩ := List.mem_filter.mp hc
      exact ⟨c, e ▸ look_of hn h1, h2⟩
    have hCs : ∀ n ∈ (T.filter fun c => fol T (lv T row) c).map (fun c => c.a), Sk n := fun n hn' => by
      obtain ⟨c, hc, e⟩ := List.mem_map.mp hn'
      exact e ▸ (hS c (List.mem_filter.mp hc).1).a
    generalize (T.filter fun c => fol T (lv T row) c).map (fun c => c.a) = C at *
    have hdn := dNe_t (xs := C) (ys := []) hCs (fun x h => (by cases h))
    simp only [hdn, Option.bind_some]
    by_cases hCe : C = []
    · refine ⟨s, ?_, by rw [hrw]; exact p1, by rw [List.length_append]; show s.length ≤ pre.length + 1; omega⟩
      simp only [decide_eq_true hCe, Bool.not_true, Bool.false_eq_true, if_false, Option.bind_some, go_nx]
    · obtain ⟨g, hg1, hg2⟩ := one_of hCe x
      obtain ⟨c, c1, c2⟩ := hcm g hg1
      refine ⟨s ++ [g], ?_, by rw [← List.append_assoc, hrw]; exact stB_snoc p1 c1 c2, by rw [List.length_append, List.length_append]; show s.length + 1 ≤ pre.length + 1; omega⟩
      simp only [decide_eq_false hCe, Bool.not_false, if_true, hg2, if_pos (show s.length < 50000 by omega), Option.bind_some, go_nx]
  · intro s ⟨p1, p2⟩
    refine ⟨⟨name, m, s⟩, rfl, ⟨hname, b0, by show m ≤ _; omega, by show s.length ≤ 40; omega, p1⟩, rfl, by show s.length ≤ picks.length; omega⟩
theorem line_law {T : Trk} (hT : Ok T) (hS : ∀ c ∈ T, skC c) {name : Str} (hname : Nm name) (cell : Int) (picks : List Int) (hp : picks.length ≤ 20) : ∃ L, f_law_line (T, name, cell, picks, ()) = some L ∧ okL T L ∧ L.a = name ∧ L.c.length ≤ 20 := by
  obtain ⟨L, h1, h2, h3, h4⟩ := line_lawP hT hS hname cell picks hp
  exact ⟨L, h1, h2, h3, by omega⟩
/-! ### what hangs -/
theorem filt_sub {acc N : List Str} (h : acc.Sublist N) (hn : N.Nodup) : N.filter (fun x => decide (x ∈ acc)) = acc := by
  induction h with
  | slnil => rfl
  | cons a h ih =>
    obtain ⟨h1, h2⟩ := List.nodup_cons.mp hn
    rw [List.filter_cons_of_neg (by simpa using fun h3 => h1 (h.subset h3))]
    exact ih h2
  | @cons_cons l1 l2 a h ih =>
    obtain ⟨h1, h2⟩ := List.nodup_cons.mp hn
    rw [List.filter_cons_of_pos (by simp)]
    congr 1
    rw [← ih h2]
    refine List.filter_congr fun x hx => ?_
    have hxa : x ≠ a := fun e => h1 (e ▸ hx)
    rw [ih h2]
    simp [hxa]
def lgS (ln : Str → List Str) (F : List Str) (x : Str) : List Str := if (!decide (x ∈ F) && (ln x).any fun l => decide (l ∈ F)) = true then F ++ [x] else F
section
variable {ln : Str → List Str} {N : List Str} {n : Str}
theorem hg_more : ∀ (post acc : List Str), ∃ m, post.foldl (hgS ln n) acc = acc ++ m ∧ m.Sublist post
  | [], acc => ⟨[], by simp, .slnil⟩
  | x :: post, acc => by
    rw [List.foldl_cons]
    unfold hgS
    split
    · obtain ⟨m, h1, h2⟩ := hg_more post (acc ++ [x])
      refine ⟨x :: m, ?_, h2.cons_cons x⟩
      show post.foldl (hgS ln n) (acc ++ [x]) = _
      rw [h1]; simp
    · obtain ⟨m, h1, h2⟩ := hg_more post acc
      exact ⟨m, h1, h2.cons x⟩
theorem hg_pre (hN : N.Nodup) (hn : n ∈ N) (ho : ∀ pre x post, N = pre ++ x :: post → ∀ l ∈ ln x, l ∉ x :: post) : ∀ pre post, N = pre ++ post →
    pre.foldl (lgS ln) [n] = n :: pre.foldl (hgS ln n) [] ∧ (n ∉ pre → pre.foldl (hgS ln n) [] = []) ∧ n ∉ pre.foldl (hgS ln n) [] := by
  intro pre
  have rev : ∀ (r post : List Str), N = r.reverse ++ post → r.reverse.foldl (lgS ln) [n] = n :: r.reverse.foldl (hgS ln n) [] ∧ (n ∉ r.reverse → r.reverse.foldl (hgS ln n) [] = []) ∧ n ∉ r.reverse.foldl (hgS ln n) [] := by
    intro r
    induction r with
    | nil => intro post e; exact ⟨rfl, fun _ => rfl, fun h => (by cases h)⟩
    | cons x r ih =>
      intro post e
      rw [List.reverse_cons, List.append_assoc] at e
      obtain ⟨h1, h2, h3⟩ := ih (x :: post) e
      have hol := ho r.reverse x post e
      obtain ⟨m, hm1, hm2⟩ := hg_more (ln := ln) (n := n) r.reverse []
      rw [List.nil_append] at hm1
      rw [List.reverse_cons, List.foldl_append, List.foldl_append, h1]
      show lgS ln (n :: r.reverse.foldl (hgS ln n) []) x = n :: hgS ln n (r.reverse.foldl (hgS ln n) []) x ∧ (_ → hgS ln n (r.reverse.foldl (hgS ln n) []) x = []) ∧ n ∉ hgS ln n (r.reverse.foldl (hgS ln n) []) x
      have hxr : x ∉ r.reverse := fun h => by
        rw [e, List.nodup_append] at hN
        exact hN.2.2 x h x List.mem_cons_self rfl
      have hacc : ∀ y ∈ r.reverse.foldl (hgS ln n) [], y ∈ r.reverse := fun y hy => hm2.subset (hm1 ▸ hy)
      generalize r.reverse.foldl (hgS ln n) [] = acc at *
      have hcond : ((ln x).any fun l => decide (l ∈ n :: acc)) = (ln x).any fun l => decide (l = n) || decide (l ∈ acc) := by
        congr 1; funext l; rw [Bool.eq_iff_iff]; simp
      by_cases hxn : x = n
      · subst hxn
        have ha := h2 hxr
        subst ha
        have hf : ((ln x).any fun l => decide (l = x) || decide (l ∈ ([] : List Str))) = false := by
          rw [List.any_eq_false]
          intro l hl h
          have : l = x := by simpa using h
          exact hol l hl (this ▸ List.mem_cons_self)
        unfold lgS hgS
        rw [hf]
        simp
      · have hxa : x ∉ acc := fun h => hxr (hacc x h)
        have hxF : x ∉ n :: acc := by
          intro h
          rcases List.mem_cons.mp h with h | h
          · exact hxn h
          · exact hxa h
        refine ⟨?_, ?_, ?_⟩
        · unfold lgS hgS
          rw [hcond, decide_eq_false hxF, Bool.not_false, Bool.true_and]
          split <;> rfl
        · intro hnp
          have hnr : n ∉ r.reverse := fun h => hnp (List.mem_append_left _ h)
          have ha := h2 hnr
          subst ha
          have hnpost : n ∈ post := by
            rw [e] at hn
            rcases List.mem_append.mp hn with h | h
            · exact absurd h hnr
            · rcases List.mem_cons.mp h with h | h
              · exact absurd h.symm hxn
              · exact h
          have hf : ((ln x).any fun l => decide (l = n) || decide (l ∈ ([] : List Str))) = false := by
            rw [List.any_eq_false]
            intro l hl h
            have : l = n := by simpa using h
            exact hol l hl (this ▸ List.mem_cons_of_mem _ hnpost)
          unfold hgS
          rw [hf] <;> rfl
        · unfold hgS
          split
          · intro h
            rcases List.mem_append.mp h with h | h
            · exact h3 h
            · exact hxn (List.mem_singleton.mp h).symm
          · exact h3
  intro post e
  have := rev pre.reverse post (by rw [List.reverse_reverse]; exact e)
  rwa [List.reverse_reverse] at this
theorem hg_pos {acc : List Str} {x : Str} (h : ((ln x).any fun l => decide (l = n) || decide (l ∈ acc)) = true) : hgS ln n acc x = acc ++ [x] := if_pos h
theorem hg_neg {acc : List Str} {x : Str} (h : ¬ ((ln x).any fun l => decide (l = n) || decide (l ∈ acc)) = true) : hgS ln n acc x = acc := if_neg h
theorem hg_end (hN : N.Nodup) (hn : n ∈ N) (ho : ∀ pre x post, N = pre ++ x :: post → ∀ l ∈ ln x, l ∉ x :: post) :
    N.foldl (lgS ln) [n] = n :: N.foldl (hgS ln n) [] ∧ N.foldl (lgS ln) (n :: N.foldl (hgS ln n) []) = n :: N.foldl (hgS ln n) [] ∧ N.filter (fun x => decide (x ∈ n :: N.foldl (hgS ln n) []) && !decide (x = n)) = N.foldl (hgS ln n) [] := by
  obtain ⟨h1, _, h3⟩ := hg_pre hN hn ho N [] (by simp)
  obtain ⟨m, hm1, hm2⟩ := hg_more (ln := ln) (n := n) N []
  rw [List.nil_append] at hm1
  refine ⟨h1, ?_, ?_⟩
  · have fix : ∀ x ∈ N, lgS ln (n :: N.foldl (hgS ln n) []) x = n :: N.foldl (hgS ln n) [] := by
      intro x hx
      unfold lgS
      apply if_neg
      intro h
      rw [Bool.and_eq_true] at h
      obtain ⟨hx1, hx2⟩ := h
      have hx1 : x ∉ n :: N.foldl (hgS ln n) [] := by simpa using hx1
      obtain ⟨l, hl, hlF⟩ := List.any_eq_true.mp hx2
      have hlF : l ∈ n :: N.foldl (hgS ln n) [] := of_decide_eq_true hlF
      obtain ⟨pre, post, e⟩ := List.append_of_mem hx
      have hol := ho pre x post e l hl
      have e2 : N.foldl (hgS ln n) [] = post.foldl (hgS ln n) (hgS ln n (pre.foldl (hgS ln n) []) x) := by
        rw [e, List.foldl_append, List.foldl_cons]
      obtain ⟨q, hq1, hq2⟩ := hg_more (ln := ln) (n := n) post (hgS ln n (pre.foldl (hgS ln n) []) x)
      rw [← e2] at hq1
      by_cases hc : ((ln x).any fun l => decide (l = n) || decide (l ∈ pre.foldl (hgS ln n) [])) = true
      · have : x ∈ N.foldl (hgS ln n) [] := by
          rw [hq1, hg_pos hc]
          simp
        exact hx1 (List.mem_cons_of_mem _ this)
      · apply hc
        rw [List.any_eq_true]
        refine ⟨l, hl, ?_⟩
        rcases List.mem_cons.mp hlF with h | h
        · rw [decide_eq_true h] <;> rfl
        · rw [hq1] at h
          rw [hg_neg hc] at h
          rcases List.mem_append.mp h with h | h
          · simp only [Bool.or_eq_true, decide_eq_true_eq]; exact .inr h
          · exact absurd (List.mem_cons_of_mem _ (hq2.subset h)) hol
    have go : ∀ xs : List Str, (∀ x ∈ xs, x ∈ N) → xs.foldl (lgS ln) (n :: N.foldl (hgS ln n) []) = n :: N.foldl (hgS ln n) [] := by
      intro xs
      induction xs with
      | nil => intro _; rfl
      | cons x xs ih => intro h; rw [List.foldl_cons, fix x (h x List.mem_cons_self)]; exact ih fun y hy => h y (List.mem_cons_of_mem _ hy)
    exact go N fun _ h => h
  · rw [← hm1] at hm2
    rw [List.filter_congr (q := fun x => decide (x ∈ N.foldl (hgS ln n) []))]
    · exact filt_sub hm2 hN
    · intro x hx
      rw [Bool.eq_iff_iff]
      simp only [Bool.and_eq_true, decide_eq_true_eq, Bool.not_eq_true', decide_eq_false_iff_not, List.mem_cons]
      constructor
      · rintro ⟨h | h, h2⟩
        · exact absurd h h2
        · exact h
      · intro h
        exact ⟨.inr h, fun e => h3 (e ▸ h)⟩
end
end K
end

section
set_option maxRecDepth 100000
set_option maxHeartbeats 1000000
namespace K
open PySem L2 Sm
theorem law_row_t {T : Trk} {L : Lin} (hl : T.length ≤ 24) (b0 : 0 ≤ L.b) (cl : L.c.length ≤ 40) : f_law_row (T, L, ()) = some (rowOf T L) := by
  have hrow : lcO (fun _ => some true) (fun i3 : Chg => some i3.a) (T.take L.b.toNat) = some ((nms T).take L.b.toNat) := by
    rw [lcO_map (fun c : Chg => c.a) (T.take L.b.toNat) (by rw [List.length_take]; omega) fun _ _ => rfl, nms_take]
  have hcat : oCat ((nms T).take L.b.toNat) L.c = some (rowOf T L) := if_pos (by rw [List.length_take, nms_len]; omega)
  unfold f_law_row m_law_row
  simp only [Option.bind_some, cut_take _ b0, hrow, hcat, outR_rt]
theorem law_has_t {T : Trk} {L : Lin} (hT : Ok T) (b0 : 0 ≤ L.b) (cl : L.c.length ≤ 40) (hm : ∀ n ∈ rowOf T L, n ∈ nms T) : f_law_has (T, L, ()) = some (lvL T (rowOf T L)) := by
  unfold f_law_has m_law_has
  simp only [Option.bind_some, law_row_t hT.l b0 cl, law_live_t hT.t.nodup hT.l hm (by have := rowOf_len (L := L) hT.l cl; omega), outR_rt]
theorem law_copied_t {T : Trk} (hl : T.length ≤ 24) : f_law_copied (T, ()) = some T := by
  unfold f_law_copied m_law_copied
  simp only [Option.bind_some]
  rw [lcO_map (fun c : Chg => c) T (by omega) fun _ _ => rfl, List.map_id']
  rfl
theorem okT.order {T : Trk} (h : okT T) : T.Pairwise (fun c d => d.a ∉ c.b) ∧ ∀ c ∈ T, c.a ∉ c.b := by
  induction h with
  | nil => exact ⟨.nil, fun c h => (by cases h)⟩
  | @snoc T c hT hc ih =>
    have hin : ∀ d ∈ T, ∀ x ∈ d.b, x ∈ nms T := fun d hd x hx => by
      obtain ⟨p, q, e⟩ := List.append_of_mem hd
      obtain ⟨g, hg, _⟩ := (hT.split p d q e).2.b x hx
      obtain ⟨m, e2⟩ := look_mem hg
      rw [e, nms_append]
      exact List.mem_append_left _ (List.mem_map.mpr ⟨g, m, e2⟩)
    refine ⟨List.pairwise_append.mpr ⟨ih.1, List.pairwise_singleton _ _, fun d hd g hg => ?_⟩, fun d hd => ?_⟩
    · rw [List.mem_singleton.mp hg]
      exact fun h => hc.n (hin d hd _ h)
    · rcases List.mem_append.mp hd with h | h
      · exact ih.2 d h
      · rw [List.mem_singleton.mp h]
        intro h
        obtain ⟨g, hg, _⟩ := hc.b _ h
        obtain ⟨m, e2⟩ := look_mem hg
        exact hc.n (List.mem_map.mpr ⟨g, m, e2⟩)
theorem order_lvL {T : Trk} (h : okT T) (row : List Str) : ∀ pre x post, lvL T row = pre ++ x :: post → ∀ l ∈ lns T x, l ∉ x :: post := by
  have hn := h.nodup
  have h1 : (nms T).Pairwise (fun x y => y ∉ lns T x) := by
    unfold nms
    rw [List.pairwise_map]
    refine List.Pairwise.imp_of_mem (fun {c d} hc hd r => ?_) h.order.1
    rw [lns_of (look_of hn hc)]
    exact r
  intro pre x post e l hl hm
  have h2 : (lvL T row).Pairwise (fun x y => y ∉ lns T x) := h1.filter _
  rw [e] at h2
  have h3 := (List.pairwise_cons.mp (List.pairwise_append.mp h2).2.1).1
  rcases List.mem_cons.mp hm with rfl | hm
  · have hx : l ∈ nms T := (List.mem_filter.mp (show l ∈ lvL T row by rw [e]; simp)).1
    obtain ⟨c, hc⟩ := look_some hx
    obtain ⟨m, en⟩ := look_mem hc
    rw [lns_of hc] at hl
    exact h.order.2 c m (en.symm ▸ hl)
  · exact h3 l hm hl
theorem lvL_nodup {T : Trk} (h : okT T) (row : List Str) : (lvL T row).Nodup := h.nodup.filter _
def hgL (T : Trk) (V : List Str) (n : Str) : List Str := V.foldl (hgS (lns T) n) []
theorem lgS_len {ln : Str → List Str} (F : List Str) (x : Str) : (lgS ln F x).length ≤ F.length + 1 := by
  unfold lgS
  split
  · rw [List.length_append]; exact Nat.le_refl _
  · omega
theorem hgL_sub {T : Trk} {V : List Str} {n : Str} : (hgL T V n).Sublist V := by
  obtain ⟨m, h1, h2⟩ := hg_more (ln := lns T) (n := n) V []
  unfold hgL
  rw [h1, List.nil_append]; exact h2
end K
end

section
set_option maxRecDepth 100000
set_option maxHeartbeats 1000000
namespace K
open PySem L2 Sm
end K
end

section
set_option maxRecDepth 100000
set_option maxHeartbeats 1000000
namespace K
open PySem L2 Sm

/-! ### faults -/
def brg (T : Trk) (x : Str) : List Str := match look T x with | some c => c.d | none => []
def mnd (T : Trk) (x : Str) : List Str := match look T x with | some c => c.e | none => []
theorem brg_of {T : Trk} {x : Str} {c : Chg} (h : look T x = some c) : brg T x = c.d := by unfold brg; rw [h]
theorem mnd_of {T : Trk} {x : Str} {c : Chg} (h : look T x = some c) : mnd T x = c.e := by unfold mnd; rw [h]
def flt (T : Trk) (V : List Str) (f : Str) : Bool := !(V.any fun x => decide (f ∈ mnd T x)) && V.any fun x => decide (f ∈ brg T x)
/-- the first that brings it -/
def fst (T : Trk) (V : List Str) (f : Str) : List Str := V.filter fun x => decide (f ∈ brg T x)
theorem flt_ne {T : Trk} {V : List Str} {f : Str} (h : flt T V f = true) : ∃ x xs, fst T V f = x :: xs := by
  unfold flt at h
  rw [Bool.and_eq_true, List.any_eq_true] at h
  obtain ⟨_, x, hx, e⟩ := h
  have hm : x ∈ fst T V f := List.mem_filter.mpr ⟨hx, e⟩
  cases q : fst T V f with
  | nil => rw [q] at hm; cases hm
  | cons y ys => exact ⟨y, ys, rfl⟩
end K
end

section
set_option maxRecDepth 100000
set_option maxHeartbeats 1000000
namespace K
open PySem L2 Sm

theorem sk_of {T : Trk} (hS : ∀ c ∈ T, skC c) : ∀ x ∈ nms T, Sk x := fun x hx => by
  obtain ⟨c, hc, e⟩ := List.mem_map.mp hx
  exact e ▸ (hS c hc).a
/-! ### chains, judged -/
def pln (T : Trk) (x : Str) : Bool := match look T x with | some c => c.c.isNone | none => false
def lnk (T : Trk) : List Str → Bool
  | x :: y :: r => decide (y ∈ lns T x) && lnk T (y :: r)
  | _ => true
def lastB (B ch : List Str) : Bool := match ch.getLast? with | some x => decide (x ∈ B) | none => false
def chB (T : Trk) (V B ch : List Str) : Bool := !ch.isEmpty && (ch.all (fun x => pln T x && !decide (x ∈ V)) && (lnk T ch && lastB B ch))
theorem oIx_last {α : Type} (xs : List α) : oIx xs (-1) = xs.getLast? := by
  cases xs with
  | nil => rfl
  | cons x xs =>
    unfold oIx atI ixN
    rw [List.getLast?_eq_getElem?]
    simp only [List.length_cons]
    rw [if_neg (by omega)]
    show (if _ then _ else _ : Option Nat).bind _ = _
    rw [if_pos (by omega)]
    simp only [Option.bind_some]
    congr 1
    omega
theorem cut_init {α : Type} (xs : List α) : cut xs none (some (-1)) = xs.dropLast := by
  unfold cut HT.sIx
  show (xs.drop 0).take ((if (-1 : Int) < 0 then _ else _) - 0) = _
  rw [if_pos (by decide), List.drop_zero, Nat.sub_zero, List.dropLast_eq_take]
  congr 1
  omega
theorem zip_init {α : Type} : ∀ xs : List α, xs.dropLast.zip xs.tail = xs.zip xs.tail
  | [] => rfl
  | [x] => rfl
  | x :: y :: r => by
    have ih := zip_init (y :: r)
    show (x :: (y :: r).dropLast).zip (y :: r) = (x :: y :: r).zip (y :: r)
    rw [List.zip_cons_cons, List.zip_cons_cons]
    exact congrArg _ ih
/-- a loop that ends with False at the first that fails -/
theorem loop_test {α : Type} {b : Unit → α → Option (Out Unit Bool)} (p : α → Bool) : ∀ xs : List α, (∀ x ∈ xs, b () x = some (if p x = true then .nx () else .rt false)) → loopM b () xs = some (if xs.all p = true then .nx () else .rt false)
  | [], _ => rfl
  | x :: xs, h => by
    show (b () x).bind _ = _
    rw [h x List.mem_cons_self]
    have ih := loop_test p xs fun y hy => h y (List.mem_cons_of_mem _ hy)
    cases hp : p x with
    | true =>
      simp only [if_true, Option.bind_some, go_nx, ih, List.all_cons, hp, Bool.true_and]
    | false =>
      simp only [Bool.false_eq_true, if_false, Option.bind_some, go_rt, List.all_cons, hp, Bool.false_and]
theorem lnk_zip (T : Trk) : ∀ ch : List Str, ((ch.zip ch.tail).map fun p => T2.mk p.1 p.2).all (fun q => decide (q.b ∈ lns T q.a)) = lnk T ch
  | [] => rfl
  | [x] => rfl
  | x :: y :: r => by
    have ih := lnk_zip T (y :: r)
    show (decide (y ∈ lns T x) && _) = _
    unfold lnk
    rw [← ih]
    rfl
theorem plain_names {T : Trk} (hT : Ok T) : lcO (fun i2 : Chg => some i2.c.isNone) (fun i2 => some i2.a) T = some ((nms T).filter (pln T)) := by
  have hn := hT.t.nodup
  rw [lcO_ok (fun c : Chg => c.c.isNone) (fun c => c.a) T (by have := hT.l; omega) (fun _ _ => rfl) fun _ _ _ => rfl]
  rw [nms_filter hn _ (pln T) fun c hc => by
    unfold pln
    rw [look_of hn hc]]
theorem pln_nm {T : Trk} {x : Str} (h : pln T x = true) : x ∈ nms T := by
  unfold pln at h
  cases e : look T x with
  | none => rw [e] at h; cases h
  | some c =>
    obtain ⟨m, e2⟩ := look_mem e
    exact List.mem_map.mpr ⟨c, m, e2⟩
/-! ### whether a row stands on -/
end K
end

section
set_option maxRecDepth 100000
set_option maxHeartbeats 1000000
namespace K
open PySem L2 Sm
theorem law_stands_t {T : Trk} {R : List Str} {b : Int} (hT : Ok T) (hR : ∀ n ∈ R, n ∈ nms T) (hl : R.length ≤ 100) (b0 : 0 ≤ b) (b1 : b ≤ (R.length : Int)) :
    ∃ v, f_law_stands (T, R, b, ()) = some v ∧ (v = true ↔ ∀ pre n post, R = pre ++ n :: post → b.toNat ≤ pre.length → ∃ c, look T n = some c ∧ fol T (lv T pre) c = true) := by
  have hn := hT.t.nodup
  let g : Int → Bool := fun i => match R[i.toNat]? with
    | some n => match look T n with
      | some c => fol T (lv T (R.take i.toNat)) c
      | none => false
    | none => false
  have hrl : (rng b (R.length : Int)).length = R.length - b.toNat := by
    unfold rng; rw [List.length_map, List.length_range]; omega
  have hmem : ∀ i, i ∈ rng b (R.length : Int) ↔ b ≤ i ∧ i < (R.length : Int) := fun i => by
    unfold rng
    rw [List.mem_map]
    constructor
    · rintro ⟨k, hk, rfl⟩
      rw [List.mem_range] at hk
      omega
    · rintro ⟨h1, h2⟩
      exact ⟨(i - b).toNat, List.mem_range.mpr (by omega), by omega⟩
  have hmap : lcO (fun _ => some true) (fun i1 => (f_law_live (T, cut R none (some i1), ())).bind fun x => (oIx R i1).bind fun y => f_law_can_come (T, x, y, ())) (rng b (R.length : Int)) = some ((rng b (R.length : Int)).map g) := lcO_map _ _ (by omega) fun i hi => by
    obtain ⟨h1, h2⟩ := (hmem i).mp hi
    obtain ⟨k, rfl⟩ := Int.eq_ofNat_of_zero_le (show 0 ≤ i by omega)
    have hk : k < R.length := by omega
    have hnk := hR _ (List.getElem_mem hk)
    obtain ⟨c, hc⟩ := look_some hnk
    rw [cut_take _ (by omega), Int.toNat_natCast, law_live_t hn hT.l (fun n hn' => hR n (List.mem_of_mem_take hn')) (by rw [List.length_take]; omega), oIx_nat R k hk, List.getElem?_eq_getElem hk]
    simp only [Option.bind_some]
    rw [can_come_t hn hT.l hT.t.bl hc]
    show _ = some (match R[(k : Int).toNat]? with | some n => _ | none => _)
    rw [Int.toNat_natCast, List.getElem?_eq_getElem hk]
    simp only [hc]
  refine ⟨(rng b (R.length : Int)).all g, ?_, ?_⟩
  · unfold f_law_stands m_law_stands
    simp only [Option.bind_some, Option.bind_assoc, if_pos (show (0 ≤ b ∧ b ≤ 100000) ∧ (0 ≤ (R.length : Int) ∧ (R.length : Int) ≤ 100000) by omega)] at hmap ⊢
    rw [hmap]
    simp only [Option.bind_some, all_map, outR_rt]
  · rw [List.all_eq_true]
    constructor
    · intro h pre n post e hp
      have h1 := h (pre.length : Int) ((hmem _).mpr ⟨by omega, by
        have := congrArg List.length e
        rw [List.length_append, List.length_cons] at this
        omega⟩)
      have h2 : R[pre.length]? = some n := by rw [e, List.getElem?_append_right (Nat.le_refl _), Nat.sub_self] <;> rfl
      have h3 : R.take pre.length = pre := by rw [e, List.take_left']; rfl
      have h1 : (match R[((pre.length : Nat) : Int).toNat]? with
        | some n => match look T n with
          | some c => fol T (lv T (R.take ((pre.length : Nat) : Int).toNat)) c
          | none => false
        | none => false) = true := h1
      rw [Int.toNat_natCast, h2, h3] at h1
      cases hc : look T n with
      | none => simp only [hc] at h1; cases h1
      | some c => simp only [hc] at h1; exact ⟨c, rfl, h1⟩
    · intro h i hi
      obtain ⟨h1, h2⟩ := (hmem i).mp hi
      obtain ⟨k, rfl⟩ := Int.eq_ofNat_of_zero_le (show 0 ≤ i by omega)
      have hk : k < R.length := by omega
      obtain ⟨c, hc, hf⟩ := h (R.take k) R[k] (R.drop (k + 1)) (by rw [← List.drop_eq_getElem_cons hk, List.take_append_drop]) (by rw [List.length_take]; omega)
      show (match R[(k : Int).toNat]? with | some n => _ | none => _) = true
      rw [Int.toNat_natCast, List.getElem?_eq_getElem hk]
      simp only [hc]
      exact hf
end K
end

section
set_option maxRecDepth 100000
set_option maxHeartbeats 1000000
namespace K
open PySem L2 Sm
theorem wrong_line_t {T : Trk} {Ls : List Lin} (hT : Ok T) (hL : ∀ L ∈ Ls, okL T L) (hn : (Ls.map (·.a)).Nodup) (hl : Ls.length ≤ 40000) : f_wrong_line_l (bookOf T, Ls, ()) = some none := by
  unfold f_wrong_line_l m_wrong_line_l
  simp only [Option.bind_some]
  rw [loop_then (r := some (Out.rt (none : Option Int))) (fun (s : List Str) pre => s = pre.map fun p => p.b.a)]
  · rfl
  · rfl
  · intro s pre x post e p1
    obtain ⟨e1, e2⟩ := enum_split e
    have hx := hL x.b (by rw [e1]; simp)
    have hlen : pre.length < 50000 := by
      have := congrArg List.length e1
      rw [List.length_append, List.length_map, List.length_cons, List.length_map] at this
      omega
    have hnew : x.b.a ∉ s := by
      rw [p1]
      intro h
      rw [e1, List.map_append, List.map_cons, List.map_map] at hn
      have h2 := (List.nodup_append.mp hn).2.2 x.b.a h x.b.a List.mem_cons_self
      exact h2 rfl
    refine ⟨s ++ [x.b.a], ?_, by rw [List.map_append, p1] <;> rfl⟩
    simp only [line_t hT hx, Option.bind_some, Bool.not_true, Bool.false_eq_true, if_false, oIn, q_str, in_any, decide_eq_false hnew, go_nx, if_pos (show s.length < 50000 by rw [p1, List.length_map]; exact hlen)]
  · intro s _
    simp only [go_nx]
theorem check_lines_t {T : Trk} {Ls : List Lin} (hT : Ok T) (hL : ∀ L ∈ Ls, okL T L) (hn : (Ls.map (·.a)).Nodup) (hl : Ls.length ≤ 40000) : f_check_lines (bookOf T, Ls, ()) = some () := by
  unfold f_check_lines m_check_lines
  simp only [Option.bind_some, wrong_line_t hT hL hn hl, Bool.not_true, Bool.false_eq_true, if_false, Option.isNone_none, go_nx]
  rfl
/-- what is told of one line -/
def rS (T : Trk) (f : Str) (acc : List (T2 Str Str)) (L : Lin) : List (T2 Str Str) := if flt T (lvL T (rowOf T L)) f = true then acc ++ [⟨L.a, ((fst T (lvL T (rowOf T L)) f)[0]?).getD default⟩] else acc
theorem rS_len {T : Trk} {f : Str} (acc : List (T2 Str Str)) (L : Lin) : (rS T f acc L).length ≤ acc.length + 1 := by
  unfold rS
  split
  · rw [List.length_append]; exact Nat.le_refl _
  · omega
def rch (T : Trk) (Ls : List Lin) (f : Str) : List (T2 Str Str) := Ls.foldl (rS T f) []
theorem lvL_mem {T : Trk} {row : List Str} : ∀ x ∈ lvL T row, x ∈ nms T := fun x hx => (List.mem_filter.mp hx).1
/-! ### the law -/
theorem dNe_self {α : Type} [Rp α] [i : Dat α] {x : α} (h1 : i.ok x = true) (h2 : i.q x x = true) : dNe x x = some false := by
  unfold dNe
  rw [h1, h2] <;> rfl
theorem skn_nms {T : Trk} (hS : ∀ c ∈ T, skC c) : ∀ x ∈ nms T, Sk x := fun x hx => by
  obtain ⟨c, hc, e⟩ := List.mem_map.mp hx
  exact e ▸ (hS c hc).a
theorem q_chg (c : Chg) : Dat.q c c = true := by
  show ((c.a == c.a) && (Dat.q c.b c.b && ((c.c == c.c) && (Dat.q c.d c.d && Dat.q c.e c.e)))) = true
  rw [q_list, q_list, q_list]
  simp
theorem q_lin (L : Lin) : Dat.q L L = true := by
  show ((L.a == L.a) && ((L.b == L.b) && Dat.q L.c L.c)) = true
  rw [q_list]
  simp
theorem ok_lin {L : Lin} (ha : Sk L.a) (hc : ∀ x ∈ L.c, Sk x) : Dat.ok L = true := by
  show (PyData.strOk L.a && (true && Dat.ok L.c)) = true
  rw [show PyData.strOk L.a = true from ha, skL hc] <;> rfl
theorem rch_sk {T : Trk} {Ls : List Lin} {f : Str} (hS : ∀ c ∈ T, skC c) (hL : ∀ L ∈ Ls, Sk L.a) : ∀ p ∈ rch T Ls f, Dat.ok p = true := by
  have go : ∀ (Ls : List Lin) (acc : List (T2 Str Str)), (∀ L ∈ Ls, Sk L.a) → (∀ p ∈ acc, Dat.ok p = true) → ∀ p ∈ Ls.foldl (rS T f) acc, Dat.ok p = true := by
    intro Ls
    induction Ls with
    | nil => intro acc _ h; exact h
    | cons L Ls ih =>
      intro acc h1 h2
      refine ih _ (fun M hM => h1 M (List.mem_cons_of_mem _ hM)) ?_
      unfold rS
      split
      · rename_i hq
        intro p hp
        rcases List.mem_append.mp hp with h | h
        · exact h2 p h
        · rw [List.mem_singleton.mp h]
          obtain ⟨y, ys, hy⟩ := flt_ne hq
          have hym : y ∈ fst T (lvL T (rowOf T L)) f := by rw [hy]; simp
          show (PyData.strOk L.a && PyData.strOk _) = true
          rw [hy, List.getElem?_cons_zero, Option.getD_some, show PyData.strOk L.a = true from h1 L List.mem_cons_self, show PyData.strOk y = true from skn_nms hS y (lvL_mem y (List.mem_filter.mp hym).1)] <;> rfl
      · exact h2
  exact go Ls [] hL (fun p h => (by cases h))
theorem q_pairs (xs : List (T2 Str Str)) : Dat.q xs xs = true := by
  refine qAll_self (fun x => ?_) xs
  show ((x.a == x.a) && (x.b == x.b)) = true
  simp
theorem nobody : Nm (Str.ofString "nobody") ∧ Sk (Str.ofString "nobody") := by decide +kernel
theorem seven (z : Int) (h0 : 0 ≤ z) (h1 : z < 7) : ∃ n : Int, oIx ([0, 1, 2, 3, 4, 5, 12] : List Int) z = some n ∧ 0 ≤ n ∧ n ≤ 12 := by
  have : z = 0 ∨ z = 1 ∨ z = 2 ∨ z = 3 ∨ z = 4 ∨ z = 5 ∨ z = 6 := by omega
  rcases this with rfl | rfl | rfl | rfl | rfl | rfl | rfl <;> exact ⟨_, rfl, by decide, by decide⟩
end K
end

section
set_option maxRecDepth 100000
set_option maxHeartbeats 2000000
namespace K
open PySem L2 Sm TL

/-! ### cut texts, glued again -/
theorem joinL_cons {S p : List Nat} {r : List (List Nat)} (h : r ≠ []) : joinL S (p :: r) = p ++ (S ++ joinL S r) := by
  cases r with
  | nil => exact absurd rfl h
  | cons q r => rfl
theorem spl_ne (S : List Nat) : ∀ (l acc : List Nat) (k : Nat), spl S k acc l ≠ []
  | [], acc, k => by rw [spl_nil]; simp
  | c :: r, acc, 0 => by
    cases h : pre S (c :: r) with
    | true => rw [spl_hit h]; simp
    | false => rw [spl_miss h]; exact spl_ne S r _ 0
  | c :: r, acc, k + 1 => spl_ne S r acc k
theorem join_spl {S : List Nat} (hS : S ≠ []) : ∀ (n : Nat) (l acc : List Nat), l.length ≤ n → joinL S (spl S 0 acc l) = acc ++ l
  | _, [], acc, _ => by rw [spl_nil, List.append_nil] <;> rfl
  | 0, c :: r, acc, h => by simp at h
  | n + 1, c :: r, acc, h => by
    rw [List.length_cons] at h
    cases hp : pre S (c :: r) with
    | true =>
      rw [spl_hit hp, spl_pass, joinL_cons (spl_ne S _ _ 0), join_spl hS n _ _ (by rw [List.length_drop]; omega), List.nil_append]
      have e : (c :: r).take S.length = S := eq_of_beq hp
      have e2 : (c :: r) = S ++ (c :: r).drop S.length := by
        have := (List.take_append_drop S.length (c :: r)).symm
        rwa [e] at this
      have e3 : (c :: r).drop S.length = r.drop (S.length - 1) := by
        cases S with
        | nil => exact absurd rfl hS
        | cons s S => rfl
      rw [e3] at e2
      rw [← e2]
    | false =>
      rw [spl_miss hp, join_spl hS n r _ (by omega), List.append_assoc] <;> rfl
theorem spl_free {s : Nat} : ∀ (l acc : List Nat), s ∉ acc → ∀ p ∈ spl [s] 0 acc l, s ∉ p
  | [], acc, h, p, hp => by
    rw [spl_nil] at hp
    rw [List.mem_singleton.mp hp]; exact h
  | c :: r, acc, h, p, hp => by
    cases hc : pre [s] (c :: r) with
    | true =>
      rw [spl_hit hc] at hp
      rcases List.mem_cons.mp hp with rfl | hp
      · exact h
      · exact spl_free r [] (by simp) p hp
    | false =>
      rw [spl_miss hc] at hp
      refine spl_free r (acc ++ [c]) ?_ p hp
      rw [List.mem_append, List.mem_singleton]
      rintro (q | q)
      · exact h q
      · subst q
        have : pre [s] (s :: r) = true := pre_self [s] r
        rw [this] at hc; cases hc
/-- a separator of the texts -/
structure Sep (y : Str) : Prop where
  ne : tl y ≠ []
  lo : y.cps.all (· < 256) = true
theorem sep_sp : Sep (Str.ofString " ") := ⟨by decide +kernel, by decide +kernel⟩
theorem sep_co : Sep (Str.ofString ": ") := ⟨by decide +kernel, by decide +kernel⟩
theorem sep_nl : Sep (Str.ofString "\n") := ⟨by decide +kernel, by decide +kernel⟩
theorem split_tl {y : Str} (h : Sep y) (x : Str) : (Txt.split x y).map tl = spl (tl y) 0 [] (tl x) := split_spl x y h.ne (kind_ok h.lo)
theorem split_ne {y : Str} (h : Sep y) (x : Str) : Txt.split x y ≠ [] := fun e => by
  have := split_tl h x
  rw [e] at this
  exact spl_ne _ _ _ _ this.symm
theorem tl_jn (y : Str) (ps : List Str) : tl (Txt.join y ps) = joinL (tl y) (ps.map tl) := by rw [join_eq, tl_join]
theorem join_split {y : Str} (h : Sep y) (x : Str) : Txt.join y (Txt.split x y) = x := by
  refine ext_tl ?_
  rw [tl_jn, split_tl h, join_spl h.ne _ _ _ (Nat.le_refl _), List.nil_append]
theorem split_free {y : Str} (h : Sep y) {s : Nat} (e : tl y = [s]) (x : Str) : ∀ p ∈ Txt.split x y, s ∉ tl p := fun p hp => by
  have h1 : tl p ∈ (Txt.split x y).map tl := List.mem_map.mpr ⟨p, hp, rfl⟩
  rw [split_tl h, e] at h1
  exact spl_free _ _ (by simp) _ h1
/-- lengths -/
theorem joinL_len {S : List Nat} : ∀ {ps : List (List Nat)} {n : Nat}, (joinL S ps).length ≤ n → (∀ p ∈ ps, p.length ≤ n) ∧ (S ≠ [] → ps.length ≤ n + 1)
  | [], n, _ => ⟨fun p h => (by cases h), fun _ => Nat.zero_le _⟩
  | [p], n, h => ⟨fun q hq => by rw [List.mem_singleton.mp hq]; exact h, fun _ => by show 1 ≤ n + 1; omega⟩
  | p :: q :: r, n, h => by
    have h : (p ++ (S ++ joinL S (q :: r))).length ≤ n := h
    rw [List.length_append, List.length_append] at h
    obtain ⟨h1, _⟩ := joinL_len (S := S) (ps := q :: r) (n := n) (by omega)
    refine ⟨fun z hz => (List.mem_cons.mp hz).elim (fun e => by rw [e]; omega) (h1 z), fun hS => ?_⟩
    have hpos : 0 < S.length := List.length_pos_iff.mpr hS
    obtain ⟨_, h2⟩ := joinL_len (S := S) (ps := q :: r) (n := n - 1) (by omega)
    have := h2 hS
    rw [List.length_cons]
    omega
theorem split_len {y : Str} (h : Sep y) {x : Str} {n : Nat} (hn : x.length ≤ n) : (Txt.split x y).length ≤ n + 1 ∧ ∀ p ∈ Txt.split x y, p.length ≤ n := by
  have e : joinL (tl y) ((Txt.split x y).map tl) = tl x := by rw [← tl_jn, join_split h]
  obtain ⟨h1, h2⟩ := joinL_len (S := tl y) (ps := (Txt.split x y).map tl) (n := n) (by rw [e, ← len_tl]; exact hn)
  refine ⟨by have := h2 h.ne; rwa [List.length_map] at this, fun p hp => by rw [len_tl]; exact h1 _ (List.mem_map.mpr ⟨p, hp, rfl⟩)⟩
theorem len0 {y : Str} (h : Sep y) : 0 < y.length := by rw [len_tl]; exact List.length_pos_iff.mpr h.ne
theorem oSplit_t {y : Str} (h : Sep y) {x : Str} (hx : x.length ≤ 1000000) : oSplit x y = some (Txt.split x y) := if_pos ⟨len0 h, hx⟩
/-- what a joined text is long -/
theorem join_len (y : Str) : ∀ ps : List Str, (Txt.join y ps).length ≤ (ps.map (·.length)).sum + ps.length * y.length := by
  intro ps
  rw [len_tl, tl_jn]
  induction ps with
  | nil => exact Nat.zero_le _
  | cons p ps ih =>
    cases ps with
    | nil =>
      show (tl p).length ≤ _
      rw [← len_tl, List.map_cons, List.sum_cons]
      omega
    | cons q r =>
      show (tl p ++ (tl y ++ joinL (tl y) ((q :: r).map tl))).length ≤ _
      have e1 : ((p :: q :: r).map (·.length)).sum = p.length + ((q :: r).map (·.length)).sum := by rw [List.map_cons, List.sum_cons]
      have e2 : (p :: q :: r).length = (q :: r).length + 1 := rfl
      have e3 := len_tl p
      have e4 := len_tl y
      rw [List.length_append, List.length_append, e1, e2, Nat.add_mul, Nat.one_mul]
      omega
theorem sum_split {y : Str} (h : Sep y) {x : Str} {n : Nat} (hn : x.length ≤ n) : ((Txt.split x y).map (·.length)).sum + (Txt.split x y).length * y.length ≤ (n + 1) * (n + y.length) := by
  obtain ⟨h1, h2⟩ := split_len h hn
  have go : ∀ ps : List Str, (∀ p ∈ ps, p.length ≤ n) → (ps.map (·.length)).sum + ps.length * y.length ≤ ps.length * (n + y.length) := by
    intro ps
    induction ps with
    | nil => intro _; simp
    | cons p ps ih =>
      intro hp
      have := ih fun q hq => hp q (List.mem_cons_of_mem _ hq)
      have := hp p List.mem_cons_self
      rw [List.map_cons, List.sum_cons, List.length_cons, Nat.succ_mul, Nat.succ_mul]
      omega
  exact Nat.le_trans (go _ h2) (Nat.mul_le_mul_right _ h1)
theorem oJoin_split {y x : Str} (h : Sep y) {n : Nat} (hn : x.length ≤ n) (hb : (n + 1) * (n + y.length) ≤ 1000000) : oJoin y (Txt.split x y) = some x := by
  unfold oJoin
  rw [if_pos (Nat.le_trans (sum_split h hn) hb), join_split h]
/-- up to a sign that neither has ahead of it -/
theorem cut_uniq {s : Nat} : ∀ {a b x y : List Nat}, s ∉ a → s ∉ b → a ++ s :: x = b ++ s :: y → a = b ∧ x = y
  | [], [], x, y, _, _, e => ⟨rfl, by cases e; rfl⟩
  | [], c :: b, x, y, _, hb, e => by
    cases e
    exact absurd List.mem_cons_self hb
  | c :: a, [], x, y, ha, _, e => by
    cases e
    exact absurd List.mem_cons_self ha
  | c :: a, d :: b, x, y, ha, hb, e => by
    rw [List.cons_append, List.cons_append] at e
    injection e with e1 e2
    obtain ⟨h1, h2⟩ := cut_uniq (fun h => ha (List.mem_cons_of_mem _ h)) (fun h => hb (List.mem_cons_of_mem _ h)) e2
    exact ⟨by rw [e1, h1], h2⟩
end K
end

section
set_option maxRecDepth 100000
set_option maxHeartbeats 2000000
namespace K
open PySem L2 Sm TL

/-! ### names -/
def lowB (c : Nat) : Bool := decide (97 ≤ c) && decide (c ≤ 122)
def nameB (w : Str) : Bool := (decide (1 ≤ w.length) && decide (w.length ≤ 8)) && (tl w).all lowB
theorem letters : (Str.ofString "abcdefghijklmnopqrstuvwxyz").cps.toList = (List.range 26).map (· + 97) := by decide +kernel
theorem digits10 : (Str.ofString "0123456789").cps.toList = (List.range 10).map (· + 48) := by decide +kernel
theorem in_letters (c : Nat) : decide (c ∈ (Str.ofString "abcdefghijklmnopqrstuvwxyz").cps.toList) = lowB c := by
  rw [letters]
  unfold lowB
  rw [Bool.eq_iff_iff, decide_eq_true_eq, Bool.and_eq_true, decide_eq_true_eq, decide_eq_true_eq, List.mem_map]
  constructor
  · rintro ⟨a, ha, rfl⟩
    rw [List.mem_range] at ha
    omega
  · intro h
    exact ⟨c - 97, List.mem_range.mpr (by omega), by omega⟩
def digB (c : Nat) : Bool := decide (48 ≤ c) && decide (c ≤ 57)
theorem in_digits (c : Nat) : decide (c ∈ (Str.ofString "0123456789").cps.toList) = digB c := by
  rw [digits10]
  unfold digB
  rw [Bool.eq_iff_iff, decide_eq_true_eq, Bool.and_eq_true, decide_eq_true_eq, decide_eq_true_eq, List.mem_map]
  constructor
  · rintro ⟨a, ha, rfl⟩
    rw [List.mem_range] at ha
    omega
  · intro h
    exact ⟨c - 48, List.mem_range.mpr (by omega), by omega⟩
theorem sle_a (c : Nat) : sLe (Str.ofString "a") (sign c) = decide (97 ≤ c) := by
  show (!decide ([c] < (Str.ofString "a").cps.toList)) = _
  rw [show (Str.ofString "a").cps.toList = [97] by decide +kernel, Bool.eq_iff_iff, Bool.not_eq_true', decide_eq_false_iff_not, decide_eq_true_eq]
  constructor
  · intro h
    by_cases q : 97 ≤ c
    · exact q
    · exact absurd (List.Lex.rel (by omega : c < 97)) h
  · intro h q
    cases q with
    | rel q => omega
    | cons q => cases q
theorem sle_z (c : Nat) : sLe (sign c) (Str.ofString "z") = decide (c ≤ 122) := by
  show (!decide ((Str.ofString "z").cps.toList < [c])) = _
  rw [show (Str.ofString "z").cps.toList = [122] by decide +kernel, Bool.eq_iff_iff, Bool.not_eq_true', decide_eq_false_iff_not, decide_eq_true_eq]
  constructor
  · intro h
    by_cases q : c ≤ 122
    · exact q
    · exact absurd (List.Lex.rel (by omega : 122 < c)) h
  · intro h q
    cases q with
    | rel q => omega
    | cons q => cases q
theorem name_b {w : Str} (h : w.length ≤ 40000) : f_is_name (w, ()) = some (nameB w) := by
  have hl : (tl w).length ≤ 40000 := by rw [← len_tl]; exact h
  have hlc : lcO (fun _ => some true) (fun i1 => if sLe (Str.ofString "a") i1 = true then some (sLe i1 (Str.ofString "z")) else some false) (w.cps.toList.map sign) = some (((tl w).map sign).map fun i => sLe (Str.ofString "a") i && sLe i (Str.ofString "z")) := lcO_map _ _ (by rw [List.length_map]; exact hl) fun x _ => by
    cases sLe (Str.ofString "a") x <;> rfl
  have hall : (((tl w).map sign).map fun i => sLe (Str.ofString "a") i && sLe i (Str.ofString "z")).all id = (tl w).all lowB := by
    rw [List.map_map, List.all_map]
    congr 1
    funext c
    show (sLe (Str.ofString "a") (sign c) && sLe (sign c) (Str.ofString "z")) = lowB c
    rw [sle_a, sle_z] <;> rfl
  unfold f_is_name m_is_name nameB
  simp only [Option.bind_some, Bool.not_true, Bool.false_eq_true, if_false, if_pos (show w.length ≤ 100000 by omega), hlc, hall]
  by_cases h1 : 1 ≤ w.length
  · rw [show decide ((1 : Int) ≤ (w.length : Int)) = true from decide_eq_true (by omega), decide_eq_true h1]
    simp only [if_true, Option.bind_some]
    by_cases h2 : w.length ≤ 8
    · rw [show decide ((w.length : Int) ≤ 8) = true from decide_eq_true (by omega), decide_eq_true h2]
      simp only [Bool.not_true, Bool.false_eq_true, if_false, Option.bind_some, go_nx, outR_rt, Bool.true_and, Bool.and_self]
    · rw [show decide ((w.length : Int) ≤ 8) = false from decide_eq_false (by omega), decide_eq_false h2]
      rfl
  · rw [show decide ((1 : Int) ≤ (w.length : Int)) = false from decide_eq_false (by omega), decide_eq_false h1]
    rfl
/-! ### numbers up to 24 -/
def cnt : List Str := (rng 0 (24 + 1)).map strI
theorem cnt_t : lcO (fun _ => some true) (fun i5 => oStrI i5) (rng 0 (24 + 1)) = some cnt := by decide +kernel
theorem cnt_ix : ∀ k : Fin 25, oIdx cnt (strI ((k.val : Nat) : Int)) = some ((k.val : Nat) : Int) ∧ oStrI ((k.val : Nat) : Int) = some (strI ((k.val : Nat) : Int)) ∧ (strI ((k.val : Nat) : Int)).length ≤ 2 ∧ 1 ≤ (strI ((k.val : Nat) : Int)).length ∧ (tl (strI ((k.val : Nat) : Int))).all digB = true ∧ oIntS (strI ((k.val : Nat) : Int)) = some ((k.val : Nat) : Int) ∧ ((tl (strI ((k.val : Nat) : Int))).head? = some 48 → strI ((k.val : Nat) : Int) = Str.ofString "0") := by decide +kernel
theorem cnt_mem {w : Str} (h : w ∈ cnt) : ∃ k : Int, 0 ≤ k ∧ k ≤ 24 ∧ w = strI k := by
  obtain ⟨k, hk, rfl⟩ := List.mem_map.mp h
  unfold rng at hk
  obtain ⟨i, hi, rfl⟩ := List.mem_map.mp hk
  rw [List.mem_range] at hi
  exact ⟨0 + (i : Int), by omega, by omega, rfl⟩
theorem mem_cnt {k : Int} (h0 : 0 ≤ k) (h1 : k ≤ 24) : strI k ∈ cnt := by
  refine List.mem_map.mpr ⟨k, ?_, rfl⟩
  unfold rng
  exact List.mem_map.mpr ⟨k.toNat, List.mem_range.mpr (by omega), by omega⟩
theorem cnt_f {k : Int} (h0 : 0 ≤ k) (h1 : k ≤ 24) : oIdx cnt (strI k) = some k ∧ oStrI k = some (strI k) ∧ (strI k).length ≤ 2 ∧ 1 ≤ (strI k).length ∧ (tl (strI k)).all digB = true ∧ oIntS (strI k) = some k ∧ ((tl (strI k)).head? = some 48 → strI k = Str.ofString "0") := by
  obtain ⟨n, rfl⟩ := Int.eq_ofNat_of_zero_le h0
  exact cnt_ix ⟨n, by omega⟩
/-- two digits at most, the first of two no 0: so it is a number's text -/
theorem two_digits : ∀ a b : Fin 10, (∃ k : Fin 100, strI ((k.val : Nat) : Int) = ⟨#[a.val + 48]⟩ ∧ oIntS ⟨#[a.val + 48]⟩ = some ((k.val : Nat) : Int)) ∧ (a.val ≠ 0 → ∃ k : Fin 100, strI ((k.val : Nat) : Int) = ⟨#[a.val + 48, b.val + 48]⟩ ∧ oIntS ⟨#[a.val + 48, b.val + 48]⟩ = some ((k.val : Nat) : Int)) := by decide +kernel
theorem num_text {w : Str} (h1 : 1 ≤ w.length) (h2 : w.length ≤ 2) (hd : (tl w).all digB = true) (hz : (tl w).head? = some 48 → w = Str.ofString "0") : ∃ k : Int, 0 ≤ k ∧ w = strI k ∧ oIntS w = some k := by
  rw [len_tl] at h1 h2
  have hw := (mk_tl w).symm
  cases e : tl w with
  | nil => rw [e] at h1; simp at h1
  | cons a r =>
    rw [e] at hd hw h2
    rw [List.all_cons, Bool.and_eq_true] at hd
    have ha := hd.1
    unfold digB at ha
    rw [Bool.and_eq_true, decide_eq_true_eq, decide_eq_true_eq] at ha
    cases r with
    | nil =>
      obtain ⟨⟨k, k1, k2⟩, _⟩ := two_digits ⟨a - 48, by omega⟩ ⟨0, by omega⟩
      have e2 : w = ⟨#[(a - 48) + 48]⟩ := by rw [hw]; show (⟨#[a]⟩ : Str) = _; rw [show a - 48 + 48 = a by omega]
      refine ⟨((k.val : Nat) : Int), by omega, ?_, ?_⟩
      · rw [e2]; exact k1.symm
      · rw [e2]; exact k2
    | cons b r =>
      have hr : r = [] := by
        rw [List.length_cons, List.length_cons] at h2
        exact List.eq_nil_of_length_eq_zero (by omega)
      subst hr
      have hb := hd.2
      rw [List.all_cons, Bool.and_eq_true] at hb
      have hb := hb.1
      unfold digB at hb
      rw [Bool.and_eq_true, decide_eq_true_eq, decide_eq_true_eq] at hb
      have hne : a - 48 ≠ 0 := fun q => by
        have ea : a = 48 := by omega
        have hz := hz (by rw [e, ea]; rfl)
        rw [hz] at e
        have : tl (Str.ofString "0") = [48] := by decide +kernel
        rw [this] at e
        cases e
      obtain ⟨_, h⟩ := two_digits ⟨a - 48, by omega⟩ ⟨b - 48, by omega⟩
      obtain ⟨k, k1, k2⟩ := h hne
      have e2 : w = ⟨#[(a - 48) + 48, (b - 48) + 48]⟩ := by rw [hw]; show (⟨#[a, b]⟩ : Str) = _; rw [show a - 48 + 48 = a by omega, show b - 48 + 48 = b by omega]
      refine ⟨((k.val : Nat) : Int), by omega, ?_, ?_⟩
      · rw [e2]; exact k1.symm
      · rw [e2]; exact k2
/-! ### a line as it is written -/
def lineL (L : Lin) : List Nat := tl (Str.ofString "line ") ++ (tl L.a ++ (tl (Str.ofString " ") ++ (tl (strI L.b) ++ (if L.c.isEmpty = true then [] else tl (Str.ofString ": ") ++ tl (Txt.join (Str.ofString " ") L.c)))))
def lineT (L : Lin) : Str := ⟨(lineL L).toArray⟩
theorem tl_lineT (L : Lin) : tl (lineT L) = lineL L := rfl
theorem tl_catL : ∀ (ys : List Str) (acc : Str), tl (catL acc ys) = tl acc ++ (ys.map tl).flatten
  | [], acc => by show tl acc = tl acc ++ []; rw [List.append_nil]
  | y :: ys, acc => by
    show tl (catL (acc ++ y) ys) = _
    rw [tl_catL ys, tl_append, List.append_assoc] <;> rfl
theorem oCatS_t {x y : Str} (h : x.length + y.length ≤ 1000000) : oCatS x y = some (x ++ y) := if_pos h
/-- bounds of a line that is written -/
structure Wr (L : Lin) : Prop where
  a : L.a.length ≤ 10000
  b : oStrI L.b = some (strI L.b) ∧ (strI L.b).length ≤ 1000
  j : oJoin (Str.ofString " ") L.c = some (Txt.join (Str.ofString " ") L.c) ∧ (Txt.join (Str.ofString " ") L.c).length ≤ 100000
theorem lens_line : (Str.ofString "line ").length = 5 ∧ (Str.ofString " ").length = 1 ∧ (Str.ofString ": ").length = 2 ∧ (Str.ofString "").length = 0 := by decide +kernel
theorem row_of_line_t {L : Lin} (h : Wr L) : f_row_of_line (L, ()) = some (lineT L) := by
  obtain ⟨l1, l2, l3, _⟩ := lens_line
  obtain ⟨b1, b2⟩ := h.b
  obtain ⟨j1, j2⟩ := h.j
  have ha := h.a
  have hcat : oCatL [Str.ofString "line ", L.a, Str.ofString " ", strI L.b] = some (catL Str.empty [Str.ofString "line ", L.a, Str.ofString " ", strI L.b]) := if_pos (by
    unfold lens
    simp only [List.map_cons, List.map_nil, List.sum_cons, List.sum_nil]
    omega)
  have htl : tl (catL Str.empty [Str.ofString "line ", L.a, Str.ofString " ", strI L.b]) = tl (Str.ofString "line ") ++ (tl L.a ++ (tl (Str.ofString " ") ++ tl (strI L.b))) := by
    rw [tl_catL]
    show [] ++ ([tl (Str.ofString "line "), tl L.a, tl (Str.ofString " "), tl (strI L.b)]).flatten = _
    simp only [List.flatten_cons, List.flatten_nil, List.nil_append, List.append_nil]
  have hlen : (catL Str.empty [Str.ofString "line ", L.a, Str.ofString " ", strI L.b]).length ≤ 20000 := by
    rw [len_tl, htl, List.length_append, List.length_append, List.length_append, ← len_tl, ← len_tl, ← len_tl, ← len_tl]
    omega
  generalize catL Str.empty [Str.ofString "line ", L.a, Str.ofString " ", strI L.b] = X at *
  unfold f_row_of_line m_row_of_line
  simp only [Option.bind_some, if_pos (show L.a.length ≤ 1000000 by omega), b1, hcat, j1]
  cases hc : L.c.isEmpty with
  | true =>
    simp only [Bool.not_true, Bool.false_eq_true, if_false, Option.bind_some, go_nx, outR_rt]
    refine congrArg some (ext_tl ?_)
    rw [tl_lineT, htl]
    unfold lineL
    rw [hc]
    simp only [if_true, List.append_nil]
  | false =>
    have e1 : oCatS X (Str.ofString ": ") = some (X ++ Str.ofString ": ") := oCatS_t (by omega)
    have e2 : oCatS (X ++ Str.ofString ": ") (Txt.join (Str.ofString " ") L.c) = some ((X ++ Str.ofString ": ") ++ Txt.join (Str.ofString " ") L.c) := oCatS_t (by rw [len_cat]; omega)
    simp only [Bool.not_false, if_true, Option.bind_some, e1, e2, go_nx, outR_rt]
    refine congrArg some (ext_tl ?_)
    rw [tl_lineT, tl_append, tl_append, htl]
    unfold lineL
    rw [hc]
    simp only [Bool.false_eq_true, if_false, List.append_assoc]
theorem law_row_of_t {L : Lin} (h : Wr L) (hs : ∀ x ∈ L.c, Sk x) : f_law_row_of (L, ()) = some (lineT L) := by
  obtain ⟨l1, l2, l3, l4⟩ := lens_line
  obtain ⟨b1, b2⟩ := h.b
  obtain ⟨j1, j2⟩ := h.j
  have ha := h.a
  have hne : dNe L.c [] = some (!decide (L.c = [])) := dNe_t hs (fun x h => (by cases h))
  have e1 : oCatS (Str.ofString "line ") L.a = some (Str.ofString "line " ++ L.a) := oCatS_t (by omega)
  have e2 : oCatS (Str.ofString "line " ++ L.a) (Str.ofString " ") = some (Str.ofString "line " ++ L.a ++ Str.ofString " ") := oCatS_t (by rw [len_cat]; omega)
  have e3 : oCatS (Str.ofString "line " ++ L.a ++ Str.ofString " ") (strI L.b) = some (Str.ofString "line " ++ L.a ++ Str.ofString " " ++ strI L.b) := oCatS_t (by rw [len_cat, len_cat]; omega)
  have hl : (Str.ofString "line " ++ L.a ++ Str.ofString " " ++ strI L.b).length ≤ 20000 := by rw [len_cat, len_cat, len_cat]; omega
  have e4 : oCatS (Str.ofString ": ") (Txt.join (Str.ofString " ") L.c) = some (Str.ofString ": " ++ Txt.join (Str.ofString " ") L.c) := oCatS_t (by omega)
  have e5 : oCatS (Str.ofString "line " ++ L.a ++ Str.ofString " " ++ strI L.b) (Str.ofString ": " ++ Txt.join (Str.ofString " ") L.c) = some (Str.ofString "line " ++ L.a ++ Str.ofString " " ++ strI L.b ++ (Str.ofString ": " ++ Txt.join (Str.ofString " ") L.c)) := oCatS_t (by rw [len_cat (Str.ofString ": ")]; omega)
  have e6 : oCatS (Str.ofString "line " ++ L.a ++ Str.ofString " " ++ strI L.b) (Str.ofString "") = some (Str.ofString "line " ++ L.a ++ Str.ofString " " ++ strI L.b ++ Str.ofString "") := oCatS_t (by omega)
  unfold f_law_row_of m_law_row_of
  simp only [Option.bind_some, e1, e2, b1, e3, hne, j1, e4]
  by_cases hc : L.c = []
  · rw [decide_eq_true hc]
    simp only [Bool.not_true, Bool.false_eq_true, if_false, Option.bind_some, e6, outR_rt]
    refine congrArg some (ext_tl ?_)
    rw [tl_lineT, tl_append, tl_append, tl_append, tl_append]
    unfold lineL
    rw [hc, show tl (Str.ofString "") = [] by decide +kernel]
    simp only [List.isEmpty_nil, if_true, List.append_assoc, List.append_nil]
  · rw [decide_eq_false hc]
    simp only [Bool.not_false, if_true, Option.bind_some, e5, outR_rt]
    refine congrArg some (ext_tl ?_)
    rw [tl_lineT, tl_append, tl_append, tl_append, tl_append, tl_append]
    unfold lineL
    rw [show L.c.isEmpty = false from by cases h : L.c with
      | nil => exact absurd h hc
      | cons _ _ => rfl]
    simp only [Bool.false_eq_true, if_false, List.append_assoc]
end K
end

section
set_option maxRecDepth 100000
set_option maxHeartbeats 2000000
namespace K
open PySem L2 Sm TL

/-! ### a row as it is read -/
def cOf : List Str → List Str
  | [] => []
  | p :: _ => Txt.split p (Str.ofString " ")
def Shape (row : Str) (L : Lin) : Prop := ∃ h ps w0, Txt.split row (Str.ofString ": ") = h :: ps ∧ Txt.split h (Str.ofString " ") = [w0, L.a, strI L.b] ∧ (0 ≤ L.b ∧ L.b ≤ 24) ∧ L.c = cOf ps ∧ lineT L = row
theorem tl_sp : tl (Str.ofString " ") = [32] := by decide +kernel
theorem tl_co : tl (Str.ofString ": ") = [58, 32] := by decide +kernel
theorem tl_line : tl (Str.ofString "line ") = tl (Str.ofString "line") ++ [32] ∧ 32 ∉ tl (Str.ofString "line") := by decide +kernel
def restL (ps : List Str) : List Nat := if ps.isEmpty = true then [] else tl (Str.ofString ": ") ++ joinL (tl (Str.ofString ": ")) (ps.map tl)
theorem tl_row {row h : Str} {ps : List Str} (e : Txt.split row (Str.ofString ": ") = h :: ps) : tl row = tl h ++ restL ps := by
  have h1 : tl row = joinL (tl (Str.ofString ": ")) ((h :: ps).map tl) := by rw [← e, ← tl_jn, join_split sep_co]
  rw [h1]
  unfold restL
  cases ps with
  | nil => show tl h = _; simp
  | cons p ps => rfl
theorem tl_head {h w0 w1 w2 : Str} (e : Txt.split h (Str.ofString " ") = [w0, w1, w2]) : tl h = tl w0 ++ 32 :: (tl w1 ++ 32 :: tl w2) := by
  have h1 : tl h = joinL (tl (Str.ofString " ")) ([w0, w1, w2].map tl) := by rw [← e, ← tl_jn, join_split sep_sp]
  rw [h1, tl_sp] <;> rfl
theorem cOf_rest {p : Str} : tl (Txt.join (Str.ofString " ") (cOf [p])) = tl p := by
  show tl (Txt.join (Str.ofString " ") (Txt.split p (Str.ofString " "))) = tl p
  rw [join_split sep_sp]
theorem cOf_ne {p : Str} {ps : List Str} : (cOf (p :: ps)).isEmpty = false := by
  cases h : cOf (p :: ps) with
  | nil => exact absurd h (split_ne sep_sp p)
  | cons _ _ => rfl
theorem lineL_eq (L : Lin) : lineL L = tl (Str.ofString "line") ++ 32 :: (tl L.a ++ 32 :: (tl (strI L.b) ++ (if L.c.isEmpty = true then [] else tl (Str.ofString ": ") ++ tl (Txt.join (Str.ofString " ") L.c)))) := by
  unfold lineL
  rw [tl_line.1, tl_sp, List.append_assoc] <;> rfl
theorem shape_line {row : Str} {L : Lin} {h w0 : Str} {ps : List Str} (e1 : Txt.split row (Str.ofString ": ") = h :: ps) (e2 : Txt.split h (Str.ofString " ") = [w0, L.a, strI L.b]) (e3 : L.c = cOf ps) (e4 : lineT L = row) : w0 = Str.ofString "line" ∧ ps.length ≤ 1 := by
  have h1 := tl_row e1
  rw [tl_head e2, ← e4, tl_lineT, lineL_eq] at h1
  have h2 : tl (Str.ofString "line") ++ 32 :: (tl L.a ++ 32 :: (tl (strI L.b) ++ (if L.c.isEmpty = true then [] else tl (Str.ofString ": ") ++ tl (Txt.join (Str.ofString " ") L.c)))) = tl w0 ++ 32 :: (tl L.a ++ 32 :: (tl (strI L.b) ++ restL ps)) := by
    rw [h1]
    simp only [List.append_assoc, List.cons_append]
  obtain ⟨q1, q2⟩ := cut_uniq tl_line.2 (split_free sep_sp tl_sp h w0 (by rw [e2]; simp)) h2
  refine ⟨(ext_tl q1).symm, ?_⟩
  have q3 := List.append_cancel_left (List.cons.inj (List.append_cancel_left q2)).2
  cases ps with
  | nil => exact Nat.zero_le _
  | cons p ps =>
    cases ps with
    | nil => exact Nat.le_refl _
    | cons q r =>
      exfalso
      rw [e3, if_neg (by rw [cOf_ne]; simp), show cOf (p :: q :: r) = cOf [p] from rfl, cOf_rest] at q3
      have q4 : tl (Str.ofString ": ") ++ tl p = tl (Str.ofString ": ") ++ (tl p ++ (tl (Str.ofString ": ") ++ joinL (tl (Str.ofString ": ")) ((q :: r).map tl))) := q3
      have q5 := congrArg List.length (List.append_cancel_left q4)
      rw [List.length_append, List.length_append, tl_co] at q5
      simp at q5
theorem line_shape {row h w1 w2 : Str} {ps : List Str} {k : Int} (e1 : Txt.split row (Str.ofString ": ") = h :: ps) (e2 : Txt.split h (Str.ofString " ") = [Str.ofString "line", w1, w2]) (hp : ps.length ≤ 1) (ek : w2 = strI k) (k0 : 0 ≤ k) (k1 : k ≤ 24) : Shape row ⟨w1, k, cOf ps⟩ := by
  subst ek
  refine ⟨h, ps, _, e1, e2, ⟨k0, k1⟩, rfl, ext_tl ?_⟩
  rw [tl_lineT, lineL_eq, tl_row e1, tl_head e2]
  simp only [List.append_assoc, List.cons_append]
  congr 5
  cases ps with
  | nil => rfl
  | cons p ps =>
    have : ps = [] := by
      rw [List.length_cons] at hp
      exact List.eq_nil_of_length_eq_zero (by omega)
    subst this
    rw [if_neg (by rw [cOf_ne]; simp), cOf_rest]
    rfl
theorem shape_one {row : Str} {L M : Lin} (h1 : Shape row L) (h2 : Shape row M) : L = M := by
  obtain ⟨h, ps, w0, a1, a2, ⟨a3, a4⟩, a5, _⟩ := h1
  obtain ⟨h', ps', w0', b1, b2, ⟨b3, b4⟩, b5, _⟩ := h2
  rw [a1] at b1
  injection b1 with b1 b1'
  subst b1; subst b1'
  rw [a2] at b2
  injection b2 with _ b2
  injection b2 with b2 b2'
  injection b2' with b2' _
  have q1 := (cnt_f a3 a4).1
  have q2 := (cnt_f b3 b4).1
  rw [b2'] at q1
  rw [q1] at q2
  cases L; cases M
  simp only at b2 a5 b5 q2
  rw [b2, a5, b5, Option.some.inj q2]
theorem len_row {row h : Str} {ps : List Str} {n : Nat} (hn : row.length ≤ n) (e : Txt.split row (Str.ofString ": ") = h :: ps) : h.length ≤ n ∧ ps.length ≤ n ∧ ∀ p ∈ ps, p.length ≤ n := by
  obtain ⟨h1, h2⟩ := split_len sep_co hn
  rw [e] at h1 h2
  exact ⟨h2 h List.mem_cons_self, by rw [List.length_cons] at h1; omega, fun p hp => h2 p (List.mem_cons_of_mem _ hp)⟩
theorem cOf_t {ps : List Str} {n : Nat} (hn : n ≤ 900) (h : ∀ p ∈ ps, p.length ≤ n) : (if (!ps.isEmpty) = true then (oIx ps 0).bind fun x => oSplit x (Str.ofString " ") else some []) = some (cOf ps) ∧ oJoin (Str.ofString " ") (cOf ps) = some (Txt.join (Str.ofString " ") (cOf ps)) ∧ (Txt.join (Str.ofString " ") (cOf ps)).length ≤ 900 ∧ (cOf ps).length ≤ 901 ∧ ∀ x ∈ cOf ps, x.length ≤ 900 := by
  cases ps with
  | nil => exact ⟨rfl, by decide +kernel, by decide +kernel, Nat.zero_le _, fun x h => (by cases h)⟩
  | cons p ps =>
    have hp := h p List.mem_cons_self
    obtain ⟨c1, c2⟩ := split_len sep_sp (show p.length ≤ 900 by omega)
    refine ⟨?_, ?_, ?_, c1, c2⟩
    · show (oIx (p :: ps) 0).bind (fun x => oSplit x (Str.ofString " ")) = _
      rw [oIx_zero]
      exact oSplit_t sep_sp (by omega)
    · show oJoin _ (Txt.split p _) = some (Txt.join _ (Txt.split p _))
      rw [join_split sep_sp]
      exact oJoin_split sep_sp (n := 900) (by omega) (by decide +kernel)
    · show (Txt.join _ (Txt.split p _)).length ≤ 900
      rw [join_split sep_sp]; omega
theorem three {ws : List Str} (h : ws.length = 3) : ∃ a b c, ws = [a, b, c] := by
  match ws, h with
  | [a, b, c], _ => exact ⟨a, b, c, rfl⟩
def LOR (row : Str) : Op Lin → Prop
  | .no => ∀ L, ¬ Shape row L
  | .yes L => Shape row L ∧ L.a.length ≤ 900 ∧ L.c.length ≤ 901 ∧ ∀ x ∈ L.c, x.length ≤ 900
theorem line_of_row_t {row : Str} (hn : row.length ≤ 900) : ∃ o, f_line_of_row (row, ()) = some o ∧ LOR row o := by
  obtain ⟨h, ps, hsp⟩ : ∃ h ps, Txt.split row (Str.ofString ": ") = h :: ps := by
    cases e : Txt.split row (Str.ofString ": ") with
    | nil => exact absurd e (split_ne sep_co row)
    | cons h ps => exact ⟨h, ps, rfl⟩
  obtain ⟨l1, l2, l3⟩ := len_row hn hsp
  obtain ⟨c1, c2, c3, c4, c5⟩ := cOf_t (n := 900) (Nat.le_refl _) l3
  obtain ⟨w1l, w2l⟩ := split_len sep_sp l1
  have s1 := oSplit_t sep_co (x := row) (by omega)
  have s2 := oSplit_t sep_sp (x := h) (by omega)
  rw [hsp] at s1
  generalize hws : Txt.split h (Str.ofString " ") = ws at *
  unfold f_line_of_row m_line_of_row
  simp only [Option.bind_some, s1, starM, if_pos (show ps.length ≤ 10000 by omega), s2, oAdd, if_pos (show (0 : Int) ≤ 24 + 1 ∧ (24 + 1 : Int) ≤ 100000 by decide), cnt_t, oNe, q_int]
  by_cases h3 : ws.length = 3
  · obtain ⟨w0, w1, w2, rfl⟩ := three h3
    rw [show decide (([w0, w1, w2].length : Int) = 3) = true from rfl]
    simp only [Bool.not_true, Bool.false_eq_true, if_false, Option.bind_some, show oIx [w0, w1, w2] 2 = some w2 from rfl, show oIx [w0, w1, w2] 1 = some w1 from rfl, oNi, q_str, in_any]
    by_cases hm : w2 ∈ cnt
    · obtain ⟨k, k0, k1, rfl⟩ := cnt_mem hm
      obtain ⟨f1, f2, f3, _⟩ := cnt_f k0 k1
      have hWr : Wr ⟨w1, k, cOf ps⟩ := ⟨by have := w2l w1 (by simp); show w1.length ≤ 10000; omega, ⟨f2, by show (strI k).length ≤ 1000; omega⟩, c2, by show (Txt.join _ (cOf ps)).length ≤ 100000; omega⟩
      have hr := row_of_line_t hWr
      rw [decide_eq_true hm]
      simp only [Bool.not_true, Bool.false_eq_true, if_false, Option.bind_some, go_nx, c1, f1, hr, oEq, q_str]
      by_cases hq : lineT ⟨w1, k, cOf ps⟩ = row
      · rw [decide_eq_true hq]
        simp only [if_true, Option.bind_some, outR_rt]
        exact ⟨_, rfl, ⟨h, ps, w0, hsp, hws, ⟨k0, k1⟩, rfl, hq⟩, w2l w1 (by simp), c4, c5⟩
      · rw [decide_eq_false hq]
        simp only [Bool.false_eq_true, if_false, Option.bind_some, outR_rt]
        refine ⟨_, rfl, fun L hL => hq ?_⟩
        obtain ⟨h', ps', w0', b1, b2, ⟨b3, b4⟩, b5, b6⟩ := hL
        rw [hsp] at b1
        injection b1 with b1 b1'
        subst b1; subst b1'
        rw [hws] at b2
        injection b2 with _ b2
        injection b2 with b2 b2'
        injection b2' with b2' _
        have q2 := (cnt_f b3 b4).1
        rw [← b2', f1] at q2
        rw [← b6]
        congr 1
        cases L
        simp only at b2 b5 q2
        rw [b2, b5, Option.some.inj q2]
    · rw [decide_eq_false hm]
      simp only [Bool.not_false, if_true, Option.bind_some, go_rt, outR_rt]
      refine ⟨_, rfl, fun L hL => hm ?_⟩
      obtain ⟨h', ps', w0', b1, b2, ⟨b3, b4⟩, b5, b6⟩ := hL
      rw [hsp] at b1
      injection b1 with b1 b1'
      subst b1
      rw [hws] at b2
      injection b2 with _ b2
      injection b2 with b2 b2'
      injection b2' with b2' _
      rw [b2']
      exact mem_cnt b3 b4
  · rw [show decide ((ws.length : Int) = 3) = false from decide_eq_false (by omega)]
    simp only [Bool.not_false, if_true, Option.bind_some, go_rt, outR_rt]
    refine ⟨_, rfl, fun L hL => h3 ?_⟩
    obtain ⟨h', ps', w0', b1, b2, _⟩ := hL
    rw [hsp] at b1
    injection b1 with b1 b1'
    subst b1
    rw [← hws, b2] <;> rfl
end K
end

section
set_option maxRecDepth 100000
set_option maxHeartbeats 2000000
namespace K
open PySem L2 Sm TL

/-! ### whether a row stands, both ways -/
theorem stands_dec {T : Trk} {row : List Str} (hT : Ok T) (hr : ∀ n ∈ row, n ∈ nms T) (hl : row.length ≤ 40000) : ∃ v, f_stands (bookOf T, row, ()) = some v ∧ (v = true ↔ stB T row) := by
  have hn := hT.t.nodup
  have hb := hT.t.bl
  have go : ∀ (post pre : List Str) (D : Dct Bool), (∀ x, dhas D x = lv T pre x) → D.length ≤ pre.length → pre.length + post.length ≤ 40000 → (∀ n ∈ post, n ∈ nms T) → stB T pre →
      ∃ o : Out (Dct Bool) Bool, loopM (fun (s2 : (Dct Bool)) (i1 : Str) => ((((((((((((((some i1)).bind fun x => ((some ())).bind fun y => some (x, y))).bind fun y => some (s2, y))).bind fun y => some (bookOf T, y))).bind f_follows)).bind fun b => some !b)).bind fun b => if b then (((some false)).bind fun r => some (Out.rt (τ := Unit) r)) else some (Out.nx (ρ := Bool) ())).bind (Out.go fun _ => (((some i1)).bind fun k => (putM (bookOf T) s2 k).bind fun v3 => (some (Out.nx (ρ := Bool) v3)))))) D post = some o ∧ (((∃ D', o = .nx D') ∧ stB T (pre ++ post)) ∨ (o = .rt false ∧ ¬ stB T (pre ++ post))) := by
    intro post
    induction post with
    | nil => intro pre D _ _ _ _ hs; exact ⟨.nx D, rfl, .inl ⟨⟨D, rfl⟩, by rw [List.append_nil]; exact hs⟩⟩
    | cons n post ih =>
      intro pre D p1 p2 hlen hm hs
      rw [List.length_cons] at hlen
      obtain ⟨c, hc⟩ := look_some (hm n List.mem_cons_self)
      have ed : dhas D = lv T pre := funext p1
      have hfe := fol_eq (D := D) hn hc (fun x hx => by
        rw [p1] at hx
        obtain ⟨c', h', _⟩ := lv_names hx
        obtain ⟨m, e2⟩ := look_mem h'
        exact List.mem_map.mpr ⟨c', m, e2⟩) (hb c (look_mem hc).1) (by omega)
      rw [ed] at hfe
      unfold loopM
      simp only [Option.bind_some, hfe]
      cases hf : fol T (lv T pre) c with
      | false =>
        refine ⟨.rt false, rfl, .inr ⟨rfl, fun h => ?_⟩⟩
        obtain ⟨c', h1, h2⟩ := h pre n post rfl
        rw [hc] at h1
        cases h1
        rw [hf] at h2
        cases h2
      | true =>
        obtain ⟨D', hp, q1, q2⟩ := put_eq (D := D) hc (by omega)
        obtain ⟨o, h1, h2⟩ := ih (pre ++ [n]) D' (fun x => by rw [q1, lv_snoc, ed]) (by rw [List.length_append, List.length_singleton]; omega) (by rw [List.length_append, List.length_singleton]; omega) (fun m h => hm m (List.mem_cons_of_mem _ h)) (stB_snoc hs hc hf)
        refine ⟨o, ?_, ?_⟩
        · simp only [Bool.not_true, Bool.false_eq_true, if_false, Option.bind_some, go_nx, hp]
          simp only [Option.bind_some] at h1
          exact h1
        · rw [List.append_assoc] at h2
          exact h2
  obtain ⟨o, h1, h2⟩ := go row [] [] (fun _ => rfl) (Nat.le_refl _) (by simpa using hl) hr (fun pre n post e => by simp at e)
  unfold f_stands m_stands
  simp only [Option.bind_some] at h1 ⊢
  rw [h1]
  rcases h2 with ⟨⟨D', rfl⟩, h2⟩ | ⟨rfl, h2⟩
  · exact ⟨true, rfl, fun _ => h2, fun _ => rfl⟩
  · exact ⟨false, rfl, fun h => (by cases h), fun h => absurd h h2⟩

/-! ### a line of the trunk, of what was read -/
structure GoodL (T : Trk) (L : Lin) : Prop where
  a : nameB L.a = true
  b : L.b ≤ (T.length : Int)
  cl : L.c.length ≤ 40
  c : ∀ x ∈ L.c, x ∈ nms T
  s : stB T (rowOf T L)
theorem are_names_b {xs : List Str} (hl : xs.length ≤ 40000) (h : ∀ x ∈ xs, x.length ≤ 40000) : f_are_names (xs, ()) = some (xs.all nameB) := by
  have hlc : lcO (fun _ => some true) (fun i1 => f_is_name (i1, ())) xs = some (xs.map nameB) := lcO_map _ _ hl fun x hx => name_b (h x hx)
  unfold f_are_names m_are_names
  simp only [Option.bind_some, if_true, hlc, all_map, outR_rt]
theorem nm_b {x : Str} (h : x.length ≤ 40000) (hx : Nm x) : nameB x = true := by
  have h1 := name_b h
  have h2 : f_is_name (x, ()) = some true := hx
  rw [h1] at h2
  exact Option.some.inj h2
theorem row_of_b {T : Trk} {L : Lin} (b0 : 0 ≤ L.b) (h1 : T.length ≤ 24) (h2 : L.c.length ≤ 40) : f_row_of (bookOf T, L, ()) = some (rowOf T L) := row_of_t b0 h1 h2
theorem is_line_o_t {T : Trk} {L : Lin} (hT : Ok T) (b0 : 0 ≤ L.b) (ha : L.a.length ≤ 900) (hcl : L.c.length ≤ 901) (hc : ∀ x ∈ L.c, x.length ≤ 900) : ∃ v, f_is_line_o (bookOf T, .yes L, ()) = some v ∧ (v = true ↔ GoodL T L) := by
  have hnum : f_is_number (L.b, ()) = some true := by
    unfold f_is_number m_is_number
    simp only [Option.bind_some, if_true, Bool.not_false, outR_rt]
  have hna := name_b (w := L.a) (by omega)
  have hns := are_names_b (xs := L.c) (by omega) (fun x hx => by have := hc x hx; omega)
  have hbk : lcO (fun _ => some true) (fun i2 => some (dhas (bookOf T) i2)) L.c = some (L.c.map fun x => decide (x ∈ nms T)) := lcO_map _ _ (by omega) fun x _ => by rw [dhas_book]
  unfold f_is_line_o m_is_line_o
  simp only [Option.bind_some, Op.isNo, Op.get, Bool.not_false, Bool.not_true, Bool.false_eq_true, if_false, oNe, q_int, decide_true, go_nx, hna, hnum, decide_eq_true b0, if_true, len_book, hns, oGt, hbk, all_map]
  cases h1 : nameB L.a with
  | false => exact ⟨false, rfl, fun h => (by cases h), fun h => by have := h.a; rw [h1] at this; cases this⟩
  | true =>
    simp only [Bool.not_true, Bool.false_eq_true, if_false]
    by_cases h2 : L.b ≤ (T.length : Int)
    · rw [decide_eq_true h2]
      simp only [Bool.not_true, Bool.false_eq_true, if_false, Option.bind_some, go_nx]
      cases h3 : L.c.all nameB with
      | false =>
        refine ⟨false, rfl, fun h => (by cases h), fun h => ?_⟩
        have : L.c.all nameB = true := List.all_eq_true.mpr fun x hx => nm_b (by have := hc x hx; omega) (hT.t.nm x (h.c x hx))
        rw [this] at h3; cases h3
      | true =>
        simp only [Bool.not_true, Bool.false_eq_true, if_false]
        by_cases h4 : L.c.length ≤ 40
        · rw [show decide ((40 : Int) < (L.c.length : Int)) = false from decide_eq_false (by omega)]
          simp only [Bool.false_eq_true, if_false, Option.bind_some, go_nx]
          cases h5 : L.c.all fun x => decide (x ∈ nms T) with
          | false =>
            refine ⟨false, rfl, fun h => (by cases h), fun h => ?_⟩
            have : (L.c.all fun x => decide (x ∈ nms T)) = true := List.all_eq_true.mpr fun x hx => decide_eq_true (h.c x hx)
            rw [this] at h5; cases h5
          | true =>
            have hcm : ∀ x ∈ L.c, x ∈ nms T := fun x hx => of_decide_eq_true (List.all_eq_true.mp h5 x hx)
            have hrm : ∀ n ∈ rowOf T L, n ∈ nms T := fun n hn => (List.mem_append.mp hn).elim (fun h => List.mem_of_mem_take h) (hcm n)
            obtain ⟨v, v1, v2⟩ := stands_dec (row := rowOf T L) hT hrm (by have := rowOf_len (L := L) hT.l h4; omega)
            refine ⟨v, ?_, ?_⟩
            · simp only [if_true, row_of_b b0 hT.l h4, Option.bind_some, v1, outR_rt]
            · rw [v2]
              exact ⟨fun h => ⟨h1, h2, h4, hcm, h⟩, fun h => h.s⟩
        · rw [show decide ((40 : Int) < (L.c.length : Int)) = true from decide_eq_true (by omega)]
          exact ⟨false, rfl, fun h => (by cases h), fun h => absurd h.cl h4⟩
    · rw [decide_eq_false h2]
      exact ⟨false, rfl, fun h => (by cases h), fun h => absurd h.b h2⟩
open Classical in
/-- the line that a row is, of this trunk -/
noncomputable def res (T : Trk) (r : Str) : Option Lin := if h : ∃ L, Shape r L ∧ GoodL T L then some h.choose else none
theorem res_some {T : Trk} {r : Str} {L : Lin} (h : res T r = some L) : Shape r L ∧ GoodL T L := by
  classical
  unfold res at h
  split at h
  · rename_i q
    rw [← Option.some.inj h]
    exact q.choose_spec
  · cases h
theorem res_of {T : Trk} {r : Str} {L : Lin} (h1 : Shape r L) (h2 : GoodL T L) : res T r = some L := by
  classical
  unfold res
  have q : ∃ L, Shape r L ∧ GoodL T L := ⟨L, h1, h2⟩
  rw [dif_pos q, shape_one q.choose_spec.1 h1]
theorem res_none {T : Trk} {r : Str} (h : ∀ L, Shape r L → ¬ GoodL T L) : res T r = none := by
  cases e : res T r with
  | none => rfl
  | some L => exact absurd (res_some e).2 (h L (res_some e).1)
theorem prog_row {T : Trk} {r : Str} (hT : Ok T) (hn : r.length ≤ 900) : ∃ o, f_line_of_row (r, ()) = some o ∧ f_is_line_o (bookOf T, o, ()) = some (res T r).isSome ∧ ∀ L, res T r = some L → o = .yes L := by
  obtain ⟨o, h1, h2⟩ := line_of_row_t hn
  refine ⟨o, h1, ?_⟩
  cases o with
  | no =>
    have h2 : ∀ L, ¬ Shape r L := h2
    rw [res_none fun L h => absurd h (h2 L)]
    exact ⟨rfl, fun L h => (by cases h)⟩
  | yes L =>
    obtain ⟨s, s1, s2, s3⟩ := h2
    have hs := s
    obtain ⟨_, _, _, _, _, ⟨b0, _⟩, _⟩ := hs
    obtain ⟨v, v1, v2⟩ := is_line_o_t hT b0 s1 s2 s3
    rw [v1]
    by_cases hg : GoodL T L
    · rw [res_of s hg, v2.mpr hg]
      exact ⟨rfl, fun M h => by cases h; rfl⟩
    · rw [res_none fun M hM => by rw [← shape_one s hM]; exact hg]
      refine ⟨?_, fun M h => (by cases h)⟩
      cases v with
      | false => rfl
      | true => exact absurd (v2.mp rfl) hg
end K
end

section
set_option maxRecDepth 100000
set_option maxHeartbeats 2000000
namespace K
open PySem L2 Sm TL

theorem oInS_sign (c : Nat) (z : Str) : oInS (sign c) z = some (decide (c ∈ z.cps.toList)) := rfl
theorem all_in {w z : Str} {p : Nat → Bool} (hw : w.length ≤ 40000) (h : ∀ c, decide (c ∈ z.cps.toList) = p c) : lcO (fun _ => some true) (fun i4 => oInS i4 z) (w.cps.toList.map sign) = some ((tl w).map p) := by
  rw [lcO_map (h := fun i4 => oInS i4 z) (fun x => (oInS x z).getD false) _ (by rw [List.length_map]; exact (len_tl w) ▸ hw) fun x hx => by
    obtain ⟨c, _, rfl⟩ := List.mem_map.mp hx
    rw [oInS_sign] <;> rfl]
  rw [List.map_map]
  congr 1
  refine List.map_congr_left fun c _ => ?_
  show (oInS (sign c) z).getD false = p c
  rw [oInS_sign, ← h] <;> rfl
theorem sign0 (c : Nat) : decide (sign c = Str.ofString "0") = decide (c = 48) := by
  refine decide_eq_decide.mpr ⟨fun h => ?_, fun h => by subst h; decide +kernel⟩
  have h1 := congrArg tl h
  rw [show tl (Str.ofString "0") = [48] by decide +kernel] at h1
  have h1 : [c] = [48] := h1
  cases h1
  rfl
theorem stands_two {T : Trk} {R A C : List Str} {b : Int} (hA : stB T A) (e : R = A ++ C) (hb : (A.length : Int) = b) (hs : (∀ pre n post, R = pre ++ n :: post → b.toNat ≤ pre.length → ∃ c, look T n = some c ∧ fol T (lv T pre) c = true)) : stB T R := fun pre n post e2 => by
  by_cases h : b.toNat ≤ pre.length
  · exact hs pre n post e2 h
  · rw [e] at e2
    rcases List.append_eq_append_iff.mp e2 with ⟨as, h1, h2⟩ | ⟨bs, h1, h2⟩
    · exfalso
      have := congrArg List.length h1
      rw [List.length_append] at this
      omega
    · cases bs with
      | nil =>
        exfalso
        have := congrArg List.length h1
        rw [List.append_nil] at this
        omega
      | cons x bs =>
        rw [List.cons_append] at h2
        injection h2 with h2 h3
        subst h2
        exact hA pre n bs h1
theorem law_line_in_t {T : Trk} {r : Str} (hT : Ok T) (hn : r.length ≤ 900) : f_law_line_in (T, r, ()) = some (match res T r with | some L => .yes L | none => .no) := by
  obtain ⟨h, ps, hsp⟩ : ∃ h ps, Txt.split r (Str.ofString ": ") = h :: ps := by
    cases e : Txt.split r (Str.ofString ": ") with
    | nil => exact absurd e (split_ne sep_co r)
    | cons h ps => exact ⟨h, ps, rfl⟩
  obtain ⟨l1, l2, l3⟩ := len_row hn hsp
  obtain ⟨c1, c2, c3, c4, c5⟩ := cOf_t (n := 900) (Nat.le_refl _) l3
  obtain ⟨w1l, w2l⟩ := split_len sep_sp l1
  have s1 := oSplit_t sep_co (x := r) (by omega)
  have s2 := oSplit_t sep_sp (x := h) (by omega)
  rw [hsp] at s1
  generalize hws : Txt.split h (Str.ofString " ") = ws at *
  have hsd : ∀ L, Shape r L → ws = [Str.ofString "line", L.a, strI L.b] ∧ ps.length ≤ 1 ∧ L.c = cOf ps ∧ 0 ≤ L.b ∧ L.b ≤ 24 := fun L hL => by
    obtain ⟨h', ps', w0', b1, b2, ⟨b3, b4⟩, b5, b6⟩ := hL
    obtain ⟨q1, q2⟩ := shape_line b1 b2 b5 b6
    rw [hsp] at b1
    injection b1 with b1 b1'
    subst b1; subst b1'
    rw [hws] at b2
    rw [q1] at b2
    exact ⟨b2, q2, b5, b3, b4⟩
  have hTl := hT.l
  have hns : lcO (fun _ => some true) (fun i8 : Chg => some i8.a) T = some (nms T) := lcO_map (fun c : Chg => c.a) T (by omega) fun _ _ => rfl
  have no : ∀ {x : Op Lin}, x = .no → (∀ L, Shape r L → ¬ GoodL T L) → some x = some (match res T r with | some L => Op.yes L | none => Op.no) := fun hx hL => by rw [hx, res_none hL]
  unfold f_law_line_in m_law_line_in
  simp only [Option.bind_some, s1, oIx_zero, List.getElem?_cons_zero, s2, oGt, List.length_cons]
  by_cases hp : ps.length ≤ 1
  · simp only [show decide ((2 : Int) < ((ps.length + 1 : Nat) : Int)) = false from decide_eq_false (by omega), Bool.false_eq_true, if_false, oNe, q_int]
    by_cases h3 : ws.length = 3
    · obtain ⟨w0, w1, w2, rfl⟩ := three h3
      rw [show decide (([w0, w1, w2].length : Int) = 3) = true from rfl]
      simp only [Bool.not_true, Bool.false_eq_true, if_false, Option.bind_some, List.getElem?_cons_zero, q_str, show oIx [w0, w1, w2] 1 = some w1 from rfl, show oIx [w0, w1, w2] 2 = some w2 from rfl]
      have hw1 := w2l w1 (by simp)
      have hw2 := w2l w2 (by simp)
      have hnot : ∀ {P : Prop}, (∀ L, w0 = Str.ofString "line" → w1 = L.a → w2 = strI L.b → L.c = cOf ps → 0 ≤ L.b → L.b ≤ 24 → GoodL T L → P) → ∀ L, Shape r L → GoodL T L → P := fun k L hL hG => by
        obtain ⟨q1, q2, q3, q4, q5⟩ := hsd L hL
        injection q1 with q1 q6
        injection q6 with q6 q7
        injection q7 with q7 _
        exact k L q1 q6 q7 q3 q4 q5 hG
      by_cases h0 : w0 = Str.ofString "line"
      · subst h0
        rw [decide_eq_true rfl]
        simp only [Bool.not_true, Bool.false_eq_true, if_false, if_pos (show w1.length ≤ 100000 by omega), if_pos (show w2.length ≤ 100000 by omega), Option.bind_some, all_in (show w1.length ≤ 40000 by omega) in_letters, all_in (show w2.length ≤ 40000 by omega) in_digits, all_map]
        by_cases g1 : 1 ≤ w1.length ∧ w1.length ≤ 8
        · rw [show decide ((1 : Int) ≤ (w1.length : Int)) = true from decide_eq_true (by omega)]
          simp only [if_true, Option.bind_some]
          rw [show decide ((w1.length : Int) ≤ 8) = true from decide_eq_true (by omega)]
          simp only [Bool.not_true, Bool.false_eq_true, if_false, Option.bind_some, go_nx]
          cases g2 : (tl w1).all lowB with
          | false => exact no rfl (hnot fun L _ e1 _ _ _ _ hG => by
              have := hG.a
              unfold nameB at this
              rw [← e1, g2, Bool.and_false] at this
              cases this)
          | true =>
            have hname : nameB w1 = true := by
              unfold nameB
              rw [g2, decide_eq_true g1.1, decide_eq_true g1.2] <;> rfl
            simp only [Bool.not_true, Bool.false_eq_true, if_false]
            by_cases g3 : 1 ≤ w2.length ∧ w2.length ≤ 2
            · rw [show decide ((1 : Int) ≤ (w2.length : Int)) = true from decide_eq_true (by omega)]
              simp only [if_true, Option.bind_some]
              rw [show decide ((w2.length : Int) ≤ 2) = true from decide_eq_true (by omega)]
              simp only [Bool.not_true, Bool.false_eq_true, if_false, Option.bind_some, go_nx]
              cases g4 : (tl w2).all digB with
              | false => exact no rfl (hnot fun L _ _ e2 _ b0 b1 _ => by
                  have := (cnt_f b0 b1).2.2.2.2.1
                  rw [← e2, g4] at this
                  cases this)
              | true =>
                simp only [Bool.not_true, Bool.false_eq_true, if_false]
                obtain ⟨a, t, ea⟩ : ∃ a t, tl w2 = a :: t := by
                  cases e : tl w2 with
                  | nil => have := len_tl w2; rw [e] at this; have := g3.1; simp at *; omega
                  | cons a t => exact ⟨a, t, rfl⟩
                have hix : oIxS w2 0 = some (sign a) := by
                  unfold oIxS
                  rw [if_pos (by omega)]
                  have : atI w2.cps.toList 0 = some a := by
                    have e := oIx_zero (tl w2)
                    unfold oIx at e
                    rw [e, ea] <;> rfl
                  rw [this] <;> rfl
                rw [hix]
                simp only [Option.bind_some, oEq, q_str, sign0]
                have hzero : (if decide (a = 48) = true then some (!decide (w2 = Str.ofString "0")) else some false) = some (decide (a = 48) && !decide (w2 = Str.ofString "0")) := by cases decide (a = 48) <;> rfl
                rw [hzero]
                simp only [Option.bind_some]
                by_cases g5 : a = 48 ∧ w2 ≠ Str.ofString "0"
                · rw [decide_eq_true g5.1, decide_eq_false g5.2]
                  exact no rfl (hnot fun L _ _ e2 _ b0 b1 _ => by
                    have := (cnt_f b0 b1).2.2.2.2.2.2
                    rw [← e2] at this
                    exact g5.2 (this (by rw [ea, g5.1]; rfl)))
                · have g6 : (decide (a = 48) && !decide (w2 = Str.ofString "0")) = false := by
                    by_cases q1 : a = 48
                    · by_cases q2 : w2 = Str.ofString "0"
                      · rw [decide_eq_true q2]; simp
                      · exact absurd ⟨q1, q2⟩ g5
                    · rw [decide_eq_false q1] <;> rfl
                  rw [g6]
                  obtain ⟨k, k0, ek, ik⟩ := num_text g3.1 g3.2 g4 (fun q => by
                    rw [ea] at q
                    by_cases q2 : w2 = Str.ofString "0"
                    · exact q2
                    · exact absurd ⟨Option.some.inj q, q2⟩ g5)
                  have hpick : (if decide (((ps.length + 1 : Nat) : Int) = 2) = true then (oIx (h :: ps) 1).bind fun x => oSplit x (Str.ofString " ") else some []) = some (cOf ps) := by
                    cases ps with
                    | nil => rfl
                    | cons p ps =>
                      have hps : ps = [] := by
                        rw [List.length_cons] at hp
                        exact List.eq_nil_of_length_eq_zero (by omega)
                      subst hps
                      have := c1
                      rw [oIx_zero] at this
                      exact this
                  simp only [Bool.false_eq_true, if_false, Option.bind_some, go_nx, q_int, hpick, hns, ik]
                  have hkk : ∀ L : Lin, w2 = strI L.b → 0 ≤ L.b → L.b ≤ 24 → L.b = k := fun L e2 b0 b1 => by
                    have := (cnt_f b0 b1).2.2.2.2.2.1
                    rw [← e2, ik] at this
                    exact (Option.some.inj this).symm
                  by_cases g7 : k ≤ (T.length : Int)
                  · rw [show decide ((T.length : Int) < k) = false from decide_eq_false (by omega)]
                    simp only [Bool.false_eq_true, if_false]
                    by_cases g8 : (cOf ps).length ≤ 40
                    · rw [show decide ((40 : Int) < ((cOf ps).length : Int)) = false from decide_eq_false (by omega)]
                      have hin : lcO (fun _ => some true) (fun i10 => oIn i10 (nms T)) (cOf ps) = some ((cOf ps).map fun x => decide (x ∈ nms T)) := lcO_map _ _ (by omega) fun x _ => by simp only [oIn, q_str, in_any]
                      simp only [Bool.false_eq_true, if_false, hin, Option.bind_some, all_map]
                      cases g9 : (cOf ps).all fun x => decide (x ∈ nms T) with
                      | false => exact no rfl (hnot fun L _ _ _ e3 _ _ hG => by
                          have : ((cOf ps).all fun x => decide (x ∈ nms T)) = true := List.all_eq_true.mpr fun x hx => decide_eq_true (hG.c x (by rw [e3]; exact hx))
                          rw [this] at g9
                          cases g9)
                      | true =>
                        have hcm : ∀ x ∈ cOf ps, x ∈ nms T := fun x hx => of_decide_eq_true (List.all_eq_true.mp g9 x hx)
                        have hsh : Shape r ⟨w1, k, cOf ps⟩ := line_shape hsp hws hp ek k0 (by omega)
                        have hcat : oCat (cut (nms T) none (some k)) (cOf ps) = some ((nms T).take k.toNat ++ cOf ps) := by
                          rw [cut_take _ k0]
                          exact if_pos (by rw [List.length_take]; omega)
                        have hnl := nms_len T
                        have hRm : ∀ n ∈ (nms T).take k.toNat ++ cOf ps, n ∈ nms T := fun n hn => (List.mem_append.mp hn).elim (fun h => List.mem_of_mem_take h) (hcm n)
                        obtain ⟨v, v1, v2⟩ := law_stands_t (R := (nms T).take k.toNat ++ cOf ps) (b := k) hT hRm (by rw [List.length_append, List.length_take]; omega) k0 (by rw [List.length_append, List.length_take]; omega)
                        simp only [Bool.not_true, Bool.false_eq_true, if_false, go_nx, Option.bind_some, hcat, v1]
                        have hlast : v = true ↔ stB T (rowOf T ⟨w1, k, cOf ps⟩) := by
                          rw [v2]
                          exact ⟨fun hs => stands_two (hT.t.stands k.toNat) rfl (by rw [List.length_take]; omega) hs, fun hs pre n post e _ => hs pre n post e⟩
                        cases v with
                        | true =>
                          rw [res_of hsh ⟨hname, g7, g8, hcm, hlast.mp rfl⟩]
                          rfl
                        | false => exact no rfl (fun L hL hG => by
                            have e := shape_one hL hsh
                            rw [e] at hG
                            have := hlast.mpr hG.s
                            cases this)
                    · rw [show decide ((40 : Int) < ((cOf ps).length : Int)) = true from decide_eq_true (by omega)]
                      exact no rfl (hnot fun L _ _ _ e3 _ _ hG => g8 (by rw [← e3]; exact hG.cl))
                  · rw [show decide ((T.length : Int) < k) = true from decide_eq_true (by omega)]
                    exact no rfl (hnot fun L _ _ e2 _ b0 b1 hG => g7 (by rw [← hkk L e2 b0 b1]; exact hG.b))
            · have hbad : ((if decide ((1 : Int) ≤ (w2.length : Int)) = true then some (decide ((w2.length : Int) ≤ 2)) else some false).bind fun b => some !b) = some true := by
                by_cases q : 1 ≤ w2.length
                · rw [decide_eq_true (show (1 : Int) ≤ (w2.length : Int) by omega), show decide ((w2.length : Int) ≤ 2) = false from decide_eq_false (by omega)] <;> rfl
                · rw [show decide ((1 : Int) ≤ (w2.length : Int)) = false from decide_eq_false (by omega)] <;> rfl
              simp only [hbad]
              exact no rfl (hnot fun L _ _ e2 _ b0 b1 _ => g3 (by
                obtain ⟨_, _, q1, q2, _⟩ := cnt_f b0 b1
                rw [e2]; exact ⟨q2, q1⟩))
        · have hbad : ((if decide ((1 : Int) ≤ (w1.length : Int)) = true then some (decide ((w1.length : Int) ≤ 8)) else some false).bind fun b => some !b) = some true := by
            by_cases q : 1 ≤ w1.length
            · rw [decide_eq_true (show (1 : Int) ≤ (w1.length : Int) by omega), show decide ((w1.length : Int) ≤ 8) = false from decide_eq_false (by omega)] <;> rfl
            · rw [show decide ((1 : Int) ≤ (w1.length : Int)) = false from decide_eq_false (by omega)] <;> rfl
          simp only [hbad]
          exact no rfl (hnot fun L _ e1 _ _ _ _ hG => g1 (by
            have := hG.a
            unfold nameB at this
            rw [Bool.and_eq_true, Bool.and_eq_true, decide_eq_true_eq, decide_eq_true_eq] at this
            rw [e1]; exact this.1))
      · rw [decide_eq_false h0]
        exact no rfl (hnot fun L e0 _ _ _ _ _ _ => h0 e0)
    · rw [show decide ((ws.length : Int) = 3) = false from decide_eq_false (by omega)]
      exact no rfl (fun L hL _ => h3 (by rw [(hsd L hL).1] <;> rfl))
  · simp only [show decide ((2 : Int) < ((ps.length + 1 : Nat) : Int)) = true from decide_eq_true (by omega)]
    exact no rfl (fun L hL _ => hp (hsd L hL).2.1)
end K
end

section
set_option maxRecDepth 100000
set_option maxHeartbeats 2000000
namespace K
open PySem L2 Sm TL

theorem oIn_t (x : Str) (xs : List Str) : oIn x xs = some (decide (x ∈ xs)) := by simp only [oIn, q_str, in_any]
/-! ### the rows, one behind another -/
/-- (the first row that is none, the lines so far) -/
noncomputable def scan (T : Trk) : List Lin → Nat → List Str → Option Int × List Lin
  | F, _, [] => (none, F)
  | F, i, r :: rs => match res T r with
    | none => (some (i : Int), F)
    | some L => if L.a ∈ F.map (·.a) then (some (i : Int), F) else scan T (F ++ [L]) (i + 1) rs
theorem range_cons (i k : Nat) : List.range' i (k + 1) = i :: List.range' (i + 1) k := rfl
theorem rng_range (n : Nat) : rng 0 (n : Int) = (List.range' 0 n).map fun j => ((j : Nat) : Int) := by
  unfold rng
  rw [show ((n : Int) - 0).toNat = n by omega, List.range_eq_range']
  refine List.map_congr_left fun j _ => by omega
/-- the rows of a text -/
noncomputable def rowsOf (t : Str) : List Str := if t = Str.ofString "" then [] else Txt.split t (Str.ofString "\n")
theorem law_read_t {T : Trk} {t : Str} (hT : Ok T) (hn : t.length ≤ 900) : f_law_read (T, t, ()) = some ⟨(scan T [] 0 (rowsOf t)).1, (scan T [] 0 (rowsOf t)).2⟩ := by
  have hrl : (rowsOf t).length ≤ 901 ∧ ∀ r ∈ rowsOf t, r.length ≤ 900 := by
    unfold rowsOf
    by_cases e : t = Str.ofString ""
    · rw [if_pos e]; exact ⟨Nat.zero_le _, fun r h => (by cases h)⟩
    · rw [if_neg e]; exact split_len sep_nl hn
  have hrows : (if (!decide (t = Str.ofString "")) = true then oSplit t (Str.ofString "\n") else some []) = some (rowsOf t) := by
    unfold rowsOf
    by_cases e : t = Str.ofString ""
    · rw [if_pos e, decide_eq_true e] <;> rfl
    · rw [if_neg e, decide_eq_false e]
      exact oSplit_t sep_nl (by omega)
  generalize rowsOf t = rows at *
  unfold f_law_read m_law_read
  simp only [Option.bind_some, oNe, q_str, hrows, if_pos (show 0 ≤ (rows.length : Int) ∧ (rows.length : Int) ≤ 100000 by omega), rng_range]
  have go : ∀ (k i : Nat) (F : List Lin), i + k = rows.length → F.length ≤ i →
      (loopM (fun (s3 : (List (T3 Str Int (List Str)))) (i2 : Int) => (((oIx rows i2).bind fun x => some (x, ())).bind fun y => some (T, y)).bind f_law_line_in |>.bind fun v4 => ((if Op.isNo v4 = true then some true else ((Op.get v4).bind fun x => some x.a).bind fun x => (lcO (fun _ => some true) (fun i5 : Lin => some i5.a) s3).bind fun y => oIn x y).bind fun b => if b = true then some (Out.rt (τ := Unit) (T2.mk (some i2) s3)) else some (Out.nx ())).bind (Out.go fun _ => (Op.get v4).bind fun v7 => if s3.length < 50000 then some (Out.nx (s3 ++ [v7])) else none)) F ((List.range' i k).map fun j => ((j : Nat) : Int))) =
      some (match (scan T F i (rows.drop i)).1 with | none => .nx (scan T F i (rows.drop i)).2 | some p => .rt ⟨some p, (scan T F i (rows.drop i)).2⟩) := by
    intro k
    induction k with
    | zero =>
      intro i F hi hF
      rw [List.drop_of_length_le (by omega)]
      rfl
    | succ k ih =>
      intro i F hi hF
      have hlt : i < rows.length := by omega
      have hr := hrl.2 _ (List.getElem_mem hlt)
      rw [range_cons, List.map_cons, List.drop_eq_getElem_cons hlt]
      unfold loopM
      have hix : oIx rows ((i : Nat) : Int) = some rows[i] := by rw [oIx_nat rows i hlt, List.getElem?_eq_getElem hlt]
      have hli := law_line_in_t (T := T) hT hr
      have hnm : lcO (fun _ => some true) (fun i5 : Lin => some i5.a) F = some (F.map (·.a)) := lcO_map (fun i5 : Lin => i5.a) F (by omega) fun _ _ => rfl
      simp only [hix, Option.bind_some, hli]
      unfold scan
      cases hres : res T rows[i] with
      | none => rfl
      | some L =>
        simp only [show (Op.yes L).isNo = false from rfl, show (Op.yes L).get = some L from rfl, Bool.false_eq_true, if_false, Option.bind_some, hnm, oIn_t L.a (F.map (·.a))]
        by_cases hm : L.a ∈ F.map (·.a)
        · simp only [decide_eq_true hm, if_true, if_pos hm, Option.bind_some, go_rt]
        · simp only [decide_eq_false hm, Bool.false_eq_true, if_false, if_neg hm, Option.bind_some, go_nx, if_pos (show F.length < 50000 by omega)]
          exact ih (i + 1) (F ++ [L]) (by omega) (by rw [List.length_append, List.length_singleton]; omega)
  have h := go rows.length 0 [] (by omega) (Nat.le_refl _)
  rw [List.drop_zero] at h
  rw [h]
  cases (scan T [] 0 rows).1 <;> rfl
theorem wrong_line_o_t {T : Trk} {rows : List Str} (hT : Ok T) (hl : rows.length ≤ 1000) (hr : ∀ r ∈ rows, r.length ≤ 900) : ∃ os, lcO (fun _ => some true) (fun i => f_line_of_row (i, ())) rows = some os ∧ f_wrong_line_o (bookOf T, os, ()) = some (scan T [] 0 rows).1 ∧ ((scan T [] 0 rows).1 = none → unOps os = some (scan T [] 0 rows).2) := by
  let g : Str → Op Lin := fun r => (f_line_of_row (r, ())).getD .no
  have hg : ∀ r ∈ rows, f_line_of_row (r, ()) = some (g r) ∧ f_is_line_o (bookOf T, g r, ()) = some (res T r).isSome ∧ ∀ L, res T r = some L → g r = .yes L := fun r h => by
    obtain ⟨o, h1, h2, h3⟩ := prog_row (T := T) hT (hr r h)
    have e : g r = o := by show (f_line_of_row (r, ())).getD .no = o; rw [h1] <;> rfl
    rw [e]
    exact ⟨h1, h2, h3⟩
  refine ⟨rows.map g, lcO_map g rows (by omega) fun r h => (hg r h).1, ?_, ?_⟩
  · unfold f_wrong_line_o m_wrong_line_o
    have go : ∀ (rs : List Str) (i : Nat) (F : List Lin), (∀ r ∈ rs, r ∈ rows) → i + rs.length ≤ 1000 → F.length ≤ i →
        (loopM (fun (s2 : (List Str)) (i1 : (T2 Int (Op (T3 Str Int (List Str))))) => ((((f_is_line_o (bookOf T, i1.b, ())).bind fun b => some !b).bind fun x => if x = true then some true else ((Op.get i1.b).bind fun x => some x.a).bind fun x => oIn x s2).bind fun b => if b = true then some (Out.rt (τ := Unit) (some i1.a)) else some (Out.nx ())).bind (Out.go fun _ => ((Op.get i1.b).bind fun x => some x.a).bind fun v3 => if s2.length < 50000 then some (Out.nx (s2 ++ [v3])) else none)) (F.map (·.a)) (((rs.map g).zipIdx i).map fun p => T2.mk (p.2 : Int) p.1)) =
        some (match (scan T F i rs).1 with | none => .nx ((scan T F i rs).2.map (·.a)) | some p => .rt (some p)) := by
      intro rs
      induction rs with
      | nil => intro i F _ _ _; rfl
      | cons r rs ih =>
        intro i F hm hi hF
        rw [List.length_cons] at hi
        obtain ⟨_, h2, h3⟩ := hg r (hm r List.mem_cons_self)
        rw [List.map_cons, List.zipIdx_cons, List.map_cons]
        unfold loopM scan
        simp only [h2, Option.bind_some]
        cases hres : res T r with
        | none => rfl
        | some L =>
          rw [h3 L hres]
          simp only [Option.isSome_some, Bool.not_true, show (Op.yes L).get = some L from rfl, Bool.false_eq_true, if_false, Option.bind_some, oIn_t L.a (F.map (·.a))]
          by_cases hmem : L.a ∈ F.map (·.a)
          · simp only [decide_eq_true hmem, if_true, if_pos hmem, Option.bind_some, go_rt]
          · simp only [decide_eq_false hmem, Bool.false_eq_true, if_false, if_neg hmem, Option.bind_some, go_nx, if_pos (show (F.map (·.a)).length < 50000 by rw [List.length_map]; omega)]
            have := ih (i + 1) (F ++ [L]) (fun q h => hm q (List.mem_cons_of_mem _ h)) (by omega) (by rw [List.length_append, List.length_singleton]; omega)
            rw [List.map_append] at this
            exact this
    have h := go rows 0 [] (fun _ h => h) (by omega) (Nat.le_refl _)
    simp only [Option.bind_some]
    rw [List.map_nil] at h
    rw [h]
    cases (scan T [] 0 rows).1 <;> rfl
  · have go : ∀ (rs : List Str) (i : Nat) (F : List Lin), (∀ r ∈ rs, r ∈ rows) → (scan T F i rs).1 = none → ∃ G, unOps (rs.map g) = some G ∧ (scan T F i rs).2 = F ++ G := by
      intro rs
      induction rs with
      | nil => intro i F _ _; exact ⟨[], rfl, by rw [List.append_nil]; rfl⟩
      | cons r rs ih =>
        intro i F hm hs
        obtain ⟨_, h2, h3⟩ := hg r (hm r List.mem_cons_self)
        unfold scan at hs ⊢
        cases hres : res T r with
        | none => rw [hres] at hs; cases hs
        | some L =>
          rw [hres] at hs
          simp only at hs ⊢
          by_cases hmem : L.a ∈ F.map (·.a)
          · rw [if_pos hmem] at hs; cases hs
          · rw [if_neg hmem] at hs
            obtain ⟨G, g1, g2⟩ := ih (i + 1) (F ++ [L]) (fun q h => hm q (List.mem_cons_of_mem _ h)) hs
            refine ⟨L :: G, ?_, ?_⟩
            · rw [List.map_cons, h3 L hres]
              show (unOps (rs.map g)).bind (fun l => some (L :: l)) = _
              rw [g1] <;> rfl
            · rw [if_neg hmem, g2, List.append_assoc] <;> rfl
    intro hs
    obtain ⟨G, g1, g2⟩ := go rows 0 [] (fun _ h => h) hs
    rw [g1, g2] <;> rfl
/-- what is read is written back -/
theorem scan_rows {T : Trk} : ∀ {rs : List Str} {i : Nat} {F : List Lin}, (scan T F i rs).1 = none → ∃ G, (scan T F i rs).2 = F ++ G ∧ G.map lineT = rs ∧ (∀ L ∈ G, GoodL T L ∧ ∃ r ∈ rs, Shape r L) ∧ ((F.map (·.a)).Nodup → ((F ++ G).map (·.a)).Nodup)
  | [], i, F, _ => ⟨[], by rw [List.append_nil]; rfl, rfl, fun L h => (by cases h), fun h => by rw [List.append_nil]; exact h⟩
  | r :: rs, i, F, hs => by
    unfold scan at hs ⊢
    cases hres : res T r with
    | none => rw [hres] at hs; cases hs
    | some L =>
      rw [hres] at hs
      simp only at hs ⊢
      by_cases hmem : L.a ∈ F.map (·.a)
      · rw [if_pos hmem] at hs; cases hs
      · rw [if_neg hmem] at hs ⊢
        obtain ⟨G, g1, g2, g3, g4⟩ := scan_rows hs
        obtain ⟨s1, s2⟩ := res_some hres
        have hsh := s1
        obtain ⟨_, _, _, _, _, _, _, e⟩ := s1
        refine ⟨L :: G, by rw [g1, List.append_assoc] <;> rfl, by rw [List.map_cons, g2, e], fun M hM => ?_, fun hn => ?_⟩
        · rcases List.mem_cons.mp hM with rfl | hM
          · exact ⟨s2, r, List.mem_cons_self, hsh⟩
          · obtain ⟨q1, q, q2, q3⟩ := g3 M hM
            exact ⟨q1, q, List.mem_cons_of_mem _ q2, q3⟩
        · have := g4 (by
            rw [List.map_append, List.nodup_append]
            refine ⟨hn, by simp, fun a ha b hb e2 => ?_⟩
            subst e2
            rw [List.mem_singleton.mp hb] at ha
            exact hmem ha)
          rw [List.append_assoc] at this
          exact this
end K
end

section
set_option maxRecDepth 100000
set_option maxHeartbeats 8000000
namespace K
open PySem PySem.W PySem.Calls PyProof.Rows PySem.HandSPX PySem.Spec
abbrev s_BR : Stmt := L2.inClass (top 4) 0
abbrev prg : Program := PySem.Challenge.pw_pickline_k08_line_texts
/-- what the written part says of BadRows, at C, and of its __init__, at fI -/
structure RowsTxt (K : Frag) (C fI : Addr) : Prop where
  cls : ∃ n q N bs bm sn sub ab col dd k0 k1 k2 k3 k5, K.lookup C = some (excClassObj n q C N bs bm true sn sub ab col dd k0 k1 k2 k3 k5 "ValueError.__new__") ∧ refsVE bm = true ∧ refsVE (.ref C :: bm) = true
  sa : findIn K (.ref C) "__setattr__" = some (some (.builtin "object.__setattr__"))
  noN : findIn K (.ref C) "row" = some none
  sup : ks_superIn K C C "__init__" = some (some (.builtin "ValueError.__init__"))
  ve : subIn K (.ref C) (.type "ValueError") = some true
  self : mroIn K C (.ref C) = some true
  iC : findIn K (.ref C) "__init__" = some (some (.ref fI))
  tI : typeIn K (.ref fI) = some (.type "function")
  kC : keepIn K (.ref C) = true
  exC : subIn K (.ref C) (.type "BaseException") = some true
  tyC : typeIn K (.ref C) = some (.type "type")
  op : nsIn K cStatics "thirdparty.any" = some none
  fn : ∃ (oc : Value) (od : Option Addr) (doc pm : Value) (an : Option Addr) (cda : Addr) (ct : Value) (cc : Addr) (osl : Array (Option Value)) (vs : Array Value) (ccl : Value) (cdd : Option Addr) (ccs : Array (Option Value)) (file : Str) (tf : Tok) (cl : Value) (cld : Option Addr) (csl : Array (Option Value)),
    K.lookup fI = some ⟨oc, od, .func (ksFn "__init__" "BadRows.__init__" (L2.defArgs s_BR) (L2.defBody s_BR) (L2.defScope s_BR) .none .none doc pm an (.ref cda) ct cc), osl⟩ ∧ codeIn K (.ref cda) "BadRows.__init__" = true ∧
    K.lookup cda = some ⟨ccl, cdd, .fields vs, ccs⟩ ∧ vs[2]? = some (.str file tf) ∧ ((prg.main.file : Str) == file) = true ∧ K.lookup cc = some ⟨cl, cld, .cell (some (.ref C)), csl⟩
section
variable {w : World} {A : Around} {R : Result → Shared → Prop} {s : Shared} {K : Frag} {mg : Str → Option Value} {base : Heap} {C fI : Addr}
theorem rows_init (T : RowsTxt K C fI) (hmod : L2.Mod K mg base) (hsup : mg "super" = none) {x t0 : Addr} {v : Value} (X : K.In s.heap) (hbk : ∀ b o, base.get? b = some o → s.heap.get? b = some o) (hlim : s.heap.NoLimit) (hx : s.heap.get? x = some (excO C t0)) (hnx : K.lookup x = none) (hroom : A.depth < recursionLimit)
    (hq : ∀ h' tk dx t1, (∀ b o, b ≠ x → s.heap.get? b = some o → h'.get? b = some o) → h'.get? x = some { cls := .ref C, dict := some dx, data := .fields #[.ref t1, .none, .none, .none, .bool false, .none] } → s.heap.objs.size ≤ dx → dx ≠ x → h'.Ns1 dx (fun y => if y = "row" then some v else none) → R (.ok (.ret .none)) { s with heap := h', toks := tk }) :
    codeAny (model prg w) A (.call (.ref fI) ⟨[.ref x, v], []⟩) R s := by
  obtain ⟨oc, od, doc, pm, an, cda, ct, cc, osl, vs, ccl, cdd, ccs, file, tf, cl, cld, csl, ho, hcd, hco, hvs, hfile, hcell⟩ := T.fn
  obtain ⟨n, q, N, bs, bm, sn, sub, ab, col, dd, k0, k1, k2, k3, k5, hC, hbm, hbm2⟩ := T.cls
  have hb : bindArgs (ksFn "__init__" "BadRows.__init__" (L2.defArgs s_BR) (L2.defBody s_BR) (L2.defScope s_BR) .none .none doc pm an (.ref cda) ct cc) ⟨[.ref x, v], []⟩ = pure [((PySem.Str.ofString "self"), Value.ref x), ((PySem.Str.ofString "row"), v)] := by first | rfl | with_unfolding_all rfl | kernel_rfl
  have hnc : ∀ y ∈ (L2.defScope s_BR).names, y.2 ≠ .cell := by decide +kernel
  have hse : (L2.defScope s_BR).names.lookup (PySem.Str.ofString "self") = some .local := by decide +kernel
  have hro : (L2.defScope s_BR).names.lookup (PySem.Str.ofString "row") = some .local := by decide +kernel
  refine ks_codeAny_call_defAt (fd := ksFn "__init__" "BadRows.__init__" (L2.defArgs s_BR) (L2.defBody s_BR) (L2.defScope s_BR) .none .none doc pm an (.ref cda) ct cc) (body := L2.defBody s_BR) (binds := [((PySem.Str.ofString "self"), Value.ref x), ((PySem.Str.ofString "row"), v)]) hroom (X _ _ ho) rfl hlim (codeRec_of X hcd) rfl (BindsTo.of_eq hb) hnc (fun y hy => by
    rcases List.mem_cons.mp hy with rfl | hy
    · exact hse
    · rw [List.mem_singleton.mp hy]; exact hro) (fun h₁ hns hk₁ => ?_) (by rfl) (by rfl) (by rfl)
  have X₁ : K.In h₁ := X.keeps hk₁
  have hx₁ := hk₁ _ _ hx
  obtain ⟨mb, bl1, bl2⟩ := hmod.blt
  have hcl : clsIn K C = some { name := n, bases := bs, mro := .ref C :: bm, ns := N, qualname := q, hasDict := true, slotNames := sn, subclasses := sub, abstract := ab, collection := col, hasDel := false } := by unfold clsIn; rw [hC] <;> rfl
  have hxC : x ≠ C := fun e => by
    rw [e, X₁ _ _ hC] at hx₁
    cases hx₁
  have hbk₁ : ∀ b o, base.get? b = some o → h₁.get? b = some o := fun b o e => hk₁ b o (hbk b o e)
  refine ks_wpAt_execs_cons (ks_wpAt_Expr_any (ks_wpAt_MethodCall (pl := ?pl) ?_ ?he) (by rfl) (by rfl))
  case he => rfl
  refine ks_wpAt_super_base (by rfl) (by rfl) (by rfl) rfl (X₁ _ _ ho) rfl rfl rfl (X₁ _ _ hco) rfl hvs hfile (by decide +kernel) ?_
  refine ks_loadName_global (by rfl) (by rfl) (loadGlobal_builtin (hmod.glob.keeps hbk₁) hsup (bl1.keeps hbk₁) (bl2 _ (by decide)) ⟨by decide +kernel, ?_⟩)
  refine wpAny_loadName_free (by rfl) (by rfl) rfl ⟨_, X₁ _ _ hcell, rfl⟩ ?_
  refine wpAny_loadName_local (by rfl) (by rfl) hns (v := .ref x) (by rfl) ?_
  refine ks_wpAny_isType_cls (X₁ _ _ hC) rfl ⟨rfl, ?_⟩
  refine ks_wpAny_call_super (X₁ _ _ hC) rfl hx₁ rfl (fun c e => by cases e) (looks_mroIn X₁ T.self) (fun h₂ hso hk₂ => ?_)
  have X₂ : K.In h₂ := X₁.keeps hk₂
  have hx₂ := hk₂ _ _ hx₁
  have I₂ : InstAt h₂ x (excO C t0) C none := ⟨hx₂, rfl, rfl, trivial⟩
  have hI : Looks (model prg w) h₂ (isInstance (.ref x) (.type "ValueError")) true := I₂.type.andThen (looks_subIn X₂ T.ve)
  have hf : alongIn K "__init__" (((Value.ref C :: bm).dropWhile (· != .ref C)).drop 1) = some (some (.builtin "ValueError.__init__")) := by
    have := T.sup
    unfold ks_superIn at this
    rw [hcl] at this
    exact this
  refine kxs_getMethod kxs_ValueError hso (looks_opaque X₂ T.op) (l₀ := .ref C :: bm) (fun A Q E s k q => wpAny_bind ((looks_clsIn X₂ hcl) A _ E s k (wpAny_pure q))) rfl X₂ hf hI hxC (by decide +kernel) ?_
  refine kxs_callWith (i := "ValueError.__init__") (x := x) (by rfl) ?_
  refine evalArgs_plain (spliced_cons (Constant_str (k := 0) (pos := ⟨0, 0, 0, 0⟩) (spliced_nil ⟨Heap.get?_push_size _ rfl, ?_⟩)))
  have hk₃ : ∀ b o, h₂.get? b = some o → (h₂.push (kxs_mw "ValueError.__init__" x)).get? b = some o := fun b o e => Heap.get?_push_of_some _ e
  have hx₃ := hk₃ _ _ hx₂
  have hC₃ := hk₃ _ _ (X₂ _ _ hC)
  have hu : (h₂.push (kxs_mw "ValueError.__init__" x)).get? h₂.objs.size = some (kxs_mw "ValueError.__init__" x) := Heap.get?_push_size _ rfl
  refine wpAny_call (codeAny_of_tree ?_)
  show wpAny _ _ (callAny (.ref h₂.objs.size) ⟨_, []⟩) _ _ _
  simp only [callAny]
  refine wpAny_bind (wpAny_load hu ?_)
  simp only [kxs_mw, show (Value.type "method-wrapper" == Value.type "method" || Value.type "method-wrapper" == Value.type "builtin_function_or_method" || Value.type "method-wrapper" == Value.type "method-wrapper") = true by decide, if_true]
  refine KFB.if_so (by decide) ?_
  refine wpAny_bind (check_bound_init F.excBase_ValueError.toExcCallFacts hC₃ hx₃ rfl ?_)
  refine wpAny_bind (wpAny_pure (wpAny_pure ?_))
  refine ⟨plainId_quiet F.excBase_ValueError.init.plain _, codeAny_builtin F.excBase_ValueError.initEntry ?_⟩
  refine exc_init_tree (cls := .ref C) (t0 := t0) (dv := none) (c2 := .none) (c3 := .none) (b4 := .bool false) hx₃ (by rw [sizeLine_eq]; exact (by decide : 1 ≤ 16777216)) (fun h₄ k₄ e₄ t₄ => ?_)
  have X₄ : K.In h₄ := fun a o e => k₄ a o (fun z => by rw [z, hnx] at e; cases e) (hk₃ _ _ (hk₂ _ _ (X₁ _ _ e)))
  have hxL : s.heap.objs.size ≠ x := Nat.ne_of_gt (Heap.lt_size hx)
  obtain ⟨oL, es, ep, hL, rL⟩ := hns
  have hL₃ := hk₃ _ _ (hk₂ _ _ hL)
  have hns₄ : h₄.Ns s.heap.objs.size (fun y => [((PySem.Str.ofString "self"), Value.ref x), ((PySem.Str.ofString "row"), v)].reverse.lookup y) := ⟨oL, es, ep, k₄ _ _ hxL hL₃, rL⟩
  show PySem.wpAt _ _ _ _ _ _ _
  refine wpAt_of_wpAny (wpAny_execs_cons (plainObj_wpAny_Assign_Attribute ?_))
  refine wpAny_Name (wpAny_loadName_local (by rfl) (by rfl) hns₄ (v := v) (by rfl) ?_) (by decide +kernel)
  refine wpAny_Name (wpAny_loadName_local (by rfl) (by rfl) hns₄ (v := .ref x) (by rfl) ?_) (by decide +kernel)
  refine set_plain X₄ (ox := excO C _) (od := none) ⟨e₄, rfl, rfl, trivial⟩ T.sa ?_
  refine exc_osa X₄ e₄ hcl hbm2 rfl T.noN (fun h₅ tk₅ dx k₅ dn dne hx₅ hn₅ => ?_)
  refine wpAny_execs_nil ?_
  have z1 := Heap.lt_size hL₃
  have z2 := Heap.lt_size t₄
  exact hq h₅ tk₅ dx _ (fun b o hb e => k₅ b o hb (k₄ b o hb (hk₃ _ _ (hk₂ _ _ (hk₁ _ _ e))))) hx₅ (Nat.le_of_lt (Nat.lt_of_lt_of_le (Nat.lt_trans z1 z2) dn)) dne hn₅
theorem size_one (v : Value) : [v].length ≤ sizeLine := by rw [sizeLine_eq]; exact (by decide : 1 ≤ 16777216)
/-- BadRows(v) is made: a new exception at e, its dict new at d -/
theorem rows_made (T : RowsTxt K C fI) (hmod : L2.Mod K mg base) (hsup : mg "super" = none) {v : Value} (X : K.In s.heap) (hbk : ∀ b o, base.get? b = some o → s.heap.get? b = some o) (hlim : s.heap.NoLimit) (hroom : A.depth + 1 < recursionLimit)
    (hq : ∀ h' tk e d t1, (∀ b o, s.heap.get? b = some o → h'.get? b = some o) → s.heap.objs.size ≤ e → h'.get? e = some { cls := .ref C, dict := some d, data := .fields #[.ref t1, .none, .none, .none, .bool false, .none] } → s.heap.objs.size ≤ d → d ≠ e → h'.Ns1 d (fun y => if y = "row" then some v else none) → R (.ok (.ret (.ref e))) { s with heap := h', toks := tk }) :
    codeAny (model prg w) A (.call (.ref C) ⟨[v], []⟩) R s := by
  obtain ⟨n, q, N, bs, bm, sn, sub, ab, col, dd, k0, k1, k2, k3, k5, hC, hbm, hbm2⟩ := T.cls
  obtain ⟨hp, g, dr, tk, os⟩ := s
  have up : ∀ b o, hp.get? b = some o → ((hp.push (kdv_tup [v])).push (excO C hp.objs.size)).get? b = some o := fun b o e => Heap.get?_push_of_some _ (Heap.get?_push_of_some _ e)
  have hnew : ((hp.push (kdv_tup [v])).push (excO C hp.objs.size)).get? (hp.objs.size + 1) = some (excO C hp.objs.size) := by heap_get
  have hlk : K.lookup (hp.objs.size + 1) = none := by
    cases e : K.lookup (hp.objs.size + 1) with
    | none => rfl
    | some o => exact absurd (Heap.lt_size (X _ _ e)) (by show ¬ hp.objs.size + 1 < hp.objs.size; omega)
  refine call_own F.excBase_ValueError (fun Y => refsVE_contains Y bm hbm) (X _ _ hC) (looks_findIn X T.iC) (fun self => bind_fn X self T.tI) (size_one v) ?_
  refine rows_init (s := ⟨(hp.push (kdv_tup [v])).push (excO C hp.objs.size), g, dr, tk, os⟩) T hmod hsup (X.keeps up) (fun b o e => up b o (hbk b o e)) (hlim.keeps up) hnew hlk (show A.depth + 1 < recursionLimit from hroom) fun h' tk' dx t1 k' hx dbig dne hns => ?_
  have old : ∀ b o, hp.get? b = some o → h'.get? b = some o := fun b o e => k' b o (Nat.ne_of_lt (Nat.lt_succ_of_lt (Heap.lt_size e))) (up b o e)
  have hd : hp.objs.size ≤ dx := Nat.le_trans (by rw [Heap.size_push, Heap.size_push]; omega) dbig
  exact ⟨rfl, hq h' tk' (hp.objs.size + 1) dx t1 old (Nat.le_succ _) hx hd dne hns⟩
end
end K
end

section
set_option maxRecDepth 100000
set_option maxHeartbeats 4000000
namespace K
open PySem PySem.Spec PyProof.Rows L2
theorem rel_row {v : V} {u : Value} (r : RelV v u) (f : Str) : RelO (List.lookup f [((PySem.Str.ofString "row"), v)]) (if f = "row" then some u else none) := by
  by_cases h : f = "row"
  · rw [if_pos h, h, show List.lookup (PySem.Str.ofString "row") [((PySem.Str.ofString "row"), v)] = some v by simp [List.lookup]]
    exact r
  · rw [if_neg h, show List.lookup f [((PySem.Str.ofString "row"), v)] = none by
      have : (f == (PySem.Str.ofString "row")) = false := by simpa using h
      simp [List.lookup, this]]
    trivial
/-- BadRows(e) -/
def tMkRows (C : Addr) (ta : TA) : L2.St → Hp → XK → Prop := fun σ H Q => ta σ H fun vs H1 => ∃ v, vs = [v] ∧ ∀ d, H1 d = none → Q (.ref C) (some d) (upd H1 d (.xd [((PySem.Str.ofString "row"), v)]))
theorem pmk_rows {X : Cx} {C fI : Addr} {a : Expr} {ta : TA} {p pos : Pos} {k : Nat} (hpr : X.prog = prg) (T : RowsTxt X.K C fI) (gC : X.mg "BadRows" = some (.ref C)) (hsup : X.mg "super" = none) (hr : Room k X.A) (ha : PA X [a] ta) (hg : Gl X "BadRows") (he : starEach (a :: []) X.env = (false, eval a X.env) :: starEach [] X.env) (hpl : (backTo pos (starEach [] X.env)).any (·.1) = false) :
    PMk X (.Call (.Name "BadRows" p) [a] [] pos) (tMkRows C ta) := by
  intro pins s σ H Q I h
  refine wpAny_Call_Name_kw (ld_glob I hg gC ?_)
  refine PySem.W.callWith_K (h₀ := X.base) I.ok.mod.kin T.kC (thn (ha.run pos pins s σ H _ I h) fun us s1 ⟨vs, H1, I1, r1, v, ev, q1⟩ => ⟨I1.kIn, ?_⟩) he hpl
  subst ev
  cases r1 with
  | @cons _ u _ us' ru rn =>
    cases rn
    have hlim := I1.nolimit
    have hbk := I1.bk
    have hK := I1.kIn
    show wpAny _ _ (call (.ref C) [u]) _ _ _
    rw [hpr]
    obtain ⟨hp, g, dr, tk, os⟩ := s1
    refine wpAny_call (rows_made T I1.ok.mod hsup hK hbk hlim (by have := hr.dp; omega) fun h' tk' e d t1 hkeep hene hoe hdnew hde hns => ?_)
    show MkP X pins σ Q (.ref e) ⟨h', g, dr, tk', os⟩
    obtain ⟨G, g1, g2⟩ := restrict h' fun b => decide (b ≠ e)
    have gk : ∀ b, b ≠ e → G.get? b = h'.get? b := fun b hb => g1 b (decide_eq_true hb)
    have ge : G.get? e = none := g2 e (by simp)
    have hold : ∀ b o, hp.get? b = some o → G.get? b = some o := fun b o w => (gk b (Nat.ne_of_lt (Nat.lt_of_lt_of_le (Heap.lt_size w) hene))).trans (hkeep b o w)
    have J : Inv X pins σ (upd H1 d (.xd [((PySem.Str.ofString "row"), v)])) ⟨G, g, dr, tk', os⟩ := I1.laid (t' := tk') hold hdnew ⟨_, hns.at (fun o w => (gk d hde).trans w), fun f => rel_row ru f⟩
    refine ⟨e, _, _, ⟨G, g, dr, tk', os⟩, _, .ref C, some d, rfl, J, fun b o w => ?_, ge, hoe, ⟨rfl, rfl⟩, rfl, rfl, ?_, rfl, I1.bare, raises_own T.exC T.tyC, q1 d (I1.hok.fresh hdnew)⟩
    · by_cases hb : b = e
      · subst hb
        rw [show G.get? b = none from ge] at w
        cases w
      · exact (gk b hb).symm.trans w
    · rw [upd_ne (Ne.symm hde)]
      exact I1.hok.fresh hene
/-- raise BadRows(e) -/
theorem ps_raiseRows {X : Cx} {C fI : Addr} {a : Expr} {ta : TA} {W : WX} {p pos pos2 : Pos} {k : Nat} (hc : X.calm = true) (hpr : X.prog = prg) (T : RowsTxt X.K C fI) (gC : X.mg "BadRows" = some (.ref C)) (hsup : X.mg "super" = none) (hr : Room k X.A) (tk : Takes X W) (ha : PA X [a] ta) (hg : Gl X "BadRows") (he : starEach (a :: []) X.env = (false, eval a X.env) :: starEach [] X.env) (hpl : (backTo pos (starEach [] X.env)).any (·.1) = false) :
    PS X (.Raise (some (.Call (.Name "BadRows" p) [a] [] pos)) none pos2) (fun _ σ H => tMkRows C ta σ H fun cls d H' => W cls d σ H') := ps_raise hc tk (pmk_rows hpr T gC hsup hr ha hg he hpl)
end K
end

section
set_option synthInstance.maxSize 4000
set_option synthInstance.maxHeartbeats 2000000
set_option maxRecDepth 100000
set_option maxHeartbeats 4000000
namespace K
open PySem L2 Sm

abbrev s_read_lines : Stmt := top 30
theorem sc_read_lines : FnScope ["trunk", "text", "book", "lines", "place", "row"] ["trunk", "text"] (defScope s_read_lines) := ⟨rfl, rfl, rfl, by decide +kernel, rfl, by decide +kernel, by decide +kernel⟩
def m_read_lines_pre (trunk : (List (T5 Str (List Str) (Option Str) (List Str) (List Str)))) (text : Str) : Option (Out ((List (Op (T3 Str Int (List Str)))) × (Option Int)) (List (Op (T3 Str Int (List Str))))) :=
  ((((((some trunk)).bind fun x => ((some ())).bind fun y => some (x, y))).bind f_checked_trunk).bind fun v1 => ((((((((some text)).bind fun _ => some true)).bind fun b => some !b)).bind fun b => if b then (none : Option (Out Unit (List (Op (T3 Str Int (List Str)))))) else some (Out.nx (ρ := (List (Op (T3 Str Int (List Str))))) ())).bind (Out.go fun _ => ((((((some text)).bind fun x => ((some (Str.ofString ""))).bind fun y => oEq x y)).bind fun b => if b then (((some ([] : (List (Op (T3 Str Int (List Str))))))).bind fun r => some (Out.rt (τ := Unit) r)) else some (Out.nx (ρ := (List (Op (T3 Str Int (List Str))))) ())).bind (Out.go fun _ => (((((((some text)).bind fun x => ((some (Str.ofString "
"))).bind fun y => oSplit x y)).bind (lcO (fun i4 => (some true)) (fun i4 => (((((some i4)).bind fun x => ((some ())).bind fun y => some (x, y))).bind f_line_of_row))))).bind fun v2 => (((((((((some v2)).bind fun x => ((some ())).bind fun y => some (x, y))).bind fun y => some (v1, y))).bind f_wrong_line_o)).bind fun v5 => (some (Out.nx (ρ := (List (Op (T3 Str Int (List Str))))) (v2, v5))))))))))
theorem js_read_lines_pre {P : Program} {w : World} {K : PySem.W.Frag} {mg : Str → Option Value} {base : Heap} (B : Bt K mg) (D_checked_trunk : Dn P w K mg base "checked_trunk" 6 (sp_checked_trunk K)) (D_line_of_row : Dn P w K mg base "line_of_row" 2 (sp_line_of_row K)) (D_wrong_line_o : Dn P w K mg base "wrong_line" 4 (sp_wrong_line_o K)) : ∃ t, ∀ (trunk : (List (T5 Str (List Str) (Option Str) (List Str) (List Str)))) (text : Str), JS ⟨P, w, K, mg, base, ["trunk", "text", "book", "lines", "place", "row"], defScope s_read_lines, fun _ => true, 8⟩ ((defBody s_read_lines).take 5) t [V_ (trunk : (List (T5 Str (List Str) (Option Str) (List Str) (List Str)))), V_ (text : Str), .no, .no, .no, .no] (ρ := (List (Op (T3 Str Int (List Str))))) false (fun (s : ((List (Op (T3 Str Int (List Str)))) × (Option Int))) => [.no, .no, .no, V_ (s.1 : (List (Op (T3 Str Int (List Str))))), V_ (s.2 : (Option Int)), .no]) (m_read_lines_pre trunk text) := by
  have nd := sc_read_lines.nd
  apply Exists.intro; intro trunk text
  unfold m_read_lines_pre
  exact (js_setD 2 nd D_checked_trunk (ja_cons (je_var 0 (by rfl)) ja_nil) fun v1 => (js_guard (jt_not (jt_val (je_isi (T := "str") true B.isinstance B.str (by decide +kernel) (by decide +kernel) (je_var 1 (by rfl))))) js_never (js_guard (jt_eq (je_var 1 (by rfl)) je_str) (js_ret (je_nil (α := (Op (T3 Str Int (List Str)))))) (js_setLcV 3 [("row", 5)] nd (ji_list (je_split (je_var 1 (by rfl)) je_str)) (by dsimp only [Stc.blk]; decide +kernel) (fun X F => (pgn F 5 nd)) (tg_n 5) (fun i4 => jts_nil) (fun i4 => (je_call D_line_of_row (ja_cons (je_var 5 (by rfl)) ja_nil))) fun v2 => (js_set 4 nd (JE.lit (je_call D_wrong_line_o (ja_dct 2 (by rfl) (ja_cons (je_var 3 (by rfl)) ja_nil))) .fr) fun v5 => (js_nil (v2, v5) (Sub.drop (Sub.drop (Sub.drop (Sub.same (Sub.same (Sub.same Sub.nil))))))))))))
end K
end

section
set_option maxRecDepth 100000
set_option maxHeartbeats 4000000
namespace K
open PySem PySem.Spec PyProof.Rows L2 Sm
abbrev LnP : Type := T3 Str Int (List Str)
abbrev TkP : Type := List (T5 Str (List Str) (Option Str) (List Str) (List Str))
/-- read_lines(trunk, text): the lines, or BadRows with the row's number -/
def spRd (K : PySem.W.Frag) (C : Addr) : Sp := fun vs H Q E =>
  ∃ (p : TkP × (Str × Unit)) (S : Ft) (o : Out (List (Op LnP) × Option Int) (List (Op LnP))), m_read_lines_pre p.1 p.2.1 = some o ∧ (∀ a, S a → H a ≠ none) ∧ GC TkP (GC Str GN) K S H vs p ∧
    match o with
    | .rt r => ∀ v H', Ex H H' → Rp.r K (nw S H) H' v r → Q v H'
    | .nx (os, none) => ∀ v H', Ex H H' → Rp.r K (nw S H) H' v os → Q v H'
    | .nx (_, some i) => ∀ d H', Ex H H' → H' d = none → E (.ref C) (some d) (upd H' d (.xd [((PySem.Str.ofString "row"), .int i)]))
/-- what stands behind the first five statements -/
def tRdEnd (C : Addr) (E : XK) : TS := tSeq (tIfS (tB (tNotN (tVar 4))) (fun _ σ H => tMkRows C (tCons (tVar 4) tNil) σ H fun cls d H' => E cls d H') tNext) (tRet (tVar 3))
section
variable {P : Program} {w : World} {K : PySem.W.Frag} {mg : Str → Option Value} {base : Heap} {C fI : Addr}
theorem fam_defX {qual : Str} {N : List Str} {k : Nat} {cdv : Value} {Ar : Around} {outer : List Env} {s : Shared} {H : Hp} {E : XK} {f : Addr} {sc : Scope} (hr : Room k (Ar.deeper (PyProof.Rows.envOfC qual sc s.heap.objs.size f cdv))) :
    Fam ⟨P, w, K, mg, base, N, sc, fun _ => true, k⟩ (cxOf (L2.CX P w) P w K mg base N qual sc f cdv Ar outer s H E).nox := ⟨rfl, rfl, rfl, rfl, rfl, rfl, rfl, rfl, rfl, hr, rfl⟩
theorem ok_read_lines {f : Addr} {fd : FuncData} (F : Fun K "read_lines" "read_lines" s_read_lines f fd) (B : Bt K mg) (T : RowsTxt K C fI) (gC : mg "BadRows" = some (.ref C)) (hsup : mg "super" = none)
    (D_checked_trunk : Dn prg w K mg base "checked_trunk" 6 (sp_checked_trunk K)) (D_line_of_row : Dn prg w K mg base "line_of_row" 2 (sp_line_of_row K)) (D_wrong_line_o : Dn prg w K mg base "wrong_line" 4 (sp_wrong_line_o K)) : FnOk prg w K mg base (L2.CX prg w) 9 f fd ["trunk", "text"] (spRd K C) := by
  obtain ⟨t, hpre⟩ := js_read_lines_pre B D_checked_trunk D_line_of_row D_wrong_line_o
  refine F.okX sc_read_lines (fun vs H Q E ⟨p, S, o, _, _, hg, _⟩ => (ga_len hg).trans rfl) fun cdv Ar outer s H vs Q E hr ⟨p, S, o, ho, hS, hg, q⟩ => ⟨tSeq t (tRdEnd C E), ?_, ?_⟩
  · have e : defBody s_read_lines = (defBody s_read_lines).take 5 ++ (defBody s_read_lines).drop 5 := (List.take_append_drop 5 _).symm
    rw [e]
    refine pss_app ((hpre p.1 p.2.1).ps _ (fam_defX hr)).nox ?_
    exact pss_cons (ps_if (pt_cmp (pc_notN (pe_var (i := 4) rfl (Or.inl rfl) (by decide) (by decide)))) (pss_one (ps_raiseRows rfl rfl T gC hsup hr (takes_of rfl rfl rfl rfl) (pa_cons (pe_var (i := 4) rfl (Or.inl rfl) (by decide) (by decide)) pa_nil) rfl rfl rfl)) pss_nil) (pss_one (ps_ret (pe_var (i := 3) rfl (Or.inl rfl) (by decide) (by decide))))
  · refine (hpre p.1 p.2.1).ev S H S _ H (st_start (n := 4) hg hS (by rw [(ga_len hg)] <;> rfl)) o ho _ ?_
    cases o with
    | rt r => exact fun v H' ex _ z => q v H' ex z
    | nx s =>
      obtain ⟨os, pl⟩ := s
      intro S' σ' H' R _ _
      obtain ⟨u4, hu4, r4⟩ := R.sl 4 _ rfl
      obtain ⟨u3, hu3, r3⟩ := R.sl 3 _ rfl
      cases pl with
      | none =>
        cases r4
        exact ⟨_, at_some hu4, false, rfl, (show tRet (tVar 3) _ σ' H' from ⟨_, at_some hu3, q _ H' R.ex (Rp.up (fun a z _ => R.sr a z) r3)⟩)⟩
      | some i =>
        cases r4
        exact ⟨_, at_some hu4, true, rfl, (show tMkRows C (tCons (tVar 4) tNil) σ' H' _ from ⟨_, at_some hu4, _, rfl, fun d hd => q d H' R.ex hd⟩)⟩
end
end K
end

section
set_option synthInstance.maxSize 4000
set_option synthInstance.maxHeartbeats 2000000
set_option maxRecDepth 100000
set_option maxHeartbeats 4000000
namespace K
open PySem L2 Sm

abbrev s_law_judged : Stmt := top 51
theorem sc_law_judged : FnScope ["_law_trunk_here", "_law_text", "_law_row_here", "_law_lines", "_law_told", "e"] ["_law_trunk_here", "_law_text"] (defScope s_law_judged) := ⟨rfl, rfl, rfl, by decide +kernel, rfl, by decide +kernel, by decide +kernel⟩
def m_law_judged_pre (law_trunk_here : (List (T5 Str (List Str) (Option Str) (List Str) (List Str)))) (law_text : Str) : Option (Out ((Option Int) × (List (T3 Str Int (List Str)))) Bool) :=
  (((((((some law_trunk_here)).bind fun x => ((((some law_text)).bind fun x => ((some ())).bind fun y => some (x, y))).bind fun y => some (x, y))).bind f_law_read)).bind fun v1 => (some (Out.nx (ρ := Bool) (v1.a, v1.b))))
theorem js_law_judged_pre {P : Program} {w : World} {K : PySem.W.Frag} {mg : Str → Option Value} {base : Heap} (B : Bt K mg) (D_law_read : Dn P w K mg base "_law_read" 5 (sp_law_read K)) : ∃ t, ∀ (law_trunk_here : (List (T5 Str (List Str) (Option Str) (List Str) (List Str)))) (law_text : Str), JS ⟨P, w, K, mg, base, ["_law_trunk_here", "_law_text", "_law_row_here", "_law_lines", "_law_told", "e"], defScope s_law_judged, fun _ => true, 11⟩ ((defBody s_law_judged).take 1) t [V_ (law_trunk_here : (List (T5 Str (List Str) (Option Str) (List Str) (List Str)))), V_ (law_text : Str), .no, .no, .no, .no] (ρ := Bool) false (fun (s : ((Option Int) × (List (T3 Str Int (List Str))))) => [V_ (law_trunk_here : (List (T5 Str (List Str) (Option Str) (List Str) (List Str)))), V_ (law_text : Str), V_ (s.1 : (Option Int)), V_ (s.2 : (List (T3 Str Int (List Str)))), .no, .no]) (m_law_judged_pre law_trunk_here law_text) := by
  have nd := sc_law_judged.nd
  apply Exists.intro; intro law_trunk_here law_text
  unfold m_law_judged_pre
  exact (js_unp [2, 3] (je_call D_law_read (ja_cons (je_var 0 (by rfl)) (ja_cons (JE.lit (je_var 1 (by rfl)) .fr) ja_nil))) (fun X F => (pgt F (pgs_cons (pgn F 2 nd) (pgs_cons (pgn F 3 nd) pgs_nil)))) (tg_t2 (tg_n 2) (fun _ => tg_n 3)) fun v1 => (js_nil (v1.a, v1.b) (Sub.same (Sub.same (Sub.same (Sub.same (Sub.same (Sub.same Sub.nil))))))))
def m_law_judged_post (law_trunk_here : (List (T5 Str (List Str) (Option Str) (List Str) (List Str)))) (law_text : Str) (law_row_here : (Option Int)) (law_lines : (List (T3 Str Int (List Str)))) (law_told : (List (T3 Str Int (List Str)))) : Option (Out Unit Bool) :=
  (((((((some law_row_here)).bind fun x => some (x.isNone))).bind fun x => if x then (((((some law_told)).bind fun _ => some true)).bind fun x => if x then (((((some law_told)).bind fun x => ((some law_lines)).bind fun y => dEq x y)).bind fun x => if x then (((((((some law_trunk_here)).bind fun x => ((((some law_told)).bind fun x => ((some ())).bind fun y => some (x, y))).bind fun y => some (x, y))).bind f_written_lines)).bind fun x => ((some law_text)).bind fun y => oEq x y) else some false) else some false) else some false)).bind fun r => some (Out.rt (τ := Unit) r))
theorem js_law_judged_post {P : Program} {w : World} {K : PySem.W.Frag} {mg : Str → Option Value} {base : Heap} (B : Bt K mg) (D_written_lines : Dn P w K mg base "written_lines" 7 (sp_written_lines K)) : ∃ t, ∀ (law_trunk_here : (List (T5 Str (List Str) (Option Str) (List Str) (List Str)))) (law_text : Str) (law_row_here : (Option Int)) (law_lines : (List (T3 Str Int (List Str)))) (law_told : (List (T3 Str Int (List Str)))), JS ⟨P, w, K, mg, base, ["_law_trunk_here", "_law_text", "_law_row_here", "_law_lines", "_law_told", "e"], defScope s_law_judged, fun _ => true, 11⟩ ((defBody s_law_judged).drop 2) t [V_ (law_trunk_here : (List (T5 Str (List Str) (Option Str) (List Str) (List Str)))), V_ (law_text : Str), V_ (law_row_here : (Option Int)), V_ (law_lines : (List (T3 Str Int (List Str)))), V_ (law_told : (List (T3 Str Int (List Str)))), .no] (ρ := Bool) true (fun _ : Unit => [.no, .no, .no, .no, .no, .no]) (m_law_judged_post law_trunk_here law_text law_row_here law_lines law_told) := by
  have nd := sc_law_judged.nd
  apply Exists.intro; intro law_trunk_here law_text law_row_here law_lines law_told
  unfold m_law_judged_post
  exact (js_ret (je_and (je_isG (je_var 2 (by rfl))) (je_and (je_isi (T := "list") true B.isinstance B.list (by decide +kernel) (by decide +kernel) (je_var 4 (by rfl))) (je_and (je_eqD (by decide) (je_var 4 (by rfl)) (je_var 3 (by rfl))) (je_one (je_eq (JE.lit (je_call D_written_lines (ja_cons (je_var 0 (by rfl)) (ja_cons (je_var 4 (by rfl)) ja_nil))) .fr) (je_var 1 (by rfl))))))))
end K
end

section
set_option maxRecDepth 100000
set_option maxHeartbeats 4000000
namespace K
open PySem PySem.Spec PyProof.Rows L2 Sm
/-- what _law_judged answers, in the mirrors' words -/
def m_judged (T : TkP) (t : Str) : Option Bool :=
  (m_law_judged_pre T t).bind fun a => match a with
    | .rt r => some r
    | .nx (row, lines) => (m_read_lines_pre T t).bind fun o => match o with
      | .rt os => (unOps os).bind fun ls => outR (m_law_judged_post T t row lines ls)
      | .nx (os, none) => (unOps os).bind fun ls => outR (m_law_judged_post T t row lines ls)
      | .nx (_, some i) => some (decide (row = some i))
def f_law_judged : TkP × Str × Unit → Option Bool := fun p => m_judged p.1 p.2.1
abbrev sp_law_judged (K : PySem.W.Frag) : Sp := spOf K (GC TkP (GC Str GN)) true f_law_judged
def DnX (w : World) (K : PySem.W.Frag) (mg : Str → Option Value) (base : Heap) (x : Str) (k : Nat) (ps : List Str) (sp : Sp) : Prop :=
  ∃ f fd, FnOk prg w K mg base (L2.CX prg w) k f fd ps sp ∧ mg x = some (.ref f) ∧ PySem.W.keepIn K (.ref f) = true ∧ Binds K fd ps []
def tSuite (K : PySem.W.Frag) (C a : Addr) (cls : Value) (d : Option Addr) : TS :=
  tRet (tAndV (tOp rEq (tXf a cls d C "row" (tVar 5)) (tVar 2)) (tNotV (tCB (rIsi K) (tCons (tXf a cls d C "row" (tVar 5)) (tCons (tC (.ty "bool")) tNil)))))
def tTold (K : PySem.W.Frag) (C : Addr) (W : WX) : TS := tAsg (tCallS (spRd K C) (WE W) (tCons (tVar 0) (tCons (tVar 1) tNil))) (gName 4)
section
variable {w : World} {K : PySem.W.Frag} {mg : Str → Option Value} {base : Heap} {C fI : Addr}
theorem ok_law_judged {f : Addr} {fd : FuncData} (F : Fun K "_law_judged" "_law_judged" s_law_judged f fd) (B : Bt K mg) (TX : XfC K C) (hno : PySem.W.findIn K (.ref C) "row" = some none) (gC : mg "BadRows" = some (.ref C)) (hex : PySem.W.exmOne K (.ref C) (.ref C) = some true) (hb0 : mg "bool" = none)
    (D_law_read : Dn prg w K mg base "_law_read" 5 (sp_law_read K)) (D_written_lines : Dn prg w K mg base "written_lines" 7 (sp_written_lines K)) (D_read_lines : DnX w K mg base "read_lines" 9 ["trunk", "text"] (spRd K C)) : FnOk prg w K mg base CX0 12 f fd ["_law_trunk_here", "_law_text"] (sp_law_judged K) := by
  obtain ⟨t0, h0⟩ := js_law_judged_pre B D_law_read
  obtain ⟨t2, h2⟩ := js_law_judged_post B D_written_lines
  obtain ⟨fR, fdR, FR, gR, kR, bR⟩ := D_read_lines
  have nd := sc_law_judged.nd
  refine F.ok sc_law_judged (fun vs H Q E ⟨p, r, S, _, _, hg, _⟩ => (ga_len hg).trans rfl) fun cdv Ar outer s H vs Q E hr ⟨p, r, S, hm, hS, hg, q⟩ => ⟨tSeq t0 (tSeq (fun D σ H => tTold K C (wFirst K (.ref C) 5 (tSuite K C) D) D σ H) t2), ?_, ?_⟩
  · have hr1 : Room 9 _ := hr.mono (by decide)
    exact pss_app (A := (defBody s_law_judged).take 1) ((h0 p.1 p.2.1).ps _ (fam_def hr))
      (pss_cons (ps_try_first (i := 5) rfl rfl nd rfl rfl ⟨rfl, by decide, Or.inl gC⟩
        (fun W pn xe tk _ => pss_one (ps_set (i := 4) nd rfl (Or.inl rfl) (by exact (pe_callS FR hr1 rfl gR kR bR (fun σ => passAt tk σ) (by exact (pa_cons (pe_var (i := 0) rfl (Or.inl rfl) (by decide) (by decide)) (pa_cons (pe_var (i := 1) rfl (Or.inl rfl) (by decide) (by decide)) pa_nil)))))))
        (fun a oe cls d pn hz hf => pss_one (ps_ret (pe_and (pe_cmpR op_eq (pe_xf TX hno hz hf (pe_var (i := 5) rfl (Or.inl rfl) (by decide) (by decide))) (pe_var (i := 2) rfl (Or.inl rfl) (by decide) (by decide)) (nomark _)) (pe_one (pe_not (by exact pe_callB call_isi rfl B.isinstance (by decide +kernel) (pa_cons (pe_xf TX hno hz hf (pe_var (i := 5) rfl (Or.inl rfl) (by decide) (by decide))) (pa_cons (pe_bltn rfl hb0 (by decide +kernel) rfl (hd := by decide) (hn := by decide)) pa_nil) rfl) (by decide) (by decide) rfl)))))))
        ((h2 p.1 p.2.1 none [] []).ps _ (fam_def hr)))
  · have hm : m_judged p.1 p.2.1 = some r := hm
    unfold m_judged at hm
    cases ha : m_law_judged_pre p.1 p.2.1 with
    | none => rw [ha] at hm; cases hm
    | some a =>
      rw [ha] at hm
      refine (h0 p.1 p.2.1).ev S H S _ H (st_start (n := 4) hg hS (by rw [(ga_len hg)] <;> rfl)) a ha _ ?_
      cases a with
      | rt r1 =>
        cases hm
        exact fun v H' ex _ z => q v H' ex z
      | nx s1 =>
        obtain ⟨row, lines⟩ := s1
        intro S1 σ1 H1 R1 _ _
        obtain ⟨u0, hu0, r0⟩ := R1.sl 0 _ rfl
        obtain ⟨u1, hu1, r1⟩ := R1.sl 1 _ rfl
        obtain ⟨u2, hu2, r2⟩ := R1.sl 2 _ rfl
        have hm : ((m_read_lines_pre p.1 p.2.1).bind fun o => match o with
          | .rt os => (unOps os).bind fun ls => outR (m_law_judged_post p.1 p.2.1 row lines ls)
          | .nx (os, none) => (unOps os).bind fun ls => outR (m_law_judged_post p.1 p.2.1 row lines ls)
          | .nx (_, some i) => some (decide (row = some i))) = some r := hm
        have told : ∀ (os : List (Op LnP)) (ls : List LnP), unOps os = some ls → outR (m_law_judged_post p.1 p.2.1 row lines ls) = some r → ∀ v H2, Ex H1 H2 → Rp.r K (nw S1 H1) H2 v os → t2 { nx := fun _ H' => Q .non H', rt := Q } (σ1.set 4 (some v)) H2 := fun os ls hu ho v H2 e2 rv => by
          have R2 := (R1.grow e2).set (v := v) (x := ls) 4 (Rp.up (S := nw S1 H1) (fun a z z1 => ⟨z1, z⟩) (unOps_r hu rv))
          cases hp : m_law_judged_post p.1 p.2.1 row lines ls with
          | none => rw [hp] at ho; cases ho
          | some o2 =>
            rw [hp] at ho
            cases o2 with
            | nx _ => cases ho
            | rt r3 =>
              cases ho
              refine (h2 p.1 p.2.1 row lines ls).ev S H _ _ H2 R2 _ hp _ ?_
              exact fun v H' ex _ z => q v H' ex z
        cases ho : m_read_lines_pre p.1 p.2.1 with
        | none => rw [ho] at hm; cases hm
        | some o =>
          rw [ho] at hm
          refine ⟨_, at_some hu0, _, at_some hu1, p, S1, o, ho, R1.dm, ⟨_, _, rfl, r0, _, _, rfl, r1, rfl⟩, ?_⟩
          cases o with
          | rt os =>
            cases hu : unOps os with
            | none => rw [show ((some (Out.rt os)).bind _ : Option Bool) = (unOps os).bind _ from rfl, hu] at hm; cases hm
            | some ls => exact fun v H2 e2 rv => told os ls hu (by simpa [hu] using hm) v H2 e2 rv
          | nx z =>
            obtain ⟨os, pl⟩ := z
            cases pl with
            | none =>
              cases hu : unOps os with
              | none => simp [hu] at hm
              | some ls => exact fun v H2 e2 rv => told os ls hu (by simpa [hu] using hm) v H2 e2 rv
            | some i =>
              have hr1 : r = decide (row = some i) := (Option.some.inj hm).symm
              subst hr1
              have hl5 : 5 < σ1.length := by rw [R1.len]; exact Nat.lt_of_lt_of_le (Nat.lt_succ_self 5) (Nat.le_refl 6)
              intro d H2 e2 hd
              refine ⟨hex, fun a _ => ?_⟩
              have ex3 : Ex H (upd H2 d (.xd [((PySem.Str.ofString "row"), .int i)])) := (R1.ex.trans e2).trans (Evl.Ex.new hd)
              have h5 : (σ1.set 5 (some (V.ref a)))[5]? = some (some (V.ref a)) := by rw [List.getElem?_set_self hl5]
              have h2' : (σ1.set 5 (some (V.ref a)))[2]? = some (some u2) := by rw [List.getElem?_set_ne (by decide)]; exact at_some hu2
              have eu : u2 = optI row := r2
              refine ⟨_, h5, rfl, rfl, d, _, .int i, rfl, upd_same, rfl, _, h2', by rw [eu]; cases row <;> rfl, _, rfl, ?_⟩
              by_cases hc : row = some i
              · have hd1 : decide (V.int i = u2) = true := by rw [eu, hc]; exact decide_eq_true rfl
                rw [hd1, if_pos rfl]
                exact ⟨_, h5, rfl, rfl, d, _, .int i, rfl, upd_same, rfl, ⟨.int i, .ty "bool", .type "int", .type "bool", false, rfl, .ty "bool", .base (.int _), kit_ty (by decide +kernel), ⟨false, rfl, q _ _ ex3 (by rw [decide_eq_true hc]; rfl)⟩⟩⟩
              · have hd1 : decide (V.int i = u2) = false := by
                  rw [eu]
                  refine decide_eq_false fun h => hc ?_
                  cases row with
                  | none => cases h
                  | some j => cases h; rfl
                rw [hd1, if_neg (by decide)]
                exact q _ _ ex3 (by rw [decide_eq_false hc]; rfl)
end
end K
end

section
set_option synthInstance.maxSize 4000
set_option synthInstance.maxHeartbeats 2000000
set_option maxRecDepth 100000
set_option maxHeartbeats 4000000
namespace K
open PySem L2 Sm

/-! ### law -/
abbrev s_law : Stmt := top 53
theorem sc_law : FnScope ["_law_script", "_law_trunk_here", "_law_lines", "_law_k", "_law_picks", "_law_text", "_law_rows", "_law_at", "_law_more", "_law_row_here", "_law_line_here"] ["_law_script"] (defScope s_law) := ⟨rfl, rfl, rfl, by decide +kernel, rfl, by decide +kernel, by decide +kernel⟩
def m_law (law_script : Scr) : Option (Out Unit Bool) :=
  (((((((some law_script)).bind fun x => ((((some (0 : Int))).bind fun x => ((((some (24 : Int))).bind fun x => ((some ())).bind fun y => some (x, y))).bind fun y => some (x, y))).bind fun y => some (x, y))).bind f_law_trunk)).bind fun v1 => (((((((((((some law_script)).bind fun x => ((((some (27 : Int))).bind fun x => ((some ())).bind fun y => some (x, y))).bind fun y => some (x, y))).bind f_law_cell_at)).bind fun x => ((some (6 : Int))).bind fun y => oMod x y)).bind fun n => if 0 ≤ n ∧ n ≤ 100000 then some (rng 0 n) else none)).bind fun xs => (loopM (fun (s3 : (List (T3 Str Int (List Str)))) (i2 : Int) => (((((((((((((some law_script)).bind fun x => ((((((some (28 : Int))).bind fun x => ((some i2)).bind fun y => oAdd x y)).bind fun x => ((some ())).bind fun y => some (x, y))).bind fun y => some (x, y))).bind f_law_cell_at)).bind fun x => ((some (9 : Int))).bind fun y => oMod x y)).bind fun n => if 0 ≤ n ∧ n ≤ 100000 then some (rng 0 n) else none)).bind (lcO (fun i5 => (some true)) (fun i5 => (((((some law_script)).bind fun x => ((((((((some (30 : Int))).bind fun x => ((((some (8 : Int))).bind fun x => ((some i2)).bind fun y => oMul x y)).bind fun y => oAdd x y)).bind fun x => ((some i5)).bind fun y => oAdd x y)).bind fun x => ((some ())).bind fun y => some (x, y))).bind fun y => some (x, y))).bind f_law_cell_at))))).bind fun v4 => (((((((some v1)).bind fun x => ((((((f_law_names ())).bind fun x => ((((some i2)).bind fun x => ((some (2 : Int))).bind fun y => oAdd x y)).bind fun y => oIx x y)).bind fun x => ((((((((some law_script)).bind fun x => ((((((some (29 : Int))).bind fun x => ((((some (8 : Int))).bind fun x => ((some i2)).bind fun y => oMul x y)).bind fun y => oAdd x y)).bind fun x => ((some ())).bind fun y => some (x, y))).bind fun y => some (x, y))).bind f_law_cell_at)).bind fun x => ((((some v4)).bind fun x => ((some ())).bind fun y => some (x, y))).bind fun y => some (x, y))).bind fun y => some (x, y))).bind fun y => some (x, y))).bind f_law_line)).bind fun v6 => if s3.length < 50000 then (some (Out.nx (ρ := Bool) (s3 ++ [v6]))) else none))) ([] : (List (T3 Str Int (List Str)))) xs).bind (Out.go fun s3 => (((((some (Str.ofString "
"))).bind fun x => ((((some s3)).bind (lcO (fun i8 => (some true)) (fun i8 => (((((some i8)).bind fun x => ((some ())).bind fun y => some (x, y))).bind f_law_row_of))))).bind fun y => oJoin x y)).bind fun v7 => ((((((((((((((((some v1)).bind fun x => ((some ())).bind fun y => some (x, y))).bind f_law_copied)).bind fun x => ((((some s3)).bind fun x => ((some ())).bind fun y => some (x, y))).bind fun y => some (x, y))).bind f_written_lines)).bind fun x => ((some v7)).bind fun y => oNe x y)).bind fun x => if x then some true else (((((((some v1)).bind fun x => ((((some v7)).bind fun x => ((some ())).bind fun y => some (x, y))).bind fun y => some (x, y))).bind f_law_judged)).bind fun b => some !b))).bind fun b => if b then (((some false)).bind fun r => some (Out.rt (τ := Unit) r)) else some (Out.nx (ρ := Bool) ())).bind (Out.go fun _ => (((((some v7)).bind fun x => ((some (Str.ofString "
"))).bind fun y => oSplit x y)).bind fun v9 => (((((((((some law_script)).bind fun x => ((((some (80 : Int))).bind fun x => ((some ())).bind fun y => some (x, y))).bind fun y => some (x, y))).bind f_law_cell_at)).bind fun x => ((((some v9)).bind fun x => some (x.length : Int))).bind fun y => oMod x y)).bind fun v10 => (((((((some (Str.ofString "line a 0"))).bind fun x => ((((some (Str.ofString "line a 25"))).bind fun x => ((((some (Str.ofString "line a 1: a"))).bind fun x => ((((some (Str.ofString "line on 0: "))).bind fun x => ((((some (Str.ofString "line a"))).bind fun x => ((((some (Str.ofString "line a 00"))).bind fun x => ((((some (Str.ofString ""))).bind fun x => ((some ([] : (List Str)))).bind fun y => some (x :: y))).bind fun y => some (x :: y))).bind fun y => some (x :: y))).bind fun y => some (x :: y))).bind fun y => some (x :: y))).bind fun y => some (x :: y))).bind fun y => some (x :: y))).bind fun x => if x.length ≤ 100000 then some x else none)).bind fun v11 => (((((some v11)).bind fun x => ((((((((some (Str.ofString "line q "))).bind fun x => ((((((some v1)).bind fun x => some (x.length : Int))).bind oStrI)).bind fun y => oCatS x y)).bind fun x => ((((some (Str.ofString "line A 0"))).bind fun x => ((some ([] : (List Str)))).bind fun y => some (x :: y))).bind fun y => some (x :: y))).bind fun x => if x.length ≤ 100000 then some x else none)).bind fun y => oCat x y)).bind fun v12 => (((((((((some v12)).bind fun x => ((((((((some law_script)).bind fun x => ((((some (81 : Int))).bind fun x => ((some ())).bind fun y => some (x, y))).bind fun y => some (x, y))).bind f_law_cell_at)).bind fun x => ((some (9 : Int))).bind fun y => oMod x y)).bind fun y => oIx x y)).bind fun x => ((((((some v9)).bind fun x => ((((some (1 : Int))).bind fun x => some (-x))).bind fun y => oIx x y)).bind fun x => ((some ([] : (List Str)))).bind fun y => some (x :: y))).bind fun y => some (x :: y))).bind fun x => if x.length ≤ 100000 then some x else none)).bind fun xs => (loopM (fun (s14 : Unit) (i13 : Str) => ((((((((((some v1)).bind fun x => ((((((some (Str.ofString "
"))).bind fun x => ((((((((some v9)).bind fun x => ((some none)).bind fun l => ((((some v10)).bind fun x => some (some x))).bind fun u => some (cut x l u))).bind fun x => ((((((some i13)).bind fun x => ((some ([] : (List Str)))).bind fun y => some (x :: y))).bind fun x => if x.length ≤ 100000 then some x else none)).bind fun y => oCat x y)).bind fun x => ((((some v9)).bind fun x => ((((some v10)).bind fun x => some (some x))).bind fun l => ((some none)).bind fun u => some (cut x l u))).bind fun y => oCat x y)).bind fun y => oJoin x y)).bind fun x => ((some ())).bind fun y => some (x, y))).bind fun y => some (x, y))).bind f_law_judged)).bind fun b => some !b)).bind fun b => if b then (((some false)).bind fun r => some (Out.rt (τ := Unit) r)) else some (Out.nx (ρ := Bool) ())).bind (Out.go fun _ => (some (Out.nx (ρ := Bool) ()))))) () xs).bind (Out.go fun s14 => ((((((((((some v1)).bind fun x => ((((((some (Str.ofString "
"))).bind fun x => ((((((some v9)).bind fun x => ((some none)).bind fun l => ((((some v10)).bind fun x => some (some x))).bind fun u => some (cut x l u))).bind fun x => ((((some v9)).bind fun x => ((((((some v10)).bind fun x => ((some (1 : Int))).bind fun y => oAdd x y)).bind fun x => some (some x))).bind fun l => ((some none)).bind fun u => some (cut x l u))).bind fun y => oCat x y)).bind fun y => oJoin x y)).bind fun x => ((some ())).bind fun y => some (x, y))).bind fun y => some (x, y))).bind f_law_judged)).bind fun b => some !b)).bind fun b => if b then (((some false)).bind fun r => some (Out.rt (τ := Unit) r)) else some (Out.nx (ρ := Bool) ())).bind (Out.go fun _ => (((((((some (1 : Int))).bind fun x => ((((((((some law_script)).bind fun x => ((((some (82 : Int))).bind fun x => ((some ())).bind fun y => some (x, y))).bind fun y => some (x, y))).bind f_law_cell_at)).bind fun x => ((some (3 : Int))).bind fun y => oMod x y)).bind fun y => oAdd x y)).bind fun n => if 0 ≤ n ∧ n ≤ 100000 then some (rng 0 n) else none)).bind fun xs => (loopM (fun (s16 : Str) (i15 : Int) => (((((((some s16)).bind fun x => ((((((((((some law_script)).bind fun x => ((((((some (83 : Int))).bind fun x => ((some i15)).bind fun y => oAdd x y)).bind fun x => ((some ())).bind fun y => some (x, y))).bind fun y => some (x, y))).bind f_law_cell_at)).bind fun x => ((((some (10 : Int))).bind fun x => ((some (12 : Int))).bind fun y => oPow x y)).bind fun y => oMod x y)).bind fun x => ((some ())).bind fun y => some (x, y))).bind fun y => some (x, y))).bind f_law_spoilt)).bind fun v17 => ((((((((((some v1)).bind fun x => ((((some v17)).bind fun x => ((some ())).bind fun y => some (x, y))).bind fun y => some (x, y))).bind f_law_judged)).bind fun b => some !b)).bind fun b => if b then (((some false)).bind fun r => some (Out.rt (τ := Unit) r)) else some (Out.nx (ρ := Bool) ())).bind (Out.go fun _ => (some (Out.nx (ρ := Bool) v17)))))) v7 xs).bind (Out.go fun s16 => (((some true)).bind fun r => some (Out.rt (τ := Unit) r))))))))))))))))))
def f_law : (Scr × Unit) → Option Bool := fun p => outR (m_law p.1)
abbrev sp_law (K : PySem.W.Frag) : Sp := spOf K (GC Scr GN) true f_law
theorem ok_law {P : Program} {w : World} {K : PySem.W.Frag} {mg : Str → Option Value} {base : Heap} {f : Addr} {fd : FuncData} (F : Fun K "law" "law" s_law f fd) (B : Bt K mg) (D_law_cell_at : Dn P w K mg base "_law_cell_at" 1 (sp_law_cell_at K)) (D_law_copied : Dn P w K mg base "_law_copied" 1 (sp_law_copied K)) (D_law_judged : Dn P w K mg base "_law_judged" 12 (sp_law_judged K)) (D_law_line : Dn P w K mg base "_law_line" 3 (sp_law_line K)) (D_law_names : Dn P w K mg base "_law_names" 1 (sp_law_names K)) (D_law_row_of : Dn P w K mg base "_law_row_of" 1 (sp_law_row_of K)) (D_law_spoilt : Dn P w K mg base "_law_spoilt" 1 (sp_law_spoilt K)) (D_law_trunk : Dn P w K mg base "_law_trunk" 2 (sp_law_trunk K)) (D_written_lines : Dn P w K mg base "written_lines" 7 (sp_written_lines K)) : FnOk P w K mg base CX0 13 f fd ["_law_script"] (sp_law K) := by
  have nd := sc_law.nd
  exact def_ok (fr := true) (G := (GC Scr GN)) (m := fun p => m_law p.1) (Γf := fun _ : Unit => [.no, .no, .no, .no, .no, .no, .no, .no, .no, .no, .no]) F sc_law (fun _ => rfl) fun p => by
    obtain ⟨law_script, u0⟩ := p
    show JS _ _ _ _ _ _ (m_law law_script)
    unfold m_law
    exact (js_set 1 nd (je_call D_law_trunk (ja_cons (je_var 0 (by rfl)) (ja_cons (JE.lit je_int .fr) (ja_cons (JE.lit je_int .fr) ja_nil)))) fun v1 => (js_own (α := (T3 Str Int (List Str))) inferInstance 2 nd (js_for (Γl := fun (s3 : (List (T3 Str Int (List Str)))) => [V_ (law_script : Scr), V_ (v1 : (List (T5 Str (List Str) (Option Str) (List Str) (List Str)))), O_ (α := (T3 Str Int (List Str))) s3, .no, .no, .no, .no, .no, .no, .no, .no]) [3] ([] : (List (T3 Str Int (List Str)))) (Sub.same (Sub.same (Sub.same (Sub.same (Sub.same (Sub.same (Sub.same (Sub.same (Sub.same (Sub.same (Sub.same Sub.nil))))))))))) (ji_range1 B.range (je_mod (JE.lit (je_call D_law_cell_at (ja_cons (je_var 0 (by rfl)) (ja_cons (JE.lit je_int .fr) ja_nil))) .fr) je_int)) (fun X F => (pgn F 3 nd)) (fun s3 => (tg_n 3)) (fun s3 i2 => (js_setLc 4 [("_law_at", 7)] nd (ji_range1 B.range (je_mod (JE.lit (je_call D_law_cell_at (ja_cons (je_var 0 (by rfl)) (ja_cons (JE.lit (je_add je_int (je_var 3 (by rfl))) .fr) ja_nil))) .fr) je_int)) (by dsimp only [Stc.blk]; decide +kernel) (fun X F => (pgn F 7 nd)) (tg_n 7) (fun i5 => jts_nil) (fun i5 => (JE.lit (JE.lit (je_call D_law_cell_at (ja_cons (je_var 0 (by rfl)) (ja_cons (JE.lit (je_add (je_add je_int (je_mul je_int (je_var 3 (by rfl)))) (je_var 7 (by rfl))) .fr) ja_nil))) .fr) .fr)) fun v4 => (js_app 2 (by rfl) (je_call D_law_line (ja_cons (je_var 1 (by rfl)) (ja_cons (JE.lit (JE.lit (je_ix (je_call0 D_law_names) (je_add (je_var 3 (by rfl)) je_int)) .fr) .fr) (ja_cons (JE.lit (JE.lit (je_call D_law_cell_at (ja_cons (je_var 0 (by rfl)) (ja_cons (JE.lit (je_add je_int (je_mul je_int (je_var 3 (by rfl)))) .fr) ja_nil))) .fr) .fr) (ja_cons (je_var 4 (by rfl)) ja_nil))))) fun v6 => (js_nil (s3 ++ [v6]) (Sub.same (Sub.same (Sub.same (Sub.drop (Sub.drop (Sub.same (Sub.same (Sub.same (Sub.same (Sub.same (Sub.same Sub.nil))))))))))))))) fun s3 => (js_set 5 nd (je_join je_str (je_lc [("_law_line_here", 10)] nd (ji_list (je_own 2 (by rfl))) (by dsimp only [Stc.blk]; decide +kernel) (fun X F => (pgn F 10 nd)) (tg_n 10) (fun i8 => jts_nil) (fun i8 => (JE.lit (JE.lit (je_call D_law_row_of (ja_cons (je_var 10 (by rfl)) ja_nil)) .fr) .fr)))) fun v7 => (js_guard (jt_w (jw_or (jt_ne (JE.lit (je_call D_written_lines (ja_cons (je_call D_law_copied (ja_cons (je_var 1 (by rfl)) ja_nil)) (ja_cons (je_own 2 (by rfl)) ja_nil))) .fr) (je_var 5 (by rfl))) (jw_or1 (jt_not (jt_val (JE.lit (je_call D_law_judged (ja_cons (je_var 1 (by rfl)) (ja_cons (JE.lit (je_var 5 (by rfl)) .fr) ja_nil))) .fr)))))) (js_ret je_bl) (js_set 6 nd (je_split (je_var 5 (by rfl)) je_str) fun v9 => (js_set 7 nd (je_mod (JE.lit (je_call D_law_cell_at (ja_cons (je_var 0 (by rfl)) (ja_cons (JE.lit je_int .fr) ja_nil))) .fr) (je_len B.len (je_var 6 (by rfl)))) fun v10 => (js_set 8 nd (je_list (jl_cons (JE.lit je_str .fr) (jl_cons (JE.lit je_str .fr) (jl_cons (JE.lit je_str .fr) (jl_cons (JE.lit je_str .fr) (jl_cons (JE.lit je_str .fr) (jl_cons (JE.lit je_str .fr) (jl_cons (JE.lit je_str .fr) (jl_nil (α := Str)))))))))) fun v11 => (js_set 8 nd (je_catF (je_var 8 (by rfl)) (je_list (jl_cons (JE.lit (je_cats je_str (je_strI B.str (je_len B.len (je_var 1 (by rfl))))) .fr) (jl_cons (JE.lit je_str .fr) (jl_nil (α := Str)))))) fun v12 => (js_for (Γl := fun (s14 : Unit) => [V_ (law_script : Scr), V_ (v1 : (List (T5 Str (List Str) (Option Str) (List Str) (List Str)))), O_ (α := (T3 Str Int (List Str))) s3, .no, .no, V_ (v7 : Str), V_ (v9 : (List Str)), V_ (v10 : Int), V_ (v12 : (List Str)), .no, .no]) [9] () (Sub.same (Sub.same (Sub.same (Sub.same (Sub.same (Sub.same (Sub.same (Sub.same (Sub.same (Sub.same (Sub.same Sub.nil))))))))))) (ji_list (je_list (jl_cons (JE.lit (JE.lit (je_ix (je_var 8 (by rfl)) (je_mod (JE.lit (je_call D_law_cell_at (ja_cons (je_var 0 (by rfl)) (ja_cons (JE.lit je_int .fr) ja_nil))) .fr) je_int)) .fr) .fr) (jl_cons (JE.lit (JE.lit (je_ix (je_var 6 (by rfl)) (je_neg je_int)) .fr) .fr) (jl_nil (α := Str)))))) (fun X F => (pgn F 9 nd)) (fun s14 => (tg_n 9)) (fun s14 i13 => (js_guard (jt_not (jt_val (JE.lit (je_call D_law_judged (ja_cons (je_var 1 (by rfl)) (ja_cons (JE.lit (je_join je_str (je_catF (je_catF (je_sliceF (je_var 6 (by rfl)) jo_none (jo_some (je_var 7 (by rfl)))) (je_list (jl_cons (JE.lit (je_var 9 (by rfl)) .fr) (jl_nil (α := Str))))) (je_sliceF (je_var 6 (by rfl)) (jo_some (je_var 7 (by rfl))) jo_none))) .fr) ja_nil))) .fr))) (js_ret je_bl) (js_nil () (Sub.same (Sub.same (Sub.same (Sub.same (Sub.same (Sub.same (Sub.same (Sub.same (Sub.same (Sub.drop (Sub.same Sub.nil)))))))))))))) fun s14 => (js_guard (jt_not (jt_val (JE.lit (je_call D_law_judged (ja_cons (je_var 1 (by rfl)) (ja_cons (JE.lit (je_join je_str (je_catF (je_sliceF (je_var 6 (by rfl)) jo_none (jo_some (je_var 7 (by rfl)))) (je_sliceF (je_var 6 (by rfl)) (jo_some (je_add (je_var 7 (by rfl)) je_int)) jo_none))) .fr) ja_nil))) .fr))) (js_ret je_bl) (js_for (Γl := fun (s16 : Str) => [V_ (law_script : Scr), V_ (v1 : (List (T5 Str (List Str) (Option Str) (List Str) (List Str)))), O_ (α := (T3 Str Int (List Str))) s3, .no, .no, V_ (s16 : Str), V_ (v9 : (List Str)), V_ (v10 : Int), V_ (v12 : (List Str)), .no, .no]) [3] v7 (Sub.same (Sub.same (Sub.same (Sub.same (Sub.same (Sub.same (Sub.same (Sub.same (Sub.same (Sub.same (Sub.same Sub.nil))))))))))) (ji_range1 B.range (je_add je_int (je_mod (JE.lit (je_call D_law_cell_at (ja_cons (je_var 0 (by rfl)) (ja_cons (JE.lit je_int .fr) ja_nil))) .fr) je_int))) (fun X F => (pgn F 3 nd)) (fun s16 => (tg_n 3)) (fun s16 i15 => (js_set 5 nd (JE.lit (je_call D_law_spoilt (ja_cons (JE.lit (je_var 5 (by rfl)) .fr) (ja_cons (JE.lit (je_mod (JE.lit (je_call D_law_cell_at (ja_cons (je_var 0 (by rfl)) (ja_cons (JE.lit (je_add je_int (je_var 3 (by rfl))) .fr) ja_nil))) .fr) (je_pow je_int je_int)) .fr) ja_nil))) .fr) fun v17 => (js_guard (jt_not (jt_val (JE.lit (je_call D_law_judged (ja_cons (je_var 1 (by rfl)) (ja_cons (JE.lit (je_var 5 (by rfl)) .fr) ja_nil))) .fr))) (js_ret je_bl) (js_nil v17 (Sub.same (Sub.same (Sub.same (Sub.drop (Sub.same (Sub.same (Sub.same (Sub.same (Sub.same (Sub.same (Sub.same Sub.nil))))))))))))))) fun s16 => (js_ret je_bl)))))))))))))
end K
end

section
set_option maxRecDepth 100000
set_option maxHeartbeats 2000000
namespace K
open PySem L2 Sm TL
theorem written_lines_t {T : Trk} {Ls : List Lin} {y : Str} (hT : Ok T) (hL : ∀ L ∈ Ls, okL T L) (hn : (Ls.map (·.a)).Nodup) (hw : ∀ L ∈ Ls, Wr L) (hl : Ls.length ≤ 40000) (hj : oJoin (Str.ofString "\n") (Ls.map lineT) = some y) : f_written_lines (T, Ls, ()) = some y := by
  unfold f_written_lines m_written_lines
  have h2 : lcO (fun _ => some true) (fun i2 => ((((some i2).bind fun x => (some ()).bind fun y => some (x, y))).bind f_row_of_line)) Ls = some (Ls.map lineT) := lcO_map _ _ hl fun L hL => row_of_line_t (hw L hL)
  simp only [Option.bind_some] at h2
  simp only [Option.bind_some, trunk_t hT.t hT.n0 hT.l, check_lines_t hT hL hn hl, h2, hj]
  rfl
theorem shape_ok {T : Trk} {r : Str} {L : Lin} (hn : r.length ≤ 900) (h : Shape r L) (g : GoodL T L) : okL T L ∧ Wr L := by
  obtain ⟨hd, ps, w0, e1, e2, hb, ec, el⟩ := h
  obtain ⟨l1, l2, l3⟩ := len_row hn e1
  obtain ⟨_, c2, c3⟩ := cOf_t (n := 900) (Nat.le_refl _) l3
  have la : L.a.length ≤ 900 := (split_len sep_sp l1).2 L.a (by rw [e2]; simp)
  have nm : Nm L.a := by
    have := name_b (w := L.a) (by omega)
    rw [g.a] at this
    exact this
  refine ⟨⟨nm, hb.1, g.b, g.cl, g.s⟩, ⟨by omega, ⟨(cnt_f hb.1 hb.2).2.1, Nat.le_trans (cnt_f hb.1 hb.2).2.2.1 (by decide)⟩, ?_⟩⟩
  rw [ec]
  exact ⟨c2, Nat.le_trans c3.1 (by decide)⟩
theorem sk_b {x : Str} (h : nameB x = true) : Sk x := by
  obtain ⟨_, h2⟩ := Bool.and_eq_true_iff.mp h
  show x.cps.all (· < 0x110000) = true
  rw [← Array.all_toList, List.all_eq_true]
  intro c hc
  have h3 : lowB c = true := List.all_eq_true.mp h2 c hc
  unfold lowB at h3
  simp only [Bool.and_eq_true, decide_eq_true_eq] at h3 ⊢
  omega
theorem same_lines {Ls : List Lin} (h : ∀ L ∈ Ls, Sk L.a ∧ ∀ x ∈ L.c, Sk x) : dEq Ls Ls = some true := by
  have h1 : ∀ L ∈ Ls, Dat.ok L = true := fun L hL => by
    show (PyData.strOk L.a && (true && Dat.ok L.c)) = true
    rw [show PyData.strOk L.a = true from (h L hL).1, skL (h L hL).2] <;> rfl
  have h2 : Dat.ok Ls = true := by
    show Ls.all Dat.ok = true
    rw [List.all_eq_true]; exact h1
  have h3 : Dat.q Ls Ls = true := by
    show qAll Dat.q Ls Ls = true
    refine qAll_self (fun L => ?_) Ls
    show ((L.a == L.a) && ((L.b == L.b) && Dat.q L.c L.c)) = true
    rw [q_list]
    simp
  unfold dEq
  rw [h2, h3] <;> rfl
end K
end

section
set_option maxRecDepth 100000
set_option maxHeartbeats 2000000
namespace K
open PySem L2 Sm TL
theorem post_t {T : Trk} {t : Str} {Ls : List Lin} (hw : f_written_lines (T, Ls, ()) = some t) (hs : dEq Ls Ls = some true) : outR (m_law_judged_post T t none Ls Ls) = some true := by
  unfold m_law_judged_post
  have hw' : f_written_lines (T, Ls, ()) = some t := hw
  simp only [Option.bind_some, Option.isNone_none, if_true, hs, hw', oEq, q_str, decide_true]
  rfl
/-- _law_judged holds of every text of up to 900 signs -/
theorem judged_t {T : Trk} {t : Str} (hT : Ok T) (hN : ∀ x ∈ nms T, Sk x) (hn : t.length ≤ 900) : m_judged T t = some true := by
  have hr := law_read_t hT hn
  have hpre : m_law_judged_pre T t = some (.nx ((scan T [] 0 (rowsOf t)).1, (scan T [] 0 (rowsOf t)).2)) := by
    unfold m_law_judged_pre
    simp only [Option.bind_some, hr]
  unfold m_judged
  rw [hpre]
  show ((m_read_lines_pre T t).bind fun o => _) = some true
  have hck := trunk_t hT.t hT.n0 hT.l
  by_cases e : t = Str.ofString ""
  · have hs : scan T [] 0 (rowsOf t) = (none, []) := by unfold rowsOf; rw [if_pos e]; rfl
    have rd : m_read_lines_pre T t = some (.rt []) := by
      unfold m_read_lines_pre
      simp only [Option.bind_some, hck, oEq, q_str, decide_eq_true e, Bool.not_true, if_true]
      rfl
    rw [rd, hs]
    show outR (m_law_judged_post T t none [] []) = some true
    refine post_t (written_lines_t hT (fun _ h => by cases h) .nil (fun _ h => by cases h) (Nat.zero_le _) ?_) (same_lines fun _ h => by cases h)
    rw [e]
    decide +kernel
  · have hro : rowsOf t = Txt.split t (Str.ofString "\n") := by unfold rowsOf; rw [if_neg e]
    obtain ⟨hl, hlen⟩ := split_len sep_nl hn
    obtain ⟨os, ho, hwr, hun⟩ := wrong_line_o_t (T := T) hT (Nat.le_trans hl (by decide)) hlen
    have ho' := ho
    rw [hro]
    have rd : m_read_lines_pre T t = some (.nx (os, (scan T [] 0 (Txt.split t (Str.ofString "\n"))).1)) := by
      unfold m_read_lines_pre
      simp only [Option.bind_some, hck, oEq, q_str, decide_eq_false e, Bool.not_true, oSplit_t sep_nl (show t.length ≤ 1000000 by omega), ho, hwr, Bool.false_eq_true, if_false]
      rfl
    rw [rd]
    cases hsc : (scan T [] 0 (Txt.split t (Str.ofString "\n"))).1 with
    | some i =>
      show some (decide (some i = some i)) = some true
      rw [decide_eq_true rfl]
    | none =>
      obtain ⟨G, g1, g2, g3, g4⟩ := scan_rows hsc
      rw [List.nil_append] at g1
      show ((unOps os).bind fun ls => outR (m_law_judged_post T t none (scan T [] 0 (Txt.split t (Str.ofString "\n"))).2 ls)) = some true
      rw [hun hsc, g1]
      have ok : ∀ L ∈ G, okL T L ∧ Wr L := fun L hL => by
        obtain ⟨g, r, hr2, sh⟩ := g3 L hL
        exact shape_ok (hlen r hr2) sh g
      refine post_t (written_lines_t hT (fun L hL => (ok L hL).1) (g4 .nil) (fun L hL => (ok L hL).2) ?_ ?_) (same_lines fun L hL => ⟨sk_b (g3 L hL).1.a, fun x hx => hN x ((g3 L hL).1.c x hx)⟩)
      · have hg : G.length = (Txt.split t (Str.ofString "\n")).length := by rw [← g2, List.length_map]
        omega
      · rw [g2]
        exact oJoin_split sep_nl hn (by decide +kernel)
end K
end

section
set_option maxRecDepth 100000
set_option maxHeartbeats 2000000
namespace K
open PySem L2 Sm TL
theorem len_mk (xs : List Nat) : (⟨xs.toArray⟩ : Str).length = xs.length := by
  show xs.toArray.size = xs.length
  rw [List.size_toArray]
theorem cutS_len {z : Str} {a b : Nat} (hab : a ≤ b) : (cutS z none (some (a : Int))).length = min a z.length ∧ (cutS z (some (a : Int)) none).length = z.length - a ∧ (cutS z (some (a : Int)) (some (b : Int))).length = min b z.length - a := by
  have hz : z.cps.toList.length = z.length := by rw [Array.length_toList]; rfl
  unfold cutS
  simp only [HT.sIx_none, HT.sIx_nat, len_mk, List.length_take, List.length_drop, hz]
  refine ⟨by omega, by omega, by omega⟩
theorem revS_t (z : Str) (h : z.length ≤ 2) : (revS z).length = z.length := by
  obtain ⟨a⟩ := z
  have e : a = a.toList.toArray := by simp
  rw [e] at h ⊢
  generalize a.toList = l at h ⊢
  match l, h with
  | [], _ => rfl
  | [x], _ =>
    have e1 : Builtin.Str.strSliceIndices none none (-1) 1 = [0] := by decide +kernel
    unfold revS
    rw [show (⟨[x].toArray⟩ : Str).length = 1 from rfl, e1]
    rfl
  | [x, y], _ =>
    have e1 : Builtin.Str.strSliceIndices none none (-1) 2 = [1, 0] := by decide +kernel
    unfold revS
    rw [show (⟨[x, y].toArray⟩ : Str).length = 2 from rfl, e1]
    rfl
  | x :: y :: w :: r, h => exact absurd h (by
      show ¬ (x :: y :: w :: r).toArray.size ≤ 2
      rw [List.size_toArray, List.length_cons, List.length_cons, List.length_cons]; omega)
theorem len_add (x y : Str) : (x ++ y).length = x.length + y.length := by
  show (x.cps ++ y.cps).size = x.cps.size + y.cps.size
  exact Array.size_append
theorem cat3 {x y z : Str} {n : Nat} (h : x.length + y.length + z.length ≤ n) (hn : n ≤ 1000000) : ((oCatS x y).bind fun a => oCatS a z) = some (x ++ y ++ z) ∧ (x ++ y ++ z).length ≤ n := by
  have h1 : oCatS x y = some (x ++ y) := oCatS_t (by omega)
  have h2 : oCatS (x ++ y) z = some (x ++ y ++ z) := oCatS_t (by rw [len_add]; omega)
  refine ⟨?_, by rw [len_add, len_add]; exact h⟩
  rw [h1]
  exact h2
abbrev signs : Str := Str.ofString "  ::\nabdlineo0123456789"
theorem signs_t : signs.length = 23 ∧ ∀ k : Fin 23, ∃ n, oIxS signs ((k.val : Nat) : Int) = some (sign n) := by
  refine ⟨by decide +kernel, fun k => ?_⟩
  have : ∀ k : Fin 23, (oIxS signs ((k.val : Nat) : Int)).isSome = true := by decide +kernel
  have h := this k
  unfold oIxS at h ⊢
  rw [if_pos (by decide +kernel)] at h ⊢
  cases e : atI signs.cps.toList ((k.val : Nat) : Int) with
  | none => rw [e] at h; cases h
  | some n => exact ⟨n, rfl⟩
theorem spoilt_t {t : Str} {c : Int} (h0 : 0 ≤ c) (h1 : c < 1000000000000) (hn : t.length ≤ 880) : ∃ u, f_law_spoilt (t, c, ()) = some u ∧ u.length ≤ t.length + 1 := by
  have hmul : oMul c 48271 = some (c * 48271) := if_pos (by
    have g1 := log_of (n := c.natAbs) (k := 40) (by omega)
    have g2 := log_of (n := (48271 : Int).natAbs) (k := 16) (by decide)
    unfold CMulS
    omega)
  obtain ⟨a, ha, ha2⟩ : ∃ a : Nat, c / 3 % ((t.length : Int) + 1) = (a : Int) ∧ a ≤ t.length := ⟨(c / 3 % ((t.length : Int) + 1)).toNat, by
    have := Int.emod_nonneg (c / 3) (show (t.length : Int) + 1 ≠ 0 by omega)
    omega, by
    have := Int.emod_lt_of_pos (c / 3) (show (0 : Int) < (t.length : Int) + 1 by omega)
    omega⟩
  obtain ⟨k, hk⟩ : ∃ k : Fin 23, c * 48271 % 1000003 % 23 = ((k.val : Nat) : Int) := ⟨⟨(c * 48271 % 1000003 % 23).toNat, by
    have := Int.emod_lt_of_pos (c * 48271 % 1000003) (show (0 : Int) < 23 by decide)
    omega⟩, by
    have := Int.emod_nonneg (c * 48271 % 1000003) (show (23 : Int) ≠ 0 by decide)
    show _ = (((c * 48271 % 1000003 % 23).toNat : Nat) : Int)
    omega⟩
  obtain ⟨n, hs⟩ := signs_t.2 k
  have hd : oDiv c 3 = some (c / 3) := oDiv_ok c (by decide) (Nat.lt_of_le_of_lt (log_of (k := 2) (by decide)) (by decide))
  have hm1 : oMod (c / 3) ((t.length : Int) + 1) = some (a : Int) := by rw [oMod_ok _ (by omega), ha]
  have hm2 : oMod (c * 48271) 1000003 = some (c * 48271 % 1000003) := oMod_ok _ (by decide)
  have hm3 : oMod (c * 48271 % 1000003) ((23 : Nat) : Int) = some ((k.val : Nat) : Int) := by rw [oMod_ok _ (by decide)]; exact congrArg some hk
  have hm4 : oMod c 3 = some (c % 3) := oMod_ok _ (by decide)
  have hcut : ∀ l u, oCutS t l u = some (cutS t l u) := fun l u => if_pos (by omega)
  have sg : (sign n).length = 1 := rfl
  obtain ⟨c1, c2, _⟩ := cutS_len (z := t) (a := a) (b := a) (Nat.le_refl _)
  obtain ⟨_, d2, _⟩ := cutS_len (z := t) (a := a + 1) (b := a + 1) (Nat.le_refl _)
  obtain ⟨_, e2, _⟩ := cutS_len (z := t) (a := a + 2) (b := a + 2) (Nat.le_refl _)
  obtain ⟨_, _, f3⟩ := cutS_len (z := t) (a := a) (b := a + 2) (by omega)
  have rv := revS_t (cutS t (some (a : Int)) (some (((a + 2 : Nat)) : Int))) (by rw [f3]; omega)
  have hrev : oRevS (cutS t (some (a : Int)) (some (((a + 2 : Nat)) : Int))) = some (revS (cutS t (some (a : Int)) (some (((a + 2 : Nat)) : Int)))) := if_pos (by rw [rv, f3]; omega)
  have p1 : (a : Int) + 1 = ((a + 1 : Nat) : Int) := rfl
  have p2 : (a : Int) + 2 = ((a + 2 : Nat) : Int) := rfl
  have k1 := cat3 (x := cutS t none (some (a : Int))) (y := sign n) (z := cutS t (some (a : Int)) none) (n := t.length + 1) (by rw [c1, c2, sg]; omega) (by omega)
  have k2 : oCatS (cutS t none (some (a : Int))) (cutS t (some ((a + 1 : Nat) : Int)) none) = some (cutS t none (some (a : Int)) ++ cutS t (some ((a + 1 : Nat) : Int)) none) := oCatS_t (by rw [c1, d2]; omega)
  have k3 := cat3 (x := cutS t none (some (a : Int))) (y := revS (cutS t (some (a : Int)) (some (((a + 2 : Nat)) : Int)))) (z := cutS t (some ((a + 2 : Nat) : Int)) none) (n := t.length + 1) (by rw [c1, rv, f3, e2]; omega) (by omega)
  unfold f_law_spoilt m_law_spoilt
  simp only [Option.bind_some, hd, if_pos (show t.length ≤ 100000 by omega), oAdd, hm1, hmul, hm2, if_pos (show signs.length ≤ 100000 by rw [signs_t.1]; decide), signs_t.1, if_pos (show 23 ≤ 100000 by decide), hm3, hs, hm4, oEq, hcut, p1, p2, hrev]
  by_cases q0 : c % 3 = 0
  · refine ⟨_, ?_, k1.2⟩
    simp only [q0, Eqs.q, decide_true, beq_self_eq_true, if_true, k1.1]
    rfl
  · by_cases q1 : c % 3 = 1
    · refine ⟨_, ?_, show (cutS t none (some (a : Int)) ++ cutS t (some ((a + 1 : Nat) : Int)) none).length ≤ t.length + 1 by rw [len_add, c1, d2]; omega⟩
      simp only [q1, Eqs.q, k2, if_true, decide_true, beq_self_eq_true, show decide ((1 : Int) = 0) = false from rfl, Bool.false_eq_true, if_false]
      rfl
    · refine ⟨_, ?_, k3.2⟩
      simp only [Eqs.q, decide_eq_false q0, decide_eq_false q1, Bool.false_eq_true, if_false, Out.go, Option.bind_some, k3.1]
      rfl
end K
end

section
set_option maxRecDepth 100000
set_option maxHeartbeats 2000000
namespace K
open PySem L2 Sm TL
theorem joinT_len {c : List Str} {m : Nat} (h : ∀ x ∈ c, x.length ≤ m) : (Txt.join (Str.ofString " ") c).length ≤ c.length * (m + 1) := by
  have h1 := join_len (Str.ofString " ") c
  rw [lens_line.2.1] at h1
  have h2 : (c.map (·.length)).sum ≤ c.length * m := by
    clear h1
    induction c with
    | nil => simp
    | cons x r ih =>
      have a := ih fun y hy => h y (List.mem_cons_of_mem _ hy)
      have b := h x List.mem_cons_self
      rw [List.map_cons, List.sum_cons, List.length_cons, Nat.add_mul]
      omega
  rw [Nat.mul_add]
  omega
theorem lineT_len {L : Lin} {m : Nat} (h0 : 0 ≤ L.b) (h1 : L.b ≤ 24) (h : ∀ x ∈ L.c, x.length ≤ m) : (lineT L).length ≤ 10 + L.a.length + L.c.length * (m + 1) := by
  have hj := joinT_len h
  have hb := (cnt_f h0 h1).2.2.1
  obtain ⟨e1, e2, e3, _⟩ := lens_line
  rw [len_tl] at e1 e2 e3 hj hb ⊢
  rw [tl_lineT]
  unfold lineL
  have ha : L.a.length = (tl L.a).length := len_tl _
  split <;> simp only [List.length_append, List.length_nil] <;> omega
theorem joinL_lenE {S : List Nat} : ∀ {ps : List (List Nat)}, ps ≠ [] → (joinL S ps).length + S.length = (ps.map (·.length)).sum + ps.length * S.length
  | [], h => absurd rfl h
  | [p], _ => by
    show (joinL S [p]).length + S.length = _
    rw [show joinL S [p] = p from rfl]
    simp
  | p :: q :: r, _ => by
    have ih := joinL_lenE (S := S) (ps := q :: r) (by simp)
    rw [joinL_cons (by simp), List.length_append, List.length_append, List.map_cons, List.sum_cons, List.length_cons, Nat.add_mul]
    omega
theorem split_sum {t : Str} : ((Txt.split t (Str.ofString "\n")).map (·.length)).sum + (Txt.split t (Str.ofString "\n")).length = t.length + 1 := by
  have h1 := joinL_lenE (S := tl (Str.ofString "\n")) (ps := (Txt.split t (Str.ofString "\n")).map tl) (fun e => split_ne sep_nl t (List.map_eq_nil_iff.mp e))
  rw [← tl_jn, join_split sep_nl, ← len_tl, ← len_tl, List.map_map, List.length_map] at h1
  have h2 : (Str.ofString "\n").length = 1 := by decide +kernel
  rw [h2] at h1
  have h3 : ((Txt.split t (Str.ofString "\n")).map (List.length ∘ tl)) = (Txt.split t (Str.ofString "\n")).map (·.length) := List.map_congr_left fun x _ => (len_tl x).symm
  rw [← h3]
  have h4 : (fun x : List Nat => x.length) ∘ tl = List.length ∘ tl := rfl
  rw [h4] at h1
  omega
theorem join_nl {ps : List Str} {n : Nat} (h : (ps.map (·.length)).sum + ps.length ≤ n) (hn : n ≤ 1000000) : ∃ u, oJoin (Str.ofString "\n") ps = some u ∧ u.length ≤ n := by
  have h2 : (Str.ofString "\n").length = 1 := by decide +kernel
  have h1 := join_len (Str.ofString "\n") ps
  rw [h2, Nat.mul_one] at h1
  exact ⟨Txt.join (Str.ofString "\n") ps, if_pos (by rw [h2, Nat.mul_one]; omega), by omega⟩
theorem sum_cut {ps : List Str} (a : Nat) : ((ps.take a).map (·.length)).sum + ((ps.drop a).map (·.length)).sum = (ps.map (·.length)).sum ∧ (ps.take a).length + (ps.drop a).length = ps.length := by
  have h := List.take_append_drop a ps
  constructor
  · rw [← List.sum_append, ← List.map_append, h]
  · rw [← List.length_append, h]
theorem ins_t {t r : Str} (a : Nat) (hn : t.length ≤ 700) (hr : r.length ≤ 150) : ∃ u, oJoin (Str.ofString "\n") ((Txt.split t (Str.ofString "\n")).take a ++ [r] ++ (Txt.split t (Str.ofString "\n")).drop a) = some u ∧ u.length ≤ 880 := by
  have h1 := split_sum (t := t)
  obtain ⟨h2, h3⟩ := sum_cut (ps := Txt.split t (Str.ofString "\n")) a
  refine join_nl ?_ (by decide)
  simp only [List.map_append, List.sum_append, List.length_append, List.map_cons, List.map_nil, List.sum_cons, List.sum_nil, List.length_cons, List.length_nil]
  omega
theorem del_t {t : Str} (a : Nat) (hn : t.length ≤ 700) : ∃ u, oJoin (Str.ofString "\n") ((Txt.split t (Str.ofString "\n")).take a ++ (Txt.split t (Str.ofString "\n")).drop (a + 1)) = some u ∧ u.length ≤ 880 := by
  have h1 := split_sum (t := t)
  obtain ⟨h2, h3⟩ := sum_cut (ps := Txt.split t (Str.ofString "\n")) a
  obtain ⟨h4, h5⟩ := sum_cut (ps := (Txt.split t (Str.ofString "\n")).drop a) 1
  rw [List.drop_drop] at h4 h5
  refine join_nl ?_ (by decide)
  simp only [List.map_append, List.sum_append, List.length_append]
  omega
end K
end

section
set_option maxRecDepth 100000
set_option maxHeartbeats 2000000
namespace K
open PySem L2 Sm TL
/-- a name has at most eight signs -/
theorem nm_len {w : Str} (h : Nm w) : w.length ≤ 8 := by
  by_cases h1 : w.length ≤ 40000
  · have h2 := nm_b h1 h
    unfold nameB at h2
    simp only [Bool.and_eq_true, decide_eq_true_eq] at h2
    exact h2.1.2
  · exfalso
    have h2 : f_is_name (w, ()) = some true := h
    unfold f_is_name m_is_name at h2
    by_cases h3 : w.length ≤ 100000
    · simp only [Option.bind_some, Bool.not_true, Bool.false_eq_true, if_false, if_pos h3, decide_eq_true (show (1 : Int) ≤ (w.length : Int) by omega), if_true, decide_eq_false (show ¬ (w.length : Int) ≤ 8 by omega), Bool.not_false] at h2
      cases h2
    · simp only [Option.bind_some, Bool.not_true, Bool.false_eq_true, if_false, if_neg h3] at h2
      cases h2
end K
end

section
set_option maxRecDepth 100000
set_option maxHeartbeats 2000000
namespace K
open PySem L2 Sm TL
/-- a line of the law's: its row is written, and is short -/
theorem law_line_wr {T : Trk} {L : Lin} (hN : ∀ x ∈ nms T, Nm x) (hL : okL T L) (h24 : L.b ≤ 24) (hc : L.c.length ≤ 8) : Wr L ∧ (lineT L).length ≤ 90 := by
  have hm : ∀ x ∈ L.c, x.length ≤ 8 := fun x hx => nm_len (hN x (hL.s.mem x (List.mem_append_right _ hx)))
  have ha := nm_len hL.a
  have hj := joinT_len hm
  have hs : (L.c.map (·.length)).sum ≤ L.c.length * 8 := by
    clear hj hc
    generalize L.c = c at hm
    induction c with
    | nil => simp
    | cons x r ih =>
      have a := ih fun y hy => hm y (List.mem_cons_of_mem _ hy)
      have b := hm x List.mem_cons_self
      rw [List.map_cons, List.sum_cons, List.length_cons, Nat.add_mul]
      omega
  refine ⟨⟨by omega, ⟨(cnt_f hL.b0 h24).2.1, Nat.le_trans (cnt_f hL.b0 h24).2.2.1 (by decide)⟩, ⟨if_pos ?_, by omega⟩⟩, ?_⟩
  · rw [lens_line.2.1]; omega
  · have := lineT_len hL.b0 h24 hm
    omega
theorem nms_nm {T : Trk} (h : okT T) : ∀ x ∈ nms T, Nm x := fun x hx => by
  obtain ⟨c, hc, e⟩ := List.mem_map.mp hx
  obtain ⟨pre, post, e2⟩ := List.append_of_mem hc
  have := (h.split pre c post e2).2
  exact e ▸ this.a
end K
end

section
set_option maxRecDepth 100000
set_option maxHeartbeats 2000000
namespace K
open PySem L2 Sm TL
/-- the rows that the law puts in -/
def moreL (n : Int) : List Str := [Str.ofString "line a 0", Str.ofString "line a 25", Str.ofString "line a 1: a", Str.ofString "line on 0: ", Str.ofString "line a", Str.ofString "line a 00", Str.ofString ""] ++ [Str.ofString "line q " ++ strI n, Str.ofString "line A 0"]
theorem more_len0 : (∀ x ∈ [Str.ofString "line a 0", Str.ofString "line a 25", Str.ofString "line a 1: a", Str.ofString "line on 0: ", Str.ofString "line a", Str.ofString "line a 00", Str.ofString "", Str.ofString "line A 0"], x.length ≤ 150) ∧ (Str.ofString "line q ").length ≤ 100 := by decide +kernel
theorem more_len {n : Int} (h0 : 0 ≤ n) (h1 : n ≤ 24) : ∀ x ∈ moreL n, x.length ≤ 150 := by
  intro x hx
  rcases List.mem_append.mp hx with h | h
  · exact more_len0.1 x (List.mem_append_left [Str.ofString "line A 0"] h)
  · rcases List.mem_cons.mp h with rfl | h
    · have h2 := (cnt_f h0 h1).2.2.1
      have h3 := more_len0.2
      rw [len_add]
      omega
    · rw [List.mem_singleton.mp h]
      exact more_len0.1 _ (List.mem_append_right [Str.ofString "line a 0", Str.ofString "line a 25", Str.ofString "line a 1: a", Str.ofString "line on 0: ", Str.ofString "line a", Str.ofString "line a 00", Str.ofString ""] List.mem_cons_self)
theorem more_ix {n : Int} (h0 : 0 ≤ n) (h1 : n ≤ 24) (z : Int) : ∃ r, oIx (moreL n) (z % 9) = some r ∧ r.length ≤ 150 := by
  have q0 := Int.emod_nonneg z (by decide : (9 : Int) ≠ 0)
  have q1 := Int.emod_lt_of_pos z (by decide : (0 : Int) < 9)
  obtain ⟨m, hm⟩ := Int.eq_ofNat_of_zero_le q0
  have hml : m < (moreL n).length := by show m < 9; omega
  exact ⟨(moreL n)[m], by rw [hm, oIx_nat _ m hml, List.getElem?_eq_getElem hml], more_len h0 h1 _ (List.getElem_mem hml)⟩
theorem last_row {t : Str} {m : Nat} (h : t.length ≤ m) : ∃ r, oIx (Txt.split t (Str.ofString "\n")) (-1) = some r ∧ r.length ≤ m := by
  have h1 := split_ne sep_nl t
  refine ⟨(Txt.split t (Str.ofString "\n")).getLast h1, by rw [oIx_last, List.getLast?_eq_some_getLast h1], (split_len sep_nl h).2 _ (List.getLast_mem h1)⟩
theorem names_ex5 : ∃ N, f_law_names () = some N ∧ N.length = 24 ∧ N.Nodup ∧ (∀ x ∈ N, Nm x ∧ Sk x) ∧ ∀ x ∈ (N.drop 2).take 5, x.length ≤ 6 := ⟨nm24, names_t.1, names_t.2.1, names_t.2.2.1, names_t.2.2.2, by decide +kernel⟩
theorem law_line_len {T : Trk} {L : Lin} (hN : ∀ x ∈ nms T, Nm x) (hL : okL T L) (h24 : L.b ≤ 24) (hc : L.c.length ≤ 8) (ha : L.a.length ≤ 6) : (lineT L).length ≤ 88 := by
  have hm : ∀ x ∈ L.c, x.length ≤ 8 := fun x hx => nm_len (hN x (hL.s.mem x (List.mem_append_right _ hx)))
  have := lineT_len hL.b0 h24 hm
  omega
theorem ins_t2 {t r : Str} (a : Nat) (h : t.length + r.length ≤ 890) : ∃ u, oJoin (Str.ofString "\n") ((Txt.split t (Str.ofString "\n")).take a ++ [r] ++ (Txt.split t (Str.ofString "\n")).drop a) = some u ∧ u.length ≤ 900 := by
  have h1 := split_sum (t := t)
  obtain ⟨h2, h3⟩ := sum_cut (ps := Txt.split t (Str.ofString "\n")) a
  refine join_nl ?_ (by decide)
  simp only [List.map_append, List.sum_append, List.length_append, List.map_cons, List.map_nil, List.sum_cons, List.sum_nil, List.length_cons, List.length_nil]
  omega
theorem pow12 : oPow 10 12 = some 1000000000000 := by decide +kernel
end K
end

section
set_option maxRecDepth 100000
set_option maxHeartbeats 8000000
namespace K
open PySem L2 Sm TL
theorem math (ns : List Int) (hl : ns.length ≤ 63) (hb : ∀ z ∈ ns, Builtin.Int.intBits z ≤ 1048576) : f_law (⟨ns⟩, ()) = some true := by
  obtain ⟨T, hTr, hT, hS⟩ := trunk_law hl hb
  obtain ⟨N24, n1, n2, n3, n4, n5⟩ := names_ex5
  obtain ⟨z27, h27⟩ := cell_t hl hb 27 (by decide) (by decide)
  have p7 : (0 : Int) < 9 := by decide
  have p6 : (0 : Int) < 6 := by decide
  have nn0 := Int.emod_nonneg z27 (by decide : (6 : Int) ≠ 0)
  have nn1 := Int.emod_lt_of_pos z27 p6
  generalize hn6 : z27 % 6 = n at *
  unfold f_law m_law
  simp only [Option.bind_some, hTr, h27, oMod_ok _ p6, hn6, if_pos (show 0 ≤ n ∧ n ≤ 100000 by omega)]
  have hrl : (rng 0 n).length = n.toNat := by
    unfold rng; rw [List.length_map, List.length_range]; omega
  rw [loop_then (r := some (Out.rt true)) (fun (Ls : List Lin) pre => (∀ L ∈ Ls, okL T L ∧ Sk L.a ∧ L.c.length ≤ 8) ∧ Ls.map (·.a) = (N24.drop 2).take pre.length ∧ Ls.length = pre.length)]
  · rfl
  · exact ⟨fun L h => (by cases h), rfl, rfl⟩
  · intro Ls pre x post e ⟨p1, p2, p3⟩
    obtain ⟨e1, e2⟩ := rng_split e
    have hx12 : pre.length < 12 := by omega
    obtain ⟨z28, h28⟩ := cell_t hl hb (28 + x) (by omega) (by omega)
    have q0 := Int.emod_nonneg z28 (by decide : (9 : Int) ≠ 0)
    have q1 := Int.emod_lt_of_pos z28 p7
    generalize hkk : z28 % 9 = kk at *
    have hmul : oMul 8 x = some (8 * x) := if_pos (by
      show _ + _ < _
      have h2 := log_of (n := x.natAbs) (k := 6) (by omega)
      have h3 : ((8 : Int).natAbs).log2 ≤ 16 := log_of (by decide)
      omega)
    have hkl : (rng 0 kk).length = kk.toNat := by
      unfold rng; rw [List.length_map, List.length_range]; omega
    have hpk : ∃ ps : List Int, lcO (fun _ => some true) (fun i5 => f_law_cell_at (⟨ns⟩, 30 + 8 * x + i5, ())) (rng 0 kk) = some ps ∧ ps.length ≤ 8 := by
      refine ⟨_, lcO_map (fun i5 => (f_law_cell_at (⟨ns⟩, 30 + 8 * x + i5, ())).getD 0) _ (by omega) fun y hy => ?_, by rw [List.length_map]; omega⟩
      obtain ⟨pre', post', e'⟩ := List.append_of_mem hy
      obtain ⟨f1, f2⟩ := rng_split e'
      obtain ⟨z, hz⟩ := cell_t hl hb (30 + 8 * x + y) (by omega) (by omega)
      rw [hz] <;> rfl
    obtain ⟨ps, hps, hpl⟩ := hpk
    obtain ⟨z29, h29⟩ := cell_t hl hb (29 + 8 * x) (by omega) (by omega)
    have hk2 : pre.length + 2 < N24.length := by omega
    have hnm : oIx N24 (x + 2) = some N24[pre.length + 2] := by
      rw [show x + 2 = ((pre.length + 2 : Nat) : Int) by omega, oIx_nat N24 _ hk2, List.getElem?_eq_getElem hk2]
    have hNN := n4 _ (List.getElem_mem hk2)
    obtain ⟨L, hL1, hL, hLa, hLl⟩ := line_lawP hT hS hNN.1 z29 ps (by omega)
    refine ⟨Ls ++ [L], ?_, ?_, ?_, by rw [List.length_append, List.length_append, p3] <;> rfl⟩
    · simp only [oAdd, h28, hmul, Option.bind_some, hkk, oMod_ok _ p7, if_pos (show 0 ≤ kk ∧ kk ≤ 100000 by omega)]
      simp only [Option.bind_some, Option.bind_assoc] at hps ⊢
      rw [hps]
      simp only [Option.bind_some, n1, hnm, h29, hL1, if_pos (show Ls.length < 50000 by omega)]
    · intro M hM
      rcases List.mem_append.mp hM with h | h
      · exact p1 M h
      · rw [List.mem_singleton.mp h]; exact ⟨hL, hLa ▸ hNN.2, by omega⟩
    · have hk3 : pre.length < (N24.drop 2).length := by rw [List.length_drop]; omega
      rw [List.map_append, p2, List.length_append]
      show _ ++ [L.a] = (N24.drop 2).take (pre.length + 1)
      rw [List.take_succ_eq_append_getElem hk3, hLa]
      congr 2
      rw [List.getElem_drop]
      congr 1
      omega
  · intro Ls ⟨p1, p2, p3⟩
    have hN := nms_nm hT.t
    have hK := skn_nms hS
    have hTl := hT.l
    have hll : Ls.length ≤ 5 := by omega
    have hla : ∀ L ∈ Ls, L.a.length ≤ 6 := fun L h => n5 _ (by
      have h1 : L.a ∈ (N24.drop 2).take (rng 0 n).length := p2 ▸ List.mem_map_of_mem h
      exact (List.take_sublist_take_left (by omega)).subset h1)
    have hw : ∀ L ∈ Ls, Wr L ∧ (lineT L).length ≤ 88 := fun L h => by
      have hb := (p1 L h).1.b1
      exact ⟨(law_line_wr hN (p1 L h).1 (by omega) (p1 L h).2.2).1, law_line_len hN (p1 L h).1 (by omega) (p1 L h).2.2 (hla L h)⟩
    have hrows : lcO (fun _ => some true) (fun i8 => f_law_row_of (i8, ())) Ls = some (Ls.map lineT) := lcO_map lineT Ls (by omega) fun L h => law_row_of_t (hw L h).1 fun x hx => hK x ((p1 L h).1.s.mem x (List.mem_append_right _ hx))
    have hsum : ((Ls.map lineT).map (·.length)).sum ≤ Ls.length * 88 := by
      clear hrows p1 p2 p3 hll hla
      induction Ls with
      | nil => simp
      | cons x r ih =>
        have a := ih fun y hy => hw y (List.mem_cons_of_mem _ hy)
        have b := (hw x List.mem_cons_self).2
        rw [List.map_cons, List.map_cons, List.sum_cons, List.length_cons, Nat.add_mul]
        omega
    obtain ⟨t, hj, ht⟩ := join_nl (ps := Ls.map lineT) (n := 445) (by rw [List.length_map]; omega) (by decide)
    have hwr : f_written_lines (T, Ls, ()) = some t := written_lines_t hT (fun L h => (p1 L h).1) (by rw [p2]; exact (n3.sublist (List.drop_sublist _ _)).sublist (List.take_sublist _ _)) (fun L h => (hw L h).1) (by omega) hj
    have hju : ∀ u : Str, u.length ≤ 900 → f_law_judged (T, u, ()) = some true := fun u h => judged_t hT hK h
    have hsp : oSplit t (Str.ofString "\n") = some (Txt.split t (Str.ofString "\n")) := oSplit_t sep_nl (by omega)
    obtain ⟨z80, h80⟩ := cell_t hl hb 80 (by decide) (by decide)
    obtain ⟨z81, h81⟩ := cell_t hl hb 81 (by decide) (by decide)
    obtain ⟨z82, h82⟩ := cell_t hl hb 82 (by decide) (by decide)
    have hne := split_ne sep_nl t
    have hpos : 0 < (Txt.split t (Str.ofString "\n")).length := List.length_pos_iff.mpr hne
    have hpl := (split_len sep_nl (x := t) (n := 445) ht).1
    have a0 := Int.emod_nonneg z80 (by omega : ((Txt.split t (Str.ofString "\n")).length : Int) ≠ 0)
    have hat : oMod z80 ((Txt.split t (Str.ofString "\n")).length : Int) = some (z80 % ((Txt.split t (Str.ofString "\n")).length : Int)) := oMod_ok _ (by omega)
    generalize z80 % ((Txt.split t (Str.ofString "\n")).length : Int) = at_ at *
    have hi1 : (at_ + 1).toNat = at_.toNat + 1 := by omega
    obtain ⟨r1, hr1, hr1l⟩ := more_ix (n := (T.length : Int)) (by omega) (by omega) z81
    obtain ⟨r2, hr2, hr2l⟩ := last_row (t := t) (m := 445) ht
    have hstr : oStrI (T.length : Int) = some (strI (T.length : Int)) := (cnt_f (by omega) (by omega)).2.1
    have hcs : oCatS (Str.ofString "line q ") (strI (T.length : Int)) = some (Str.ofString "line q " ++ strI (T.length : Int)) := oCatS_t (by
      have h2 := (cnt_f (k := (T.length : Int)) (by omega) (by omega)).2.2.1
      have h3 := more_len0.2
      omega)
    have hmc : oCat [Str.ofString "line a 0", Str.ofString "line a 25", Str.ofString "line a 1: a", Str.ofString "line on 0: ", Str.ofString "line a", Str.ofString "line a 00", Str.ofString ""] [Str.ofString "line q " ++ strI (T.length : Int), Str.ofString "line A 0"] = some (moreL (T.length : Int)) := if_pos (show (7 : Nat) + 2 ≤ 100000 by decide)
    have hq0 : oNe t t = some false := by
      unfold oNe
      rw [show Eqs.q t t = true from decide_eq_true rfl] <;> rfl
    have hcj := law_copied_t hT.l
    have tk := List.length_take (i := at_.toNat) (l := Txt.split t (Str.ofString "\n"))
    have dr := List.length_drop (i := at_.toNat) (l := Txt.split t (Str.ofString "\n"))
    have dr1 := List.length_drop (i := at_.toNat + 1) (l := Txt.split t (Str.ofString "\n"))
    simp only [go_nx, Option.bind_some, hrows, hj, hcj, hwr, hq0, Bool.false_eq_true, if_false, hju t (by omega), Bool.not_true, hsp, h80, hat, hstr, hcs, List.length_cons, List.length_nil, if_pos (show 0 + 1 + 1 ≤ 100000 by decide), if_pos (show 0 + 1 + 1 + 1 + 1 + 1 + 1 + 1 ≤ 100000 by decide), hmc, h81, oMod_ok _ p7, hr1, hr2]
    rw [loop_then (r := some (Out.rt true)) (fun (_ : Unit) _ => True)]
    · trivial
    · intro s pre x post e _
      have hx : x.length ≤ 445 := by
        have hm : x ∈ [r1, r2] := e ▸ List.mem_append_right _ List.mem_cons_self
        rcases List.mem_cons.mp hm with h | h
        · rw [h]; omega
        · rw [List.mem_singleton.mp h]; exact hr2l
      obtain ⟨u, hu, hul⟩ := ins_t2 (t := t) (r := x) at_.toNat (by omega)
      refine ⟨(), ?_, trivial⟩
      have c1 : oCat ((Txt.split t (Str.ofString "\n")).take at_.toNat) [x] = some ((Txt.split t (Str.ofString "\n")).take at_.toNat ++ [x]) := if_pos (by rw [tk, List.length_singleton]; omega)
      have c2 : oCat ((Txt.split t (Str.ofString "\n")).take at_.toNat ++ [x]) ((Txt.split t (Str.ofString "\n")).drop at_.toNat) = some ((Txt.split t (Str.ofString "\n")).take at_.toNat ++ [x] ++ (Txt.split t (Str.ofString "\n")).drop at_.toNat) := if_pos (by rw [List.length_append, tk, dr, List.length_singleton]; omega)
      simp only [if_pos (show 0 + 1 ≤ 100000 by decide), Option.bind_some, cut_take _ a0, cut_drop _ a0, c1, c2, hu, hju u hul, Bool.not_true, Bool.false_eq_true, if_false, go_nx]
    · intro _ _
      obtain ⟨u, hu, hul⟩ := del_t (t := t) at_.toNat (by omega)
      have c1 : oCat ((Txt.split t (Str.ofString "\n")).take at_.toNat) ((Txt.split t (Str.ofString "\n")).drop (at_.toNat + 1)) = some ((Txt.split t (Str.ofString "\n")).take at_.toNat ++ (Txt.split t (Str.ofString "\n")).drop (at_.toNat + 1)) := if_pos (by rw [tk, dr1]; omega)
      have s0 := Int.emod_nonneg z82 (by decide : (3 : Int) ≠ 0)
      have s1 := Int.emod_lt_of_pos z82 (by decide : (0 : Int) < 3)
      have hml : (rng 0 (1 + z82 % 3)).length ≤ 3 := by
        unfold rng; rw [List.length_map, List.length_range]; omega
      have m3 := oMod_ok z82 (by decide : (0 : Int) < 3)
      generalize z82 % 3 = mm at *
      simp only [go_nx, oAdd, Option.bind_some, cut_take _ a0, cut_drop _ (show 0 ≤ at_ + 1 by omega), hi1, c1, hu, hju u (by omega), Bool.not_true, Bool.false_eq_true, if_false, h82, m3, if_pos (show 0 ≤ 1 + mm ∧ 1 + mm ≤ 100000 by omega)]
      rw [loop_then (r := some (Out.rt true)) (fun (v : Str) pre => v.length ≤ 445 + pre.length)]
      · exact ht
      · intro v pre x post e hv
        obtain ⟨e1, e2⟩ := rng_split e
        obtain ⟨z, hz⟩ := cell_t hl hb (83 + x) (by omega) (by omega)
        have pp : (0 : Int) < 1000000000000 := by decide
        obtain ⟨u2, hu2, hl2⟩ := spoilt_t (t := v) (c := z % 1000000000000) (Int.emod_nonneg z (by decide)) (Int.emod_lt_of_pos z pp) (by omega)
        refine ⟨u2, ?_, by rw [List.length_append, List.length_singleton]; omega⟩
        simp only [Option.bind_some, hz, pow12, oMod_ok _ pp, hu2, hju u2 (by omega), Bool.not_true, Bool.false_eq_true, if_false, go_nx]
      · intro v _
        rfl
end K
end

section
open PySem PySem.W PyProof.Rows
set_option maxRecDepth 100000
set_option maxHeartbeats 0
open_top head for PySem.Challenge.rw_pickline_k08_line_texts
end

section
set_option maxRecDepth 100000
set_option maxHeartbeats 8000000
set_option synthInstance.maxSize 4000
set_option synthInstance.maxHeartbeats 2000000
namespace K
open PySem L2 Sm

theorem kit_mk {K : PySem.W.Frag} {t : Value} {C : Addr} {b : Bool} (h1 : PySem.W.isClsIn K C = true) (h2 : PySem.W.typeIn K (.ref C) = some (.type "type")) (h3 : PySem.W.subIn K t (.ref C) = some b) (h4 : b = true ∨ (t == Value.ref C) = false) : PySem.W.kitOne K t (.ref C) = some b := by
  unfold PySem.W.isClsIn at h1
  unfold PySem.W.kitOne PySem.W.kitCls
  cases he : (t == Value.ref C) with
  | true =>
    rcases h4 with h4 | h4
    · subst h4; rfl
    · rw [he] at h4; cases h4
  | false =>
    rw [if_neg (by decide)]
    simp only [h1, h2, Bool.true_and]
    exact h3
theorem kit_mkT {K : PySem.W.Frag} {t : Value} {T : String} {b : Bool} (h1 : PySem.W.kitMeta T = true) (h3 : PySem.W.subIn K t (.type T) = some b) (h4 : (t == Value.type T) = false) : PySem.W.kitOne K t (.type T) = some b := by
  unfold PySem.W.kitOne PySem.W.kitCls
  rw [h4, if_neg (by decide)]
  simp only [h1, if_true]
  exact h3
theorem DnMF.dn {P : Program} {w : World} {K : PySem.W.Frag} {mg : Str → Option Value} {base : Heap} {nm me : Str} {k : Nat} {sp : Sp} (h : DnMF P w K mg base nm me k sp []) : DnM P w K mg base nm me k sp := by
  obtain ⟨C, f, fd, ps, ds, h1, h2, h3, h4, h5, v⟩ := h
  cases v
  exact ⟨C, f, fd, ps, h1, h2, h3, h4, h5⟩
/-! ### put -/
abbrev s_put : Stmt := top 18
theorem sc_put : FnScope ["book", "live", "name", "backs"] ["book", "live", "name"] (defScope s_put) := ⟨rfl, rfl, rfl, by decide +kernel, rfl, by decide +kernel, by decide +kernel⟩
theorem ok_put {P : Program} {w : World} {K : PySem.W.Frag} {mg : Str → Option Value} {base : Heap} {f : Addr} {fd : FuncData} (F : Fun K "put" "put" s_put f fd) (B : Bt K mg) : FnOk P w K mg base CX0 1 f fd ["book", "live", "name"] (spPut K) := by
  obtain ⟨tB, hB⟩ := B.cBACKS
  refine F.ok sc_put (fun vs H Q E h => ?_) (fun cdv A outer s H vs Q E hr h => ?_)
  · obtain ⟨book, live, live', name, b, l, kvs, lv, rfl, _⟩ := h
    rfl
  · obtain ⟨book, live, live', name, b, l, kvs, lv, rfl, hb, rb, hl, bl, rl, hm, k⟩ := h
    have hu := hu_of hr
    let c : Stc := ⟨P, w, K, mg, base, ["book", "live", "name", "backs"], defScope s_put, fun _ => true, 0⟩
    have hj : ∀ {p1 p2 p3 p4 p5 : Pos}, JE c (.Subscript (.Subscript (.Name "book" p1) (.Name "name" p2) p3) (.Name "BACKS" p4) p5) _ [D_ book, .no, V_ name, .no] .fr (((some name).bind fun k => dget book k).bind fun x => some x.c) := fun {p1 p2 p3 p4 p5} => JE.lit (ixTg (fun (x : Chg) => x.c) hB t5c (je_dget (jd_dct 0 (by rfl)) (je_var 2 (by rfl)))) .fr
    have R : StR K all H (dom H) [D_ book, .no, V_ name, .no] (L2.start ["book", "live", "name", "backs"] [.ref b, .ref l, .str name]) H := by
      refine ⟨rfl, ?_, fun _ z => z, ?_, ?_, Evl.Ex.refl H, fun _ _ => .inl trivial⟩
      · intro j s hs
        match j, hs with
        | 0, hs => cases hs; exact ⟨b, kvs, rfl, (by show H b ≠ none; rw [hb]; simp), hb, RpD.fr (fun _ _ z => z) (fv_ex (Evl.Ex.refl H)) rb⟩
        | 1, hs => cases hs; exact trivial
        | 2, hs => cases hs; exact ⟨_, rfl, rfl⟩
        | 3, hs => cases hs; exact trivial
        | j + 4, hs => simp at hs
      · intro i j s t x _ hi _ os
        match i, hi with
        | 0, hi => cases hi; cases os
        | 1, hi => cases hi; cases os
        | 2, hi => cases hi; cases os
        | 3, hi => cases hi; cases os
        | i + 4, hi => simp at hi
      · intro i s x hi os
        match i, hi with
        | 0, hi => cases hi; cases os
        | 1, hi => cases hi; cases os
        | 2, hi => cases hi; cases os
        | 3, hi => cases hi; cases os
        | i + 4, hi => simp at hi
    refine ⟨_, pss_cons (ps_set (i := 3) sc_put.nd rfl (Or.inl rfl) (hj.pe _ (fam_def hr))) (pss_one (ps_if (pt_cmpR op_isN (pv 3) pe_non (nomark _)) (pss_one (ps_dput hu (pv 1) (pv 2) pe_bl rfl)) (pss_one (ps_expr (pe_dpop2 (pv 1) (pv 3) pe_non ⟨rfl, rfl, rfl, rfl⟩))))), ?_⟩
    cases hg : dget book name with
    | none =>
      have hm' : (dget book name).bind _ = some live' := hm
      rw [hg] at hm'; cases hm'
    | some x =>
      refine (hj (p1 := ⟨0, 0, 0, 0⟩) (p2 := ⟨0, 0, 0, 0⟩) (p3 := ⟨0, 0, 0, 0⟩) (p4 := ⟨0, 0, 0, 0⟩) (p5 := ⟨0, 0, 0, 0⟩)).ev all H (dom H) _ H R x.c (by show ((dget book name).bind fun x => some x.c) = _; rw [hg] <;> rfl) H (Evl.Ex.refl H) _ fun v H1 e1 r => ?_
      have hv : v = optV x.c := r
      subst hv
      have hm' : (dget book name).bind (fun c => match c.c with | none => if live.length < 50000 then some (dput live name true) else none | some b => some (ddrop live b)) = some live' := hm
      rw [hg] at hm'
      have hm' : (match x.c with | none => if live.length < 50000 then some (dput live name true) else none | some b => some (ddrop live b)) = some live' := hm'
      have hl1 := e1 l _ hl
      refine ⟨_, rfl, rfl, _, rfl, ?_⟩
      rw [optN]
      cases hc : x.c with
      | none =>
        rw [hc] at hm'
        by_cases hn : ¬ live.length < 50000
        · rw [if_neg hn] at hm'; cases hm'
        have hn := Decidable.not_not.mp hn
        rw [if_pos hn] at hm'
        cases hm'
        refine iteT ⟨_, rfl, _, rfl, l, _, rfl, DPut.k (k := Sum.inr name) hl1 (Evl.sz_lt (by rw [rl.length]; omega)), ?_⟩
        exact k _ _ (fun a o na ha => by rw [upd_ne na]; exact e1 a o ha) upd_same fun S => rpd_put (rpd_lit rl) name rfl
      | some bk =>
        rw [hc] at hm'
        cases hm'
        refine iteF ⟨_, rfl, l, rfl, .inl ⟨lv, .inl hl1⟩, _, rfl, lv, Sum.inr bk, hl1, rfl, fun u hu => ?_, fun hv => ?_⟩
        · exact k _ _ (fun a o na ha => by rw [upd_ne na]; exact e1 a o ha) upd_same fun S => rpd_drop (rpd_lit rl) bk
        · exact k _ _ (fun a o na ha => e1 a o ha) hl1 fun S => put_none (rpd_lit rl) hv

/-- an error of a class is what a clause names that names this class -/
theorem exm_self {K : PySem.W.Frag} {S : Addr} (h1 : PySem.W.subIn K (.ref S) (.type "BaseException") = some true) (h2 : PySem.W.isClsIn K S = true) (h3 : PySem.W.typeIn K (.ref S) = some (.type "type")) (h4 : PySem.W.subIn K (.ref S) (.ref S) = some true) : PySem.W.exmOne K (.ref S) (.ref S) = some true := by
  unfold PySem.W.isClsIn at h2
  unfold PySem.W.exmOne PySem.W.kitCls
  rw [if_pos (by rw [h1] <;> rfl)]
  simp only [h2, h3, Bool.true_and]
  exact h4
/-! ### law -/
theorem law_end {K : PySem.W.Frag} {a : Addr} {ns : List Int} {H : Hp} {Q : VK} {E : XK} (hS : SqL K H a (ns.map V.int)) (hm : f_law (⟨ns⟩, ()) = some true) (k : ∀ H', Q (.bl true) H') : sp_law K [.ref a] H Q E := by
  refine ⟨(⟨ns⟩, ()), true, dom H, hm, fun _ z => z, ⟨_, _, rfl, ⟨a, rfl, ?_⟩, rfl⟩, fun v H' _ r => ?_⟩
  · rcases hS with (h | ⟨ob, h⟩) | h
    · exact .inr (.inl ⟨by show H a ≠ none; rw [h]; simp, h⟩)
    · exact .inl ⟨ob, by show H a ≠ none; rw [h]; simp, h⟩
    · exact .inr (.inr (.inr h))
  · have hv : v = .bl true := r
    rw [hv]; exact k H'

theorem all_mk {w : World} {K : PySem.W.Frag} {h : Heap} {mg : Str → Option Value} {fa : Addr} (X : K.In h) (G : h.Ns mainGlobals mg) (hfa : mg "law" = some (.ref fa))
    {f0 : Addr} {od0 an0 : Option Addr} {sl0 : Array (Option Value)} {oc0 kV0 dc0 pm0 cd0 ct0 : Value}
    (a0 : PySem.W.nsIn K mainGlobals "put" = some (some (.ref f0)))
    (l0 : K.lookup f0 = some ⟨oc0, od0, .func (PySem.W.fnOf "put" "put" (defArgs s_put) (defBody s_put) (defScope s_put) .none kV0 dc0 pm0 an0 cd0 ct0), sl0⟩) (c0 : PySem.W.codeIn K cd0 "put" = true) (k0 : PySem.W.keepIn K (.ref f0) = true)
    {f1 : Addr} {od1 an1 : Option Addr} {sl1 : Array (Option Value)} {oc1 kV1 dc1 pm1 cd1 ct1 : Value}
    (a1 : PySem.W.nsIn K mainGlobals "is_number" = some (some (.ref f1)))
    (l1 : K.lookup f1 = some ⟨oc1, od1, .func (PySem.W.fnOf "is_number" "is_number" (defArgs s_is_number) (defBody s_is_number) (defScope s_is_number) .none kV1 dc1 pm1 an1 cd1 ct1), sl1⟩) (c1 : PySem.W.codeIn K cd1 "is_number" = true) (k1 : PySem.W.keepIn K (.ref f1) = true)
    {f2 : Addr} {od2 an2 : Option Addr} {sl2 : Array (Option Value)} {oc2 kV2 dc2 pm2 cd2 ct2 : Value}
    (a2 : PySem.W.nsIn K mainGlobals "is_name" = some (some (.ref f2)))
    (l2 : K.lookup f2 = some ⟨oc2, od2, .func (PySem.W.fnOf "is_name" "is_name" (defArgs s_is_name) (defBody s_is_name) (defScope s_is_name) .none kV2 dc2 pm2 an2 cd2 ct2), sl2⟩) (c2 : PySem.W.codeIn K cd2 "is_name" = true) (k2 : PySem.W.keepIn K (.ref f2) = true)
    {f3 : Addr} {od3 an3 : Option Addr} {sl3 : Array (Option Value)} {oc3 kV3 dc3 pm3 cd3 ct3 : Value}
    (a3 : PySem.W.nsIn K mainGlobals "are_names" = some (some (.ref f3)))
    (l3 : K.lookup f3 = some ⟨oc3, od3, .func (PySem.W.fnOf "are_names" "are_names" (defArgs s_are_names) (defBody s_are_names) (defScope s_are_names) .none kV3 dc3 pm3 an3 cd3 ct3), sl3⟩) (c3 : PySem.W.codeIn K cd3 "are_names" = true) (k3 : PySem.W.keepIn K (.ref f3) = true)
    {f4 : Addr} {od4 an4 : Option Addr} {sl4 : Array (Option Value)} {oc4 kV4 dc4 pm4 cd4 ct4 : Value}
    (a4 : PySem.W.nsIn K mainGlobals "are_unlike_names" = some (some (.ref f4)))
    (l4 : K.lookup f4 = some ⟨oc4, od4, .func (PySem.W.fnOf "are_unlike_names" "are_unlike_names" (defArgs s_are_unlike_names) (defBody s_are_unlike_names) (defScope s_are_unlike_names) .none kV4 dc4 pm4 an4 cd4 ct4), sl4⟩) (c4 : PySem.W.codeIn K cd4 "are_unlike_names" = true) (k4 : PySem.W.keepIn K (.ref f4) = true)
    {f5 : Addr} {od5 an5 : Option Addr} {sl5 : Array (Option Value)} {oc5 kV5 dc5 pm5 cd5 ct5 : Value}
    (a5 : PySem.W.nsIn K mainGlobals "is_plain" = some (some (.ref f5)))
    (l5 : K.lookup f5 = some ⟨oc5, od5, .func (PySem.W.fnOf "is_plain" "is_plain" (defArgs s_is_plain) (defBody s_is_plain) (defScope s_is_plain) .none kV5 dc5 pm5 an5 cd5 ct5), sl5⟩) (c5 : PySem.W.codeIn K cd5 "is_plain" = true) (k5 : PySem.W.keepIn K (.ref f5) = true)
    {f6 : Addr} {od6 an6 : Option Addr} {sl6 : Array (Option Value)} {oc6 kV6 dc6 pm6 cd6 ct6 : Value}
    (a6 : PySem.W.nsIn K mainGlobals "is_change" = some (some (.ref f6)))
    (l6 : K.lookup f6 = some ⟨oc6, od6, .func (PySem.W.fnOf "is_change" "is_change" (defArgs s_is_change) (defBody s_is_change) (defScope s_is_change) .none kV6 dc6 pm6 an6 cd6 ct6), sl6⟩) (c6 : PySem.W.codeIn K cd6 "is_change" = true) (k6 : PySem.W.keepIn K (.ref f6) = true)
    {f7 : Addr} {od7 an7 : Option Addr} {sl7 : Array (Option Value)} {oc7 kV7 dc7 pm7 cd7 ct7 : Value}
    (a7 : PySem.W.nsIn K mainGlobals "follows" = some (some (.ref f7)))
    (l7 : K.lookup f7 = some ⟨oc7, od7, .func (PySem.W.fnOf "follows" "follows" (defArgs s_follows) (defBody s_follows) (defScope s_follows) .none kV7 dc7 pm7 an7 cd7 ct7), sl7⟩) (c7 : PySem.W.codeIn K cd7 "follows" = true) (k7 : PySem.W.keepIn K (.ref f7) = true)
    {f8 : Addr} {od8 an8 : Option Addr} {sl8 : Array (Option Value)} {oc8 kV8 dc8 pm8 cd8 ct8 : Value}
    (a8 : PySem.W.nsIn K mainGlobals "stands" = some (some (.ref f8)))
    (l8 : K.lookup f8 = some ⟨oc8, od8, .func (PySem.W.fnOf "stands" "stands" (defArgs s_stands) (defBody s_stands) (defScope s_stands) .none kV8 dc8 pm8 an8 cd8 ct8), sl8⟩) (c8 : PySem.W.codeIn K cd8 "stands" = true) (k8 : PySem.W.keepIn K (.ref f8) = true)
    {f9 : Addr} {od9 an9 : Option Addr} {sl9 : Array (Option Value)} {oc9 kV9 dc9 pm9 cd9 ct9 : Value}
    (a9 : PySem.W.nsIn K mainGlobals "wrong_change" = some (some (.ref f9)))
    (l9 : K.lookup f9 = some ⟨oc9, od9, .func (PySem.W.fnOf "wrong_change" "wrong_change" (defArgs s_wrong_change) (defBody s_wrong_change) (defScope s_wrong_change) .none kV9 dc9 pm9 an9 cd9 ct9), sl9⟩) (c9 : PySem.W.codeIn K cd9 "wrong_change" = true) (k9 : PySem.W.keepIn K (.ref f9) = true)
    {f10 : Addr} {od10 an10 : Option Addr} {sl10 : Array (Option Value)} {oc10 kV10 dc10 pm10 cd10 ct10 : Value}
    (a10 : PySem.W.nsIn K mainGlobals "checked_trunk" = some (some (.ref f10)))
    (l10 : K.lookup f10 = some ⟨oc10, od10, .func (PySem.W.fnOf "checked_trunk" "checked_trunk" (defArgs s_checked_trunk) (defBody s_checked_trunk) (defScope s_checked_trunk) .none kV10 dc10 pm10 an10 cd10 ct10), sl10⟩) (c10 : PySem.W.codeIn K cd10 "checked_trunk" = true) (k10 : PySem.W.keepIn K (.ref f10) = true)
    {f11 : Addr} {od11 an11 : Option Addr} {sl11 : Array (Option Value)} {oc11 kV11 dc11 pm11 cd11 ct11 : Value}
    (a11 : PySem.W.nsIn K mainGlobals "book_of" = some (some (.ref f11)))
    (l11 : K.lookup f11 = some ⟨oc11, od11, .func (PySem.W.fnOf "book_of" "book_of" (defArgs s_book_of) (defBody s_book_of) (defScope s_book_of) .none kV11 dc11 pm11 an11 cd11 ct11), sl11⟩) (c11 : PySem.W.codeIn K cd11 "book_of" = true) (k11 : PySem.W.keepIn K (.ref f11) = true)
    {f12 : Addr} {od12 an12 : Option Addr} {sl12 : Array (Option Value)} {oc12 kV12 dc12 pm12 cd12 ct12 : Value}
    (a12 : PySem.W.nsIn K mainGlobals "row_of" = some (some (.ref f12)))
    (l12 : K.lookup f12 = some ⟨oc12, od12, .func (PySem.W.fnOf "row_of" "row_of" (defArgs s_row_of) (defBody s_row_of) (defScope s_row_of) .none kV12 dc12 pm12 an12 cd12 ct12), sl12⟩) (c12 : PySem.W.codeIn K cd12 "row_of" = true) (k12 : PySem.W.keepIn K (.ref f12) = true)
    {f13 : Addr} {od13 an13 : Option Addr} {sl13 : Array (Option Value)} {oc13 kV13 dc13 pm13 cd13 ct13 : Value}
    (a13 : PySem.W.nsIn K mainGlobals "is_line" = some (some (.ref f13)))
    (l13 : K.lookup f13 = some ⟨oc13, od13, .func (PySem.W.fnOf "is_line" "is_line" (defArgs s_is_line) (defBody s_is_line) (defScope s_is_line) .none kV13 dc13 pm13 an13 cd13 ct13), sl13⟩) (c13 : PySem.W.codeIn K cd13 "is_line" = true) (k13 : PySem.W.keepIn K (.ref f13) = true)
    {f14 : Addr} {od14 an14 : Option Addr} {sl14 : Array (Option Value)} {oc14 kV14 dc14 pm14 cd14 ct14 : Value}
    (a14 : PySem.W.nsIn K mainGlobals "wrong_line" = some (some (.ref f14)))
    (l14 : K.lookup f14 = some ⟨oc14, od14, .func (PySem.W.fnOf "wrong_line" "wrong_line" (defArgs s_wrong_line) (defBody s_wrong_line) (defScope s_wrong_line) .none kV14 dc14 pm14 an14 cd14 ct14), sl14⟩) (c14 : PySem.W.codeIn K cd14 "wrong_line" = true) (k14 : PySem.W.keepIn K (.ref f14) = true)
    {f15 : Addr} {od15 an15 : Option Addr} {sl15 : Array (Option Value)} {oc15 kV15 dc15 pm15 cd15 ct15 : Value}
    (a15 : PySem.W.nsIn K mainGlobals "check_lines" = some (some (.ref f15)))
    (l15 : K.lookup f15 = some ⟨oc15, od15, .func (PySem.W.fnOf "check_lines" "check_lines" (defArgs s_check_lines) (defBody s_check_lines) (defScope s_check_lines) .none kV15 dc15 pm15 an15 cd15 ct15), sl15⟩) (c15 : PySem.W.codeIn K cd15 "check_lines" = true) (k15 : PySem.W.keepIn K (.ref f15) = true)
    {f16 : Addr} {od16 an16 : Option Addr} {sl16 : Array (Option Value)} {oc16 kV16 dc16 pm16 cd16 ct16 : Value}
    (a16 : PySem.W.nsIn K mainGlobals "written_lines" = some (some (.ref f16)))
    (l16 : K.lookup f16 = some ⟨oc16, od16, .func (PySem.W.fnOf "written_lines" "written_lines" (defArgs s_written_lines) (defBody s_written_lines) (defScope s_written_lines) .none kV16 dc16 pm16 an16 cd16 ct16), sl16⟩) (c16 : PySem.W.codeIn K cd16 "written_lines" = true) (k16 : PySem.W.keepIn K (.ref f16) = true)
    {f17 : Addr} {od17 an17 : Option Addr} {sl17 : Array (Option Value)} {oc17 kV17 dc17 pm17 cd17 ct17 : Value}
    (a17 : PySem.W.nsIn K mainGlobals "row_of_line" = some (some (.ref f17)))
    (l17 : K.lookup f17 = some ⟨oc17, od17, .func (PySem.W.fnOf "row_of_line" "row_of_line" (defArgs s_row_of_line) (defBody s_row_of_line) (defScope s_row_of_line) .none kV17 dc17 pm17 an17 cd17 ct17), sl17⟩) (c17 : PySem.W.codeIn K cd17 "row_of_line" = true) (k17 : PySem.W.keepIn K (.ref f17) = true)
    {f18 : Addr} {od18 an18 : Option Addr} {sl18 : Array (Option Value)} {oc18 kV18 dc18 pm18 cd18 ct18 : Value}
    (a18 : PySem.W.nsIn K mainGlobals "line_of_row" = some (some (.ref f18)))
    (l18 : K.lookup f18 = some ⟨oc18, od18, .func (PySem.W.fnOf "line_of_row" "line_of_row" (defArgs s_line_of_row) (defBody s_line_of_row) (defScope s_line_of_row) .none kV18 dc18 pm18 an18 cd18 ct18), sl18⟩) (c18 : PySem.W.codeIn K cd18 "line_of_row" = true) (k18 : PySem.W.keepIn K (.ref f18) = true)
    {f19 : Addr} {od19 an19 : Option Addr} {sl19 : Array (Option Value)} {oc19 kV19 dc19 pm19 cd19 ct19 : Value}
    (a19 : PySem.W.nsIn K mainGlobals "_law_cell_at" = some (some (.ref f19)))
    (l19 : K.lookup f19 = some ⟨oc19, od19, .func (PySem.W.fnOf "_law_cell_at" "_law_cell_at" (defArgs s_law_cell_at) (defBody s_law_cell_at) (defScope s_law_cell_at) .none kV19 dc19 pm19 an19 cd19 ct19), sl19⟩) (c19 : PySem.W.codeIn K cd19 "_law_cell_at" = true) (k19 : PySem.W.keepIn K (.ref f19) = true)
    {f20 : Addr} {od20 an20 : Option Addr} {sl20 : Array (Option Value)} {oc20 kV20 dc20 pm20 cd20 ct20 : Value}
    (a20 : PySem.W.nsIn K mainGlobals "_law_numbers" = some (some (.ref f20)))
    (l20 : K.lookup f20 = some ⟨oc20, od20, .func (PySem.W.fnOf "_law_numbers" "_law_numbers" (defArgs s_law_numbers) (defBody s_law_numbers) (defScope s_law_numbers) .none kV20 dc20 pm20 an20 cd20 ct20), sl20⟩) (c20 : PySem.W.codeIn K cd20 "_law_numbers" = true) (k20 : PySem.W.keepIn K (.ref f20) = true)
    {f21 : Addr} {od21 an21 : Option Addr} {sl21 : Array (Option Value)} {oc21 kV21 dc21 pm21 cd21 ct21 : Value}
    (a21 : PySem.W.nsIn K mainGlobals "_law_names" = some (some (.ref f21)))
    (l21 : K.lookup f21 = some ⟨oc21, od21, .func (PySem.W.fnOf "_law_names" "_law_names" (defArgs s_law_names) (defBody s_law_names) (defScope s_law_names) .none kV21 dc21 pm21 an21 cd21 ct21), sl21⟩) (c21 : PySem.W.codeIn K cd21 "_law_names" = true) (k21 : PySem.W.keepIn K (.ref f21) = true)
    {f22 : Addr} {od22 an22 : Option Addr} {sl22 : Array (Option Value)} {oc22 kV22 dc22 pm22 cd22 ct22 : Value}
    (a22 : PySem.W.nsIn K mainGlobals "_law_faults" = some (some (.ref f22)))
    (l22 : K.lookup f22 = some ⟨oc22, od22, .func (PySem.W.fnOf "_law_faults" "_law_faults" (defArgs s_law_faults) (defBody s_law_faults) (defScope s_law_faults) .none kV22 dc22 pm22 an22 cd22 ct22), sl22⟩) (c22 : PySem.W.codeIn K cd22 "_law_faults" = true) (k22 : PySem.W.keepIn K (.ref f22) = true)
    {f23 : Addr} {od23 an23 : Option Addr} {sl23 : Array (Option Value)} {oc23 kV23 dc23 pm23 cd23 ct23 : Value}
    (a23 : PySem.W.nsIn K mainGlobals "_law_of" = some (some (.ref f23)))
    (l23 : K.lookup f23 = some ⟨oc23, od23, .func (PySem.W.fnOf "_law_of" "_law_of" (defArgs s_law_of) (defBody s_law_of) (defScope s_law_of) .none kV23 dc23 pm23 an23 cd23 ct23), sl23⟩) (c23 : PySem.W.codeIn K cd23 "_law_of" = true) (k23 : PySem.W.keepIn K (.ref f23) = true)
    {f24 : Addr} {od24 an24 : Option Addr} {sl24 : Array (Option Value)} {oc24 kV24 dc24 pm24 cd24 ct24 : Value}
    (a24 : PySem.W.nsIn K mainGlobals "_law_live" = some (some (.ref f24)))
    (l24 : K.lookup f24 = some ⟨oc24, od24, .func (PySem.W.fnOf "_law_live" "_law_live" (defArgs s_law_live) (defBody s_law_live) (defScope s_law_live) .none kV24 dc24 pm24 an24 cd24 ct24), sl24⟩) (c24 : PySem.W.codeIn K cd24 "_law_live" = true) (k24 : PySem.W.keepIn K (.ref f24) = true)
    {f25 : Addr} {od25 an25 : Option Addr} {sl25 : Array (Option Value)} {oc25 kV25 dc25 pm25 cd25 ct25 : Value}
    (a25 : PySem.W.nsIn K mainGlobals "_law_can_come" = some (some (.ref f25)))
    (l25 : K.lookup f25 = some ⟨oc25, od25, .func (PySem.W.fnOf "_law_can_come" "_law_can_come" (defArgs s_law_can_come) (defBody s_law_can_come) (defScope s_law_can_come) .none kV25 dc25 pm25 an25 cd25 ct25), sl25⟩) (c25 : PySem.W.codeIn K cd25 "_law_can_come" = true) (k25 : PySem.W.keepIn K (.ref f25) = true)
    {f26 : Addr} {od26 an26 : Option Addr} {sl26 : Array (Option Value)} {oc26 kV26 dc26 pm26 cd26 ct26 : Value}
    (a26 : PySem.W.nsIn K mainGlobals "_law_stands" = some (some (.ref f26)))
    (l26 : K.lookup f26 = some ⟨oc26, od26, .func (PySem.W.fnOf "_law_stands" "_law_stands" (defArgs s_law_stands) (defBody s_law_stands) (defScope s_law_stands) .none kV26 dc26 pm26 an26 cd26 ct26), sl26⟩) (c26 : PySem.W.codeIn K cd26 "_law_stands" = true) (k26 : PySem.W.keepIn K (.ref f26) = true)
    {f27 : Addr} {od27 an27 : Option Addr} {sl27 : Array (Option Value)} {oc27 kV27 dc27 pm27 cd27 ct27 : Value}
    (a27 : PySem.W.nsIn K mainGlobals "_law_some" = some (some (.ref f27)))
    (l27 : K.lookup f27 = some ⟨oc27, od27, .func (PySem.W.fnOf "_law_some" "_law_some" (defArgs s_law_some) (defBody s_law_some) (defScope s_law_some) .none kV27 dc27 pm27 an27 cd27 ct27), sl27⟩) (c27 : PySem.W.codeIn K cd27 "_law_some" = true) (k27 : PySem.W.keepIn K (.ref f27) = true)
    {f28 : Addr} {od28 an28 : Option Addr} {sl28 : Array (Option Value)} {oc28 kV28 dc28 pm28 cd28 ct28 : Value}
    (a28 : PySem.W.nsIn K mainGlobals "_law_trunk" = some (some (.ref f28)))
    (l28 : K.lookup f28 = some ⟨oc28, od28, .func (PySem.W.fnOf "_law_trunk" "_law_trunk" (defArgs s_law_trunk) (defBody s_law_trunk) (defScope s_law_trunk) .none kV28 dc28 pm28 an28 cd28 ct28), sl28⟩) (c28 : PySem.W.codeIn K cd28 "_law_trunk" = true) (k28 : PySem.W.keepIn K (.ref f28) = true)
    {f29 : Addr} {od29 an29 : Option Addr} {sl29 : Array (Option Value)} {oc29 kV29 dc29 pm29 cd29 ct29 : Value}
    (a29 : PySem.W.nsIn K mainGlobals "_law_line" = some (some (.ref f29)))
    (l29 : K.lookup f29 = some ⟨oc29, od29, .func (PySem.W.fnOf "_law_line" "_law_line" (defArgs s_law_line) (defBody s_law_line) (defScope s_law_line) .none kV29 dc29 pm29 an29 cd29 ct29), sl29⟩) (c29 : PySem.W.codeIn K cd29 "_law_line" = true) (k29 : PySem.W.keepIn K (.ref f29) = true)
    {f30 : Addr} {od30 an30 : Option Addr} {sl30 : Array (Option Value)} {oc30 kV30 dc30 pm30 cd30 ct30 : Value}
    (a30 : PySem.W.nsIn K mainGlobals "_law_copied" = some (some (.ref f30)))
    (l30 : K.lookup f30 = some ⟨oc30, od30, .func (PySem.W.fnOf "_law_copied" "_law_copied" (defArgs s_law_copied) (defBody s_law_copied) (defScope s_law_copied) .none kV30 dc30 pm30 an30 cd30 ct30), sl30⟩) (c30 : PySem.W.codeIn K cd30 "_law_copied" = true) (k30 : PySem.W.keepIn K (.ref f30) = true)
    {f31 : Addr} {od31 an31 : Option Addr} {sl31 : Array (Option Value)} {oc31 kV31 dc31 pm31 cd31 ct31 : Value}
    (a31 : PySem.W.nsIn K mainGlobals "_law_row_of" = some (some (.ref f31)))
    (l31 : K.lookup f31 = some ⟨oc31, od31, .func (PySem.W.fnOf "_law_row_of" "_law_row_of" (defArgs s_law_row_of) (defBody s_law_row_of) (defScope s_law_row_of) .none kV31 dc31 pm31 an31 cd31 ct31), sl31⟩) (c31 : PySem.W.codeIn K cd31 "_law_row_of" = true) (k31 : PySem.W.keepIn K (.ref f31) = true)
    {f32 : Addr} {od32 an32 : Option Addr} {sl32 : Array (Option Value)} {oc32 kV32 dc32 pm32 cd32 ct32 : Value}
    (a32 : PySem.W.nsIn K mainGlobals "_law_line_in" = some (some (.ref f32)))
    (l32 : K.lookup f32 = some ⟨oc32, od32, .func (PySem.W.fnOf "_law_line_in" "_law_line_in" (defArgs s_law_line_in) (defBody s_law_line_in) (defScope s_law_line_in) .none kV32 dc32 pm32 an32 cd32 ct32), sl32⟩) (c32 : PySem.W.codeIn K cd32 "_law_line_in" = true) (k32 : PySem.W.keepIn K (.ref f32) = true)
    {f33 : Addr} {od33 an33 : Option Addr} {sl33 : Array (Option Value)} {oc33 kV33 dc33 pm33 cd33 ct33 : Value}
    (a33 : PySem.W.nsIn K mainGlobals "_law_read" = some (some (.ref f33)))
    (l33 : K.lookup f33 = some ⟨oc33, od33, .func (PySem.W.fnOf "_law_read" "_law_read" (defArgs s_law_read) (defBody s_law_read) (defScope s_law_read) .none kV33 dc33 pm33 an33 cd33 ct33), sl33⟩) (c33 : PySem.W.codeIn K cd33 "_law_read" = true) (k33 : PySem.W.keepIn K (.ref f33) = true)
    {f34 : Addr} {od34 an34 : Option Addr} {sl34 : Array (Option Value)} {oc34 kV34 dc34 pm34 cd34 ct34 : Value}
    (a34 : PySem.W.nsIn K mainGlobals "_law_spoilt" = some (some (.ref f34)))
    (l34 : K.lookup f34 = some ⟨oc34, od34, .func (PySem.W.fnOf "_law_spoilt" "_law_spoilt" (defArgs s_law_spoilt) (defBody s_law_spoilt) (defScope s_law_spoilt) .none kV34 dc34 pm34 an34 cd34 ct34), sl34⟩) (c34 : PySem.W.codeIn K cd34 "_law_spoilt" = true) (k34 : PySem.W.keepIn K (.ref f34) = true)
    {f35 : Addr} {od35 an35 : Option Addr} {sl35 : Array (Option Value)} {oc35 kV35 dc35 pm35 cd35 ct35 : Value}
    (a35 : PySem.W.nsIn K mainGlobals "law" = some (some (.ref f35)))
    (l35 : K.lookup f35 = some ⟨oc35, od35, .func (PySem.W.fnOf "law" "law" (defArgs s_law) (defBody s_law) (defScope s_law) .none kV35 dc35 pm35 an35 cd35 ct35), sl35⟩) (c35 : PySem.W.codeIn K cd35 "law" = true) (k35 : PySem.W.keepIn K (.ref f35) = true)
    {f36 : Addr} {od36 an36 : Option Addr} {sl36 : Array (Option Value)} {oc36 kV36 dc36 pm36 cd36 ct36 : Value}
    (a36 : PySem.W.nsIn K mainGlobals "_law_judged" = some (some (.ref f36)))
    (l36 : K.lookup f36 = some ⟨oc36, od36, .func (PySem.W.fnOf "_law_judged" "_law_judged" (defArgs s_law_judged) (defBody s_law_judged) (defScope s_law_judged) .none kV36 dc36 pm36 an36 cd36 ct36), sl36⟩) (c36 : PySem.W.codeIn K cd36 "_law_judged" = true) (k36 : PySem.W.keepIn K (.ref f36) = true)
    {f37 : Addr} {od37 an37 : Option Addr} {sl37 : Array (Option Value)} {oc37 kV37 dc37 pm37 cd37 ct37 : Value}
    (a37 : PySem.W.nsIn K mainGlobals "read_lines" = some (some (.ref f37)))
    (l37 : K.lookup f37 = some ⟨oc37, od37, .func (PySem.W.fnOf "read_lines" "read_lines" (defArgs s_read_lines) (defBody s_read_lines) (defScope s_read_lines) .none kV37 dc37 pm37 an37 cd37 ct37), sl37⟩) (c37 : PySem.W.codeIn K cd37 "read_lines" = true) (k37 : PySem.W.keepIn K (.ref f37) = true)
    (z_len : PySem.W.nsIn K mainGlobals "len" = some none)
    (z_isinstance : PySem.W.nsIn K mainGlobals "isinstance" = some none)
    (z_all : PySem.W.nsIn K mainGlobals "all" = some none)
    (z_any : PySem.W.nsIn K mainGlobals "any" = some none)
    (z_list : PySem.W.nsIn K mainGlobals "list" = some none)
    (z_set : PySem.W.nsIn K mainGlobals "set" = some none)
    (z_enumerate : PySem.W.nsIn K mainGlobals "enumerate" = some none)
    (z_range : PySem.W.nsIn K mainGlobals "range" = some none)
    (z_max : PySem.W.nsIn K mainGlobals "max" = some none)
    (z_int : PySem.W.nsIn K mainGlobals "int" = some none)
    (z_bool : PySem.W.nsIn K mainGlobals "bool" = some none)
    (z_str : PySem.W.nsIn K mainGlobals "str" = some none)
    (z_tuple : PySem.W.nsIn K mainGlobals "tuple" = some none)
    {t_MOST_LETTERS : Tok} (n_MOST_LETTERS : PySem.W.nsIn K mainGlobals "MOST_LETTERS" = some (some (.int 8 t_MOST_LETTERS)))
    {t_MOST_CHANGES : Tok} (n_MOST_CHANGES : PySem.W.nsIn K mainGlobals "MOST_CHANGES" = some (some (.int 24 t_MOST_CHANGES)))
    {t_MOST_PICKS : Tok} (n_MOST_PICKS : PySem.W.nsIn K mainGlobals "MOST_PICKS" = some (some (.int 40 t_MOST_PICKS)))
    {t_NAME : Tok} (n_NAME : PySem.W.nsIn K mainGlobals "NAME" = some (some (.int 0 t_NAME)))
    {t_LEANS : Tok} (n_LEANS : PySem.W.nsIn K mainGlobals "LEANS" = some (some (.int 1 t_LEANS)))
    {t_BACKS : Tok} (n_BACKS : PySem.W.nsIn K mainGlobals "BACKS" = some (some (.int 2 t_BACKS)))
    {C fI NR : Addr} {nmR qR : Str} {bsR bmR : List Value} {snR : List Str} {subR : List Value} {abR : Bool} {colR : Option Bool} {ddR : Option Addr} {m0R m1R m2R m3R m5R : Option Value}
    {ocR : Value} {odR : Option Addr} {docR pmR : Value} {anR : Option Addr} {cdaR : Addr} {ctR : Value} {ccR0 : Addr} {oslR : Array (Option Value)} {vsR : Array Value} {cclR : Value} {cddR : Option Addr} {ccsR : Array (Option Value)} {fileR : Str} {tfR : Tok} {clR : Value} {cldR : Option Addr} {cslR : Array (Option Value)}
    (aR : PySem.W.nsIn K mainGlobals "BadRows" = some (some (.ref C)))
    (xL : K.lookup C = some (PySem.excClassObj nmR qR C NR bsR bmR true snR subR abR colR ddR m0R m1R m2R m3R m5R "ValueError.__new__")) (rR1 : PySem.HandSPX.refsVE bmR = true) (rR2 : PySem.HandSPX.refsVE (.ref C :: bmR) = true)
    (saR : PySem.W.findIn K (.ref C) "__setattr__" = some (some (.builtin "object.__setattr__"))) (nR : PySem.W.findIn K (.ref C) "row" = some none) (suR : PySem.W.ks_superIn K C C "__init__" = some (some (.builtin "ValueError.__init__"))) (veR : PySem.W.subIn K (.ref C) (.type "ValueError") = some true) (meR : PySem.W.mroIn K C (.ref C) = some true)
    (iR : PySem.W.findIn K (.ref C) "__init__" = some (some (.ref fI))) (tR : PySem.W.typeIn K (.ref fI) = some (.type "function")) (kR : PySem.W.keepIn K (.ref C) = true) (exR : PySem.W.subIn K (.ref C) (.type "BaseException") = some true) (tyR : PySem.W.typeIn K (.ref C) = some (.type "type")) (opR : PySem.W.nsIn K cStatics "thirdparty.any" = some none)
    (lR : K.lookup fI = some ⟨ocR, odR, .func (PySem.W.ksFn "__init__" "BadRows.__init__" (L2.defArgs s_BR) (L2.defBody s_BR) (L2.defScope s_BR) .none .none docR pmR anR (.ref cdaR) ctR ccR0), oslR⟩) (cR : PySem.W.codeIn K (.ref cdaR) "BadRows.__init__" = true)
    (lcR : K.lookup cdaR = some ⟨cclR, cddR, .fields vsR, ccsR⟩) (vR : vsR[2]? = some (.str fileR tfR)) (fR : ((prg.main.file : Str) == fileR) = true) (ccR : K.lookup ccR0 = some ⟨clR, cldR, .cell (some (.ref C)), cslR⟩)
    (xfR : xfB K C = true) (icR : PySem.W.isClsIn K C = true) (scR : PySem.W.subIn K (.ref C) (.ref C) = some true) (zz_bool : PySem.W.nsIn K mainGlobals "bool" = some none) (zz_super : PySem.W.nsIn K mainGlobals "super" = some none)
    :
    ∃ fd : FuncData, (∀ (s : Shared) (v : Value), BindsTo s fd ⟨[v], []⟩ [("_law_script", v)]) ∧ ∀ base : Heap, K.In base → base.Ns mainGlobals mg → FnOk prg w K mg base CX0 13 fa fd ["_law_script"] (sp_law K) := by
  have e := hfa.symm.trans (PySem.W.mg_of X G a35)
  cases e
  have B : Bt K mg := { len := PySem.W.mg_none_of X G z_len, isinstance := PySem.W.mg_none_of X G z_isinstance, all := PySem.W.mg_none_of X G z_all, any := PySem.W.mg_none_of X G z_any, list := PySem.W.mg_none_of X G z_list, set := PySem.W.mg_none_of X G z_set, enumerate := PySem.W.mg_none_of X G z_enumerate, range := PySem.W.mg_none_of X G z_range, max := PySem.W.mg_none_of X G z_max, int := PySem.W.mg_none_of X G z_int, bool := PySem.W.mg_none_of X G z_bool, str := PySem.W.mg_none_of X G z_str, tuple := PySem.W.mg_none_of X G z_tuple, cMOST_LETTERS := ⟨_, PySem.W.mg_of X G n_MOST_LETTERS⟩, cMOST_CHANGES := ⟨_, PySem.W.mg_of X G n_MOST_CHANGES⟩, cMOST_PICKS := ⟨_, PySem.W.mg_of X G n_MOST_PICKS⟩, cNAME := ⟨_, PySem.W.mg_of X G n_NAME⟩, cLEANS := ⟨_, PySem.W.mg_of X G n_LEANS⟩, cBACKS := ⟨_, PySem.W.mg_of X G n_BACKS⟩ }
  have F0 := fun_mk (st := s_put) l0 c0 k0
  have b0 := F0.binds (ps := ["book", "live", "name"]) fun _ _ _ _ _ _ us hl => match us, hl with | [_, _, _], _ => rfl
  have F1 := fun_mk (st := s_is_number) l1 c1 k1
  have b1 := F1.binds (ps := ["told"]) fun _ _ _ _ _ _ us hl => match us, hl with | [_], _ => rfl
  have F2 := fun_mk (st := s_is_name) l2 c2 k2
  have b2 := F2.binds (ps := ["told"]) fun _ _ _ _ _ _ us hl => match us, hl with | [_], _ => rfl
  have F3 := fun_mk (st := s_are_names) l3 c3 k3
  have b3 := F3.binds (ps := ["told"]) fun _ _ _ _ _ _ us hl => match us, hl with | [_], _ => rfl
  have F4 := fun_mk (st := s_are_unlike_names) l4 c4 k4
  have b4 := F4.binds (ps := ["told"]) fun _ _ _ _ _ _ us hl => match us, hl with | [_], _ => rfl
  have F5 := fun_mk (st := s_is_plain) l5 c5 k5
  have b5 := F5.binds (ps := ["book", "told"]) fun _ _ _ _ _ _ us hl => match us, hl with | [_, _], _ => rfl
  have F6 := fun_mk (st := s_is_change) l6 c6 k6
  have b6 := F6.binds (ps := ["book", "told"]) fun _ _ _ _ _ _ us hl => match us, hl with | [_, _], _ => rfl
  have F7 := fun_mk (st := s_follows) l7 c7 k7
  have b7 := F7.binds (ps := ["book", "live", "name"]) fun _ _ _ _ _ _ us hl => match us, hl with | [_, _, _], _ => rfl
  have F8 := fun_mk (st := s_stands) l8 c8 k8
  have b8 := F8.binds (ps := ["book", "row"]) fun _ _ _ _ _ _ us hl => match us, hl with | [_, _], _ => rfl
  have F9 := fun_mk (st := s_wrong_change) l9 c9 k9
  have b9 := F9.binds (ps := ["trunk"]) fun _ _ _ _ _ _ us hl => match us, hl with | [_], _ => rfl
  have F10 := fun_mk (st := s_checked_trunk) l10 c10 k10
  have b10 := F10.binds (ps := ["trunk"]) fun _ _ _ _ _ _ us hl => match us, hl with | [_], _ => rfl
  have F11 := fun_mk (st := s_book_of) l11 c11 k11
  have b11 := F11.binds (ps := ["trunk"]) fun _ _ _ _ _ _ us hl => match us, hl with | [_], _ => rfl
  have F12 := fun_mk (st := s_row_of) l12 c12 k12
  have b12 := F12.binds (ps := ["book", "line"]) fun _ _ _ _ _ _ us hl => match us, hl with | [_, _], _ => rfl
  have F13 := fun_mk (st := s_is_line) l13 c13 k13
  have b13 := F13.binds (ps := ["book", "told"]) fun _ _ _ _ _ _ us hl => match us, hl with | [_, _], _ => rfl
  have F14 := fun_mk (st := s_wrong_line) l14 c14 k14
  have b14 := F14.binds (ps := ["book", "lines"]) fun _ _ _ _ _ _ us hl => match us, hl with | [_, _], _ => rfl
  have F15 := fun_mk (st := s_check_lines) l15 c15 k15
  have b15 := F15.binds (ps := ["book", "lines"]) fun _ _ _ _ _ _ us hl => match us, hl with | [_, _], _ => rfl
  have F16 := fun_mk (st := s_written_lines) l16 c16 k16
  have b16 := F16.binds (ps := ["trunk", "lines"]) fun _ _ _ _ _ _ us hl => match us, hl with | [_, _], _ => rfl
  have F17 := fun_mk (st := s_row_of_line) l17 c17 k17
  have b17 := F17.binds (ps := ["line"]) fun _ _ _ _ _ _ us hl => match us, hl with | [_], _ => rfl
  have F18 := fun_mk (st := s_line_of_row) l18 c18 k18
  have b18 := F18.binds (ps := ["row"]) fun _ _ _ _ _ _ us hl => match us, hl with | [_], _ => rfl
  have F19 := fun_mk (st := s_law_cell_at) l19 c19 k19
  have b19 := F19.binds (ps := ["_law_script", "_law_k"]) fun _ _ _ _ _ _ us hl => match us, hl with | [_, _], _ => rfl
  have F20 := fun_mk (st := s_law_numbers) l20 c20 k20
  have b20 := F20.binds (ps := ["_law_cell", "_law_bounds"]) fun _ _ _ _ _ _ us hl => match us, hl with | [_, _], _ => rfl
  have F21 := fun_mk (st := s_law_names) l21 c21 k21
  have b21 := F21.binds (ps := ([] : List Str)) fun _ _ _ _ _ _ us hl => match us, hl with | [], _ => rfl
  have F22 := fun_mk (st := s_law_faults) l22 c22 k22
  have b22 := F22.binds (ps := ([] : List Str)) fun _ _ _ _ _ _ us hl => match us, hl with | [], _ => rfl
  have F23 := fun_mk (st := s_law_of) l23 c23 k23
  have b23 := F23.binds (ps := ["_law_trunk_here", "_law_name"]) fun _ _ _ _ _ _ us hl => match us, hl with | [_, _], _ => rfl
  have F24 := fun_mk (st := s_law_live) l24 c24 k24
  have b24 := F24.binds (ps := ["_law_trunk_here", "_law_row_here"]) fun _ _ _ _ _ _ us hl => match us, hl with | [_, _], _ => rfl
  have F25 := fun_mk (st := s_law_can_come) l25 c25 k25
  have b25 := F25.binds (ps := ["_law_trunk_here", "_law_live_here", "_law_name"]) fun _ _ _ _ _ _ us hl => match us, hl with | [_, _, _], _ => rfl
  have F26 := fun_mk (st := s_law_stands) l26 c26 k26
  have b26 := F26.binds (ps := ["_law_trunk_here", "_law_row_here", "_law_begin"]) fun _ _ _ _ _ _ us hl => match us, hl with | [_, _, _], _ => rfl
  have F27 := fun_mk (st := s_law_some) l27 c27 k27
  have b27 := F27.binds (ps := ["_law_cell", "_law_names_here", "_law_most"]) fun _ _ _ _ _ _ us hl => match us, hl with | [_, _, _], _ => rfl
  have F28 := fun_mk (st := s_law_trunk) l28 c28 k28
  have b28 := F28.binds (ps := ["_law_script", "_law_at", "_law_limit"]) fun _ _ _ _ _ _ us hl => match us, hl with | [_, _, _], _ => rfl
  have F29 := fun_mk (st := s_law_line) l29 c29 k29
  have b29 := F29.binds (ps := ["_law_trunk_here", "_law_name", "_law_cell", "_law_picks"]) fun _ _ _ _ _ _ us hl => match us, hl with | [_, _, _, _], _ => rfl
  have F30 := fun_mk (st := s_law_copied) l30 c30 k30
  have b30 := F30.binds (ps := ["_law_trunk_here"]) fun _ _ _ _ _ _ us hl => match us, hl with | [_], _ => rfl
  have F31 := fun_mk (st := s_law_row_of) l31 c31 k31
  have b31 := F31.binds (ps := ["_law_line_here"]) fun _ _ _ _ _ _ us hl => match us, hl with | [_], _ => rfl
  have F32 := fun_mk (st := s_law_line_in) l32 c32 k32
  have b32 := F32.binds (ps := ["_law_trunk_here", "_law_row_here"]) fun _ _ _ _ _ _ us hl => match us, hl with | [_, _], _ => rfl
  have F33 := fun_mk (st := s_law_read) l33 c33 k33
  have b33 := F33.binds (ps := ["_law_trunk_here", "_law_text"]) fun _ _ _ _ _ _ us hl => match us, hl with | [_, _], _ => rfl
  have F34 := fun_mk (st := s_law_spoilt) l34 c34 k34
  have b34 := F34.binds (ps := ["_law_text", "_law_cell"]) fun _ _ _ _ _ _ us hl => match us, hl with | [_, _], _ => rfl
  have F35 := fun_mk (st := s_law) l35 c35 k35
  have F36 := fun_mk (st := s_law_judged) l36 c36 k36
  have b36 := F36.binds (ps := ["_law_trunk_here", "_law_text"]) fun _ _ _ _ _ _ us hl => match us, hl with | [_, _], _ => rfl
  have F37 := fun_mk (st := s_read_lines) l37 c37 k37
  have b37 := F37.binds (ps := ["trunk", "text"]) fun _ _ _ _ _ _ us hl => match us, hl with | [_, _], _ => rfl
  refine ⟨PySem.W.fnOf "law" "law" (defArgs s_law) (defBody s_law) (defScope s_law) .none kV35 dc35 pm35 an35 cd35 ct35, fun s v => .of_eq rfl, fun base _ _ => ?_⟩
  have D_put : Dn prg w K mg base "put" 1 (spPut K) := ⟨f0, _, _, ok_put F0 B, PySem.W.mg_of X G a0, k0, b0⟩
  have TR : RowsTxt K C fI := { cls := ⟨_, _, _, _, _, _, _, _, _, _, _, _, _, _, _, xL, rR1, rR2⟩, sa := saR, noN := nR, sup := suR, ve := veR, self := meR, iC := iR, tI := tR, kC := kR, exC := exR, tyC := tyR, op := opR, fn := ⟨_, _, _, _, _, _, _, _, _, _, _, _, _, _, _, _, _, _, lR, cR, lcR, vR, fR, ccR⟩ }
  have D_is_number : Dn prg w K mg base "is_number" 1 (sp_is_number K) := ⟨f1, _, _, ok_is_number F1 B , PySem.W.mg_of X G a1, k1, b1⟩
  have D_is_name : Dn prg w K mg base "is_name" 1 (sp_is_name K) := ⟨f2, _, _, ok_is_name F2 B , PySem.W.mg_of X G a2, k2, b2⟩
  have D_follows : Dn prg w K mg base "follows" 1 (sp_follows K) := ⟨f7, _, _, ok_follows F7 B , PySem.W.mg_of X G a7, k7, b7⟩
  have D_book_of : Dn prg w K mg base "book_of" 1 (sp_book_of K) := ⟨f11, _, _, ok_book_of F11 B , PySem.W.mg_of X G a11, k11, b11⟩
  have D_row_of : Dn prg w K mg base "row_of" 1 (sp_row_of K) := ⟨f12, _, _, ok_row_of F12 B , PySem.W.mg_of X G a12, k12, b12⟩
  have D_row_of_line : Dn prg w K mg base "row_of_line" 1 (sp_row_of_line K) := ⟨f17, _, _, ok_row_of_line F17 , PySem.W.mg_of X G a17, k17, b17⟩
  have D_law_cell_at : Dn prg w K mg base "_law_cell_at" 1 (sp_law_cell_at K) := ⟨f19, _, _, ok_law_cell_at F19 B , PySem.W.mg_of X G a19, k19, b19⟩
  have D_law_numbers : Dn prg w K mg base "_law_numbers" 1 (sp_law_numbers K) := ⟨f20, _, _, ok_law_numbers F20 , PySem.W.mg_of X G a20, k20, b20⟩
  have D_law_names : Dn prg w K mg base "_law_names" 1 (sp_law_names K) := ⟨f21, _, _, ok_law_names F21 , PySem.W.mg_of X G a21, k21, b21⟩
  have D_law_faults : Dn prg w K mg base "_law_faults" 1 (sp_law_faults K) := ⟨f22, _, _, ok_law_faults F22 , PySem.W.mg_of X G a22, k22, b22⟩
  have D_law_of : Dn prg w K mg base "_law_of" 1 (sp_law_of K) := ⟨f23, _, _, ok_law_of F23 , PySem.W.mg_of X G a23, k23, b23⟩
  have D_law_live : Dn prg w K mg base "_law_live" 1 (sp_law_live K) := ⟨f24, _, _, ok_law_live F24 B , PySem.W.mg_of X G a24, k24, b24⟩
  have D_law_some : Dn prg w K mg base "_law_some" 1 (sp_law_some K) := ⟨f27, _, _, ok_law_some F27 B , PySem.W.mg_of X G a27, k27, b27⟩
  have D_law_copied : Dn prg w K mg base "_law_copied" 1 (sp_law_copied K) := ⟨f30, _, _, ok_law_copied F30 B , PySem.W.mg_of X G a30, k30, b30⟩
  have D_law_row_of : Dn prg w K mg base "_law_row_of" 1 (sp_law_row_of K) := ⟨f31, _, _, ok_law_row_of F31 B , PySem.W.mg_of X G a31, k31, b31⟩
  have D_law_spoilt : Dn prg w K mg base "_law_spoilt" 1 (sp_law_spoilt K) := ⟨f34, _, _, ok_law_spoilt F34 B , PySem.W.mg_of X G a34, k34, b34⟩
  have D_are_names : Dn prg w K mg base "are_names" 2 (sp_are_names K) := ⟨f3, _, _, ok_are_names F3 B D_is_name, PySem.W.mg_of X G a3, k3, b3⟩
  have D_is_plain : Dn prg w K mg base "is_plain" 2 (sp_is_plain K) := ⟨f5, _, _, ok_is_plain F5 B D_is_name, PySem.W.mg_of X G a5, k5, b5⟩
  have D_stands : Dn prg w K mg base "stands" 2 (sp_stands K) := ⟨f8, _, _, ok_stands F8 D_follows D_put, PySem.W.mg_of X G a8, k8, b8⟩
  have D_line_of_row : Dn prg w K mg base "line_of_row" 2 (sp_line_of_row K) := ⟨f18, _, _, ok_line_of_row F18 B D_row_of_line, PySem.W.mg_of X G a18, k18, b18⟩
  have D_law_can_come : Dn prg w K mg base "_law_can_come" 2 (sp_law_can_come K) := ⟨f25, _, _, ok_law_can_come F25 B D_law_of, PySem.W.mg_of X G a25, k25, b25⟩
  have D_law_trunk : Dn prg w K mg base "_law_trunk" 2 (sp_law_trunk K) := ⟨f28, _, _, ok_law_trunk F28 B D_law_cell_at D_law_faults D_law_live D_law_names D_law_numbers D_law_of D_law_some, PySem.W.mg_of X G a28, k28, b28⟩
  have D_are_unlike_names : Dn prg w K mg base "are_unlike_names" 3 (sp_are_unlike_names K) := ⟨f4, _, _, ok_are_unlike_names F4 B D_are_names, PySem.W.mg_of X G a4, k4, b4⟩
  have D_is_line_o : Dn prg w K mg base "is_line" 3 (sp_is_line_o K) := ⟨f13, _, _, ok_is_line_o F13 B D_are_names D_is_name D_is_number D_row_of D_stands, PySem.W.mg_of X G a13, k13, b13⟩
  have D_is_line_l : Dn prg w K mg base "is_line" 3 (sp_is_line_l K) := ⟨f13, _, _, ok_is_line_l F13 B D_are_names D_is_name D_is_number D_row_of D_stands, PySem.W.mg_of X G a13, k13, b13⟩
  have D_law_stands : Dn prg w K mg base "_law_stands" 3 (sp_law_stands K) := ⟨f26, _, _, ok_law_stands F26 B D_law_can_come D_law_live, PySem.W.mg_of X G a26, k26, b26⟩
  have D_law_line : Dn prg w K mg base "_law_line" 3 (sp_law_line K) := ⟨f29, _, _, ok_law_line F29 B D_law_can_come D_law_live, PySem.W.mg_of X G a29, k29, b29⟩
  have D_is_change : Dn prg w K mg base "is_change" 4 (sp_is_change K) := ⟨f6, _, _, ok_is_change F6 B D_are_unlike_names D_is_name D_is_plain, PySem.W.mg_of X G a6, k6, b6⟩
  have D_wrong_line_o : Dn prg w K mg base "wrong_line" 4 (sp_wrong_line_o K) := ⟨f14, _, _, ok_wrong_line_o F14 B D_is_line_o, PySem.W.mg_of X G a14, k14, b14⟩
  have D_wrong_line_l : Dn prg w K mg base "wrong_line" 4 (sp_wrong_line_l K) := ⟨f14, _, _, ok_wrong_line_l F14 B D_is_line_l, PySem.W.mg_of X G a14, k14, b14⟩
  have D_law_line_in : Dn prg w K mg base "_law_line_in" 4 (sp_law_line_in K) := ⟨f32, _, _, ok_law_line_in F32 B D_law_stands, PySem.W.mg_of X G a32, k32, b32⟩
  have D_wrong_change : Dn prg w K mg base "wrong_change" 5 (sp_wrong_change K) := ⟨f9, _, _, ok_wrong_change F9 B D_follows D_is_change D_put, PySem.W.mg_of X G a9, k9, b9⟩
  have D_check_lines : Dn prg w K mg base "check_lines" 5 (sp_check_lines K) := ⟨f15, _, _, ok_check_lines F15 B D_wrong_line_l, PySem.W.mg_of X G a15, k15, b15⟩
  have D_law_read : Dn prg w K mg base "_law_read" 5 (sp_law_read K) := ⟨f33, _, _, ok_law_read F33 B D_law_line_in, PySem.W.mg_of X G a33, k33, b33⟩
  have D_checked_trunk : Dn prg w K mg base "checked_trunk" 6 (sp_checked_trunk K) := ⟨f10, _, _, ok_checked_trunk F10 D_book_of D_wrong_change, PySem.W.mg_of X G a10, k10, b10⟩
  have D_written_lines : Dn prg w K mg base "written_lines" 7 (sp_written_lines K) := ⟨f16, _, _, ok_written_lines F16 D_check_lines D_checked_trunk D_row_of_line, PySem.W.mg_of X G a16, k16, b16⟩
  have D_read_lines : DnX w K mg base "read_lines" 9 ["trunk", "text"] (spRd K C) := ⟨f37, _, ok_read_lines F37 B TR (PySem.W.mg_of X G aR) (PySem.W.mg_none_of X G zz_super) D_checked_trunk D_line_of_row D_wrong_line_o, PySem.W.mg_of X G a37, k37, b37⟩
  have D_law_judged : Dn prg w K mg base "_law_judged" 12 (sp_law_judged K) := ⟨f36, _, _, ok_law_judged F36 B (xfB_ok xfR) nR (PySem.W.mg_of X G aR) (exm_self exR icR tyR scR) (PySem.W.mg_none_of X G zz_bool) D_law_read D_written_lines D_read_lines, PySem.W.mg_of X G a36, k36, b36⟩
  exact ok_law F35 B D_law_cell_at D_law_copied D_law_judged D_law_line D_law_names D_law_row_of D_law_spoilt D_law_trunk D_written_lines
theorem walk {l : PySem.W.OpenLaw} {q : Program} {loose : List Str} {XP : (Str → Option Value) → Heap → Prop} {YP : World → Heap → Prop} {d : DefRec} {K : Params → PySem.W.Frag} (hn : l.most = some 63) (hdf : d.params.defaults = [])
    (hmath : ∀ ns : List Int, ns.length ≤ 63 → (∀ z ∈ ns, Builtin.Int.intBits z ≤ 1048576) → f_law (⟨ns⟩, ()) = some true)
    (hY : ∀ (w : World) (h : Heap), YP w h → (K w.params).In h)
    (F : ∀ (w : World) (mg : Str → Option Value) (fa : Addr) (h : Heap), (K w.params).In h → h.Ns mainGlobals mg → mg d.name = some (.ref fa) →
      ∃ fd : FuncData, (∀ (s : Shared) (u : Value), BindsTo s fd ⟨[u], []⟩ [("_law_script", u)]) ∧ ∀ base : Heap, (K w.params).In base → base.Ns mainGlobals mg → FnOk l.prog w (K w.params) mg base CX0 13 fa fd ["_law_script"] (sp_law (K w.params))) :
    PySem.W.WalkO q loose XP YP l.row.toRowW d [] (fun f vs => PySem.call f vs) :=
  L2.walk_ofB (n := 63) (k := 13) (x := "_law_script") (CX := fun _ => CX0) (sp := fun w => sp_law (K w.params)) hn (by decide) hdf ⟨rfl, by decide, by decide⟩ hY F (fun _ _ a ns hl hb _ hS => law_end hS (hmath ns hl hb) fun _ => rfl) fun _ _ _ _ _ z => z
end K
end

section
open PySem PySem.W PyProof.Rows
set_option maxRecDepth 100000 in
set_option maxHeartbeats 0 in
theorem PySem.Challenge.cw_pickline_k08_line_texts_holds : PySem.Challenge.rw_pickline_k08_line_texts.Holds :=
  head (by
    k_fill
    refine K.walk (l := PySem.Challenge.rw_pickline_k08_line_texts) rfl rfl K.math (fun w h Y => PySem.W.kIn_of Y) ?F
    case F =>
      intro w mg fa h KX G hmg
      refine' K.all_mk KX G hmg ?a0 ?l0 ?c0 ?k0 ?a1 ?l1 ?c1 ?k1 ?a2 ?l2 ?c2 ?k2 ?a3 ?l3 ?c3 ?k3 ?a4 ?l4 ?c4 ?k4 ?a5 ?l5 ?c5 ?k5 ?a6 ?l6 ?c6 ?k6 ?a7 ?l7 ?c7 ?k7 ?a8 ?l8 ?c8 ?k8 ?a9 ?l9 ?c9 ?k9 ?a10 ?l10 ?c10 ?k10 ?a11 ?l11 ?c11 ?k11 ?a12 ?l12 ?c12 ?k12 ?a13 ?l13 ?c13 ?k13 ?a14 ?l14 ?c14 ?k14 ?a15 ?l15 ?c15 ?k15 ?a16 ?l16 ?c16 ?k16 ?a17 ?l17 ?c17 ?k17 ?a18 ?l18 ?c18 ?k18 ?a19 ?l19 ?c19 ?k19 ?a20 ?l20 ?c20 ?k20 ?a21 ?l21 ?c21 ?k21 ?a22 ?l22 ?c22 ?k22 ?a23 ?l23 ?c23 ?k23 ?a24 ?l24 ?c24 ?k24 ?a25 ?l25 ?c25 ?k25 ?a26 ?l26 ?c26 ?k26 ?a27 ?l27 ?c27 ?k27 ?a28 ?l28 ?c28 ?k28 ?a29 ?l29 ?c29 ?k29 ?a30 ?l30 ?c30 ?k30 ?a31 ?l31 ?c31 ?k31 ?a32 ?l32 ?c32 ?k32 ?a33 ?l33 ?c33 ?k33 ?a34 ?l34 ?c34 ?k34 ?a35 ?l35 ?c35 ?k35 ?a36 ?l36 ?c36 ?k36 ?a37 ?l37 ?c37 ?k37 ?z_len ?z_isinstance ?z_all ?z_any ?z_list ?z_set ?z_enumerate ?z_range ?z_max ?z_int ?z_bool ?z_str ?z_tuple ?n_MOST_LETTERS ?n_MOST_CHANGES ?n_MOST_PICKS ?n_NAME ?n_LEANS ?n_BACKS ?aR ?xL ?rR1 ?rR2 ?saR ?nR ?suR ?veR ?meR ?iR ?tR ?kR ?exR ?tyR ?opR ?lR ?cR ?lcR ?vR ?fR ?ccR ?xfR ?icR ?scR ?zz_bool ?zz_super
      (case a0 => k_is)
      (case l0 => k_is)
      (case c0 => k_is)
      (case k0 => k_is)
      (case a1 => k_is)
      (case l1 => k_is)
      (case c1 => k_is)
      (case k1 => k_is)
      (case a2 => k_is)
      (case l2 => k_is)
      (case c2 => k_is)
      (case k2 => k_is)
      (case a3 => k_is)
      (case l3 => k_is)
      (case c3 => k_is)
      (case k3 => k_is)
      (case a4 => k_is)
      (case l4 => k_is)
      (case c4 => k_is)
      (case k4 => k_is)
      (case a5 => k_is)
      (case l5 => k_is)
      (case c5 => k_is)
      (case k5 => k_is)
      (case a6 => k_is)
      (case l6 => k_is)
      (case c6 => k_is)
      (case k6 => k_is)
      (case a7 => k_is)
      (case l7 => k_is)
      (case c7 => k_is)
      (case k7 => k_is)
      (case a8 => k_is)
      (case l8 => k_is)
      (case c8 => k_is)
      (case k8 => k_is)
      (case a9 => k_is)
      (case l9 => k_is)
      (case c9 => k_is)
      (case k9 => k_is)
      (case a10 => k_is)
      (case l10 => k_is)
      (case c10 => k_is)
      (case k10 => k_is)
      (case a11 => k_is)
      (case l11 => k_is)
      (case c11 => k_is)
      (case k11 => k_is)
      (case a12 => k_is)
      (case l12 => k_is)
      (case c12 => k_is)
      (case k12 => k_is)
      (case a13 => k_is)
      (case l13 => k_is)
      (case c13 => k_is)
      (case k13 => k_is)
      (case a14 => k_is)
      (case l14 => k_is)
      (case c14 => k_is)
      (case k14 => k_is)
      (case a15 => k_is)
      (case l15 => k_is)
      (case c15 => k_is)
      (case k15 => k_is)
      (case a16 => k_is)
      (case l16 => k_is)
      (case c16 => k_is)
      (case k16 => k_is)
      (case a17 => k_is)
      (case l17 => k_is)
      (case c17 => k_is)
      (case k17 => k_is)
      (case a18 => k_is)
      (case l18 => k_is)
      (case c18 => k_is)
      (case k18 => k_is)
      (case a19 => k_is)
      (case l19 => k_is)
      (case c19 => k_is)
      (case k19 => k_is)
      (case a20 => k_is)
      (case l20 => k_is)
      (case c20 => k_is)
      (case k20 => k_is)
      (case a21 => k_is)
      (case l21 => k_is)
      (case c21 => k_is)
      (case k21 => k_is)
      (case a22 => k_is)
      (case l22 => k_is)
      (case c22 => k_is)
      (case k22 => k_is)
      (case a23 => k_is)
      (case l23 => k_is)
      (case c23 => k_is)
      (case k23 => k_is)
      (case a24 => k_is)
      (case l24 => k_is)
      (case c24 => k_is)
      (case k24 => k_is)
      (case a25 => k_is)
      (case l25 => k_is)
      (case c25 => k_is)
      (case k25 => k_is)
      (case a26 => k_is)
      (case l26 => k_is)
      (case c26 => k_is)
      (case k26 => k_is)
      (case a27 => k_is)
      (case l27 => k_is)
      (case c27 => k_is)
      (case k27 => k_is)
      (case a28 => k_is)
      (case l28 => k_is)
      (case c28 => k_is)
      (case k28 => k_is)
      (case a29 => k_is)
      (case l29 => k_is)
      (case c29 => k_is)
      (case k29 => k_is)
      (case a30 => k_is)
      (case l30 => k_is)
      (case c30 => k_is)
      (case k30 => k_is)
      (case a31 => k_is)
      (case l31 => k_is)
      (case c31 => k_is)
      (case k31 => k_is)
      (case a32 => k_is)
      (case l32 => k_is)
      (case c32 => k_is)
      (case k32 => k_is)
      (case a33 => k_is)
      (case l33 => k_is)
      (case c33 => k_is)
      (case k33 => k_is)
      (case a34 => k_is)
      (case l34 => k_is)
      (case c34 => k_is)
      (case k34 => k_is)
      (case a35 => k_is)
      (case l35 => k_is)
      (case c35 => k_is)
      (case k35 => k_is)
      (case a36 => k_is)
      (case l36 => k_is)
      (case c36 => k_is)
      (case k36 => k_is)
      (case a37 => k_is)
      (case l37 => k_is)
      (case c37 => k_is)
      (case k37 => k_is)
      (case z_len => k_is)
      (case z_isinstance => k_is)
      (case z_all => k_is)
      (case z_any => k_is)
      (case z_list => k_is)
      (case z_set => k_is)
      (case z_enumerate => k_is)
      (case z_range => k_is)
      (case z_max => k_is)
      (case z_int => k_is)
      (case z_bool => k_is)
      (case z_str => k_is)
      (case z_tuple => k_is)
      (case n_MOST_LETTERS => k_is)
      (case n_MOST_CHANGES => k_is)
      (case n_MOST_PICKS => k_is)
      (case n_NAME => k_is)
      (case n_LEANS => k_is)
      (case n_BACKS => k_is)
      (case aR => k_is)
      (case xL => k_is)
      (case rR1 => exact rfl)
      (case rR2 => exact rfl)
      (case saR => k_is)
      (case nR => k_is)
      (case suR => ks_is)
      (case veR => k_is)
      (case meR => k_is)
      (case iR => k_is)
      (case tR => k_is)
      (case kR => k_is)
      (case exR => k_is)
      (case tyR => k_is)
      (case opR => k_is)
      (case lR => k_is)
      (case cR => k_is)
      (case lcR => k_is)
      (case vR => exact rfl)
      (case fR => decide +kernel)
      (case ccR => k_is)
      (case xfR => first | rfl | k_is)
      (case icR => k_is)
      (case scR => first | rfl | k_is)
      (case zz_bool => k_is)
      (case zz_super => k_is))
end
