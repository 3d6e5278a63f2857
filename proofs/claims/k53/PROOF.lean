import PyProof.Rows.All
import Wide.All
import OpenK.AllK
import Wide.FinOn
import HandS.Base
import HandS.Call
import HandS.List
import HandS.Exc
import HandS.Words
import PyProof.Rows.SeqMore
import HandS.Wide
import HandS.Dict
import PyProof.ReprRoads
import HandS.TupAny
import HandS.Style
import HandS.IsInst
import HandS.WordsExc
import HandS.Ends
import HandS.Iter
import HandS.Comp
import PyProof.CallFns
import HandS.Deep
import HandS.SetBool
import HandS.Strs
import HandS.SortInts
import HandS.NoneIn
import HandS.TupSets
import HandS.Sort
import HandS.Nested
import KE.KSuper
import HandS.More
import HandS.SortKw
import HandS.Conv
import KE.DataMinMax
import ObjForm.LawKit
import PyProof.SetRoads
import PyProof.Rows.SetFrom
import PyProof.Rows.CountFlat
import HandS.ExcInit
import HandS.ExcSuper
import KE.KExcSuper
import HandS.FStr
import HandS.Small
import HandS.TryMany
import HandS.ExcIs
import HandS.ExcField
import KE.KExcIs
import PyProof.RulesAs
import HandS.Star
import PySem.Challenge.RW_holesleft_k53_wishes_together
import PyProof.ReprReads
import PyProof.StrLawsRepr
import KE.RegKSuper
set_option Elab.async false
set_option linter.all false
set_option maxRecDepth 100000
/-! Dm: values without addresses (D), a store of numbered mutable cells (C), outcomes (Out); how the layer's values and heap bear them (R, RC, RS); what an expression, a block, a def is worth as a plain function over them. -/
namespace Dm
open PySem L2

inductive D where
  | non | bl (b : Bool) | int (i : Int) | str (x : Str) | ty (n : String)
  | tup (xs : List D) | lst (xs : List D) | fro (xs : List D) | dct (kvs : List (Key × D)) | cell (n : Nat)
  | ptr (a : Addr) (q : Option (Addr × List (Str × V)))

inductive C where
  | lst (xs : List D) | dct (kvs : List (Key × D)) | obj (x : Str) (fs : List (Str × D)) | set (xs : List Int) | lck (kvs : List (Key × D))

inductive Out (α : Type) where
  | ok (a : α) (cs : List C) | exc (x : Str) (fs : Option (List (Str × D))) (cs : List C) | bad

def Out.bind {α β : Type} (o : Out α) (f : α → List C → Out β) : Out β :=
  match o with
  | .ok a cs => f a cs
  | .exc x fs cs => .exc x fs cs
  | .bad => .bad

def KSeqT (K : PySem.W.Frag) (a : Addr) (xs : List V) : Prop := ∀ H : Hp, SqT K H a xs
def KSeqL (K : PySem.W.Frag) (a : Addr) (xs : List V) : Prop := ∀ H : Hp, SqL K H a xs

mutual
inductive R (K : PySem.W.Frag) (av m : List Addr) (H : Hp) : V → D → Prop
  | non : R K av m H .non .non
  | bl (b : Bool) : R K av m H (.bl b) (.bl b)
  | int (i : Int) : R K av m H (.int i) (.int i)
  | str (x : Str) : R K av m H (.str x) (.str x)
  | ty (n : String) : R K av m H (.ty n) (.ty n)
  | tup {a : Addr} {xs : List V} {ds : List D} : H a = some (.tup xs) → a ∉ av → RL K av m H xs ds → R K av m H (.ref a) (.tup ds)
  | tupK {a : Addr} {xs : List V} {ds : List D} : KSeqT K a xs → RL K av m H xs ds → R K av m H (.ref a) (.tup ds)
  | lst {a : Addr} {xs : List V} {ds : List D} : H a = some (.lst xs) → a ∉ av → RL K av m H xs ds → R K av m H (.ref a) (.lst ds)
  | fro {a : Addr} {xs : List V} {ds : List D} : ((∃ o, H a = some (.frz o (.lst xs))) ∧ a ∉ av ∨ KSeqL K a xs) → RL K av m H xs ds → R K av m H (.ref a) (.fro ds)
  | dct {a : Addr} {xs : List (Key × V)} {ds : List (Key × D)} : H a = some (.dK xs) → a ∉ av → RK K av m H xs ds → R K av m H (.ref a) (.dct ds)
  | cell {n : Nat} {a : Addr} : m[n]? = some a → R K av m H (.ref a) (.cell n)
  | ptr {a : Addr} {q : Option (Addr × List (Str × V))} : (∀ d fs, q = some (d, fs) → H d = some (.xd fs) ∧ d ∉ av) → R K av m H (.ref a) (.ptr a q)
inductive RL (K : PySem.W.Frag) (av m : List Addr) (H : Hp) : List V → List D → Prop
  | nil : RL K av m H [] []
  | cons {v : V} {vs : List V} {d : D} {ds : List D} : R K av m H v d → RL K av m H vs ds → RL K av m H (v :: vs) (d :: ds)
inductive RK (K : PySem.W.Frag) (av m : List Addr) (H : Hp) : List (Key × V) → List (Key × D) → Prop
  | nil : RK K av m H [] []
  | cons {k : Key} {v : V} {vs : List (Key × V)} {d : D} {ds : List (Key × D)} : R K av m H v d → RK K av m H vs ds → RK K av m H ((k, v) :: vs) ((k, d) :: ds)
end

inductive RF (K : PySem.W.Frag) (av m : List Addr) (H : Hp) : List (Str × V) → List (Str × D) → Prop
  | nil : RF K av m H [] []
  | cons {k : Str} {v : V} {vs : List (Str × V)} {d : D} {ds : List (Str × D)} : R K av m H v d → RF K av m H vs ds → RF K av m H ((k, v) :: vs) ((k, d) :: ds)

def CellOk (K : PySem.W.Frag) (mg : Str → Option Value) (av m : List Addr) (H : Hp) (a : Addr) : C → Prop
  | .lst ds => ∃ xs, H a = some (.lst xs) ∧ RL K av m H xs ds
  | .dct ds => ∃ xs, H a = some (.dK xs) ∧ RK K av m H xs ds
  | .obj x fs => ∃ Ca dx vs, mg x = some (.ref Ca) ∧ H a = some (.ins Ca dx vs) ∧ RF K av m H vs fs
  | .set xs => xs.Nodup ∧ ∃ S, H a = some (.set S xs.length) ∧ ∀ k, S k = decide (k ∈ xs)
  | .lck ds => ∃ o xs, H a = some (.frz o (.dK xs)) ∧ RK K av m H xs ds

structure RC (K : PySem.W.Frag) (mg : Str → Option Value) (av m : List Addr) (H : Hp) (cs : List C) : Prop where
  sub : ∀ a ∈ m, a ∈ av
  trk : ∀ a ∈ av, H a ≠ none
  len : m.length = cs.length
  nd : m.Nodup
  ok : ∀ (n : Nat) (a : Addr) (c : C), m[n]? = some a → cs[n]? = some c → CellOk K mg av m H a c

structure Ext (av m : List Addr) (H : Hp) (av' m' : List Addr) (H' : Hp) : Prop where
  new : ∃ nw, av' = av ++ nw ∧ m' = m ++ nw ∧ ∀ a ∈ nw, H a = none
  keep : ∀ b o, H b = some o → b ∉ m → H' b = some o
  there : ∀ b, H b ≠ none → H' b ≠ none
  fz : ∀ b o u, H b = some (.frz o u) → H' b = some (.frz o u)

theorem Ext.refl (av m : List Addr) (H : Hp) : Ext av m H av m H :=
  ⟨⟨[], by simp, by simp, fun _ h => nomatch h⟩, fun _ _ h _ => h, fun _ h => h, fun _ _ _ h => h⟩

theorem Ext.trans {av m av1 m1 av2 m2 : List Addr} {H H1 H2 : Hp} (e : Ext av m H av1 m1 H1) (f : Ext av1 m1 H1 av2 m2 H2) : Ext av m H av2 m2 H2 := by
  obtain ⟨n1, rfl, rfl, f1⟩ := e.new
  obtain ⟨n2, rfl, rfl, f2⟩ := f.new
  refine ⟨⟨n1 ++ n2, by simp, by simp, fun a ha => ?_⟩, fun b o hb hm => ?_, fun b hb => f.there b (e.there b hb), fun b o u h => f.fz b o u (e.fz b o u h)⟩
  · rcases List.mem_append.mp ha with h | h
    · exact f1 a h
    · cases q : H a with
      | none => rfl
      | some o => exact absurd (f2 a h) (e.there a (by rw [q]; simp))
  · refine f.keep b o (e.keep b o hb hm) fun h => ?_
    rcases List.mem_append.mp h with h | h
    · exact hm h
    · rw [f1 b h] at hb; cases hb

section
variable {K : PySem.W.Frag} {mg : Str → Option Value} {av m av' m' : List Addr} {H H' : Hp} {cs : List C}

theorem Ext.mem (e : Ext av m H av' m' H') {a : Addr} (h : a ∉ av) (q : H a ≠ none) : a ∉ av' := by
  obtain ⟨nw, rfl, _, f⟩ := e.new
  intro z
  rcases List.mem_append.mp z with z | z
  · exact h z
  · exact q (f a z)
theorem Ext.at (e : Ext av m H av' m' H') {n : Nat} {a : Addr} (h : m[n]? = some a) : m'[n]? = some a := by
  obtain ⟨nw, _, rfl, _⟩ := e.new
  rw [List.getElem?_append_left (List.getElem?_eq_some_iff.mp h).1]
  exact h
theorem Ext.rd (e : Ext av m H av' m' H') {a : Addr} {u : HO} (h : Rd H a u) (hm : a ∉ m) : Rd H' a u := by
  rcases h with h | ⟨o, h⟩
  · exact .inl (e.keep _ _ h hm)
  · exact .inr ⟨o, e.keep _ _ h hm⟩
theorem rd_some {H : Hp} {a : Addr} {u : HO} (h : Rd H a u) : H a ≠ none := by
  rcases h with h | ⟨o, h⟩ <;> (rw [h]; simp)

/-- what a value needs of a later state -/
structure Wk (av m : List Addr) (H : Hp) (av' m' : List Addr) (H' : Hp) : Prop where
  keep : ∀ b o, H b = some o → b ∉ av → H' b = some o
  mem : ∀ {a : Addr}, a ∉ av → H a ≠ none → a ∉ av'
  atw : ∀ {n : Nat} {a : Addr}, m[n]? = some a → m'[n]? = some a
  fz : ∀ b o u, H b = some (.frz o u) → H' b = some (.frz o u)
theorem Ext.wk (s : ∀ a ∈ m, a ∈ av) (e : Ext av m H av' m' H') : Wk av m H av' m' H' := ⟨fun b o h z => e.keep b o h fun y => z (s _ y), fun h q => e.mem h q, fun h => e.at h, e.fz⟩
/-- .. without the locks -/
structure Wk0 (av m : List Addr) (H : Hp) (av' m' : List Addr) (H' : Hp) : Prop where
  keep : ∀ b o, H b = some o → b ∉ av → H' b = some o
  mem : ∀ {a : Addr}, a ∉ av → H a ≠ none → a ∉ av'
  atw : ∀ {n : Nat} {a : Addr}, m[n]? = some a → m'[n]? = some a
theorem Wk.to0 (e : Wk av m H av' m' H') : Wk0 av m H av' m' H' := ⟨e.keep, fun h q => e.mem h q, fun h => e.atw h⟩
mutual
theorem R.mono0 (s : ∀ a ∈ m, a ∈ av) (e : Wk0 av m H av' m' H') : ∀ {v : V} {d : D}, R K av m H v d → R K av' m' H' v d
  | _, _, .non => .non
  | _, _, .bl b => .bl b
  | _, _, .int i => .int i
  | _, _, .str x => .str x
  | _, _, .ty n => .ty n
  | _, _, .tup h n l => .tup (e.keep _ _ h n) (e.mem n (by rw [h]; simp)) (RL.mono0 s e l)
  | _, _, .tupK h l => .tupK h (RL.mono0 s e l)
  | _, _, .lst h n l => .lst (e.keep _ _ h n) (e.mem n (by rw [h]; simp)) (RL.mono0 s e l)
  | _, _, .fro h l => .fro (h.imp (fun z => ⟨z.1.imp fun o q => e.keep _ _ q z.2, e.mem z.2 (by obtain ⟨o, q⟩ := z.1; rw [q]; simp)⟩) id) (RL.mono0 s e l)
  | _, _, .dct h n l => .dct (e.keep _ _ h n) (e.mem n (by rw [h]; simp)) (RK.mono0 s e l)
  | _, _, .cell h => .cell (e.atw h)
  | _, _, .ptr h => .ptr fun d fs q => ⟨e.keep _ _ (h d fs q).1 (h d fs q).2, e.mem (h d fs q).2 (by rw [(h d fs q).1]; simp)⟩
theorem RL.mono0 (s : ∀ a ∈ m, a ∈ av) (e : Wk0 av m H av' m' H') : ∀ {v : List V} {d : List D}, RL K av m H v d → RL K av' m' H' v d
  | _, _, .nil => .nil
  | _, _, .cons h t => .cons (R.mono0 s e h) (RL.mono0 s e t)
theorem RK.mono0 (s : ∀ a ∈ m, a ∈ av) (e : Wk0 av m H av' m' H') : ∀ {v : List (Key × V)} {d : List (Key × D)}, RK K av m H v d → RK K av' m' H' v d
  | _, _, .nil => .nil
  | _, _, .cons h t => .cons (R.mono0 s e h) (RK.mono0 s e t)
end
theorem R.monoW (s : ∀ a ∈ m, a ∈ av) (e : Wk av m H av' m' H') {v : V} {d : D} (r : R K av m H v d) : R K av' m' H' v d := r.mono0 s e.to0
theorem RL.monoW (s : ∀ a ∈ m, a ∈ av) (e : Wk av m H av' m' H') {v : List V} {d : List D} (r : RL K av m H v d) : RL K av' m' H' v d := r.mono0 s e.to0
theorem RK.monoW (s : ∀ a ∈ m, a ∈ av) (e : Wk av m H av' m' H') {v : List (Key × V)} {d : List (Key × D)} (r : RK K av m H v d) : RK K av' m' H' v d := r.mono0 s e.to0
theorem RF.mono0 (s : ∀ a ∈ m, a ∈ av) (e : Wk0 av m H av' m' H') : ∀ {v : List (Str × V)} {d : List (Str × D)}, RF K av m H v d → RF K av' m' H' v d
  | _, _, .nil => .nil
  | _, _, .cons h t => .cons (h.mono0 s e) (RF.mono0 s e t)
theorem R.mono (s : ∀ a ∈ m, a ∈ av) (e : Ext av m H av' m' H') {v : V} {d : D} (r : R K av m H v d) : R K av' m' H' v d := r.monoW s (e.wk s)
theorem RL.mono (s : ∀ a ∈ m, a ∈ av) (e : Ext av m H av' m' H') {v : List V} {d : List D} (r : RL K av m H v d) : RL K av' m' H' v d := r.monoW s (e.wk s)
theorem RK.mono (s : ∀ a ∈ m, a ∈ av) (e : Ext av m H av' m' H') {v : List (Key × V)} {d : List (Key × D)} (r : RK K av m H v d) : RK K av' m' H' v d := r.monoW s (e.wk s)
theorem RF.mono (s : ∀ a ∈ m, a ∈ av) (e : Ext av m H av' m' H') : ∀ {v : List (Str × V)} {d : List (Str × D)}, RF K av m H v d → RF K av' m' H' v d
  | _, _, .nil => .nil
  | _, _, .cons h t => .cons (h.mono s e) (RF.mono s e t)

/-- the frame's slots -/
def RS (K : PySem.W.Frag) (av m : List Addr) (H : Hp) (σ : St) (env : List (Option D)) : Prop :=
  σ.length = env.length ∧ ∀ (i : Nat) (d : D), env[i]? = some (some d) → ∃ v, σ[i]? = some (some v) ∧ R K av m H v d
theorem RS.mono {σ : St} {env : List (Option D)} (s : ∀ a ∈ m, a ∈ av) (e : Ext av m H av' m' H') (r : RS K av m H σ env) : RS K av' m' H' σ env :=
  ⟨r.1, fun i d h => let ⟨v, h1, h2⟩ := r.2 i d h; ⟨v, h1, h2.mono s e⟩⟩
theorem RS.set {σ : St} {env : List (Option D)} {i : Nat} {v : V} {d : D} (r : RS K av m H σ env) (h : R K av m H v d) : RS K av m H (σ.set i (some v)) (env.set i (some d)) := by
  refine ⟨by rw [List.length_set, List.length_set]; exact r.1, fun j e hj => ?_⟩
  by_cases hi : i = j
  · subst hi
    have hl : i < env.length := by
      have := (List.getElem?_eq_some_iff.mp hj).1
      rwa [List.length_set] at this
    rw [List.getElem?_set_self hl] at hj
    cases hj
    exact ⟨v, List.getElem?_set_self (by rw [r.1]; exact hl), h⟩
  · rw [List.getElem?_set_ne hi] at hj ⊢
    exact r.2 j e hj

/-- what is wanted of an expression's outcome -/
def XF (K : PySem.W.Frag) (av m : List Addr) (H : Hp) : Option Addr → Option (List (Str × D)) → Prop
  | none, none => True
  | some d, some fs => ∃ vs, H d = some (.xd vs) ∧ d ∉ av ∧ RF K av m H vs fs
  | _, _ => False
def PostX (K : PySem.W.Frag) (mg : Str → Option Value) (av m : List Addr) (H : Hp) (EX : XK) (x : Str) (fs : Option (List (Str × D))) (cs : List C) : Prop :=
  ∀ (av' m' : List Addr) (H' : Hp) (Ca : Addr) (dd : Option Addr), Ext av m H av' m' H' → RC K mg av' m' H' cs → mg x = some (.ref Ca) → XF K av' m' H' dd fs → EX (.ref Ca) dd H'
def PostE (K : PySem.W.Frag) (mg : Str → Option Value) (av m : List Addr) (H : Hp) (EX : XK) (Q : VK) : Out D → Prop
  | .ok d cs => ∀ (av' m' : List Addr) (H' : Hp) (v : V), Ext av m H av' m' H' → RC K mg av' m' H' cs → R K av' m' H' v d → Q v H'
  | .exc x fs cs => PostX K mg av m H EX x fs cs
  | .bad => False
theorem PostX.ext {EX : XK} {x : Str} {fs : Option (List (Str × D))} {cs : List C} (e : Ext av m H av' m' H') (p : PostX K mg av m H EX x fs cs) : PostX K mg av' m' H' EX x fs cs :=
  fun a2 m2 H2 Ca dd e2 r q z => p a2 m2 H2 Ca dd (e.trans e2) r q z
theorem PostE.ext {EX : XK} {Q : VK} {o : Out D} (e : Ext av m H av' m' H') (p : PostE K mg av m H EX Q o) : PostE K mg av' m' H' EX Q o := by
  cases o with
  | ok d cs => exact fun a2 m2 H2 v e2 r q => p a2 m2 H2 v (e.trans e2) r q
  | exc x fs cs => exact PostX.ext e p
  | bad => exact p
theorem PostE.bind {EX : XK} {Q Q2 : VK} {o : Out D} {f : D → List C → Out D} (p : PostE K mg av m H EX Q (o.bind f))
    (h : ∀ d cs' av' m' H' v, Ext av m H av' m' H' → RC K mg av' m' H' cs' → R K av' m' H' v d → PostE K mg av' m' H' EX Q (f d cs') → Q2 v H') : PostE K mg av m H EX Q2 o := by
  cases o with
  | ok d cs => exact fun a2 m2 H2 v e2 r q => h d cs a2 m2 H2 v e2 r q (PostE.ext e2 p)
  | exc x fs cs => exact p
  | bad => exact p
/-- a value without a change -/
theorem PostE.here {EX : XK} {Q : VK} {d : D} {v : V} (c : RC K mg av m H cs) (p : PostE K mg av m H EX Q (.ok d cs)) (r : R K av m H v d) : Q v H := p av m H v (Ext.refl ..) c r
end

abbrev Gx := List (Option D) → List C → Out D
def TeOk (K : PySem.W.Frag) (mg : Str → Option Value) (EX : XK) (t : TE) (g : Gx) : Prop :=
  ∀ (av m : List Addr) (H : Hp) (σ : St) (env : List (Option D)) (cs : List C) (Q : VK), RC K mg av m H cs → RS K av m H σ env → PostE K mg av m H EX Q (g env cs) → t σ H Q
structure DE (X : Cx) (EX : XK) (e : Expr) (g : Gx) : Prop where
  ex : ∃ t, PE X e t ∧ TeOk X.K X.mg EX t g

/-! ### lists of values -/
def PostA (K : PySem.W.Frag) (mg : Str → Option Value) (av m : List Addr) (H : Hp) (EX : XK) (Q : List V → Hp → Prop) : Out (List D) → Prop
  | .ok d cs => ∀ (av' m' : List Addr) (H' : Hp) (v : List V), Ext av m H av' m' H' → RC K mg av' m' H' cs → RL K av' m' H' v d → Q v H'
  | .exc x fs cs => PostX K mg av m H EX x fs cs
  | .bad => False
section
variable {K : PySem.W.Frag} {mg : Str → Option Value} {av m av' m' : List Addr} {H H' : Hp} {cs : List C}
theorem PostA.ext {EX : XK} {Q : List V → Hp → Prop} {o : Out (List D)} (e : Ext av m H av' m' H') (p : PostA K mg av m H EX Q o) : PostA K mg av' m' H' EX Q o := by
  cases o with
  | ok d cs => exact fun a2 m2 H2 v e2 r q => p a2 m2 H2 v (e.trans e2) r q
  | exc x fs cs => exact PostX.ext e p
  | bad => exact p
/-- an expression, then a list -/
theorem PostE.bindA {EX : XK} {Q : List V → Hp → Prop} {Q2 : VK} {o : Out D} {f : D → List C → Out (List D)} (p : PostA K mg av m H EX Q (o.bind f))
    (h : ∀ d cs' av' m' H' v, Ext av m H av' m' H' → RC K mg av' m' H' cs' → R K av' m' H' v d → PostA K mg av' m' H' EX Q (f d cs') → Q2 v H') : PostE K mg av m H EX Q2 o := by
  cases o with
  | ok d cs => exact fun a2 m2 H2 v e2 r q => h d cs a2 m2 H2 v e2 r q (PostA.ext e2 p)
  | exc x fs cs => exact p
  | bad => exact p
theorem PostA.bindA {EX : XK} {Q Q2 : List V → Hp → Prop} {o : Out (List D)} {f : List D → List C → Out (List D)} (p : PostA K mg av m H EX Q (o.bind f))
    (h : ∀ d cs' av' m' H' v, Ext av m H av' m' H' → RC K mg av' m' H' cs' → RL K av' m' H' v d → PostA K mg av' m' H' EX Q (f d cs') → Q2 v H') : PostA K mg av m H EX Q2 o := by
  cases o with
  | ok d cs => exact fun a2 m2 H2 v e2 r q => h d cs a2 m2 H2 v e2 r q (PostA.ext e2 p)
  | exc x fs cs => exact p
  | bad => exact p
/-- a list, then an expression -/
theorem PostA.bindE {EX : XK} {Q : VK} {Q2 : List V → Hp → Prop} {o : Out (List D)} {f : List D → List C → Out D} (p : PostE K mg av m H EX Q (o.bind f))
    (h : ∀ d cs' av' m' H' v, Ext av m H av' m' H' → RC K mg av' m' H' cs' → RL K av' m' H' v d → PostE K mg av' m' H' EX Q (f d cs') → Q2 v H') : PostA K mg av m H EX Q2 o := by
  cases o with
  | ok d cs => exact fun a2 m2 H2 v e2 r q => h d cs a2 m2 H2 v e2 r q (PostE.ext e2 p)
  | exc x fs cs => exact p
  | bad => exact p
end
abbrev Ga := List (Option D) → List C → Out (List D)
def TaOk (K : PySem.W.Frag) (mg : Str → Option Value) (EX : XK) (t : TA) (g : Ga) : Prop :=
  ∀ (av m : List Addr) (H : Hp) (σ : St) (env : List (Option D)) (cs : List C) (Q : List V → Hp → Prop), RC K mg av m H cs → RS K av m H σ env → PostA K mg av m H EX Q (g env cs) → t σ H Q
structure DA (X : Cx) (EX : XK) (es : List Expr) (g : Ga) : Prop where
  ex : ∃ t, PA X es t ∧ TaOk X.K X.mg EX t g

/-! ### tests -/
def PostT (K : PySem.W.Frag) (mg : Str → Option Value) (av m : List Addr) (H : Hp) (EX : XK) (Q : Bool → Hp → Prop) : Out Bool → Prop
  | .ok d cs => ∀ (av' m' : List Addr) (H' : Hp), Ext av m H av' m' H' → RC K mg av' m' H' cs → Q d H'
  | .exc x fs cs => PostX K mg av m H EX x fs cs
  | .bad => False
abbrev Gt := List (Option D) → List C → Out Bool
def TtOk (K : PySem.W.Frag) (mg : Str → Option Value) (EX : XK) (t : TT) (g : Gt) : Prop :=
  ∀ (av m : List Addr) (H : Hp) (σ : St) (env : List (Option D)) (cs : List C) (Q : Bool → Hp → Prop), RC K mg av m H cs → RS K av m H σ env → PostT K mg av m H EX Q (g env cs) → t σ H Q
structure DT (X : Cx) (EX : XK) (e : Expr) (g : Gt) : Prop where
  ex : ∃ t, PT X e t ∧ TtOk X.K X.mg EX t g
structure DW (X : Cx) (EX : XK) (e : Expr) (g : Gt) : Prop where
  ex : ∃ t, PW X e t ∧ TtOk X.K X.mg EX t g
section
variable {K : PySem.W.Frag} {mg : Str → Option Value} {av m av' m' : List Addr} {H H' : Hp} {cs : List C}
theorem PostT.ext {EX : XK} {Q : Bool → Hp → Prop} {o : Out Bool} (e : Ext av m H av' m' H') (p : PostT K mg av m H EX Q o) : PostT K mg av' m' H' EX Q o := by
  cases o with
  | ok d cs => exact fun a2 m2 H2 e2 r => p a2 m2 H2 (e.trans e2) r
  | exc x fs cs => exact PostX.ext e p
  | bad => exact p
theorem PostE.bindT {EX : XK} {Q : Bool → Hp → Prop} {Q2 : VK} {o : Out D} {f : D → List C → Out Bool} (p : PostT K mg av m H EX Q (o.bind f))
    (h : ∀ d cs' av' m' H' v, Ext av m H av' m' H' → RC K mg av' m' H' cs' → R K av' m' H' v d → PostT K mg av' m' H' EX Q (f d cs') → Q2 v H') : PostE K mg av m H EX Q2 o := by
  cases o with
  | ok d cs => exact fun a2 m2 H2 v e2 r q => h d cs a2 m2 H2 v e2 r q (PostT.ext e2 p)
  | exc x fs cs => exact p
  | bad => exact p
theorem PostT.bindT {EX : XK} {Q Q2 : Bool → Hp → Prop} {o : Out Bool} {f : Bool → List C → Out Bool} (p : PostT K mg av m H EX Q (o.bind f))
    (h : ∀ d cs' av' m' H', Ext av m H av' m' H' → RC K mg av' m' H' cs' → PostT K mg av' m' H' EX Q (f d cs') → Q2 d H') : PostT K mg av m H EX Q2 o := by
  cases o with
  | ok d cs => exact fun a2 m2 H2 e2 r => h d cs a2 m2 H2 e2 r (PostT.ext e2 p)
  | exc x fs cs => exact p
  | bad => exact p
theorem PostT.bindE {EX : XK} {Q : VK} {Q2 : Bool → Hp → Prop} {o : Out Bool} {f : Bool → List C → Out D} (p : PostE K mg av m H EX Q (o.bind f))
    (h : ∀ d cs' av' m' H', Ext av m H av' m' H' → RC K mg av' m' H' cs' → PostE K mg av' m' H' EX Q (f d cs') → Q2 d H') : PostT K mg av m H EX Q2 o := by
  cases o with
  | ok d cs => exact fun a2 m2 H2 e2 r => h d cs a2 m2 H2 e2 r (PostE.ext e2 p)
  | exc x fs cs => exact p
  | bad => exact p
end

/-! ### blocks -/
inductive Fl where
  | nx | rt (d : D) | bk | ct
structure Sg where
  fl : Fl
  env : List (Option D)
def PostS (K : PySem.W.Frag) (mg : Str → Option Value) (av m : List Addr) (H : Hp) (EX : XK) (Dn : Ends) : Out Sg → Prop
  | .ok ⟨.nx, env⟩ cs => ∀ (av' m' : List Addr) (H' : Hp) (σ' : St), Ext av m H av' m' H' → RC K mg av' m' H' cs → RS K av' m' H' σ' env → Dn.nx σ' H'
  | .ok ⟨.bk, env⟩ cs => ∀ (av' m' : List Addr) (H' : Hp) (σ' : St), Ext av m H av' m' H' → RC K mg av' m' H' cs → RS K av' m' H' σ' env → Dn.bk σ' H'
  | .ok ⟨.ct, env⟩ cs => ∀ (av' m' : List Addr) (H' : Hp) (σ' : St), Ext av m H av' m' H' → RC K mg av' m' H' cs → RS K av' m' H' σ' env → Dn.ct σ' H'
  | .ok ⟨.rt d, _⟩ cs => ∀ (av' m' : List Addr) (H' : Hp) (v : V), Ext av m H av' m' H' → RC K mg av' m' H' cs → R K av' m' H' v d → Dn.rt v H'
  | .exc x fs cs => PostX K mg av m H EX x fs cs
  | .bad => False
abbrev Gs := List (Option D) → List C → Out Sg
def TsOk (K : PySem.W.Frag) (mg : Str → Option Value) (EX : XK) (t : TS) (g : Gs) : Prop :=
  ∀ (av m : List Addr) (H : Hp) (σ : St) (env : List (Option D)) (cs : List C) (Dn : Ends), RC K mg av m H cs → RS K av m H σ env → PostS K mg av m H EX Dn (g env cs) → t Dn σ H
structure DS (X : Cx) (EX : XK) (st : Stmt) (g : Gs) : Prop where
  ex : ∃ t, PS X st t ∧ TsOk X.K X.mg EX t g
structure DSs (X : Cx) (EX : XK) (st : List Stmt) (g : Gs) : Prop where
  ex : ∃ t, PSs X st t ∧ TsOk X.K X.mg EX t g
section
variable {K : PySem.W.Frag} {mg : Str → Option Value} {av m av' m' : List Addr} {H H' : Hp} {cs : List C}
theorem PostS.ext {EX : XK} {Dn : Ends} {o : Out Sg} (e : Ext av m H av' m' H') (p : PostS K mg av m H EX Dn o) : PostS K mg av' m' H' EX Dn o := by
  match o, p with
  | .ok ⟨.nx, env⟩ cs, p => exact fun a2 m2 H2 v e2 r q => p a2 m2 H2 v (e.trans e2) r q
  | .ok ⟨.bk, env⟩ cs, p => exact fun a2 m2 H2 v e2 r q => p a2 m2 H2 v (e.trans e2) r q
  | .ok ⟨.ct, env⟩ cs, p => exact fun a2 m2 H2 v e2 r q => p a2 m2 H2 v (e.trans e2) r q
  | .ok ⟨.rt d, env⟩ cs, p => exact fun a2 m2 H2 v e2 r q => p a2 m2 H2 v (e.trans e2) r q
  | .exc x fs cs, p => exact PostX.ext e p
  | .bad, p => exact p
theorem PostE.bindS {EX : XK} {Dn : Ends} {Q2 : VK} {o : Out D} {f : D → List C → Out Sg} (p : PostS K mg av m H EX Dn (o.bind f))
    (h : ∀ d cs' av' m' H' v, Ext av m H av' m' H' → RC K mg av' m' H' cs' → R K av' m' H' v d → PostS K mg av' m' H' EX Dn (f d cs') → Q2 v H') : PostE K mg av m H EX Q2 o := by
  cases o with
  | ok d cs => exact fun a2 m2 H2 v e2 r q => h d cs a2 m2 H2 v e2 r q (PostS.ext e2 p)
  | exc x fs cs => exact p
  | bad => exact p
theorem PostA.bindS {EX : XK} {Dn : Ends} {Q2 : List V → Hp → Prop} {o : Out (List D)} {f : List D → List C → Out Sg} (p : PostS K mg av m H EX Dn (o.bind f))
    (h : ∀ d cs' av' m' H' v, Ext av m H av' m' H' → RC K mg av' m' H' cs' → RL K av' m' H' v d → PostS K mg av' m' H' EX Dn (f d cs') → Q2 v H') : PostA K mg av m H EX Q2 o := by
  cases o with
  | ok d cs => exact fun a2 m2 H2 v e2 r q => h d cs a2 m2 H2 v e2 r q (PostS.ext e2 p)
  | exc x fs cs => exact p
  | bad => exact p
theorem PostT.bindS {EX : XK} {Dn : Ends} {Q2 : Bool → Hp → Prop} {o : Out Bool} {f : Bool → List C → Out Sg} (p : PostS K mg av m H EX Dn (o.bind f))
    (h : ∀ d cs' av' m' H', Ext av m H av' m' H' → RC K mg av' m' H' cs' → PostS K mg av' m' H' EX Dn (f d cs') → Q2 d H') : PostT K mg av m H EX Q2 o := by
  cases o with
  | ok d cs => exact fun a2 m2 H2 e2 r => h d cs a2 m2 H2 e2 r (PostS.ext e2 p)
  | exc x fs cs => exact p
  | bad => exact p
end
end Dm
set_option linter.all false
set_option maxRecDepth 100000
/-! Dm: expressions: names, constants, operators, comparisons, displays, items. -/
namespace Dm
open PySem L2

section
variable {K : PySem.W.Frag} {mg : Str → Option Value} {av m av' m' : List Addr} {H H' : Hp} {cs : List C}

/-! ### the store behind a new object, behind a cell written -/
theorem CellOk.mono (s : ∀ a ∈ m, a ∈ av) (e : Ext av m H av' m' H') {a : Addr} {c : C} (h : CellOk K mg av m H a c) (ha : H' a = H a) : CellOk K mg av' m' H' a c := by
  cases c with
  | lst ds => obtain ⟨xs, q, r⟩ := h; exact ⟨xs, ha.trans q, r.mono s e⟩
  | dct ds => obtain ⟨xs, q, r⟩ := h; exact ⟨xs, ha.trans q, r.mono s e⟩
  | obj x fs => obtain ⟨Ca, dx, vs, q0, q, r⟩ := h; exact ⟨Ca, dx, vs, q0, ha.trans q, r.mono s e⟩
  | set xs => obtain ⟨nd, S, q, r⟩ := h; exact ⟨nd, S, ha.trans q, r⟩
  | lck ds => obtain ⟨o, xs, q, r⟩ := h; exact ⟨o, xs, ha.trans q, r.mono s e⟩
theorem RC.ext (c : RC K mg av m H cs) (e : Ext av m H av m H') (ha : ∀ a ∈ m, H' a = H a) : RC K mg av m H' cs :=
  ⟨c.sub, fun a h => e.there a (c.trk a h), c.len, c.nd, fun n a d h1 h2 => (c.ok n a d h1 h2).mono c.sub e (ha a (List.mem_of_getElem? h1))⟩
theorem Ext.fresh {p : Addr} {o : HO} (hp : H p = none) : Ext av m H av m (upd H p o) :=
  ⟨⟨[], by simp, by simp, fun _ h => nomatch h⟩, fun b u h _ => by rw [upd_ne (ne_of_none h hp)]; exact h, fun b h => by
    by_cases e : b = p
    · subst e; rw [upd_same]; simp
    · rw [upd_ne e]; exact h, fun b o u h => by rw [upd_ne (ne_of_none h hp)]; exact h⟩
theorem RC.fresh {p : Addr} {o : HO} (c : RC K mg av m H cs) (hp : H p = none) : RC K mg av m (upd H p o) cs :=
  c.ext (Ext.fresh hp) fun a h => upd_ne fun e => by subst e; exact c.trk a (c.sub a h) hp
theorem RC.notin {p : Addr} (c : RC K mg av m H cs) (hp : H p = none) : p ∉ av := fun h => c.trk p h hp
theorem RL.fresh {p : Addr} {o : HO} {xs : List V} {ds : List D} (c : RC K mg av m H cs) (hp : H p = none) (r : RL K av m H xs ds) : RL K av m (upd H p o) xs ds := r.mono c.sub (Ext.fresh hp)
/-- a new list, tuple, as a value -/
theorem PostE.newL {EX : XK} {Q : VK} {ds : List D} {xs : List V} {p : Addr} (c : RC K mg av m H cs) (q : PostE K mg av m H EX Q (.ok (.lst ds) cs)) (hp : H p = none) (r : RL K av m H xs ds) : Q (.ref p) (upd H p (.lst xs)) :=
  q av m _ _ (Ext.fresh hp) (c.fresh hp) (.lst upd_same (c.notin hp) (r.fresh c hp))
theorem PostE.newT {EX : XK} {Q : VK} {ds : List D} {xs : List V} {p : Addr} (c : RC K mg av m H cs) (q : PostE K mg av m H EX Q (.ok (.tup ds) cs)) (hp : H p = none) (r : RL K av m H xs ds) : Q (.ref p) (upd H p (.tup xs)) :=
  q av m _ _ (Ext.fresh hp) (c.fresh hp) (.tup upd_same (c.notin hp) (r.fresh c hp))
/-- a new cell -/
theorem RC.cell {p : Addr} {o : HO} {d : C} (c : RC K mg av m H cs) (hp : H p = none) (hd : CellOk K mg (av ++ [p]) (m ++ [p]) (upd H p o) p d) :
    Ext av m H (av ++ [p]) (m ++ [p]) (upd H p o) ∧ RC K mg (av ++ [p]) (m ++ [p]) (upd H p o) (cs ++ [d]) := by
  have e : Ext av m H (av ++ [p]) (m ++ [p]) (upd H p o) := by
    refine ⟨⟨[p], rfl, rfl, fun a h => by rw [List.mem_singleton.mp h]; exact hp⟩, (Ext.fresh (av := av) (m := m) hp).keep, (Ext.fresh (av := av) (m := m) hp).there, (Ext.fresh (av := av) (m := m) hp).fz⟩
  have np : p ∉ m := fun h => c.trk p (c.sub p h) hp
  refine ⟨e, fun a h => ?_, fun a h => ?_, by simp [c.len], ?_, fun n a u h1 h2 => ?_⟩
  · rcases List.mem_append.mp h with h | h
    · exact List.mem_append_left _ (c.sub a h)
    · exact List.mem_append_right _ h
  · rcases List.mem_append.mp h with h | h
    · exact e.there a (c.trk a h)
    · rw [List.mem_singleton.mp h, upd_same]; simp
  · exact List.nodup_append.mpr ⟨c.nd, by simp, fun a h b h' z => by rw [List.mem_singleton.mp h'] at z; exact np (z ▸ h)⟩
  · by_cases hn : n < m.length
    · rw [List.getElem?_append_left hn] at h1
      rw [List.getElem?_append_left (by rw [← c.len]; exact hn)] at h2
      exact (c.ok n a u h1 h2).mono c.sub e (upd_ne fun z => np (z ▸ List.mem_of_getElem? h1))
    · have hl := (List.getElem?_eq_some_iff.mp h1).1
      rw [List.length_append, List.length_singleton] at hl
      have en : n = m.length := by omega
      subst en
      rw [List.getElem?_append_right (Nat.le_refl _)] at h1
      rw [c.len, List.getElem?_append_right (Nat.le_refl _)] at h2
      simp at h1 h2
      subst h1; subst h2
      exact hd
/-- a cell written -/
theorem RC.put {n : Nat} {a : Addr} {o : HO} {d : C} (c : RC K mg av m H cs) (hn : m[n]? = some a) (hd : CellOk K mg av m (upd H a o) a d) (hz : ∀ o u, H a ≠ some (.frz o u) := by (intro o u z; simp [*] at z; done)) :
    Ext av m H av m (upd H a o) ∧ RC K mg av m (upd H a o) (cs.set n d) := by
  have ham : a ∈ m := List.mem_of_getElem? hn
  have e : Ext av m H av m (upd H a o) := by
    refine ⟨⟨[], by simp, by simp, fun _ h => nomatch h⟩, fun b u h hb => (upd_ne fun z => hb (by rw [z]; exact ham)).trans h, fun b h => ?_, fun b o u h => (upd_ne fun z => hz o u (by rw [← z]; exact h)).trans h⟩
    by_cases z : b = a
    · subst z; rw [upd_same]; simp
    · rw [upd_ne z]; exact h
  refine ⟨e, c.sub, fun b h => e.there b (c.trk b h), by rw [List.length_set]; exact c.len, c.nd, fun k b u h1 h2 => ?_⟩
  by_cases hk : n = k
  · subst hk
    rw [hn] at h1; cases h1
    have hl : n < cs.length := by rw [← c.len]; exact (List.getElem?_eq_some_iff.mp hn).1
    rw [List.getElem?_set_self hl] at h2; cases h2
    exact hd
  · rw [List.getElem?_set_ne hk] at h2
    refine (c.ok k b u h1 h2).mono c.sub e (upd_ne fun z => hk ?_)
    subst z
    obtain ⟨l1, e1⟩ := List.getElem?_eq_some_iff.mp hn
    obtain ⟨l2, e2⟩ := List.getElem?_eq_some_iff.mp h1
    exact (List.getElem_inj c.nd).mp (e1.trans e2.symm)

/-! ### views -/
/-- a list to be read -/
def asL (cs : List C) : D → Option (List D)
  | .lst xs => some xs
  | .fro xs => some xs
  | .cell n => match cs[n]? with
    | some (.lst xs) => some xs
    | _ => none
  | _ => none
def asT : D → Option (List D)
  | .tup xs => some xs
  | _ => none
theorem asL_ok {v : V} {d : D} {ds : List D} (c : RC K mg av m H cs) (r : R K av m H v d) (h : asL cs d = some ds) : ∃ a xs, v = .ref a ∧ SqL K H a xs ∧ RL K av m H xs ds := by
  cases r with
  | lst h1 _ l => cases (show some _ = some ds from h); exact ⟨_, _, rfl, SqL.of h1, l⟩
  | fro h1 l =>
    cases (show some _ = some ds from h)
    rcases h1 with ⟨⟨o, q⟩, _⟩ | q
    · exact ⟨_, _, rfl, .inl (.inr ⟨o, q⟩), l⟩
    · exact ⟨_, _, rfl, q H, l⟩
  | @cell n a hn =>
    simp only [asL] at h
    split at h
    · rename_i xs hx
      cases h
      obtain ⟨ys, q, l⟩ := c.ok n a _ hn hx
      exact ⟨_, _, rfl, SqL.of q, l⟩
    · cases h
  | _ => simp [asL] at h
/-- .. that is tracked -/
def asLm (cs : List C) : D → Option (List D)
  | .lst xs => some xs
  | .cell n => match cs[n]? with
    | some (.lst xs) => some xs
    | _ => none
  | _ => none
theorem asLm_ok {v : V} {d : D} {ds : List D} (c : RC K mg av m H cs) (r : R K av m H v d) (h : asLm cs d = some ds) : ∃ a xs, v = .ref a ∧ H a = some (.lst xs) ∧ RL K av m H xs ds := by
  cases r with
  | lst h1 _ l => cases (show some _ = some ds from h); exact ⟨_, _, rfl, h1, l⟩
  | @cell n a hn =>
    simp only [asLm] at h
    split at h
    · rename_i xs hx
      cases h
      obtain ⟨ys, q, l⟩ := c.ok n a _ hn hx
      exact ⟨_, _, rfl, q, l⟩
    · cases h
  | _ => simp [asLm] at h
theorem asT_ok {v : V} {d : D} {ds : List D} (r : R K av m H v d) (h : asT d = some ds) : ∃ a xs, v = .ref a ∧ SqT K H a xs ∧ RL K av m H xs ds := by
  cases r with
  | tup h1 _ l => cases (show some _ = some ds from h); exact ⟨_, _, rfl, SqT.of h1, l⟩
  | tupK h1 l => cases (show some _ = some ds from h); exact ⟨_, _, rfl, h1 H, l⟩
  | _ => simp [asT] at h
theorem RL.length : ∀ {xs : List V} {ds : List D}, RL K av m H xs ds → xs.length = ds.length
  | _, _, .nil => rfl
  | _, _, .cons _ t => by rw [List.length_cons, List.length_cons, RL.length t]
theorem RL.append : ∀ {xs ys : List V} {ds es : List D}, RL K av m H xs ds → RL K av m H ys es → RL K av m H (xs ++ ys) (ds ++ es)
  | _, _, _, _, .nil, h => h
  | _, _, _, _, .cons r t, h => .cons r (RL.append t h)
theorem RL.get : ∀ {xs : List V} {ds : List D} {i : Nat} {d : D}, RL K av m H xs ds → ds[i]? = some d → ∃ v, xs[i]? = some v ∧ R K av m H v d
  | _, _, _, _, .nil, h => by simp at h
  | _, _, 0, _, .cons r _, h => by simp at h; subst h; exact ⟨_, rfl, r⟩
  | _, _, i + 1, _, .cons _ t, h => by simp at h; obtain ⟨v, q, r⟩ := RL.get t h; exact ⟨v, by simpa using q, r⟩
theorem RL.take : ∀ {xs : List V} {ds : List D} (n : Nat), RL K av m H xs ds → RL K av m H (xs.take n) (ds.take n)
  | _, _, 0, _ => .nil
  | _, _, _ + 1, .nil => .nil
  | _, _, n + 1, .cons r t => .cons r (RL.take n t)
theorem RL.drop : ∀ {xs : List V} {ds : List D} (n : Nat), RL K av m H xs ds → RL K av m H (xs.drop n) (ds.drop n)
  | _, _, 0, r => r
  | _, _, _ + 1, .nil => .nil
  | _, _, n + 1, .cons _ t => RL.drop n t
theorem RL.set : ∀ {xs : List V} {ds : List D} {v : V} {d : D} (n : Nat), RL K av m H xs ds → R K av m H v d → RL K av m H (xs.set n v) (ds.set n d)
  | _, _, _, _, _, .nil, _ => .nil
  | _, _, _, _, 0, .cons _ t, h => .cons h t
  | _, _, _, _, n + 1, .cons r t, h => .cons r (RL.set n t h)
theorem RL.rev {xs : List V} {ds : List D} (r : RL K av m H xs ds) : RL K av m H xs.reverse ds.reverse := by
  have go : ∀ {xs ys : List V} {ds es : List D}, RL K av m H xs ds → RL K av m H ys es → RL K av m H (xs.reverse ++ ys) (ds.reverse ++ es) := by
    intro xs
    induction xs with
    | nil => intro ys ds es h1 h2; cases h1; exact h2
    | cons x xs ih =>
      intro ys ds es h1 h2
      cases h1 with
      | cons r t =>
        rw [List.reverse_cons, List.reverse_cons, List.append_assoc, List.append_assoc]
        exact ih t (.cons r h2)
  have := go r (.nil (K := K) (av := av) (m := m) (H := H))
  simpa using this
theorem RL.rep {xs : List V} {ds : List D} (r : RL K av m H xs ds) : ∀ k : Nat, RL K av m H (List.replicate k xs).flatten (List.replicate k ds).flatten
  | 0 => .nil
  | k + 1 => by
    rw [List.replicate_succ, List.replicate_succ, List.flatten_cons, List.flatten_cons]
    exact r.append (RL.rep r k)
end

/-! ### names, constants -/
def gVar (i : Nat) : Gx := fun env cs => match env[i]? with
  | some (some d) => .ok d cs
  | _ => .bad
def gC (d : D) : Gx := fun _ cs => .ok d cs
section
variable {X : Cx} {EX : XK}
theorem de_var (i : Nat) {x : Str} {pos : Pos} (hN : X.N[i]? = some x := by rfl) (hv : Vis X.env.scope x := by first | exact Or.inl rfl | exact Or.inr (Or.inl rfl) | exact Or.inr (Or.inr rfl)) (hd : (x == ("__debug__" : Str)) = false := by decide)
    (hcd : (x == ("__classdict__" : Str)) = false := by decide) : DE X EX (.Name x pos) (gVar i) := by
  refine ⟨_, pe_var (i := i) hN hv hd hcd, fun av m H σ env cs Q c s p => ?_⟩
  unfold gVar at p
  split at p
  · rename_i d hd
    obtain ⟨v, h1, h2⟩ := s.2 i d hd
    exact ⟨v, h1, p.here c h2⟩
  · exact p.elim
theorem de_int {i j pos} : DE X EX (.Constant (.int i) j pos) (gC (.int i)) := ⟨_, pe_int, fun _ _ _ _ _ _ _ c _ p => p.here c (.int i)⟩
theorem de_bl {b j pos} : DE X EX (.Constant (.bool b) j pos) (gC (.bl b)) := ⟨_, pe_bl, fun _ _ _ _ _ _ _ c _ p => p.here c (.bl b)⟩
theorem de_non {j pos} : DE X EX (.Constant .none j pos) (gC .non) := ⟨_, pe_non, fun _ _ _ _ _ _ _ c _ p => p.here c .non⟩
theorem de_str {x j pos} : DE X EX (.Constant (.str x) j pos) (gC (.str x)) := ⟨_, pe_str, fun _ _ _ _ _ _ _ c _ p => p.here c (.str x)⟩
/-- a module's constant -/
theorem de_glob {x : Str} {pos : Pos} {u : Value} {v : V} {d : D} (hg : Gl X x) (hm : X.mg x = some u) (r : RelV v u) (h : ∀ av m H, R X.K av m H v d) (hdb : (x == ("__debug__" : Str)) = false := by decide) : DE X EX (.Name x pos) (gC d) :=
  ⟨_, pe_glob hg hm r hdb, fun _ _ _ _ _ _ _ c _ p => p.here c (h _ _ _)⟩

/-! ### two-place operations -/
def OpD (K : PySem.W.Frag) (mg : Str → Option Value) (EX : XK) (r : R2) (f : D → D → List C → Out D) : Prop :=
  ∀ (av m : List Addr) (H : Hp) (cs : List C) (x y : V) (dx dy : D) (Q : VK), RC K mg av m H cs → R K av m H x dx → R K av m H y dy → PostE K mg av m H EX Q (f dx dy cs) → r x y H Q
def g2 (f : D → D → List C → Out D) (ga gb : Gx) : Gx := fun env cs => (ga env cs).bind fun x cs => (gb env cs).bind fun y cs => f x y cs
theorem te_op {r : R2} {f : D → D → List C → Out D} {ta tb : TE} {ga gb : Gx} {K : PySem.W.Frag} {mg : Str → Option Value} (hd : OpD K mg EX r f) (ha : TeOk K mg EX ta ga) (hb : TeOk K mg EX tb gb) : TeOk K mg EX (tOp r ta tb) (g2 f ga gb) := by
  intro av m H σ env cs Q c s p
  refine ha av m H σ env cs _ c s (PostE.bind p fun d cs1 av1 m1 H1 v e1 c1 r1 p1 => ?_)
  have s1 := s.mono c.sub e1
  refine hb av1 m1 H1 σ env cs1 _ c1 s1 (PostE.bind p1 fun d2 cs2 av2 m2 H2 v2 e2 c2 r2 p2 => ?_)
  exact hd av2 m2 H2 cs2 v v2 d d2 Q c2 (r1.mono c1.sub e2) r2 p2
theorem de_op {op : Operator} {a b : Expr} {pos : Pos} {r : R2} {f : D → D → List C → Out D} {ga gb : Gx} (ho : OpR X (binaryOp op) r) (hd : OpD X.K X.mg EX r f) (ha : DE X EX a ga) (hb : DE X EX b gb) : DE X EX (.BinOp a op b pos) (g2 f ga gb) := by
  obtain ⟨ta, ha, ka⟩ := ha
  obtain ⟨tb, hb, kb⟩ := hb
  exact ⟨_, pe_op ho ha hb, te_op hd ka kb⟩
theorem de_cmp {op : CmpOp} {a b : Expr} {pos : Pos} {r : R2} {f : D → D → List C → Out D} {ga gb : Gx} (ho : OpR X (compareOp op) r) (hd : OpD X.K X.mg EX r f) (ha : DE X EX a ga) (hb : DE X EX b gb) (hm : behindInMarks op b = false) : DE X EX (.Compare a [op] [b] pos) (g2 f ga gb) := by
  obtain ⟨ta, ha, ka⟩ := ha
  obtain ⟨tb, hb, kb⟩ := hb
  exact ⟨_, pe_cmpR ho ha hb hm, te_op hd ka kb⟩

/-- two ints -/
def fI (P : Int → Int → Bool) (g : Int → Int → D) : D → D → List C → Out D
  | .int i, .int j, cs => if P i j then .ok (g i j) cs else .bad
  | _, _, _ => .bad
def vInt (g : Int → Int → Int) : Int → Int → V := fun i j => .int (g i j)
theorem od_I {K : PySem.W.Frag} {mg : Str → Option Value} {P : Int → Int → Prop} {p : Int → Int → Bool} {g : Int → Int → V} {gd : Int → Int → D} (hP : ∀ i j, p i j = true → P i j) (hg : ∀ av m H i j, R K av m H (g i j) (gd i j)) : OpD K mg EX (rI P g) (fI p gd) := by
  intro av m H cs x y dx dy Q c rx ry q
  cases rx <;> (try exact q.elim)
  cases ry <;> (try exact q.elim)
  rename_i i j
  simp only [fI] at q
  split at q
  · rename_i h
    exact ⟨i, j, rfl, rfl, hP i j h, q.here c (hg ..)⟩
  · exact q.elim
theorem od_I0 {K : PySem.W.Frag} {mg : Str → Option Value} {g : Int → Int → V} {gd : Int → Int → D} (hg : ∀ av m H i j, R K av m H (g i j) (gd i j)) : OpD K mg EX (rI0 g) (fI (fun _ _ => true) gd) := by
  intro av m H cs x y dx dy Q c rx ry q
  cases rx <;> (try exact q.elim)
  cases ry <;> (try exact q.elim)
  rename_i i j
  simp only [fI] at q
  exact ⟨i, j, rfl, rfl, q.here c (hg ..)⟩
end
end Dm
set_option linter.all false
set_option maxRecDepth 100000
set_option maxHeartbeats 1000000
/-! Dm: operators by kind, comparisons, tests, displays, items, slices. -/
namespace Dm
open PySem L2
section
variable {X : Cx} {EX : XK} {K : PySem.W.Frag} {mg : Str → Option Value}

/-! ### + -/
theorem op_catS : OpR X (binaryOp .Add) (fun x y H Q => ∃ l b xs zs, x = .ref l ∧ y = .ref b ∧ SqL X.K H l xs ∧ SqL X.K H b zs ∧ xs.length + zs.length ≤ sizeLine ∧ ∀ p, H p = none → Q (.ref p) (upd H p (.lst (xs ++ zs)))) := by
  intro pins s σ H x y v u Q I rx ry h
  obtain ⟨l, b, xs, zs, rfl, rfl, h1, h2, hz, q⟩ := h
  cases rx
  cases ry
  obtain ⟨its, r1, ⟨o1, n1, g1, c1, _, d1⟩, _⟩ := I.list h1
  obtain ⟨jts, r2, ⟨o2, n2, g2, c2, _, d2⟩, _⟩ := I.list h2
  obtain ⟨k1, e1, f1, s1⟩ := o1
  obtain ⟨k2, e2, f2, s2⟩ := o2
  simp only at c1 d1 c2 d2
  subst c1 d1 c2 d2
  have hsz : its.toArray.size + jts.toArray.size ≤ sizeLine := by
    rw [List.size_toArray, List.size_toArray, ← r1.length, ← r2.length]; exact hz
  refine concat_meets ⟨_, g1, rfl⟩ ⟨_, g2, rfl⟩ noFill_list_add seq_list_add PySem.F.slot_list_add PySem.F.entry_list_add
    (PySem.F.args_list_add_2 _ _) (PyProof.Rows.list_addW l b its.toArray jts.toArray n1 n2 e1 e2 s1 s2 hsz) ⟨g1, g2, ?_⟩
  have ea : its.toArray ++ jts.toArray = (its ++ jts).toArray := by simp
  rw [ea]
  exact ⟨.ref _, _, I.lnew (t' := s.toks) (r1.append r2) (by rw [List.length_append]; exact hz), rfl, q _ I.fresh⟩

def addD : D → D → List C → Out D
  | .int i, .int j, cs => .ok (.int (i + j)) cs
  | .str a, .str b, cs => if a.length + b.length ≤ sizeLine then .ok (.str (a ++ b)) cs else .bad
  | dx, dy, cs => match asL cs dx, asL cs dy with
    | some xs, some ys => if xs.length + ys.length ≤ sizeLine then .ok (.lst (xs ++ ys)) cs else .bad
    | _, _ => match asT dx, asT dy with
      | some (x :: xs), some (y :: ys) => if (x :: xs).length + (y :: ys).length ≤ sizeLine then .ok (.tup ((x :: xs) ++ (y :: ys))) cs else .bad
      | _, _ => .bad
def rAddD (K : PySem.W.Frag) : R2 := fun x y H Q => (rI0 (fun i j => .int (i + j)) x y H Q) ∨ (∃ i j, x = .str i ∧ y = .str j ∧ i.length + j.length ≤ sizeLine ∧ Q (.str (i ++ j)) H) ∨
  (∃ l b xs zs, x = .ref l ∧ y = .ref b ∧ SqL K H l xs ∧ SqL K H b zs ∧ xs.length + zs.length ≤ sizeLine ∧ ∀ p, H p = none → Q (.ref p) (upd H p (.lst (xs ++ zs)))) ∨ rCatT K x y H Q
theorem op_addD : OpR X (binaryOp .Add) (rAddD X.K) := OpR.or op_add (OpR.or op_add_str (OpR.or op_catS op_catT))
theorem addD_seq {av m : List Addr} {H : Hp} {cs : List C} {x y : V} {dx dy : D} {Q : VK} (c : RC K mg av m H cs) (rx : R K av m H x dx) (ry : R K av m H y dy)
    (q : PostE K mg av m H EX Q (match asL cs dx, asL cs dy with
    | some xs, some ys => if xs.length + ys.length ≤ sizeLine then .ok (.lst (xs ++ ys)) cs else .bad
    | _, _ => match asT dx, asT dy with
      | some (x :: xs), some (y :: ys) => if (x :: xs).length + (y :: ys).length ≤ sizeLine then .ok (.tup ((x :: xs) ++ (y :: ys))) cs else .bad
      | _, _ => .bad)) : rAddD K x y H Q := by
  split at q
  · rename_i xs ys h1 h2
    obtain ⟨a, vs, rfl, s1, l1⟩ := asL_ok c rx h1
    obtain ⟨b, us, rfl, s2, l2⟩ := asL_ok c ry h2
    split at q
    · rename_i hz
      exact .inr (.inr (.inl ⟨a, b, vs, us, rfl, rfl, s1, s2, by rw [l1.length, l2.length]; exact hz, fun p hp => q.newL c hp (l1.append l2)⟩))
    · exact q.elim
  · split at q
    · rename_i x0 xs y0 ys h1 h2
      obtain ⟨a, vs, rfl, s1, l1⟩ := asT_ok rx h1
      obtain ⟨b, us, rfl, s2, l2⟩ := asT_ok ry h2
      split at q
      · rename_i hz
        refine .inr (.inr (.inr ⟨a, b, vs, us, rfl, rfl, s1, s2, ?_, by rw [l1.length, l2.length]; exact hz, ?_, fun _ p hp => q.newT c hp (l1.append l2)⟩))
        · rintro rfl; cases l1
        · rintro rfl; cases l2
      · exact q.elim
    · exact q.elim
theorem od_add : OpD K mg EX (rAddD K) addD := by
  intro av m H cs x y dx dy Q c rx ry q
  unfold addD at q
  split at q
  · cases rx; cases ry
    exact .inl ⟨_, _, rfl, rfl, q.here c (.int _)⟩
  · cases rx; cases ry
    split at q
    · rename_i hz
      exact .inr (.inl ⟨_, _, rfl, rfl, hz, q.here c (.str _)⟩)
    · exact q.elim
  · exact addD_seq c rx ry q
theorem de_add {a b : Expr} {pos : Pos} {ga gb : Gx} (ha : DE X EX a ga) (hb : DE X EX b gb) : DE X EX (.BinOp a .Add b pos) (g2 addD ga gb) := de_op op_addD od_add ha hb

/-! ### -, *, //, %, ** -/
def subD : D → D → List C → Out D := fI (fun _ _ => true) (fun i j => .int (i - j))
theorem de_sub {a b : Expr} {pos : Pos} {ga gb : Gx} (ha : DE X EX a ga) (hb : DE X EX b gb) : DE X EX (.BinOp a .Sub b pos) (g2 subD ga gb) := de_op op_sub (od_I0 fun _ _ _ _ _ => .int _) ha hb
def divOk (_ j : Int) : Bool := decide (0 < j ∧ j.natAbs.log2 < 9000)
def divD : D → D → List C → Out D := fI divOk (fun i j => .int (i / j))
theorem de_div {a b : Expr} {pos : Pos} {ga gb : Gx} (ha : DE X EX a ga) (hb : DE X EX b gb) : DE X EX (.BinOp a .FloorDiv b pos) (g2 divD ga gb) := de_op op_fdivW (od_I (fun i j h => of_decide_eq_true (p := 0 < j ∧ j.natAbs.log2 < 9000) h) fun _ _ _ _ _ => .int _) ha hb
def modOk (_ j : Int) : Bool := decide (0 < j)
def modD : D → D → List C → Out D := fI modOk (fun i j => .int (i % j))
theorem de_mod {a b : Expr} {pos : Pos} {ga gb : Gx} (ha : DE X EX a ga) (hb : DE X EX b gb) : DE X EX (.BinOp a .Mod b pos) (g2 modD ga gb) := de_op op_mod (od_I (fun _ _ h => of_decide_eq_true h) fun _ _ _ _ _ => .int _) ha hb
def powOk (i j : Int) : Bool := decide (0 ≤ j ∧ ((i.natAbs.log2 + 1 : Nat) : Int) * j ≤ 2 ^ 27)
def powD : D → D → List C → Out D := fI powOk (fun i j => .int (i ^ j.toNat))
theorem op_powW : OpR X (binaryOp .Pow) (rI (fun i j => 0 ≤ j ∧ ((i.natAbs.log2 + 1 : Nat) : Int) * j ≤ 2 ^ 27) fun i j => .int (i ^ j.toNat)) := opI fun i j _ _ _ _ _ hc q => by
  refine PyProof.Rows.pow_int hc.1 (Int.le_trans (Int.mul_le_mul_of_nonneg_right ?_ hc.1) hc.2) q
  have : Builtin.Int.intBits i ≤ i.natAbs.log2 + 1 := by unfold Builtin.Int.intBits; split <;> omega
  exact_mod_cast this
theorem de_pow {a b : Expr} {pos : Pos} {ga gb : Gx} (ha : DE X EX a ga) (hb : DE X EX b gb) : DE X EX (.BinOp a .Pow b pos) (g2 powD ga gb) := de_op op_powW (od_I (fun _ _ h => of_decide_eq_true h) fun _ _ _ _ _ => .int _) ha hb
def mulOk (i j : Int) : Bool := decide (i.natAbs.log2 + j.natAbs.log2 < 1000000)
def mulD : D → D → List C → Out D
  | .int i, .int j, cs => if mulOk i j then .ok (.int (i * j)) cs else .bad
  | dx, .int k, cs => match asLm cs dx with
    | some xs => if k < 2 ^ 20 ∧ -(2 ^ 20) < k ∧ xs.length * k.toNat ≤ sizeLine then .ok (.lst (List.replicate k.toNat xs).flatten) cs else .bad
    | none => .bad
  | _, _, _ => .bad
theorem od_mul : OpD K mg EX (fun x y H Q => rI CMulW (fun i j => .int (i * j)) x y H Q ∨ rRep x y H Q) mulD := by
  intro av m H cs x y dx dy Q c rx ry q
  unfold mulD at q
  split at q
  · cases rx; cases ry
    split at q
    · rename_i h
      exact .inl ⟨_, _, rfl, rfl, (of_decide_eq_true h : _ + _ < 1000000), q.here c (.int _)⟩
    · exact q.elim
  · cases ry
    split at q
    · rename_i xs h
      obtain ⟨a, vs, rfl, s1, l1⟩ := asLm_ok c rx h
      split at q
      · rename_i hz
        refine .inr ⟨a, _, vs, rfl, rfl, s1, by omega, by omega, by rw [l1.length]; exact hz.2.2, fun p hp => q.newL c hp (l1.rep _)⟩
      · exact q.elim
    · exact q.elim
  · exact q.elim
theorem de_mul {a b : Expr} {pos : Pos} {ga gb : Gx} (ha : DE X EX a ga) (hb : DE X EX b gb) : DE X EX (.BinOp a .Mult b pos) (g2 mulD ga gb) := de_op (OpR.or op_mulW op_rep) od_mul ha hb

/-! ### comparisons -/
def ltD : D → D → List C → Out D := fI (fun _ _ => true) (fun i j => .bl (decide (i < j)))
def leD : D → D → List C → Out D := fI (fun _ _ => true) (fun i j => .bl (decide (i ≤ j)))
def gtD : D → D → List C → Out D := fI (fun _ _ => true) (fun i j => .bl (decide (j < i)))
def geD : D → D → List C → Out D := fI (fun _ _ => true) (fun i j => .bl (decide (j ≤ i)))
theorem od_lt : OpD K mg EX (rI0 fun i j => .bl (decide (i < j))) ltD := od_I0 fun _ _ _ _ _ => .bl _
theorem od_le : OpD K mg EX (rI0 fun i j => .bl (decide (i ≤ j))) leD := od_I0 fun _ _ _ _ _ => .bl _
theorem od_gt : OpD K mg EX (rI0 fun i j => .bl (decide (j < i))) gtD := od_I0 fun _ _ _ _ _ => .bl _
theorem od_ge : OpD K mg EX (rI0 fun i j => .bl (decide (j ≤ i))) geD := od_I0 fun _ _ _ _ _ => .bl _
section
variable {a b : Expr} {pos : Pos} {ga gb : Gx} (ha : DE X EX a ga) (hb : DE X EX b gb)
include ha hb
theorem de_lt : DE X EX (.Compare a [.Lt] [b] pos) (g2 ltD ga gb) := de_cmp op_lt od_lt ha hb (nomark _)
theorem de_le : DE X EX (.Compare a [.LtE] [b] pos) (g2 leD ga gb) := de_cmp op_le od_le ha hb (nomark _)
theorem de_gt : DE X EX (.Compare a [.Gt] [b] pos) (g2 gtD ga gb) := de_cmp op_gt od_gt ha hb (nomark _)
theorem de_ge : DE X EX (.Compare a [.GtE] [b] pos) (g2 geD ga gb) := de_cmp op_ge od_ge ha hb (nomark _)
end
def isNon : D → Bool
  | .non => true
  | _ => false
def isD (neg : Bool) : D → D → List C → Out D := fun dx dy cs => if isNon dy then .ok (.bl (if neg then !isNon dx else isNon dx)) cs else .bad
theorem R.non_iff {av m : List Addr} {H : Hp} {v : V} {d : D} (r : R K av m H v d) : decide (v = .non) = isNon d := by cases r <;> rfl
theorem R.eq_non {av m : List Addr} {H : Hp} {v : V} {d : D} (r : R K av m H v d) (h : isNon d = true) : v = .non := by
  have := r.non_iff
  rw [h] at this
  exact of_decide_eq_true this
theorem de_is {a b : Expr} {pos : Pos} {ga gb : Gx} (ha : DE X EX a ga) (hb : DE X EX b gb) : DE X EX (.Compare a [.Is] [b] pos) (g2 (isD false) ga gb) :=
  de_cmp op_isN (fun av m H cs x y dx dy Q c rx ry q => by
    unfold isD at q
    split at q
    · rename_i h
      refine ⟨ry.eq_non h, ?_⟩
      rw [rx.non_iff]
      exact q.here c (.bl _)
    · exact q.elim) ha hb (nomark _)
theorem de_isnot {a b : Expr} {pos : Pos} {ga gb : Gx} (ha : DE X EX a ga) (hb : DE X EX b gb) : DE X EX (.Compare a [.IsNot] [b] pos) (g2 (isD true) ga gb) :=
  de_cmp op_notN (fun av m H cs x y dx dy Q c rx ry q => by
    unfold isD at q
    split at q
    · rename_i h
      refine ⟨ry.eq_non h, ?_⟩
      rw [rx.non_iff]
      exact q.here c (.bl _)
    · exact q.elim) ha hb (nomark _)

/-! ### in: flat values -/
def eqF : D → D → Option Bool
  | .non, .non => some true
  | .bl a, .bl b => some (a == b)
  | .bl a, .int b => some ((if a then 1 else 0) == b)
  | .int a, .bl b => some (a == (if b then 1 else 0))
  | .int a, .int b => some (a == b)
  | .str a, .str b => some (a == b)
  | .non, .bl _ | .non, .int _ | .non, .str _ | .bl _, .non | .int _, .non | .str _, .non => some false
  | .bl _, .str _ | .str _, .bl _ | .int _, .str _ | .str _, .int _ => some false
  | _, _ => none
theorem eqF_ok {av m : List Addr} {H : Hp} {x y : V} {dx dy : D} {b : Bool} (rx : R K av m H x dx) (ry : R K av m H y dy) (h : eqF dx dy = some b) : flatV x = true ∧ flatV y = true ∧ eqV x y = b := by
  cases rx <;> cases ry <;> first
    | (refine ⟨rfl, rfl, ?_⟩; exact Option.some.inj h)
    | exact absurd h (by simp [eqF])
def anyF (d : D) : List D → Option Bool
  | [] => some false
  | e :: es => match eqF e d, anyF d es with
    | some b, some c => some (b || c)
    | _, _ => none
def flatD : D → Bool
  | .non | .bl _ | .int _ | .str _ => true
  | _ => false
theorem R.flat {av m : List Addr} {H : Hp} {v : V} {d : D} (r : R K av m H v d) : flatV v = flatD d := by cases r <;> rfl
theorem anyF_ok {av m : List Addr} {H : Hp} {x : V} {d : D} (rx : R K av m H x d) : ∀ {vs : List V} {es : List D} {b : Bool}, RL K av m H vs es → anyF d es = some b → vs.all flatV = true ∧ inV x vs = b
  | _, _, _, .nil, h => by simp [anyF] at h; subst h; exact ⟨rfl, rfl⟩
  | _, _, b, .cons (v := v) (vs := vs) r t, h => by
    simp only [anyF] at h
    split at h
    · rename_i b1 c1 h1 h2
      cases h
      obtain ⟨f1, f2, f3⟩ := eqF_ok r rx h1
      obtain ⟨g1, g2⟩ := anyF_ok rx t h2
      refine ⟨by rw [List.all_cons, f1, g1]; rfl, ?_⟩
      show (v :: vs).any (fun y => eqV y x) = _
      rw [List.any_cons, f3]
      exact congrArg _ g2
    · cases h
def asS (cs : List C) (d : D) : Option (List D) := match asL cs d with
  | some xs => some xs
  | none => asT d
theorem asS_ok {av m : List Addr} {H : Hp} {cs : List C} {v : V} {d : D} {ds : List D} (c : RC K mg av m H cs) (r : R K av m H v d) (h : asS cs d = some ds) : ∃ a xs, v = .ref a ∧ (SqL K H a xs ∨ SqT K H a xs) ∧ RL K av m H xs ds := by
  unfold asS at h
  split at h
  · rename_i xs e
    cases h
    obtain ⟨a, xs, e1, e2, e3⟩ := asL_ok c r e
    exact ⟨a, xs, e1, .inl e2, e3⟩
  · obtain ⟨a, xs, e1, e2, e3⟩ := asT_ok r h
    exact ⟨a, xs, e1, .inr e2, e3⟩
def inD (neg : Bool) : D → D → List C → Out D := fun dx dy cs => match asS cs dy with
  | some ys => if flatD dx then (match anyF dx ys with
    | some b => .ok (.bl (if neg then !b else b)) cs
    | none => .bad) else .bad
  | none => .bad
theorem od_in (neg : Bool) : OpD K mg EX (rIn K neg) (inD neg) := by
  intro av m H cs x y dx dy Q c rx ry q
  unfold inD at q
  split at q
  · rename_i ys h
    split at q
    · rename_i hf
      split at q
      · rename_i b hb
        obtain ⟨a, vs, rfl, hs, l⟩ := asS_ok c ry h
        obtain ⟨g1, g2⟩ := anyF_ok rx l hb
        refine ⟨a, vs, rfl, hs, by rw [rx.flat]; exact hf, g1, ?_⟩
        rw [g2]
        exact q.here c (.bl _)
      · exact q.elim
    · exact q.elim
  · exact q.elim
theorem de_in {a b : Expr} {pos : Pos} {ga gb : Gx} (ha : DE X EX a ga) (hb : DE X EX b gb) (hm : behindInMarks .In b = false := by first | exact nomark _ | rfl) : DE X EX (.Compare a [.In] [b] pos) (g2 (inD false) ga gb) := de_cmp op_in_seq (od_in false) ha hb hm
theorem de_notin {a b : Expr} {pos : Pos} {ga gb : Gx} (ha : DE X EX a ga) (hb : DE X EX b gb) (hm : behindInMarks .NotIn b = false := by first | exact nomark _ | rfl) : DE X EX (.Compare a [.NotIn] [b] pos) (g2 (inD true) ga gb) := de_cmp op_notIn_seq (od_in true) ha hb hm
end
end Dm
set_option linter.all false
set_option maxRecDepth 100000
set_option maxHeartbeats 1000000
/-! Dm: == and != at any depth, repr; tests; displays; items and slices. -/
namespace Dm
open PySem L2

/-! ### data -/
mutual
def plain : D → Bool
  | .non | .bl _ | .int _ | .str _ => true
  | .tup xs => plainL xs
  | .lst xs => plainL xs
  | .fro xs => plainL xs
  | _ => false
def plainL : List D → Bool
  | [] => true
  | x :: xs => plain x && plainL xs
end
mutual
def toPy : D → PyData
  | .non => .none
  | .bl b => .bool b
  | .int i => .int i
  | .str x => .str x
  | .tup xs => .tuple (toPyL xs)
  | .lst xs => .list (toPyL xs)
  | .fro xs => .list (toPyL xs)
  | _ => .none
def toPyL : List D → List PyData
  | [] => []
  | x :: xs => toPy x :: toPyL xs
end
def noD : D → Bool
  | .ty _ => true
  | .cell _ => true
  | .ptr _ _ => true
  | _ => false
/-- cells read out, to some depth -/
def thaw (cs : List C) : Nat → D → Option D
  | 0, _ => none
  | n + 1, .cell k => match cs[k]? with
    | some (.lst xs) => (xs.mapM (thaw cs n)).map .lst
    | _ => none
  | n + 1, .tup xs => (xs.mapM (thaw cs n)).map .tup
  | n + 1, .lst xs => (xs.mapM (thaw cs n)).map .lst
  | n + 1, .fro xs => (xs.mapM (thaw cs n)).map .fro
  | _ + 1, .dct [] => some (.dct [])
  | _ + 1, .dct _ => none
  | _ + 1, d => some d
def flatten (cs : List C) (d : D) : Option D := if plain d then some d else match thaw cs 9 d with
  | some e => if plain e then some e else none
  | none => none

section
variable {K : PySem.W.Frag} {mg : Str → Option Value} {av m : List Addr} {H : Hp} {cs : List C}
mutual
theorem R.dp : ∀ {v : V} {d : D}, R K av m H v d → plain d = true → Dp K H v (toPy d)
  | _, _, .non, _ => .non
  | _, _, .bl b, _ => .bl b
  | _, _, .int i, _ => .int i
  | _, _, .str x, _ => .str x
  | _, _, .ty _, h => absurd h (by simp [plain])
  | _, _, .ptr _, h => absurd h (by simp [plain])
  | _, _, .tup h n l, p => .tup (SqT.of h) (RL.dp l (by simpa [plain] using p))
  | _, _, .tupK h l, p => .tup (h H) (RL.dp l (by simpa [plain] using p))
  | _, _, .lst h n l, p => .lst (SqL.of h) (RL.dp l (by simpa [plain] using p))
  | _, _, .fro h l, p => .lst (by
      rcases h with ⟨⟨o, q⟩, _⟩ | q
      · exact .inl (.inr ⟨o, q⟩)
      · exact q H) (RL.dp l (by simpa [plain] using p))
  | _, _, .dct _ _ _, h => absurd h (by simp [plain])
  | _, _, .cell _, h => absurd h (by simp [plain])
theorem RL.dp : ∀ {v : List V} {d : List D}, RL K av m H v d → plainL d = true → DpAll K H v (toPyL d)
  | _, _, .nil, _ => .nil
  | _, _, .cons h t, p => by
    simp only [plainL, Bool.and_eq_true] at p
    exact .cons (R.dp h p.1) (RL.dp t p.2)
end
mutual
inductive W (K : PySem.W.Frag) (H : Hp) : V → D → Prop
  | non : W K H .non .non
  | bl (b : Bool) : W K H (.bl b) (.bl b)
  | int (i : Int) : W K H (.int i) (.int i)
  | str (x : Str) : W K H (.str x) (.str x)
  | tup {a : Addr} {xs : List V} {ds : List D} : SqT K H a xs → WL K H xs ds → W K H (.ref a) (.tup ds)
  | lst {a : Addr} {xs : List V} {ds : List D} : SqL K H a xs → WL K H xs ds → W K H (.ref a) (.lst ds)
  | fro {a : Addr} {xs : List V} {ds : List D} : SqL K H a xs → WL K H xs ds → W K H (.ref a) (.fro ds)
  | dct0 {a : Addr} : H a = some (.dK []) → W K H (.ref a) (.dct [])
  | other (v : V) (d : D) : plain d = false → noD d = true → W K H v d
inductive WL (K : PySem.W.Frag) (H : Hp) : List V → List D → Prop
  | nil : WL K H [] []
  | cons {v : V} {vs : List V} {d : D} {ds : List D} : W K H v d → WL K H vs ds → WL K H (v :: vs) (d :: ds)
end
mutual
theorem W.dp : ∀ {v : V} {d : D}, W K H v d → plain d = true → Dp K H v (toPy d)
  | _, _, .non, _ => .non
  | _, _, .bl b, _ => .bl b
  | _, _, .int i, _ => .int i
  | _, _, .str x, _ => .str x
  | _, _, .tup h l, p => .tup h (WL.dp l (by simpa [plain] using p))
  | _, _, .lst h l, p => .lst h (WL.dp l (by simpa [plain] using p))
  | _, _, .fro h l, p => .lst h (WL.dp l (by simpa [plain] using p))
  | _, _, .dct0 _, p => absurd p (by simp [plain])
  | _, _, .other _ _ h _, p => absurd p (by rw [h]; simp)
theorem WL.dp : ∀ {v : List V} {d : List D}, WL K H v d → plainL d = true → DpAll K H v (toPyL d)
  | _, _, .nil, _ => .nil
  | _, _, .cons h t, p => by
    simp only [plainL, Bool.and_eq_true] at p
    exact .cons (W.dp h p.1) (WL.dp t p.2)
end
theorem RL.thaw {n : Nat} (ih : ∀ {v : V} {d e : D}, R K av m H v d → thaw cs n d = some e → W K H v e) : ∀ {vs : List V} {ds es : List D}, RL K av m H vs ds → ds.mapM (thaw cs n) = some es → WL K H vs es
  | _, _, _, .nil, h => by simp at h; subst h; exact .nil
  | _, _, _, .cons r t, h => by
    rw [List.mapM_cons] at h
    simp only [Option.bind_eq_bind, Option.bind_eq_some_iff] at h
    obtain ⟨e1, h1, es, h2, h3⟩ := h
    cases h3
    exact .cons (ih r h1) (RL.thaw ih t h2)
theorem R.thaw (c : RC K mg av m H cs) : ∀ {n : Nat} {v : V} {d e : D}, R K av m H v d → thaw cs n d = some e → W K H v e
  | 0, _, _, _, _, h => by simp [Dm.thaw] at h
  | n + 1, v, d, e, r, h => by
    have ih : ∀ {v : V} {d e : D}, R K av m H v d → Dm.thaw cs n d = some e → W K H v e := fun r h => R.thaw c r h
    cases r with
    | non => simp only [Dm.thaw] at h; cases h; exact .non
    | bl b => simp only [Dm.thaw] at h; cases h; exact .bl b
    | int i => simp only [Dm.thaw] at h; cases h; exact .int i
    | str x => simp only [Dm.thaw] at h; cases h; exact .str x
    | ty x => simp only [Dm.thaw] at h; cases h; exact .other _ _ (by simp [plain]) rfl
    | ptr _ => simp only [Dm.thaw] at h; cases h; exact .other _ _ (by simp [plain]) rfl
    | tup h1 _ l =>
      simp only [Dm.thaw, Option.map_eq_some_iff] at h
      obtain ⟨es, h2, rfl⟩ := h
      exact .tup (SqT.of h1) (RL.thaw ih l h2)
    | tupK h1 l =>
      simp only [Dm.thaw, Option.map_eq_some_iff] at h
      obtain ⟨es, h2, rfl⟩ := h
      exact .tup (h1 H) (RL.thaw ih l h2)
    | lst h1 _ l =>
      simp only [Dm.thaw, Option.map_eq_some_iff] at h
      obtain ⟨es, h2, rfl⟩ := h
      exact .lst (SqL.of h1) (RL.thaw ih l h2)
    | fro h1 l =>
      simp only [Dm.thaw, Option.map_eq_some_iff] at h
      obtain ⟨es, h2, rfl⟩ := h
      refine .fro ?_ (RL.thaw ih l h2)
      rcases h1 with ⟨⟨o, q⟩, _⟩ | q
      · exact .inl (.inr ⟨o, q⟩)
      · exact q H
    | @dct a kvs ds h1 _ l =>
      cases l with
      | nil => simp only [Dm.thaw] at h; cases h; exact .dct0 h1
      | cons _ _ => simp only [Dm.thaw] at h; cases h
    | @cell k a hk =>
      simp only [Dm.thaw] at h
      split at h
      · rename_i xs hx
        simp only [Option.map_eq_some_iff] at h
        obtain ⟨es, h2, rfl⟩ := h
        obtain ⟨ys, q, l⟩ := c.ok k a _ hk hx
        exact .lst (SqL.of q) (RL.thaw ih l h2)
      · cases h
theorem flatten_ok {v : V} {d e : D} (c : RC K mg av m H cs) (r : R K av m H v d) (h : flatten cs d = some e) : Dp K H v (toPy e) := by
  unfold flatten at h
  split at h
  · cases h; rename_i p; exact r.dp p
  · split at h
    · rename_i e1 h1
      split at h
      · cases h; rename_i p; exact (R.thaw c r h1).dp p
      · cases h
    · cases h
end

section
variable {X : Cx} {EX : XK} {K : PySem.W.Frag} {mg : Str → Option Value}
/-- == of two simple values of kinds that the scalar rule takes -/
def eqS : D → D → Option Bool
  | .non, .non => some true
  | .non, .int _ | .int _, .non | .non, .bl _ | .bl _, .non | .non, .str _ | .str _, .non => some false
  | .int i, .int j => some (decide (i = j))
  | .bl i, .bl j => some (decide (i = j))
  | .str i, .str j => some (decide (i = j))
  | .int _, .str _ | .str _, .int _ | .bl _, .str _ | .str _, .bl _ => some false
  | _, _ => none
def shp (d : D) : Bool := SeqAt.shaped (toPy d)
def eqD (neg : Bool) : D → D → List C → Out D := fun dx dy cs => match eqS dx dy with
  | some b => .ok (.bl (if neg then !b else b)) cs
  | none => match flatten cs dx, flatten cs dy with
    | some a, some b => if shp a && shp b then .ok (.bl (if neg then !PyData.eqv (toPy a) (toPy b) else PyData.eqv (toPy a) (toPy b))) cs else .bad
    | _, _ => .bad
theorem eqS_ok {av m : List Addr} {H : Hp} {x y : V} {dx dy : D} {b : Bool} (rx : R K av m H x dx) (ry : R K av m H y dy) (h : eqS dx dy = some b) : scal x y = true ∧ decide (x = y) = b := by
  cases rx <;> cases ry <;> first
    | (refine ⟨rfl, ?_⟩; rw [← Option.some.inj h]; first | rfl | simp)
    | exact absurd h (by simp [eqS])
theorem od_eq : OpD K mg EX (fun x y H Q => rEq x y H Q ∨ rEqD K x y H Q) (eqD false) := by
  intro av m H cs x y dx dy Q c rx ry q
  unfold eqD at q
  split at q
  · rename_i b h
    obtain ⟨h1, h2⟩ := eqS_ok rx ry h
    refine .inl ⟨h1, ?_⟩
    rw [h2]
    exact q.here c (.bl _)
  · split at q
    · rename_i a b h1 h2
      split at q
      · rename_i h3
        rw [Bool.and_eq_true] at h3
        exact .inr ⟨_, _, flatten_ok c rx h1, flatten_ok c ry h2, h3.1, h3.2, q.here c (.bl _)⟩
      · exact q.elim
    · exact q.elim
theorem od_ne : OpD K mg EX (fun x y H Q => rNe x y H Q ∨ rNeD K x y H Q) (eqD true) := by
  intro av m H cs x y dx dy Q c rx ry q
  unfold eqD at q
  split at q
  · rename_i b h
    obtain ⟨h1, h2⟩ := eqS_ok rx ry h
    refine .inl ⟨h1, ?_⟩
    rw [h2]
    exact q.here c (.bl _)
  · split at q
    · rename_i a b h1 h2
      split at q
      · rename_i h3
        rw [Bool.and_eq_true] at h3
        exact .inr ⟨_, _, flatten_ok c rx h1, flatten_ok c ry h2, h3.1, h3.2, q.here c (.bl _)⟩
      · exact q.elim
    · exact q.elim
section
variable {a b : Expr} {pos : Pos} {ga gb : Gx} {k : Nat} (hr : Room k X.A) (ha : DE X EX a ga) (hb : DE X EX b gb)
include hr ha hb
theorem de_eq : DE X EX (.Compare a [.Eq] [b] pos) (g2 (eqD false) ga gb) := de_cmp (OpR.or op_eq (op_eqD hr.units)) od_eq ha hb (nomark _)
theorem de_ne : DE X EX (.Compare a [.NotEq] [b] pos) (g2 (eqD true) ga gb) := de_cmp (OpR.or op_ne (op_neD hr.units)) od_ne ha hb (nomark _)
end
section
variable {a b : Expr} {pos : Pos} {ga gb : Gx} (hu : X.A.units + 64 < cLine) (ha : DE X EX a ga) (hb : DE X EX b gb)
include hu ha hb
theorem de_eqU : DE X EX (.Compare a [.Eq] [b] pos) (g2 (eqD false) ga gb) := de_cmp (OpR.or op_eq (op_eqD hu)) od_eq ha hb (nomark _)
theorem de_neU : DE X EX (.Compare a [.NotEq] [b] pos) (g2 (eqD true) ga gb) := de_cmp (OpR.or op_ne (op_neD hu)) od_ne ha hb (nomark _)
end

/-! ### tests -/
def asB : D → List C → Out Bool
  | .bl b, cs => .ok b cs
  | _, _ => .bad
def tE (g : Gx) : Gt := fun env cs => (g env cs).bind asB
theorem R.bool {av m : List Addr} {H : Hp} {v : V} {b : Bool} (r : R K av m H v (.bl b)) : v = .bl b := by cases r; rfl
theorem dt_val {e : Expr} {g : Gx} (h : DE X EX e g) (he : ∀ whole, isTrue e X.env whole = (do let v ← whole; standAt e.pos; holding [v] (truthy v)) := by intro _; rfl) : DT X EX e (tE g) := by
  obtain ⟨t, h, k⟩ := h
  refine ⟨_, pt_val h he, fun av m H σ env cs Q c s p => k av m H σ env cs _ c s (PostE.bindT p fun d cs1 av1 m1 H1 v e1 c1 r1 p1 => ?_)⟩
  cases d with
  | bl b =>
    rw [r1.bool]
    exact ⟨b, rfl, p1 av1 m1 H1 (Ext.refl ..) c1⟩
  | _ => exact p1.elim
/-- truth of a list, a tuple, an int, None -/
def truD : D → List C → Out Bool
  | .bl b, cs => .ok b cs
  | .non, cs => .ok false cs
  | .int i, cs => .ok (i != 0) cs
  | d, cs => match asS cs d with
    | some xs => .ok (!xs.isEmpty) cs
    | none => .bad
theorem RL.empty {av m : List Addr} {H : Hp} {xs : List V} {ds : List D} (r : RL K av m H xs ds) : xs.isEmpty = ds.isEmpty := by cases r <;> rfl
theorem dt_tru {e : Expr} {g : Gx} (h : DE X EX e g) (he : ∀ whole, isTrue e X.env whole = (do let v ← whole; standAt e.pos; holding [v] (truthy v)) := by intro _; rfl) : DT X EX e (fun env cs => (g env cs).bind truD) := by
  obtain ⟨t, h, k⟩ := h
  refine ⟨_, pt_truth h he, fun av m H σ env cs Q c s p => k av m H σ env cs _ c s (PostE.bindT p fun d cs1 av1 m1 H1 v e1 c1 r1 p1 => ?_)⟩
  unfold truD at p1
  split at p1
  · rw [r1.bool]; exact ⟨_, rfl, p1 av1 m1 H1 (Ext.refl ..) c1⟩
  · cases r1; exact ⟨_, rfl, p1 av1 m1 H1 (Ext.refl ..) c1⟩
  · cases r1; exact ⟨_, rfl, p1 av1 m1 H1 (Ext.refl ..) c1⟩
  · split at p1
    · rename_i xs hx
      obtain ⟨a, vs, rfl, hs, l⟩ := asS_ok c1 r1 hx
      refine ⟨!vs.isEmpty, ?_, by rw [l.empty]; exact p1 av1 m1 H1 (Ext.refl ..) c1⟩
      rcases hs with hs | hs
      · exact .inl ⟨_, hs, rfl⟩
      · exact .inr (.inl ⟨_, hs, rfl⟩)
    · exact p1.elim
def tAndD (a b : Gt) : Gt := fun env cs => (a env cs).bind fun x cs => if x then b env cs else .ok false cs
def tOrD (a b : Gt) : Gt := fun env cs => (a env cs).bind fun x cs => if x then .ok true cs else b env cs
def tNotD (a : Gt) : Gt := fun env cs => (a env cs).bind fun x cs => .ok (!x) cs
theorem dw_and1 {a : Expr} {pos : Pos} {ga : Gt} (ha : DT X EX a ga) : DW X EX (.BoolOp .And [a] pos) ga := let ⟨_, h, k⟩ := ha; ⟨_, pw_and1 h, k⟩
theorem dw_or1 {a : Expr} {pos : Pos} {ga : Gt} (ha : DT X EX a ga) : DW X EX (.BoolOp .Or [a] pos) ga := let ⟨_, h, k⟩ := ha; ⟨_, pw_or1 h, k⟩
theorem dw_and {a b : Expr} {rest : List Expr} {pos : Pos} {ga gb : Gt} (ha : DT X EX a ga) (hb : DW X EX (.BoolOp .And (b :: rest) pos) gb) : DW X EX (.BoolOp .And (a :: b :: rest) pos) (tAndD ga gb) := by
  obtain ⟨t, h, k⟩ := ha
  obtain ⟨u, h', k'⟩ := hb
  refine ⟨_, pw_and h h', fun av m H σ env cs Q c s p => k av m H σ env cs _ c s (PostT.bindT p fun d cs1 av1 m1 H1 e1 c1 p1 => ?_)⟩
  cases d with
  | true => exact iteT (k' av1 m1 H1 σ env cs1 _ c1 (s.mono c.sub e1) p1)
  | false => exact iteF (p1 av1 m1 H1 (Ext.refl ..) c1)
theorem dw_or {a b : Expr} {rest : List Expr} {pos : Pos} {ga gb : Gt} (ha : DT X EX a ga) (hb : DW X EX (.BoolOp .Or (b :: rest) pos) gb) : DW X EX (.BoolOp .Or (a :: b :: rest) pos) (tOrD ga gb) := by
  obtain ⟨t, h, k⟩ := ha
  obtain ⟨u, h', k'⟩ := hb
  refine ⟨_, pw_or h h', fun av m H σ env cs Q c s p => k av m H σ env cs _ c s (PostT.bindT p fun d cs1 av1 m1 H1 e1 c1 p1 => ?_)⟩
  cases d with
  | true => exact iteT (p1 av1 m1 H1 (Ext.refl ..) c1)
  | false => exact iteF (k' av1 m1 H1 σ env cs1 _ c1 (s.mono c.sub e1) p1)
theorem DW.dt {e : Expr} {g : Gt} (h : DW X EX e g) : DT X EX e g := let ⟨_, h, k⟩ := h; ⟨_, h.pt, k⟩
theorem dt_not {a : Expr} {pos : Pos} {ga : Gt} (ha : DT X EX a ga) : DT X EX (.UnaryOp .Not a pos) (tNotD ga) := by
  obtain ⟨t, h, k⟩ := ha
  exact ⟨_, pt_not h, fun av m H σ env cs Q c s p => k av m H σ env cs _ c s (PostT.bindT p fun d cs1 av1 m1 H1 e1 c1 p1 => p1 av1 m1 H1 (Ext.refl ..) c1)⟩
def gIf (t : Gt) (a b : Gx) : Gx := fun env cs => (t env cs).bind fun x cs => if x then a env cs else b env cs
theorem de_if {c a b : Expr} {pos : Pos} {gc : Gt} {ga gb : Gx} (hc : DT X EX c gc) (ha : DE X EX a ga) (hb : DE X EX b gb) : DE X EX (.IfExp c a b pos) (gIf gc ga gb) := by
  obtain ⟨t, h, k⟩ := hc
  obtain ⟨ta, h1, k1⟩ := ha
  obtain ⟨tb, h2, k2⟩ := hb
  refine ⟨_, pe_ifExp h h1 h2, fun av m H σ env cs Q c s p => k av m H σ env cs _ c s (PostT.bindE p fun d cs1 av1 m1 H1 e1 c1 p1 => ?_)⟩
  cases d with
  | true => exact iteT (k1 av1 m1 H1 σ env cs1 _ c1 (s.mono c.sub e1) p1)
  | false => exact iteF (k2 av1 m1 H1 σ env cs1 _ c1 (s.mono c.sub e1) p1)
/-- and, or, not as values -/
def gAnd (a b : Gx) : Gx := fun env cs => (a env cs).bind fun x cs => match x with
  | .bl true => b env cs
  | .bl false => .ok (.bl false) cs
  | _ => .bad
def gOr (a b : Gx) : Gx := fun env cs => (a env cs).bind fun x cs => match x with
  | .bl true => .ok (.bl true) cs
  | .bl false => b env cs
  | _ => .bad
def gNot (a : Gx) : Gx := fun env cs => (a env cs).bind fun x cs => match x with
  | .bl b => .ok (.bl (!b)) cs
  | _ => .bad
theorem de_one {op : BoolOp} {a : Expr} {pos : Pos} {g : Gx} (h : DE X EX a g) : DE X EX (.BoolOp op [a] pos) g := let ⟨_, h, k⟩ := h; ⟨_, pe_one h, k⟩
theorem de_and {a b : Expr} {rest : List Expr} {pos : Pos} {ga gb : Gx} (ha : DE X EX a ga) (hb : DE X EX (.BoolOp .And (b :: rest) pos) gb) : DE X EX (.BoolOp .And (a :: b :: rest) pos) (gAnd ga gb) := by
  obtain ⟨t, h, k⟩ := ha
  obtain ⟨u, h', k'⟩ := hb
  refine ⟨_, pe_and h h', fun av m H σ env cs Q c s p => k av m H σ env cs _ c s (PostE.bind p fun d cs1 av1 m1 H1 v e1 c1 r1 p1 => ?_)⟩
  split at p1
  · rw [r1.bool]; exact ⟨true, rfl, iteT (k' av1 m1 H1 σ env cs1 _ c1 (s.mono c.sub e1) p1)⟩
  · rw [r1.bool]; exact ⟨false, rfl, iteF (p1.here c1 (.bl false))⟩
  · exact p1.elim
theorem de_or {a b : Expr} {rest : List Expr} {pos : Pos} {ga gb : Gx} (ha : DE X EX a ga) (hb : DE X EX (.BoolOp .Or (b :: rest) pos) gb) : DE X EX (.BoolOp .Or (a :: b :: rest) pos) (gOr ga gb) := by
  obtain ⟨t, h, k⟩ := ha
  obtain ⟨u, h', k'⟩ := hb
  refine ⟨_, pe_or h h', fun av m H σ env cs Q c s p => k av m H σ env cs _ c s (PostE.bind p fun d cs1 av1 m1 H1 v e1 c1 r1 p1 => ?_)⟩
  split at p1
  · rw [r1.bool]; exact ⟨true, rfl, iteT (p1.here c1 (.bl true))⟩
  · rw [r1.bool]; exact ⟨false, rfl, iteF (k' av1 m1 H1 σ env cs1 _ c1 (s.mono c.sub e1) p1)⟩
  · exact p1.elim
theorem de_not {a : Expr} {pos : Pos} {ga : Gx} (ha : DE X EX a ga) : DE X EX (.UnaryOp .Not a pos) (gNot ga) := by
  obtain ⟨t, h, k⟩ := ha
  refine ⟨_, pe_not h, fun av m H σ env cs Q c s p => k av m H σ env cs _ c s (PostE.bind p fun d cs1 av1 m1 H1 v e1 c1 r1 p1 => ?_)⟩
  split at p1
  · rw [r1.bool]; exact ⟨_, rfl, p1.here c1 (.bl _)⟩
  · exact p1.elim
def negD : D → List C → Out D
  | .int i, cs => .ok (.int (-i)) cs
  | _, _ => .bad
def g1 (f : D → List C → Out D) (g : Gx) : Gx := fun env cs => (g env cs).bind f
theorem de_neg {a : Expr} {pos : Pos} {ga : Gx} (ha : DE X EX a ga) : DE X EX (.UnaryOp .USub a pos) (g1 negD ga) := by
  obtain ⟨t, h, k⟩ := ha
  refine ⟨_, pe_un un_neg h, fun av m H σ env cs Q c s p => k av m H σ env cs _ c s (PostE.bind p fun d cs1 av1 m1 H1 v e1 c1 r1 p1 => ?_)⟩
  unfold negD at p1
  split at p1
  · cases r1; exact ⟨_, rfl, p1.here c1 (.int _)⟩
  · exact p1.elim
end
end Dm
set_option linter.all false
set_option maxRecDepth 100000
set_option maxHeartbeats 1000000
/-! Dm: repr of data that may hold empty dicts. -/
namespace Dm
open PySem PySem.Spec L2
mutual
def rpl : D → Bool
  | .non | .bl _ | .int _ | .str _ => true
  | .dct [] => true
  | .tup xs => rplL xs
  | .lst xs => rplL xs
  | .fro xs => rplL xs
  | _ => false
def rplL : List D → Bool
  | [] => true
  | x :: xs => rpl x && rplL xs
end
mutual
def toPyR : D → PyData
  | .non => .none
  | .bl b => .bool b
  | .int i => .int i
  | .str x => .str x
  | .dct _ => .dict []
  | .tup xs => .tuple (toPyRL xs)
  | .lst xs => .list (toPyRL xs)
  | .fro xs => .list (toPyRL xs)
  | _ => .none
def toPyRL : List D → List PyData
  | [] => []
  | x :: xs => toPyR x :: toPyRL xs
end
mutual
theorem toPyR_plain : ∀ d : D, plain d = true → toPyR d = toPy d
  | .non, _ | .bl _, _ | .int _, _ | .str _, _ => rfl
  | .tup xs, h => by simp only [toPyR, toPy, toPyRL_plain xs (by simpa [plain] using h)]
  | .lst xs, h => by simp only [toPyR, toPy, toPyRL_plain xs (by simpa [plain] using h)]
  | .fro xs, h => by simp only [toPyR, toPy, toPyRL_plain xs (by simpa [plain] using h)]
  | .ty _, h => by simp [plain] at h
  | .dct _, h => by simp [plain] at h
  | .cell _, h => by simp [plain] at h
  | .ptr _ _, h => by simp [plain] at h
theorem toPyRL_plain : ∀ ds : List D, plainL ds = true → toPyRL ds = toPyL ds
  | [], _ => rfl
  | d :: ds, h => by
    simp only [plainL, Bool.and_eq_true] at h
    simp only [toPyRL, toPyL, toPyR_plain d h.1, toPyRL_plain ds h.2]
end
mutual
theorem rpl_plain : ∀ d : D, plain d = true → rpl d = true
  | .non, _ | .bl _, _ | .int _, _ | .str _, _ => rfl
  | .tup xs, h => by simp only [rpl]; exact rplL_plain xs (by simpa [plain] using h)
  | .lst xs, h => by simp only [rpl]; exact rplL_plain xs (by simpa [plain] using h)
  | .fro xs, h => by simp only [rpl]; exact rplL_plain xs (by simpa [plain] using h)
  | .ty _, h => by simp [plain] at h
  | .dct _, h => by simp [plain] at h
  | .cell _, h => by simp [plain] at h
  | .ptr _ _, h => by simp [plain] at h
theorem rplL_plain : ∀ ds : List D, plainL ds = true → rplL ds = true
  | [], _ => rfl
  | d :: ds, h => by
    simp only [plainL, Bool.and_eq_true] at h
    simp only [rplL, rpl_plain d h.1, rplL_plain ds h.2, Bool.and_self]
end
section
variable {X : Cx} {pins : List (Addr × Obj)} {σ : L2.St} {H : Hp} {s : Shared}
theorem dct0_at (I : Inv X pins σ H s) {a : Addr} (h1 : H a = some (.dK [])) : ∃ o n, s.heap.get? a = some o ∧ o.cls = .type "dict" ∧ o.data = .dict #[] n ∧ (a == sysModules) = false := by
  obtain ⟨_, hm, vs, kv, o, es, n, ho, ⟨hc, _⟩, hd, _, he, _⟩ := dk_of I.hok h1
  cases kv
  have he' : es.toList = [] := by cases z : es.toList with | nil => rfl | cons e es' => rw [z] at he; cases he
  have : es = #[] := by cases es; simp at he'; rw [he']
  subst this
  exact ⟨o, n, ho, hc, hd, hm⟩
abbrev RkOf (X : Cx) (s : Shared) (u : Value) (p : PyData) : Prop := ∃ as, Reads s.heap u p as ∧ ∃ bs, ReadAtMost s.heap p.depth bs ∧ ReprK X.prog X.w bs s.heap p.depth u p.shown
abbrev RkAll (X : Cx) (s : Shared) (us : List Value) (ps : List PyData) : Prop := ∃ as, ReadsAll s.heap us ps as ∧ ∃ bs, ReadAtMost s.heap (PyData.depthAll ps) bs ∧ ReprAllK X.prog X.w bs s.heap (PyData.depthAll ps) us (PyData.shownAll ps)
theorem rk_list {a : Addr} {o : Obj} {its : List Value} {n : Nat} {ps : List PyData} (ho : s.heap.get? a = some o) (hc : o.cls = .type "list") (hd : o.data = .seq its.toArray n) (k : RkAll X s its ps) : RkOf X s (.ref a) (.list ps) := by
  obtain ⟨as, r, bs, hb, hk⟩ := k
  have rr : Reads s.heap (.ref a) (.list ps) (a :: as) := .list ho hc hd r
  have far : a ∉ bs := not_mem_of_deeper rr (by simp only [PyData.depth]; omega) hb
  refine ⟨_, rr, a :: bs, ReadAtMost.cons rr (by simp only [PyData.depth]; omega) hb, ?_⟩
  simp only [PyData.depth, PyData.shown]
  cases its with
  | nil => cases r; simp only [PyData.shownAll, listText_nil]; exact ReprK.listEmpty ho hc hd
  | cons x l => exact ReprK.list ho hc hd far (by simpa using hk.length_eq) fun i y e => hk.item i y (by simpa using e)
theorem rk_tup {a : Addr} {o : Obj} {its : List Value} {n : Nat} {ps : List PyData} (ho : s.heap.get? a = some o) (hc : o.cls = .type "tuple") (hd : o.data = .seq its.toArray n) (k : RkAll X s its ps) : RkOf X s (.ref a) (.tuple ps) := by
  obtain ⟨as, r, bs, hb, hk⟩ := k
  have rr : Reads s.heap (.ref a) (.tuple ps) as := .tuple ho hc hd r
  have far : a ∉ bs := not_mem_of_deeper rr (by simp only [PyData.depth]; omega) hb
  refine ⟨_, rr, a :: bs, ReadAtMost.cons rr (by simp only [PyData.depth]; omega) hb, ?_⟩
  simp only [PyData.depth, PyData.shown]
  exact ReprK.tuple ho hc hd far hk
theorem rk_dct {a : Addr} (I : Inv X pins σ H s) (h1 : H a = some (.dK [])) : RkOf X s (.ref a) (.dict []) := by
  obtain ⟨o, n, ho, hc, hd, hm⟩ := dct0_at I h1
  have rr : Reads s.heap (.ref a) (.dict []) (a :: [] ++ []) := .dict (kvs := []) ho hc hd .nil .nil
  refine ⟨_, rr, [a], ReadAtMost.cons (n := 0) rr (by omega) (fun _ z => nomatch z), ?_⟩
  simp only [PyData.depth, PyData.shown, PyData.shownKv, PyData.depthKv]
  exact ReprK.dict ho hc hd hm (by simp) .nil
mutual
theorem W.rk (I : Inv X pins σ H s) : ∀ {v : V} {d : D}, W X.K H v d → ∀ {u : Value}, RelV v u → rpl d = true → (toPyR d).showable = true → (toPyR d).shown.length ≤ sizeLine → RkOf X s u (toPyR d)
  | _, _, .non, u, r, _, _, _ => by cases r; simp only [toPyR]; exact ⟨_, .none, [], (fun _ z => nomatch z), by simp only [PyData.shown]; exact .of_is ReprIs.none _ _ _⟩
  | _, _, .bl b, u, r, _, _, _ => by cases r; simp only [toPyR]; exact ⟨_, .bool b, [], (fun _ z => nomatch z), by simp only [PyData.shown]; exact .of_is (ReprIs.bool b) _ _ _⟩
  | _, _, .int i, u, r, _, hs, _ => by
    obtain ⟨t, rfl⟩ := r
    simp only [toPyR] at hs ⊢
    exact ⟨_, .int i t, [], (fun _ z => nomatch z), by simp only [PyData.shown]; exact .of_is (ReprIs.int t (by simpa [PyData.showable] using hs)) _ _ _⟩
  | _, _, .str x, u, r, _, _, hz => by
    obtain ⟨t, rfl⟩ := r
    simp only [toPyR] at hz ⊢
    exact ⟨_, .str x t, [], (fun _ z => nomatch z), by simp only [PyData.shown]; exact .of_is (ReprIs.str x t (by simpa only [PyData.shown] using hz)) _ _ _⟩
  | _, _, .tup hs l, u, r, hp, hsh, hz => by
    cases r
    obtain ⟨its, rv, ⟨o, ho, hc, n, hd⟩, _⟩ := I.tuple hs
    simp only [toPyR] at hsh hz ⊢
    exact rk_tup ho hc hd (WL.rk I l rv (by simpa [rpl] using hp) (by simpa [PyData.showable] using hsh) fun t ht => Nat.le_trans (tupleText_mem_le ht) (by simpa only [PyData.shown] using hz))
  | _, _, .lst hs l, u, r, hp, hsh, hz => by
    cases r
    obtain ⟨its, rv, ⟨o, n, ho, hc, _, hd⟩, _⟩ := I.list hs
    simp only [toPyR] at hsh hz ⊢
    exact rk_list ho hc hd (WL.rk I l rv (by simpa [rpl] using hp) (by simpa [PyData.showable] using hsh) fun t ht => Nat.le_trans (listText_mem_le ht) (by simpa only [PyData.shown] using hz))
  | _, _, .fro hs l, u, r, hp, hsh, hz => by
    cases r
    obtain ⟨its, rv, ⟨o, n, ho, hc, _, hd⟩, _⟩ := I.list hs
    simp only [toPyR] at hsh hz ⊢
    exact rk_list ho hc hd (WL.rk I l rv (by simpa [rpl] using hp) (by simpa [PyData.showable] using hsh) fun t ht => Nat.le_trans (listText_mem_le ht) (by simpa only [PyData.shown] using hz))
  | _, _, .dct0 h1, u, r, _, _, _ => by cases r; exact rk_dct I h1
  | _, d, .other _ _ _ hn, u, r, hp, _, _ => by cases d <;> simp [noD, rpl] at hn hp
theorem WL.rk (I : Inv X pins σ H s) : ∀ {vs : List V} {ds : List D}, WL X.K H vs ds → ∀ {us : List Value}, Vals vs us → rplL ds = true → PyData.showableAll (toPyRL ds) = true → (∀ t ∈ PyData.shownAll (toPyRL ds), t.length ≤ sizeLine) → RkAll X s us (toPyRL ds)
  | _, _, .nil, us, r, _, _, _ => by cases r; exact ⟨_, .nil, [], (fun _ z => nomatch z), by simp only [toPyRL, PyData.shownAll]; exact .nil⟩
  | _, _, .cons h t, us, r, hp, hs, hz => by
    cases r with
    | cons r rt =>
      simp only [rplL, Bool.and_eq_true] at hp
      simp only [toPyRL, PyData.showableAll, Bool.and_eq_true] at hs
      simp only [toPyRL, PyData.shownAll] at hz
      obtain ⟨as, q1, b1, hb1, k1⟩ := W.rk I h r hp.1 hs.1 (hz _ List.mem_cons_self)
      obtain ⟨cs, q2, b2, hb2, k2⟩ := WL.rk I t rt hp.2 hs.2 fun t ht => hz t (List.mem_cons_of_mem _ ht)
      simp only [toPyRL]
      refine ⟨_, .cons q1 q2, b1 ++ b2, fun b hm => ?_, ?_⟩
      · simp only [PyData.depthAll]
        rcases List.mem_append.mp hm with z | z
        · exact (hb1.mono (Nat.le_max_left _ _)) b z
        · exact (hb2.mono (Nat.le_max_right _ _)) b z
      · simp only [PyData.depthAll, PyData.shownAll]
        exact .cons ((k1.more fun b z => List.mem_append_left _ z).level_le (Nat.le_max_left _ _)) (k2.more_le (fun b z => List.mem_append_right _ z) (Nat.le_max_right _ _))
end
theorem shows_list {a : Addr} {o : Obj} {its : List Value} {n : Nat} {ps : List PyData} (ho : s.heap.get? a = some o) (hc : o.cls = .type "list") (hd : o.data = .seq its.toArray n) (k : RkAll X s its ps) (hz : (PyData.list ps).shown.length ≤ sizeLine) :
    ∃ T idr, ShowsBy X.prog X.w s.heap a (.list ps) T idr := by
  obtain ⟨as, r, bs, hb, hk⟩ := k
  have far : a ∉ bs := not_mem_of_deeper (.list ho hc hd r) (by simp only [PyData.depth]; omega) hb
  refine ⟨"list", "list.__repr__", F.slot_list_repr.toG, F.slot_list_str, F.slot_list_format, fun s' kp => ⟨o, kp _ _ ho, hc⟩, fun A E s' Q hg hu kp hQ => ?_⟩
  simp only [PyData.depth] at hu
  simp only [PyData.shown] at hQ hz
  cases its with
  | nil =>
    cases r
    simp only [PyData.shownAll, listText_nil] at hQ
    exact call_list_repr_empty ⟨o, kp _ _ ho, hc⟩ (kp _ _ ho) hd (hQ s'.heap _ _ fun _ _ e => e)
  | cons x l => exact call_list_reprK ho hc hd far (by simpa using hk.length_eq) (fun i y e => hk.item i y (by simpa using e)) hg (fun b _ => Clear.nil b) hu kp hQ hz
theorem shows_tup {a : Addr} {o : Obj} {its : List Value} {n : Nat} {ps : List PyData} (ho : s.heap.get? a = some o) (hc : o.cls = .type "tuple") (hd : o.data = .seq its.toArray n) (k : RkAll X s its ps) (hz : (PyData.tuple ps).shown.length ≤ sizeLine) :
    ∃ T idr, ShowsBy X.prog X.w s.heap a (.tuple ps) T idr := by
  obtain ⟨as, r, bs, hb, hk⟩ := k
  have far : a ∉ bs := not_mem_of_deeper (.tuple ho hc hd r) (by simp only [PyData.depth]; omega) hb
  refine ⟨"tuple", "tuple.__repr__", F.slot_tuple_repr, F.slot_tuple_str, F.slot_tuple_format, fun s' kp => ⟨o, kp _ _ ho, hc⟩, fun A E s' Q hg hu kp hQ => ?_⟩
  simp only [PyData.depth] at hu
  simp only [PyData.shown] at hQ hz
  exact call_tuple_reprK ho hc hd far hk hg (fun b _ => Clear.nil b) hu kp hQ hz
theorem W.shows (I : Inv X pins σ H s) {d : D} {a : Addr} (h : W X.K H (.ref a) d) (hp : rpl d = true) (hs : (toPyR d).showable = true) (hz : (toPyR d).shown.length ≤ sizeLine) : ∃ T idr, ShowsBy X.prog X.w s.heap a (toPyR d) T idr := by
  cases h with
  | tup hq l =>
    obtain ⟨its, rv, ⟨o, ho, hc, n, hd⟩, _⟩ := I.tuple hq
    simp only [toPyR] at hs hz ⊢
    exact shows_tup ho hc hd (WL.rk I l rv (by simpa [rpl] using hp) (by simpa [PyData.showable] using hs) fun t ht => Nat.le_trans (tupleText_mem_le ht) (by simpa only [PyData.shown] using hz)) hz
  | lst hq l =>
    obtain ⟨its, rv, ⟨o, n, ho, hc, _, hd⟩, _⟩ := I.list hq
    simp only [toPyR] at hs hz ⊢
    exact shows_list ho hc hd (WL.rk I l rv (by simpa [rpl] using hp) (by simpa [PyData.showable] using hs) fun t ht => Nat.le_trans (listText_mem_le ht) (by simpa only [PyData.shown] using hz)) hz
  | fro hq l =>
    obtain ⟨its, rv, ⟨o, n, ho, hc, _, hd⟩, _⟩ := I.list hq
    simp only [toPyR] at hs hz ⊢
    exact shows_list ho hc hd (WL.rk I l rv (by simpa [rpl] using hp) (by simpa [PyData.showable] using hs) fun t ht => Nat.le_trans (listText_mem_le ht) (by simpa only [PyData.shown] using hz)) hz
  | dct0 h1 =>
    obtain ⟨o, n, ho, hc, hd, hm⟩ := dct0_at I h1
    refine showsBy_of_reads (.dict (kvs := []) ho hc hd .nil .nil) hs (fun _ z => ?_) hz
    have z : sysModules = a := by simpa using z
    rw [z] at hm
    simp at hm
  | other _ _ _ hn => cases d <;> simp [noD, rpl] at hn hp
end
end Dm
set_option linter.all false
set_option maxRecDepth 100000
set_option maxHeartbeats 1000000
/-! Dm: argument lists, displays, items, slices, built-ins. -/
namespace Dm
open PySem L2
section
variable {X : Cx} {EX : XK} {K : PySem.W.Frag} {mg : Str → Option Value}

/-! ### lists of expressions, displays -/
def aNil : Ga := fun _ cs => .ok [] cs
def aCons (g : Gx) (r : Ga) : Ga := fun env cs => (g env cs).bind fun x cs => (r env cs).bind fun xs cs => .ok (x :: xs) cs
theorem da_nil : DA X EX [] aNil := ⟨_, pa_nil, fun av m H σ env cs Q c s p => p av m H [] (Ext.refl ..) c .nil⟩
theorem da_cons {e : Expr} {es : List Expr} {g : Gx} {r : Ga} (he : DE X EX e g) (hr : DA X EX es r) (hs : starEach (e :: es) X.env = (false, eval e X.env) :: starEach es X.env := by rfl) : DA X EX (e :: es) (aCons g r) := by
  obtain ⟨t, h, k⟩ := he
  obtain ⟨u, h', k'⟩ := hr
  refine ⟨_, pa_cons h h' hs, fun av m H σ env cs Q c s p => k av m H σ env cs _ c s (PostE.bindA p fun d cs1 av1 m1 H1 v e1 c1 r1 p1 => ?_)⟩
  refine k' av1 m1 H1 σ env cs1 _ c1 (s.mono c.sub e1) (PostA.bindA p1 fun ds cs2 av2 m2 H2 vs e2 c2 r2 p2 => ?_)
  exact p2 av2 m2 H2 (v :: vs) (Ext.refl ..) c2 (.cons (r1.mono c1.sub e2) r2)
def gList (a : Ga) : Gx := fun env cs => (a env cs).bind fun xs cs => if xs.length ≤ 1000 then .ok (.lst xs) cs else .bad
def gListC (a : Ga) : Gx := fun env cs => (a env cs).bind fun xs cs => if xs.length ≤ 1000 then .ok (.cell cs.length) (cs ++ [.lst xs]) else .bad
def gTup (a : Ga) : Gx := fun env cs => (a env cs).bind fun xs cs => if xs.length ≤ 1000 then .ok (.tup xs) cs else .bad
theorem le_line {n : Nat} (h : n ≤ 1000) : n ≤ sizeLine := Nat.le_trans h (by decide)
theorem de_list {es : List Expr} {pos : Pos} {a : Ga} (h : DA X EX es a) : DE X EX (.List es pos) (gList a) := by
  obtain ⟨t, h, k⟩ := h
  refine ⟨_, pe_lst h, fun av m H σ env cs Q c s p => k av m H σ env cs _ c s (PostA.bindE p fun ds cs1 av1 m1 H1 vs e1 c1 r1 p1 => ?_)⟩
  split at p1
  · rename_i hz
    exact ⟨by rw [r1.length]; exact le_line hz, fun q hq => p1.newL c1 hq r1⟩
  · exact p1.elim
theorem de_listC {es : List Expr} {pos : Pos} {a : Ga} (h : DA X EX es a) : DE X EX (.List es pos) (gListC a) := by
  obtain ⟨t, h, k⟩ := h
  refine ⟨_, pe_lst h, fun av m H σ env cs Q c s p => k av m H σ env cs _ c s (PostA.bindE p fun ds cs1 av1 m1 H1 vs e1 c1 r1 p1 => ?_)⟩
  split at p1
  · rename_i hz
    refine ⟨by rw [r1.length]; exact le_line hz, fun q hq => ?_⟩
    have hd : CellOk X.K X.mg (av1 ++ [q]) (m1 ++ [q]) (upd H1 q (.lst vs)) q (.lst ds) := by
      have e : Ext av1 m1 H1 (av1 ++ [q]) (m1 ++ [q]) (upd H1 q (.lst vs)) := ⟨⟨[q], rfl, rfl, fun a h => by rw [List.mem_singleton.mp h]; exact hq⟩, (Ext.fresh (av := av1) (m := m1) hq).keep, (Ext.fresh (av := av1) (m := m1) hq).there, (Ext.fresh (av := av1) (m := m1) hq).fz⟩
      exact ⟨vs, upd_same, r1.mono c1.sub e⟩
    obtain ⟨e2, c2⟩ := c1.cell hq hd
    refine p1 _ _ _ _ e2 c2 (.cell ?_)
    rw [← c1.len, List.getElem?_append_right (Nat.le_refl _)]
    simp
  · exact p1.elim
theorem de_tup {es : List Expr} {x1} {pos : Pos} {a : Ga} (h : DA X EX es a) : DE X EX (.Tuple es x1 pos) (gTup a) := by
  obtain ⟨t, h, k⟩ := h
  refine ⟨_, pe_tup h, fun av m H σ env cs Q c s p => k av m H σ env cs _ c s (PostA.bindE p fun ds cs1 av1 m1 H1 vs e1 c1 r1 p1 => ?_)⟩
  split at p1
  · rename_i hz
    exact ⟨by rw [r1.length]; exact le_line hz, fun q hq => p1.newT c1 hq r1⟩
  · exact p1.elim

/-! ### items -/
def ixD : D → D → List C → Out D := fun dx dy cs => match dy with
  | .int i => match asS cs dx with
    | some xs => match atI xs i with
      | some d => .ok d cs
      | none => .bad
    | none => .bad
  | _ => .bad
theorem RL.atI {av m : List Addr} {H : Hp} {vs : List V} {ds : List D} {i : Int} {d : D} (r : RL K av m H vs ds) (h : L2.atI ds i = some d) : ∃ v, L2.atI vs i = some v ∧ R K av m H v d := by
  unfold L2.atI at h ⊢
  rw [r.length]
  cases e : ixN ds.length i with
  | none => rw [e] at h; cases h
  | some j =>
    rw [e] at h
    obtain ⟨v, h1, h2⟩ := r.get (show ds[j]? = some d from h)
    exact ⟨v, h1, h2⟩
theorem od_ix : OpD K mg EX (rIx K) ixD := by
  intro av m H cs x y dx dy Q c rx ry q
  unfold ixD at q
  split at q
  · cases ry
    split at q
    · rename_i xs hx
      split at q
      · rename_i d hd
        obtain ⟨a, vs, rfl, hs, l⟩ := asS_ok c rx hx
        obtain ⟨v, h1, h2⟩ := l.atI hd
        rcases hs with hs | hs
        · exact .inl ⟨a, vs, _, v, rfl, rfl, hs, h1, q.here c h2⟩
        · exact .inr (.inl ⟨a, vs, _, v, rfl, rfl, hs, h1, q.here c h2⟩)
      · exact q.elim
    · exact q.elim
  · exact q.elim
theorem de_ix {a b : Expr} {pos : Pos} {ga gb : Gx} (ha : DE X EX a ga) (hb : DE X EX b gb) (hs : PlainIx b := by intro _ _; rfl) : DE X EX (.Subscript a b pos) (g2 ixD ga gb) := by
  obtain ⟨ta, ha, ka⟩ := ha
  obtain ⟨tb, hb, kb⟩ := hb
  exact ⟨_, pe_ix ix_seq ha hb hs, te_op od_ix ka kb⟩

/-! ### slices -/
def cutD (xs : List D) (lo hi : Option Int) : List D := (xs.drop (HT.sIx xs.length 0 lo)).take (HT.sIx xs.length xs.length hi - HT.sIx xs.length 0 lo)
def slD (dx : D) (lo hi : Option Int) (cs : List C) : Out D := match asL cs dx with
  | some xs => .ok (.lst (cutD xs lo hi)) cs
  | none => match asT dx with
    | some xs => .ok (.tup (cutD xs lo hi)) cs
    | none => .bad
abbrev Go := List (Option D) → List C → Out (Option Int)
def PostO (K : PySem.W.Frag) (mg : Str → Option Value) (av m : List Addr) (H : Hp) (EX : XK) (Q : Option Int → Hp → Prop) : Out (Option Int) → Prop
  | .ok d cs => ∀ (av' m' : List Addr) (H' : Hp), Ext av m H av' m' H' → RC K mg av' m' H' cs → Q d H'
  | .exc x fs cs => PostX K mg av m H EX x fs cs
  | .bad => False
structure DO (X : Cx) (EX : XK) (e : Option Expr) (g : Go) : Prop where
  ex : ∃ t, PO X e t ∧ ∀ (av m : List Addr) (H : Hp) (σ : L2.St) (env : List (Option D)) (cs : List C) (Q : Option Int → Hp → Prop), RC X.K X.mg av m H cs → RS X.K av m H σ env → PostO X.K X.mg av m H EX Q (g env cs) → t σ H Q
def oNone : Go := fun _ cs => .ok none cs
def oSome (g : Gx) : Go := fun env cs => (g env cs).bind fun d cs => match d with
  | .int i => .ok (some i) cs
  | _ => .bad
theorem do_none : DO X EX none oNone := ⟨_, po_none, fun av m H σ env cs Q c s p => p av m H (Ext.refl ..) c⟩
theorem PostO.ext {av m av' m' : List Addr} {H H' : Hp} {Q : Option Int → Hp → Prop} {o : Out (Option Int)} (e : Ext av m H av' m' H') (p : PostO K mg av m H EX Q o) : PostO K mg av' m' H' EX Q o := by
  cases o with
  | ok d cs => exact fun a2 m2 H2 e2 r => p a2 m2 H2 (e.trans e2) r
  | exc x fs cs => exact PostX.ext e p
  | bad => exact p
theorem do_some {e : Expr} {g : Gx} (h : DE X EX e g) : DO X EX (some e) (oSome g) := by
  obtain ⟨t, h, k⟩ := h
  refine ⟨_, po_some h, fun av m H σ env cs Q c s p => k av m H σ env cs _ c s ?_⟩
  unfold oSome at p
  cases ho : g env cs with
  | ok d cs1 =>
    rw [ho] at p
    intro av1 m1 H1 v e1 c1 r1
    cases r1 with
    | int i => exact ⟨i, rfl, p av1 m1 H1 e1 c1⟩
    | _ => exact p.elim
  | exc x fs cs1 => rw [ho] at p; exact p
  | bad => rw [ho] at p; exact p
theorem PostO.bindE {av m : List Addr} {H : Hp} {Q : VK} {Q2 : Option Int → Hp → Prop} {o : Out (Option Int)} {f : Option Int → List C → Out D} (p : PostE K mg av m H EX Q (o.bind f))
    (h : ∀ d cs' av' m' H', Ext av m H av' m' H' → RC K mg av' m' H' cs' → PostE K mg av' m' H' EX Q (f d cs') → Q2 d H') : PostO K mg av m H EX Q2 o := by
  cases o with
  | ok d cs => exact fun a2 m2 H2 e2 r => h d cs a2 m2 H2 e2 r (PostE.ext e2 p)
  | exc x fs cs => exact p
  | bad => exact p
theorem cutD_len (xs : List D) (lo hi : Option Int) : (cutD xs lo hi).length ≤ xs.length := by
  unfold cutD
  rw [List.length_take, List.length_drop]
  omega
theorem RL.cut {av m : List Addr} {H : Hp} {vs : List V} {ds : List D} (r : RL K av m H vs ds) (lo hi : Option Int) : RL K av m H (cutV vs lo hi) (cutD ds lo hi) := by
  unfold cutV cutD
  rw [r.length]
  exact (r.drop _).take _
def gSl (g : Gx) (lo hi : Go) : Gx := fun env cs => (g env cs).bind fun x cs => (lo env cs).bind fun l cs => (hi env cs).bind fun u cs => slD x l u cs
theorem de_slice {e : Expr} {lo hi : Option Expr} {p2 pos : Pos} {g : Gx} {gl gh : Go} (he : DE X EX e g) (hl : DO X EX lo gl) (hh : DO X EX hi gh) : DE X EX (.Subscript e (.Slice lo hi none p2) pos) (gSl g gl gh) := by
  obtain ⟨t, h, k⟩ := he
  obtain ⟨tl, h1, k1⟩ := hl
  obtain ⟨th, h2, k2⟩ := hh
  refine ⟨_, pe_slice (SlR.or sl_list sl_tupA) h h1 h2, fun av m H σ env cs Q c s p => k av m H σ env cs _ c s (PostE.bind p fun d cs1 av1 m1 H1 v e1 c1 r1 p1 => ?_)⟩
  have s1 := s.mono c.sub e1
  refine k1 av1 m1 H1 σ env cs1 _ c1 s1 (PostO.bindE p1 fun l cs2 av2 m2 H2 e2 c2 p2 => ?_)
  have s2 := s1.mono c1.sub e2
  have r2 := r1.mono c1.sub e2
  refine k2 av2 m2 H2 σ env cs2 _ c2 s2 (PostO.bindE p2 fun u cs3 av3 m3 H3 e3 c3 p3 => ?_)
  have r3 := r2.mono c2.sub e3
  unfold slD at p3
  split at p3
  · rename_i xs hx
    obtain ⟨a, vs, rfl, hs, rl⟩ := asL_ok c3 r3 hx
    exact .inl ⟨a, vs, rfl, hs, fun q hq => p3.newL c3 hq (rl.cut l u)⟩
  · split at p3
    · rename_i xs hx
      obtain ⟨a, vs, e, hs, rl⟩ := asT_ok r3 hx
      have hxs : d = .tup xs := by
        unfold asT at hx
        split at hx
        · cases hx; rfl
        · cases hx
      subst hxs
      subst e
      refine .inr ⟨a, vs, rfl, hs, fun hw => ?_, fun _ q hq => p3.newT c3 hq (rl.cut l u)⟩
      have ew : cutD xs l u = xs := by
        unfold cutD
        rw [← rl.length, hw.1, hw.2, rl.length, List.drop_zero, Nat.sub_zero, List.take_length]
      rw [ew] at p3
      exact p3.here c3 r3
    · exact p3.elim
def revD : D → List C → Out D := fun d cs => match asL cs d with
  | some xs => .ok (.lst xs.reverse) cs
  | none => .bad
theorem de_rev {e : Expr} {k : Nat} {p1 p2 p3 pos : Pos} {g : Gx} (he : DE X EX e g) : DE X EX (.Subscript e (.Slice none none (some (.UnaryOp .USub (.Constant (.int 1) k p1) p2)) p3) pos) (g1 revD g) := by
  obtain ⟨t, h, kk⟩ := he
  refine ⟨_, pe_revL h, fun av m H σ env cs Q c s p => kk av m H σ env cs _ c s (PostE.bind p fun d cs1 av1 m1 H1 v e1 c1 r1 p1 => ?_)⟩
  unfold revD at p1
  split at p1
  · rename_i xs hx
    obtain ⟨a, vs, rfl, hs, rl⟩ := asL_ok c1 r1 hx
    exact ⟨a, vs, rfl, hs, fun q hq => p1.newL c1 hq rl.rev⟩
  · exact p1.elim

/-! ### built-ins -/
def CallD (K : PySem.W.Frag) (mg : Str → Option Value) (EX : XK) (r : List V → Hp → VK → Prop) (f : List D → List C → Out D) : Prop :=
  ∀ (av m : List Addr) (H : Hp) (cs : List C) (xs : List V) (ds : List D) (Q : VK), RC K mg av m H cs → RL K av m H xs ds → PostE K mg av m H EX Q (f ds cs) → r xs H Q
def gA (f : List D → List C → Out D) (a : Ga) : Gx := fun env cs => (a env cs).bind f
theorem te_cb {r : List V → Hp → VK → Prop} {f : List D → List C → Out D} {t : TA} {a : Ga} (hd : CallD K mg EX r f) (k : TaOk K mg EX t a) : TeOk K mg EX (tCB r t) (gA f a) :=
  fun av m H σ env cs Q c s p => k av m H σ env cs _ c s (PostA.bindE p fun ds cs1 av1 m1 H1 vs e1 c1 r1 p1 => hd av1 m1 H1 cs1 vs ds Q c1 r1 p1)
section
variable {id T : String} {x : Str} {p pos : Pos} {e : Expr} {es : List Expr} {r : List V → Hp → VK → Prop} {f : List D → List C → Out D} {a : Ga}
theorem de_callB (hc : CallR X (.builtin id) r) (hd : CallD X.K X.mg EX r f) (hg : Gl X x) (hm : X.mg x = none) (hv : bootBuiltins x = some (.builtin id)) (ha : DA X EX (e :: es) a) (hn : x ≠ "__name__" := by decide) (hdb : (x == ("__debug__" : Str)) = false := by decide)
    (he : starEach (e :: es) X.env = (false, eval e X.env) :: starEach es X.env := by rfl) (hpl : (backTo pos (starEach es X.env)).any (·.1) = false := by rfl) : DE X EX (.Call (.Name x p) (e :: es) [] pos) (gA f a) :=
  let ⟨_, h, k⟩ := ha; ⟨_, pe_callB hc hg hm hv h hn hdb he hpl, te_cb hd k⟩
theorem de_callTy (hc : CallR X (.type T) r) (hd : CallD X.K X.mg EX r f) (hg : Gl X x) (hm : X.mg x = none) (hv : bootBuiltins x = some (.type T)) (ha : DA X EX (e :: es) a) (hn : x ≠ "__name__" := by decide) (hdb : (x == ("__debug__" : Str)) = false := by decide)
    (he : starEach (e :: es) X.env = (false, eval e X.env) :: starEach es X.env := by rfl) (hpl : (backTo pos (starEach es X.env)).any (·.1) = false := by rfl) : DE X EX (.Call (.Name x p) (e :: es) [] pos) (gA f a) :=
  let ⟨_, h, k⟩ := ha; ⟨_, pe_callTy hc hg hm hv h hn hdb he hpl, te_cb hd k⟩
end
def lenD : List D → List C → Out D
  | [d], cs => match asS cs d with
    | some xs => .ok (.int (xs.length : Nat)) cs
    | none => .bad
  | _, _ => .bad
theorem cd_len : CallD K mg EX (fun xs H Q => ∃ p ys, xs = [.ref p] ∧ (SqL K H p ys ∨ SqT K H p ys) ∧ Q (.int ys.length) H) lenD := by
  intro av m H cs xs ds Q c r q
  unfold lenD at q
  split at q
  · cases r with
    | cons r t =>
      cases t
      split at q
      · rename_i ys hy
        obtain ⟨a, vs, rfl, hs, l⟩ := asS_ok c r hy
        refine ⟨a, vs, rfl, hs, ?_⟩
        rw [l.length]
        exact q.here c (.int _)
      · exact q.elim
  · exact q.elim
def absD : List D → List C → Out D
  | [.int i], cs => .ok (.int (if i < 0 then -i else i)) cs
  | _, _ => .bad
theorem cd_abs : CallD K mg EX (fun xs H Q => ∃ i, xs = [.int i] ∧ Q (.int (if i < 0 then -i else i)) H) absD := by
  intro av m H cs xs ds Q c r q
  unfold absD at q
  split at q
  · cases r with | cons r t => cases t; cases r; exact ⟨_, rfl, q.here c (.int _)⟩
  · exact q.elim
def max2D : List D → List C → Out D
  | [.int i, .int j], cs => .ok (.int (if j > i then j else i)) cs
  | _, _ => .bad
theorem cd_max2 : CallD K mg EX (fun xs H Q => ∃ i j, xs = [.int i, .int j] ∧ Q (.int (if j > i then j else i)) H) max2D := by
  intro av m H cs xs ds Q c r q
  unfold max2D at q
  split at q
  · cases r with | cons r t => cases t with | cons r' t => cases t; cases r; cases r'; exact ⟨_, _, rfl, q.here c (.int _)⟩
  · exact q.elim
def min2D : List D → List C → Out D
  | [.int i, .int j], cs => .ok (.int (if j < i then j else i)) cs
  | _, _ => .bad
theorem cd_min2 : CallD K mg EX (fun xs H Q => ∃ i j, xs = [.int i, .int j] ∧ Q (.int (if j < i then j else i)) H) min2D := by
  intro av m H cs xs ds Q c r q
  unfold min2D at q
  split at q
  · cases r with | cons r t => cases t with | cons r' t => cases t; cases r; cases r'; exact ⟨_, _, rfl, q.here c (.int _)⟩
  · exact q.elim
def intD : List D → List C → Out D
  | [.int i], cs => .ok (.int i) cs
  | [.bl k], cs => .ok (.int (if k then 1 else 0)) cs
  | _, _ => .bad
theorem cd_int : CallD K mg EX (fun xs H Q => (∃ i, xs = [.int i] ∧ Q (.int i) H) ∨ ∃ k, xs = [.bl k] ∧ Q (.int (if k then 1 else 0)) H) intD := by
  intro av m H cs xs ds Q c r q
  unfold intD at q
  split at q
  · cases r with | cons r t => cases t; cases r; exact .inl ⟨_, rfl, q.here c (.int _)⟩
  · cases r with | cons r t => cases t; cases r; exact .inr ⟨_, rfl, q.here c (.int _)⟩
  · exact q.elim
def listD : List D → List C → Out D
  | [d], cs => match asS cs d with
    | some xs => .ok (.lst xs) cs
    | none => .bad
  | _, _ => .bad
theorem cd_list : CallD K mg EX (fun xs H Q => ∃ p ys, xs = [.ref p] ∧ (SqL K H p ys ∨ SqT K H p ys) ∧ ∀ l, H l = none → Q (.ref l) (upd H l (.lst ys))) listD := by
  intro av m H cs xs ds Q c r q
  unfold listD at q
  split at q
  · cases r with
    | cons r t =>
      cases t
      split at q
      · rename_i ys hy
        obtain ⟨a, vs, rfl, hs, l⟩ := asS_ok c r hy
        exact ⟨a, vs, rfl, hs, fun p hp => q.newL c hp l⟩
      · exact q.elim
  · exact q.elim
def tupleD : List D → List C → Out D
  | [d], cs => match asL cs d with
    | some xs => .ok (.tup xs) cs
    | none => match d with
      | .tup xs => .ok (.tup xs) cs
      | _ => .bad
  | _, _ => .bad
theorem cd_tuple : CallD K mg EX (fun xs H Q => ∃ p ys, xs = [.ref p] ∧ ((SqL K H p ys ∧ ∀ l, H l = none → Q (.ref l) (upd H l (.tup ys))) ∨ (SqT K H p ys ∧ Q (.ref p) H))) tupleD := by
  intro av m H cs xs ds Q c r q
  unfold tupleD at q
  split at q
  · cases r with
    | cons r t =>
      cases t
      split at q
      · rename_i ys hy
        obtain ⟨a, vs, rfl, hs, l⟩ := asL_ok c r hy
        exact ⟨a, vs, rfl, .inl ⟨hs, fun p hp => q.newT c hp l⟩⟩
      · split at q
        · rename_i ys _
          obtain ⟨a, vs, rfl, hs, l⟩ := asT_ok r (ds := ys) rfl
          exact ⟨a, vs, rfl, .inr ⟨hs, q.here c r⟩⟩
        · exact q.elim
  · exact q.elim

/-! ### isinstance -/
def tyName : D → Option String
  | .non => some "NoneType"
  | .bl _ => some "bool"
  | .int _ => some "int"
  | .str _ => some "str"
  | .tup _ => some "tuple"
  | .lst _ => some "list"
  | .fro _ => some "list"
  | .dct _ => some "dict"
  | _ => none
def isSub (a b : String) : Option Bool := if b ∈ ["bool", "int", "str", "tuple", "list", "dict"] then some (a == b || (a == "bool" && b == "int")) else none
def isiD : List D → List C → Out D
  | [d, .ty b], cs => match tyName d with
    | some a => match isSub a b with
      | some k => .ok (.bl k) cs
      | none => .bad
    | none => .bad
  | _, _ => .bad
theorem kit_sub {a b : String} {k : Bool} (ha : a ∈ ["NoneType", "bool", "int", "str", "tuple", "list", "dict"]) (h : isSub a b = some k) : PySem.W.kitOne K (.type a) (.type b) = some k := by
  unfold isSub at h
  split at h
  · rename_i hb
    simp only [List.mem_cons, List.not_mem_nil, or_false] at ha hb
    cases h
    rcases ha with rfl | rfl | rfl | rfl | rfl | rfl | rfl <;> rcases hb with rfl | rfl | rfl | rfl | rfl | rfl <;> exact kit_ty (by decide +kernel)
  · cases h
theorem ty_of {av m : List Addr} {H : Hp} {cs : List C} {v : V} {d : D} {a : String} (r : R K av m H v d) (h : tyName d = some a) : TyX K H v (.type a) ∧ a ∈ ["NoneType", "bool", "int", "str", "tuple", "list", "dict"] := by
  cases r with
  | non => cases h; exact ⟨.base .non, by simp⟩
  | bl b => cases h; exact ⟨.base (.bl b), by simp⟩
  | int i => cases h; exact ⟨.base (.int i), by simp⟩
  | str x => cases h; exact ⟨.base (.str x), by simp⟩
  | ty x => simp [tyName] at h
  | ptr _ => simp [tyName] at h
  | tup h1 _ _ => cases h; exact ⟨.base (.tup h1), by simp⟩
  | tupK h1 _ =>
    cases h
    rcases h1 (fun _ => none) with h2 | ⟨o, its, n, h2, h3, _⟩
    · rcases h2 with h2 | ⟨_, h2⟩ <;> cases h2
    · exact ⟨.kTuple h2 h3, by simp⟩
  | lst h1 _ _ => cases h; exact ⟨.base (.lst h1), by simp⟩
  | fro h1 _ =>
    cases h
    rcases h1 with ⟨⟨o, q⟩, _⟩ | q
    · exact ⟨.base (.frz q), by simp⟩
    · rcases q (fun _ => none) with h2 | ⟨o, its, n, h2, h3, _⟩
      · rcases h2 with h2 | ⟨_, h2⟩ <;> cases h2
      · exact ⟨.kList h2 h3, by simp⟩
  | dct h1 _ _ => cases h; exact ⟨.base (.dK h1), by simp⟩
  | cell _ => simp [tyName] at h
theorem cd_isi : CallD K mg EX (rIsi K) isiD := by
  intro av m H cs xs ds Q c r q
  unfold isiD at q
  split at q
  · cases r with
    | cons r t =>
      cases t with
      | cons r' t =>
        cases t; cases r'
        split at q
        · rename_i a ha
          split at q
          · rename_i k hk
            obtain ⟨h1, h2⟩ := ty_of (cs := cs) r ha
            exact ⟨_, _, _, _, k, rfl, .ty _, h1, kit_sub h2 hk, q.here c (.bl k)⟩
          · exact q.elim
        · exact q.elim
  · exact q.elim
end
end Dm
set_option linter.all false
set_option maxRecDepth 100000
set_option maxHeartbeats 1000000
/-! Dm: defs. As the layer's own rule for a def, with one more thing known of the surroundings: no text of a container is being made (Quiet). -/
namespace Dm
open PySem PySem.Spec L2
open PyProof.Rows (envOfC)

def Quiet (A : Around) : Prop := A.guards = some []

/-- a def keeps its promise where the surroundings are quiet -/
structure FnG (P : Program) (w : World) (K : PySem.W.Frag) (mg : Str → Option Value) (base : Heap) (k : Nat) (f : Addr) (fd : FuncData) (ps : List Str) (sp : Sp) : Prop where
  len : ∀ vs H Q E, sp vs H Q E → vs.length = ps.length
  run : ∀ (A : Around) (outer : List Env) (s : Shared) (H : Hp) (args : Args) (us : List Value) (vs : List V) (Q : VK) (E : XK),
    Room k A → Quiet A → Env0 P w K mg base A outer s H → BindsTo s fd args (ps.zip us) → Vals vs us → sp vs H Q E →
      codeAny (model P w) A (.call (.ref f) args) (CR (L2.CX P w) outer P w H s Q E) s

section
variable {P : Program} {w : World} {K : PySem.W.Frag} {mg : Str → Option Value} {base : Heap}

theorem FnG.up {j k : Nat} {f : Addr} {fd : FuncData} {ps : List Str} {sp : Sp} (F : FnG P w K mg base j f fd ps sp) (h : j ≤ k) : FnG P w K mg base k f fd ps sp :=
  ⟨F.len, fun A o s H args us vs Q E r => F.run A o s H args us vs Q E (r.mono h)⟩

/-- what follows a body's end -/
theorem end_of {X : Cx} {outer : List Env} {s s2 : Shared} {H : Hp} {Q : VK} {E : XK} (eo : X.outer = outer) (e0 : X.s_0 = s) (eH : X.H_0 = H) (ex : X.ex = []) {fl : Flow}
    (h : SP X [] { nx := fun _ H' => Q .non H', rt := Q } fl s2) : CR (L2.CX X.prog X.w) outer X.prog X.w H s Q E (match fl with | .ret u => .ok (.ret u) | _ => .ok (.ret .none)) s2 := by
  subst eo e0 eH
  have fin : ∀ {σ1 : L2.St} {H1 : Hp} {x : V} {u : Value}, Inv X [] σ1 H1 s2 → RelV x u → Q x H1 → CE X.outer X.prog X.w X.H_0 X.s_0 Q u s2 := fun {σ1 H1 x u} J r q =>
    ⟨x, H1, J.os, J.bare, by have := J.base; rw [ex] at this; exact this, J.hok, r, q⟩
  cases fl with
  | ret u => obtain ⟨x, σ1, H1, J, r, q⟩ := h; exact fin J r q
  | next => obtain ⟨σ1, H1, J, q⟩ := h; exact fin (x := .non) (u := .none) J rfl q
  | brk => obtain ⟨_, _, _, q⟩ := h; exact q.elim
  | cont => obtain ⟨_, _, _, q⟩ := h; exact q.elim

/-- THE RULE for a def of the text -/
theorem fng_of {k : Nat} {f : Addr} {x qual : Str} {st : Stmt} {fd : FuncData} {N ps : List Str} {sp : Sp} (F : Fun K x qual st f fd) (S : FnScope N ps (defScope st))
    (len : ∀ vs H Q E, sp vs H Q E → vs.length = ps.length)
    (body : ∀ (cdv : Value) (A : Around) (outer : List Env) (s : Shared) (H : Hp) (vs : List V) (Q : VK) (E : XK),
      Room k (A.deeper (envOfC qual (defScope st) s.heap.objs.size f cdv)) → Quiet A → sp vs H Q E →
        ∃ t, PSs (cxOf (L2.CX P w) P w K mg base N qual (defScope st) f cdv A outer s H E) (defBody st) t ∧
          t { nx := fun _ H' => Q .non H', rt := Q } (start N vs) H) : FnG P w K mg base (k + 1) f fd ps sp := by
  obtain ⟨c0, d0, k0, t0, p0, a0, cdv, ct0, s0, efd, look, code⟩ := F.ex
  subst efd
  refine ⟨len, fun A outer s H args us vs Q E room quiet env0 binds vals want => ?_⟩
  have there : ∀ b o, base.get? b = some o → s.heap.get? b = some o := fun b o e => (env0.bs b o e).1
  have inK : K.In s.heap := env0.mod.kin.keeps there
  have names : ∀ y ∈ ps.zip us, (defScope st).names.lookup y.1 = some .local ∨
      ((defScope st).names.lookup y.1 = some .cell ∧ ((cellsFrom (s.heap.objs.size + 1) (defScope st).names []).lookup y.1).isSome = true) := by
    rintro ⟨y, u⟩ hy
    exact (S.par y (List.of_mem_zip hy).1).imp id fun q => ⟨q, PySem.W.cellsFrom_some _ _ _ (.inl q)⟩
  refine codeAny_call_function room.depth (inK _ _ look) rfl S.co S.gen rfl
    (PySem.W.codeRec_of inK code) (binds _ _ _ _ ?_)
  refine wpAny_newFunctionEnv_cells S.kind names fun env ee s1 ic => ?_
  subst ee
  refine ⟨(env0.mod.nolimit.keeps there).keeps ic.toInCall.keep, codeAny_func ?_⟩
  obtain ⟨t, ht, hq⟩ := body cdv A outer s H vs Q E (room.deeper _) quiet want
  have J := inv_start (CX := L2.CX P w) (E := E) S room.hd env0 (len _ _ _ _ want) vals ic
  refine wpAny_mono (ht.run [] s1 (start N vs) H _ J hq) (fun fl s2 h2 => ?_) fun _ _ h2 => h2
  have h3 := end_of (X := cxOf (L2.CX P w) P w K mg base N qual (defScope st) f cdv A outer s H E) (E := E) rfl rfl rfl rfl h2
  cases fl <;> exact h3
end

/-! ### the promise of a def over plain values -/
def spG (K : PySem.W.Frag) (mg : Str → Option Value) (n : Nat) (F : List D → List C → Out D) : Sp := fun vs H Q E =>
  ∃ (av m : List Addr) (ds : List D) (cs : List C), RC K mg av m H cs ∧ RL K av m H vs ds ∧ ds.length = n ∧ PostE K mg av m H E Q (F ds cs)
abbrev FnD (P : Program) (w : World) (K : PySem.W.Frag) (mg : Str → Option Value) (base : Heap) (k : Nat) (f : Addr) (fd : FuncData) (ps : List Str) (F : List D → List C → Out D) : Prop :=
  FnG P w K mg base k f fd ps (spG K mg ps.length F)
theorem spG.len {K : PySem.W.Frag} {mg : Str → Option Value} {ps : List Str} {F : List D → List C → Out D} : ∀ vs H Q E, spG K mg ps.length F vs H Q E → vs.length = ps.length :=
  fun _ _ _ _ ⟨_, _, _, _, _, l, e, _⟩ => l.length.trans e
/-- a block as a def -/
def runB (n : Nat) (g : Gs) : List D → List C → Out D := fun ds cs => match g (ds.map some ++ List.replicate (n - ds.length) none) cs with
  | .ok ⟨.nx, _⟩ cs => .ok .non cs
  | .ok ⟨.rt d, _⟩ cs => .ok d cs
  | .ok _ _ => .bad
  | .exc x fs cs => .exc x fs cs
  | .bad => .bad
theorem RS.start {K : PySem.W.Frag} {av m : List Addr} {H : Hp} {N : List Str} {vs : List V} {ds : List D} (l : RL K av m H vs ds) : RS K av m H (start N vs) (ds.map some ++ List.replicate (N.length - ds.length) none) := by
  unfold L2.start
  refine ⟨by simp [l.length], fun i d h => ?_⟩
  by_cases hi : i < ds.length
  · rw [List.getElem?_append_left (by simpa using hi), List.getElem?_map] at h
    cases e : ds[i]? with
    | none => rw [e] at h; cases h
    | some x =>
      rw [e] at h; cases h
      obtain ⟨v, h1, h2⟩ := l.get e
      refine ⟨v, ?_, h2⟩
      rw [List.getElem?_append_left (by simpa [l.length] using hi), List.getElem?_map, h1]
      rfl
  · rw [List.getElem?_append_right (by simpa using hi), List.getElem?_replicate] at h
    split at h <;> cases h
section
variable {P : Program} {w : World} {K : PySem.W.Frag} {mg : Str → Option Value} {base : Heap}
theorem PostE.run {av m : List Addr} {H : Hp} {E : XK} {Q : VK} {n : Nat} {g : Gs} {ds : List D} {cs : List C} (p : PostE K mg av m H E Q (runB n g ds cs)) :
    PostS K mg av m H E { nx := fun _ H' => Q .non H', rt := Q } (g (ds.map some ++ List.replicate (n - ds.length) none) cs) := by
  unfold runB at p
  split at p
  · rename_i e; rw [e]; exact fun a2 m2 H2 _ e2 r _ => p a2 m2 H2 .non e2 r .non
  · rename_i e; rw [e]; exact fun a2 m2 H2 v e2 r q => p a2 m2 H2 v e2 r q
  · exact p.elim
  · rename_i e; rw [e]; exact p
  · exact p.elim
/-- a def of the text, by its block -/
theorem fnd_of {k : Nat} {f : Addr} {x qual : Str} {st : Stmt} {fd : FuncData} {N ps : List Str} {g : Gs} (F : Fun K x qual st f fd) (S : FnScope N ps (defScope st))
    (body : ∀ (cdv : Value) (A : Around) (outer : List Env) (s : Shared) (H : Hp) (E : XK), Room k (A.deeper (envOfC qual (defScope st) s.heap.objs.size f cdv)) → Quiet A →
      DSs (cxOf (L2.CX P w) P w K mg base N qual (defScope st) f cdv A outer s H E) E (defBody st) g) :
    FnD P w K mg base (k + 1) f fd ps (runB N.length g) := by
  refine fng_of F S spG.len fun cdv A outer s H vs Q E room quiet want => ?_
  obtain ⟨av, m, ds, cs, c, l, _, p⟩ := want
  obtain ⟨t, h1, h2⟩ := body cdv A outer s H E room quiet
  exact ⟨t, h1, h2 av m H _ _ cs _ c (RS.start l) p.run⟩
/-- in a def's body an exception goes to the def's own wish -/
theorem pass_body {qual : Str} {sc : Scope} {f : Addr} {cdv : Value} {A : Around} {outer : List Env} {s : Shared} {H : Hp} {E : XK} {N : List Str} :
    Passes (L2.CX P w) (cxOf (L2.CX P w) P w K mg base N qual sc f cdv A outer s H E) E :=
  passes_call (X := cxOf (L2.CX P w) P w K mg base N qual sc f cdv A outer s H E) (takes_of rfl rfl rfl rfl) fun _ _ _ _ h => h
theorem own_body {qual : Str} {sc : Scope} {f : Addr} {cdv : Value} {A : Around} {outer : List Env} {s : Shared} {H : Hp} {E : XK} {N : List Str} :
    PassesOwn (model P w) (A.deeper (envOfC qual sc s.heap.objs.size f cdv)) (envOfC qual sc s.heap.objs.size f cdv) (cxOf (L2.CX P w) P w K mg base N qual sc f cdv A outer s H E).xe :=
  passes_of (X := cxOf (L2.CX P w) P w K mg base N qual sc f cdv A outer s H E) (K := fun e s'' => L2.CX P w outer H s E e s'') rfl
end
end Dm
set_option linter.all false
set_option maxRecDepth 100000
set_option maxHeartbeats 1000000
/-! Dm: calls of defs: with the caller's store handed on and kept (callK), handed on and cut back behind the call (callS), or not shown to the callee at all (callP). -/
namespace Dm
open PySem PySem.Spec L2
open PyProof.Rows (envOfC)

/-! ### no cell from n on -/
mutual
def low (n : Nat) : D → Bool
  | .tup xs => lowL n xs
  | .lst xs => lowL n xs
  | .fro xs => lowL n xs
  | .dct xs => lowK n xs
  | .cell k => decide (k < n)
  | _ => true
def lowL (n : Nat) : List D → Bool
  | [] => true
  | x :: xs => low n x && lowL n xs
def lowK (n : Nat) : List (Key × D) → Bool
  | [] => true
  | (_, x) :: xs => low n x && lowK n xs
end
def lowF (n : Nat) : List (Str × D) → Bool
  | [] => true
  | (_, x) :: xs => low n x && lowF n xs
def lowC (n : Nat) : C → Bool
  | .lst xs => lowL n xs
  | .dct xs => lowK n xs
  | .obj _ fs => lowF n fs
  | .set _ => true
  | .lck xs => lowK n xs
/-- the cells from n on read out into values -/
def meltF (n : Nat) (cs : List C) : Nat → D → Option D
  | 0, _ => none
  | f + 1, .cell k => if k < n then some (.cell k) else match cs[k]? with
    | some (.lst xs) => (xs.mapM (meltF n cs f)).map .lst
    | _ => none
  | f + 1, .tup xs => (xs.mapM (meltF n cs f)).map .tup
  | f + 1, .lst xs => (xs.mapM (meltF n cs f)).map .lst
  | _ + 1, d => if low n d then some d else none
def melt (n : Nat) (cs : List C) (d : D) : Option D := if low n d then some d else meltF n cs 9 d

section
variable {K : PySem.W.Frag} {mg : Str → Option Value} {av m nw : List Addr} {H : Hp} {cs : List C}
theorem cell_low {k : Nat} {a : Addr} (h : (m ++ nw)[k]? = some a) (hk : k < m.length) : m[k]? = some a := by
  rwa [List.getElem?_append_left hk] at h
theorem notin_left {a : Addr} (h : a ∉ av ++ nw) : a ∉ av := fun z => h (List.mem_append_left _ z)
mutual
theorem R.low : ∀ {v : V} {d : D}, R K (av ++ nw) (m ++ nw) H v d → low m.length d = true → R K av m H v d
  | _, _, .non, _ => .non
  | _, _, .bl b, _ => .bl b
  | _, _, .int i, _ => .int i
  | _, _, .str x, _ => .str x
  | _, _, .ty n, _ => .ty n
  | _, _, .tup h n l, p => .tup h (notin_left n) (RL.low l (by simpa [Dm.low] using p))
  | _, _, .tupK h l, p => .tupK h (RL.low l (by simpa [Dm.low] using p))
  | _, _, .lst h n l, p => .lst h (notin_left n) (RL.low l (by simpa [Dm.low] using p))
  | _, _, .fro h l, p => .fro (h.imp (fun z => ⟨z.1, notin_left z.2⟩) id) (RL.low l (by simpa [Dm.low] using p))
  | _, _, .dct h n l, p => .dct h (notin_left n) (RK.low l (by simpa [Dm.low] using p))
  | _, _, .cell h, p => .cell (cell_low h (by simpa [Dm.low] using p))
  | _, _, .ptr h, _ => .ptr fun d fs q => ⟨(h d fs q).1, notin_left (h d fs q).2⟩
theorem RL.low : ∀ {v : List V} {d : List D}, RL K (av ++ nw) (m ++ nw) H v d → lowL m.length d = true → RL K av m H v d
  | _, _, .nil, _ => .nil
  | _, _, .cons h t, p => by
    simp only [lowL, Bool.and_eq_true] at p
    exact .cons (R.low h p.1) (RL.low t p.2)
theorem RK.low : ∀ {v : List (Key × V)} {d : List (Key × D)}, RK K (av ++ nw) (m ++ nw) H v d → lowK m.length d = true → RK K av m H v d
  | _, _, .nil, _ => .nil
  | _, _, .cons h t, p => by
    simp only [lowK, Bool.and_eq_true] at p
    exact .cons (R.low h p.1) (RK.low t p.2)
end
theorem RF.low : ∀ {v : List (Str × V)} {d : List (Str × D)}, RF K (av ++ nw) (m ++ nw) H v d → lowF m.length d = true → RF K av m H v d
  | _, _, .nil, _ => .nil
  | _, _, .cons h t, p => by
    simp only [lowF, Bool.and_eq_true] at p
    exact .cons (h.low p.1) (RF.low t p.2)
theorem RL.meltF {n : Nat} (ih : ∀ {v : V} {d e : D}, R K (av ++ nw) (m ++ nw) H v d → meltF m.length cs n d = some e → R K av m H v e) :
    ∀ {vs : List V} {ds es : List D}, RL K (av ++ nw) (m ++ nw) H vs ds → ds.mapM (Dm.meltF m.length cs n) = some es → RL K av m H vs es
  | _, _, _, .nil, h => by simp at h; subst h; exact .nil
  | _, _, _, .cons r t, h => by
    rw [List.mapM_cons] at h
    simp only [Option.bind_eq_bind, Option.bind_eq_some_iff] at h
    obtain ⟨e1, h1, es, h2, h3⟩ := h
    cases h3
    exact .cons (ih r h1) (RL.meltF ih t h2)
theorem R.meltF (c : RC K mg (av ++ nw) (m ++ nw) H cs) (hn : ∀ a ∈ nw, a ∉ av) : ∀ {n : Nat} {v : V} {d e : D}, R K (av ++ nw) (m ++ nw) H v d → Dm.meltF m.length cs n d = some e → R K av m H v e
  | 0, _, _, _, _, h => by simp [Dm.meltF] at h
  | n + 1, v, d, e, r, h => by
    have ih : ∀ {v : V} {d e : D}, R K (av ++ nw) (m ++ nw) H v d → Dm.meltF m.length cs n d = some e → R K av m H v e := fun r h => R.meltF c hn r h
    have other : (if Dm.low m.length d = true then some d else none) = some e → R K av m H v e := fun q => by
      split at q
      · cases q; rename_i p; exact r.low p
      · cases q
    cases r with
    | tup h1 n1 l =>
      simp only [Dm.meltF, Option.map_eq_some_iff] at h
      obtain ⟨es, h2, rfl⟩ := h
      exact .tup h1 (notin_left n1) (RL.meltF ih l h2)
    | tupK h1 l =>
      simp only [Dm.meltF, Option.map_eq_some_iff] at h
      obtain ⟨es, h2, rfl⟩ := h
      exact .tupK h1 (RL.meltF ih l h2)
    | lst h1 n1 l =>
      simp only [Dm.meltF, Option.map_eq_some_iff] at h
      obtain ⟨es, h2, rfl⟩ := h
      exact .lst h1 (notin_left n1) (RL.meltF ih l h2)
    | @cell k a hk =>
      simp only [Dm.meltF] at h
      split at h
      · rename_i hlt; cases h; exact .cell (cell_low hk hlt)
      · rename_i hlt
        split at h
        · rename_i xs hx
          simp only [Option.map_eq_some_iff] at h
          obtain ⟨es, h2, rfl⟩ := h
          obtain ⟨ys, q, l⟩ := c.ok k a _ hk hx
          rw [List.getElem?_append_right (by omega)] at hk
          exact .lst q (hn a (List.mem_of_getElem? hk)) (RL.meltF ih l h2)
        · cases h
    | non => simp only [Dm.meltF] at h; exact other h
    | bl b => simp only [Dm.meltF] at h; exact other h
    | int i => simp only [Dm.meltF] at h; exact other h
    | str x => simp only [Dm.meltF] at h; exact other h
    | ty x => simp only [Dm.meltF] at h; exact other h
    | ptr h1 => simp only [Dm.meltF] at h; exact other h
    | fro h1 l => simp only [Dm.meltF] at h; exact other h
    | dct h1 n1 l => simp only [Dm.meltF] at h; exact other h
theorem R.melt {v : V} {d e : D} (c : RC K mg (av ++ nw) (m ++ nw) H cs) (hn : ∀ a ∈ nw, a ∉ av) (r : R K (av ++ nw) (m ++ nw) H v d) (h : Dm.melt m.length cs d = some e) : R K av m H v e := by
  unfold Dm.melt at h
  split at h
  · cases h; rename_i p; exact r.low p
  · exact r.meltF c hn h
/-- the store cut back -/
theorem RC.cut (c : RC K mg (av ++ nw) (m ++ nw) H cs) (sub : ∀ a ∈ m, a ∈ av) (hl : (cs.take m.length).all (lowC m.length) = true) : RC K mg av m H (cs.take m.length) := by
  have len := c.len
  rw [List.length_append] at len
  refine ⟨sub, fun a h => c.trk a (List.mem_append_left _ h), by rw [List.length_take]; omega, (List.nodup_append.mp c.nd).1, fun k a u h1 h2 => ?_⟩
  have hk := (List.getElem?_eq_some_iff.mp h1).1
  rw [List.getElem?_take_of_lt hk] at h2
  have ho := c.ok k a u (by rw [List.getElem?_append_left hk]; exact h1) h2
  have hlow : lowC m.length u = true := List.all_eq_true.mp hl u (List.mem_of_getElem? (show (cs.take m.length)[k]? = some u by rw [List.getElem?_take_of_lt hk]; exact h2))
  cases u with
  | lst ds => obtain ⟨xs, q, r⟩ := ho; exact ⟨xs, q, r.low hlow⟩
  | dct ds => obtain ⟨xs, q, r⟩ := ho; exact ⟨xs, q, r.low hlow⟩
  | obj x fs => obtain ⟨Ca, dx, vs, q0, q, r⟩ := ho; exact ⟨Ca, dx, vs, q0, q, r.low hlow⟩
  | set xs => exact ho
  | lck ds => obtain ⟨o, xs, q, r⟩ := ho; exact ⟨o, xs, q, r.low hlow⟩
end

abbrev Fd := List D → List C → Out D
def callS (F : Fd) : Fd := fun ds cs => match F ds cs with
  | .ok d cs' => match melt cs.length cs' d with
    | some e => if (cs'.take cs.length).all (lowC cs.length) then .ok e (cs'.take cs.length) else .bad
    | none => .bad
  | .exc x fs cs' => if (cs'.take cs.length).all (lowC cs.length) && (fs.all (lowF cs.length)) then .exc x fs (cs'.take cs.length) else .bad
  | .bad => .bad
def callP (F : Fd) : Fd := fun ds cs => if lowL 0 ds then (match F ds [] with
  | .ok d cs' => match melt 0 cs' d with
    | some e => .ok e cs
    | none => .bad
  | .exc x fs _ => if fs.all (lowF 0) then .exc x fs cs else .bad
  | .bad => .bad) else .bad

section
variable {K : PySem.W.Frag} {mg : Str → Option Value} {av m : List Addr} {H : Hp} {cs : List C} {E : XK} {Q : VK}
theorem XF.low {nw : List Addr} {dd : Option Addr} {fs : Option (List (Str × D))} (x : XF K (av ++ nw) (m ++ nw) H dd fs) (h : fs.all (lowF m.length) = true) : XF K av m H dd fs := by
  cases dd <;> cases fs <;> try exact x
  obtain ⟨vs, q, n, r⟩ := x
  exact ⟨vs, q, notin_left n, r.low (by simpa using h)⟩
theorem Ext.cut {nw : List Addr} {H' : Hp} (e : Ext av m H (av ++ nw) (m ++ nw) H') : Ext av m H av m H' := ⟨⟨[], by simp, by simp, fun _ h => nomatch h⟩, e.keep, e.there, e.fz⟩
theorem Ext.off (c : RC K mg av m H cs) {nw1 nw2 : List Addr} {H' : Hp} (e : Ext av m H (av ++ nw1) (m ++ nw2) H') : ∀ a ∈ nw1, a ∉ av := by
  obtain ⟨nw, h1, _, f⟩ := e.new
  rw [List.append_right_inj] at h1
  subst h1
  exact fun a h z => c.trk a z (f a h)
theorem post_callS {F : Fd} {ds : List D} (c : RC K mg av m H cs) (p : PostE K mg av m H E Q (callS F ds cs)) : PostE K mg av m H E Q (F ds cs) := by
  unfold callS at p
  have hl := c.len
  split at p
  · rename_i d cs' e
    rw [e]
    split at p
    · rename_i d' hd
      split at p
      · rename_i ha
        intro av2 m2 H2 v e2 c2 r2
        obtain ⟨nw, rfl, rfl, f⟩ := id e2.new
        rw [← hl] at hd ha p
        exact p av m H2 v e2.cut (c2.cut c.sub ha) (r2.melt c2 (e2.off c) hd)
      · exact p.elim
    · exact p.elim
  · rename_i x fs cs' e
    rw [e]
    split at p
    · rename_i ha
      rw [Bool.and_eq_true] at ha
      intro av2 m2 H2 Ca dd e2 c2 z x2
      obtain ⟨nw, rfl, rfl, f⟩ := id e2.new
      rw [← hl] at ha p
      exact p av m H2 Ca dd e2.cut (c2.cut c.sub ha.1) z (x2.low ha.2)
    · exact p.elim
  · exact p.elim
theorem RC.hide (c : RC K mg av m H cs) : RC K mg av [] H [] := ⟨(fun _ h => nomatch h), c.trk, rfl, List.nodup_nil, (fun n a d h => by simp at h)⟩
mutual
theorem R.hide {m2 : List Addr} : ∀ {v : V} {d : D}, R K av m H v d → low 0 d = true → R K av m2 H v d
  | _, _, .non, _ => .non
  | _, _, .bl b, _ => .bl b
  | _, _, .int i, _ => .int i
  | _, _, .str x, _ => .str x
  | _, _, .ty n, _ => .ty n
  | _, _, .tup h n l, p => .tup h n (RL.hide l (by simpa [Dm.low] using p))
  | _, _, .tupK h l, p => .tupK h (RL.hide l (by simpa [Dm.low] using p))
  | _, _, .lst h n l, p => .lst h n (RL.hide l (by simpa [Dm.low] using p))
  | _, _, .fro h l, p => .fro h (RL.hide l (by simpa [Dm.low] using p))
  | _, _, .dct h n l, p => .dct h n (RK.hide l (by simpa [Dm.low] using p))
  | _, _, .cell h, p => by simp [Dm.low] at p
  | _, _, .ptr h, _ => .ptr h
theorem RL.hide {m2 : List Addr} : ∀ {v : List V} {d : List D}, RL K av m H v d → lowL 0 d = true → RL K av m2 H v d
  | _, _, .nil, _ => .nil
  | _, _, .cons h t, p => by
    simp only [lowL, Bool.and_eq_true] at p
    exact .cons (R.hide h p.1) (RL.hide t p.2)
theorem RK.hide {m2 : List Addr} : ∀ {v : List (Key × V)} {d : List (Key × D)}, RK K av m H v d → lowK 0 d = true → RK K av m2 H v d
  | _, _, .nil, _ => .nil
  | _, _, .cons h t, p => by
    simp only [lowK, Bool.and_eq_true] at p
    exact .cons (R.hide h p.1) (RK.hide t p.2)
end
theorem RF.hide {m2 : List Addr} : ∀ {v : List (Str × V)} {d : List (Str × D)}, RF K av m H v d → lowF 0 d = true → RF K av m2 H v d
  | _, _, .nil, _ => .nil
  | _, _, .cons h t, p => by
    simp only [lowF, Bool.and_eq_true] at p
    exact .cons (h.hide p.1) (RF.hide t p.2)
/-- nothing tracked ahead has changed -/
theorem RC.show (c : RC K mg av m H cs) {av2 m2 : List Addr} {H2 : Hp} (e : Ext av [] H av2 m2 H2) : Ext av m H av m H2 ∧ RC K mg av m H2 cs := by
  have k : Ext av m H av m H2 := ⟨⟨[], by simp, by simp, fun _ h => nomatch h⟩, fun b o h _ => e.keep b o h (by simp), e.there, e.fz⟩
  refine ⟨k, c.ext k fun a h => ?_⟩
  cases q : H a with
  | none => exact absurd q (c.trk a (c.sub a h))
  | some o => exact e.keep a o q (by simp)
mutual
theorem meltF_low : ∀ {f : Nat} {cs : List C} {d e : D}, meltF 0 cs f d = some e → low 0 e = true
  | 0, _, _, _, h => by simp [meltF] at h
  | f + 1, cs, d, e, h => by
    cases d with
    | cell k =>
      simp only [meltF, Nat.not_lt_zero, if_false] at h
      split at h
      · simp only [Option.map_eq_some_iff] at h
        obtain ⟨es, h2, rfl⟩ := h
        exact meltF_lowL h2
      · cases h
    | tup xs =>
      simp only [meltF, Option.map_eq_some_iff] at h
      obtain ⟨es, h2, rfl⟩ := h
      exact meltF_lowL h2
    | lst xs =>
      simp only [meltF, Option.map_eq_some_iff] at h
      obtain ⟨es, h2, rfl⟩ := h
      exact meltF_lowL h2
    | _ =>
      simp only [meltF] at h
      split at h
      · cases h; assumption
      · cases h
theorem meltF_lowL : ∀ {f : Nat} {cs : List C} {ds es : List D}, ds.mapM (meltF 0 cs f) = some es → lowL 0 es = true
  | _, _, [], _, h => by simp at h; subst h; rfl
  | f, cs, d :: ds, es, h => by
    rw [List.mapM_cons] at h
    simp only [Option.bind_eq_bind, Option.bind_eq_some_iff] at h
    obtain ⟨e1, h1, es2, h2, h3⟩ := h
    cases h3
    simp only [lowL, Bool.and_eq_true]
    exact ⟨meltF_low h1, meltF_lowL h2⟩
end
theorem melt_low {cs : List C} {d e : D} (h : melt 0 cs d = some e) : low 0 e = true := by
  unfold melt at h
  split at h
  · cases h; assumption
  · exact meltF_low h
theorem post_callP {F : Fd} {ds : List D} {vs : List V} (c : RC K mg av m H cs) (l : RL K av m H vs ds) (p : PostE K mg av m H E Q (callP F ds cs)) : RL K av [] H vs ds ∧ PostE K mg av [] H E Q (F ds []) := by
  unfold callP at p
  split at p
  · rename_i hl
    refine ⟨l.hide hl, ?_⟩
    split at p
    · rename_i d cs' e
      rw [e]
      split at p
      · rename_i d' hd
        intro av2 m2 H2 v e2 c2 r2
        obtain ⟨nw, e3, e4, f⟩ := id e2.new
        obtain rfl : m2 = nw := by simpa using e4
        subst e3
        obtain ⟨k1, k2⟩ := c.show e2
        have hm := R.melt (m := []) (av := av) (nw := m2) (by simpa using c2) (Ext.off c.hide e2) (by simpa using r2) (by simpa using hd)
        exact p av m H2 v k1 k2 (hm.hide (melt_low hd))
      · exact p.elim
    · rename_i x fs cs' e
      rw [e]
      split at p
      · rename_i ha
        intro av2 m2 H2 Ca dd e2 c2 z x2
        obtain ⟨nw, e3, e4, f⟩ := id e2.new
        obtain rfl : m2 = nw := by simpa using e4
        subst e3
        obtain ⟨k1, k2⟩ := c.show e2
        refine p av m H2 Ca dd k1 k2 z ?_
        have x3 := XF.low (m := []) (av := av) (nw := m2) (by simpa using x2) (by simpa using ha)
        cases dd <;> cases fs <;> try exact x3
        obtain ⟨us, q, n, r⟩ := x3
        exact ⟨us, q, n, r.hide (by simpa using ha)⟩
      · exact p.elim
    · exact p.elim
  · exact p.elim
end

/-! ### the rules -/
section
variable {X : Cx} {EX : XK} {k : Nat} {f : Addr} {fd : FuncData} {ps : List Str} {F : Fd} {x : Str} {p pos : Pos} {e : Expr} {es : List Expr} {a : Ga}
theorem run_fng {sp : Sp} {pins : List (Addr × Obj)} {σ : L2.St} {H : Hp} {s : Shared} {Q : VK} {us0 : List Value} {kw : List (Str × Value)} {us : List Value} {vs : List V} (F : FnG X.prog X.w X.K X.mg X.base k f fd ps sp) (hr : Room k X.A) (hq : Quiet X.A)
    (hb : BindsTo s fd ⟨us0, kw⟩ (ps.zip us)) (hx : Passes (L2.CX X.prog X.w) X EX) (I : Inv X pins σ H s) (r : Vals vs us) (h : sp vs H Q EX) : wpAny (model X.prog X.w) X.A (call (.ref f) us0 kw) (EP X pins σ Q) X.xe s := by
  have run := F.run X.A X.stack s H ⟨us0, kw⟩ us vs Q EX hr hq I.env0 hb r h
  refine wpAny_call (codeAny_mono run fun o s1 h1 => ?_)
  match o, h1 with
  | .error u, h1 => exact hx pins σ H s u s1 I h1
  | .ok (.ret u), h1 => exact I.after h1
/-- how an argument list and keyword values come to the parameters, for values of any kind -/
structure KB (K : PySem.W.Frag) (fd : FuncData) (ps ks : List Str) (n m : Nat) (g : ∀ {α : Type}, List α → List α → List α) : Prop where
  to : ∀ (s : Shared) (us ws : List Value), K.In s.heap → us.length = n → ws.length = m → BindsTo s fd ⟨us, ks.zip ws⟩ (ps.zip (g us ws))
  relV : ∀ {vs : List V} {us : List Value} {zs : List V} {ws : List Value}, Vals vs us → Vals zs ws → us.length = n → ws.length = m → Vals (g vs zs) (g us ws)
  relR : ∀ {K : PySem.W.Frag} {av m' : List Addr} {H : Hp} {vs zs : List V} {us ws : List D}, RL K av m' H vs us → RL K av m' H zs ws → us.length = n → ws.length = m → RL K av m' H (g vs zs) (g us ws)
def tG (sp : Sp) (E : XK) (t : TA) : TE := fun σ H Q => t σ H fun vs H1 => sp vs H1 Q E
theorem te_call {K : PySem.W.Frag} {mg : Str → Option Value} {n : Nat} {t : TA} {F2 : Fd} (hF : ∀ av m H cs vs ds Q, RC K mg av m H cs → RL K av m H vs ds → PostE K mg av m H EX Q (F2 ds cs) → spG K mg n F vs H Q EX) (k : TaOk K mg EX t a) : TeOk K mg EX (tG (spG K mg n F) EX t) (gA F2 a) :=
  fun av m H σ env cs Q c s p => k av m H σ env cs _ c s (PostA.bindE p fun ds cs1 av1 m1 H1 vs e1 c1 r1 p1 => hF av1 m1 H1 cs1 vs ds Q c1 r1 p1)
def argN (n : Nat) (F : Fd) : Fd := fun ds cs => if ds.length = n then F ds cs else .bad
theorem sp_K {K : PySem.W.Frag} {mg : Str → Option Value} {n : Nat} : ∀ av m H cs vs ds Q, RC K mg av m H cs → RL K av m H vs ds → PostE K mg av m H EX Q (argN n F ds cs) → spG K mg n F vs H Q EX := fun av m H cs vs ds Q c l p => by
  unfold argN at p
  split at p
  · rename_i hn; exact ⟨av, m, ds, cs, c, l, hn, p⟩
  · exact p.elim
theorem sp_S {K : PySem.W.Frag} {mg : Str → Option Value} {n : Nat} : ∀ av m H cs vs ds Q, RC K mg av m H cs → RL K av m H vs ds → PostE K mg av m H EX Q (argN n (callS F) ds cs) → spG K mg n F vs H Q EX := fun av m H cs vs ds Q c l p => by
  unfold argN at p
  split at p
  · rename_i hn; exact ⟨av, m, ds, cs, c, l, hn, post_callS c p⟩
  · exact p.elim
theorem sp_P {K : PySem.W.Frag} {mg : Str → Option Value} {n : Nat} : ∀ av m H cs vs ds Q, RC K mg av m H cs → RL K av m H vs ds → PostE K mg av m H EX Q (argN n (callP F) ds cs) → spG K mg n F vs H Q EX := fun av m H cs vs ds Q c l p => by
  unfold argN at p
  split at p
  · rename_i hn
    obtain ⟨l2, p2⟩ := post_callP c l p
    exact ⟨av, [], ds, [], c.hide, l2, hn, p2⟩
  · exact p.elim
theorem pe_callG {sp : Sp} {t : TA} (G : FnG X.prog X.w X.K X.mg X.base k f fd ps sp) (hr : Room k X.A) (hq : Quiet X.A) (hg : Gl X x) (hm : X.mg x = some (.ref f)) (hk : PySem.W.keepIn X.K (.ref f) = true) (hb : Binds X.K fd ps []) (hx : Passes (L2.CX X.prog X.w) X EX)
    (ha : PA X (e :: es) t) (hdb : (x == ("__debug__" : Str)) = false := by decide) (he : starEach (e :: es) X.env = (false, eval e X.env) :: starEach es X.env := by rfl) (hpl : (backTo pos (starEach es X.env)).any (·.1) = false := by rfl) :
    PE X (.Call (.Name x p) (e :: es) [] pos) (tG sp EX t) := by
  constructor
  intro pins s σ H Q I h
  refine wpAny_Call_Name_kw (ld_glob I hg hm (PySem.W.callWith_K (h₀ := X.base) I.ok.mod.kin hk ?_ he hpl) hdb)
  refine thn (ha.run pos pins s σ H _ I h) fun us s1 ha1 => ?_
  obtain ⟨vs, H1, J, r, q⟩ := ha1
  have hl : (us ++ []).length = ps.length := by rw [List.append_nil, ← r.length]; exact G.len _ _ _ _ q
  have b := hb s1 us J.kIn hl
  rw [List.append_nil] at b
  exact ⟨J.kIn, run_fng G hr hq b hx J r q⟩
theorem pe_callG0 {sp : Sp} (G : FnG X.prog X.w X.K X.mg X.base k f fd ps sp) (hr : Room k X.A) (hq : Quiet X.A) (hg : Gl X x) (hm : X.mg x = some (.ref f)) (hk : PySem.W.keepIn X.K (.ref f) = true) (hb : Binds X.K fd ps []) (hx : Passes (L2.CX X.prog X.w) X EX)
    (hdb : (x == ("__debug__" : Str)) = false := by decide) : PE X (.Call (.Name x p) [] [] pos) (tG sp EX tNil) := by
  constructor
  intro pins s σ H Q I h
  refine wpAny_Call_Name_kw (ld_glob I hg hm (PySem.W.callWith_K0 I.kIn hk ?_) hdb)
  have b := hb s [] I.kIn (by have := G.len _ _ _ _ (show sp [] H Q EX from h); simpa using this)
  exact run_fng (us := []) G hr hq (by simpa using b) hx I .nil h
variable {kws : List Keyword} {ks : List Str} {g : ∀ {α : Type}, List α → List α → List α} {n m : Nat}
/-- keywords alone -/
theorem pe_callGK0 {sp : Sp} {t : TA} (G : FnG X.prog X.w X.K X.mg X.base k f fd ps sp) (hr : Room k X.A) (hq : Quiet X.A) (hg : Gl X x) (hm : X.mg x = some (.ref f)) (hk : PySem.W.keepIn X.K (.ref f) = true) (hb : KB X.K fd ps ks 0 m g) (hx : Passes (L2.CX X.prog X.w) X EX)
    (hkw : PK X kws t) (hall : (backToKw pos (keywordEach kws X.env)).all (·.1.isSome) = true := by rfl) (hks : (backToKw pos (keywordEach kws X.env)).filterMap (·.1) = ks := by rfl)
    (hpl : ((backTo pos (starEach [] X.env)).any (·.1) || (backToKw pos (keywordEach kws X.env)).any (·.1.isNone)) = false := by rfl) (hdb : (x == ("__debug__" : Str)) = false := by decide) :
    PE X (.Call (.Name x p) [] kws pos) (fun σ H Q => t σ H fun zs H1 => zs.length = m ∧ sp (g [] zs) H1 Q EX) := by
  constructor
  intro pins s σ H Q I h
  refine wpAny_Call_Name_kw (ld_glob I hg hm (PySem.W.callWith_KW0 (h₀ := X.base) I.ok.mod.kin hk hall ?_ hpl) hdb)
  refine thn (hkw.run pos pins s σ H _ I h) fun ws s1 ⟨zs, H1, J, r, hz, q⟩ => ⟨J.kIn, ?_⟩
  rw [hks]
  have hw : ws.length = m := by rw [← r.length]; exact hz
  exact run_fng G hr hq (hb.to s1 [] ws J.kIn rfl hw) hx J (hb.relV .nil r rfl hw) q
/-- .. behind written arguments -/
theorem pe_callGK {sp : Sp} {ta t : TA} (G : FnG X.prog X.w X.K X.mg X.base k f fd ps sp) (hr : Room k X.A) (hq : Quiet X.A) (hg : Gl X x) (hm : X.mg x = some (.ref f)) (hk : PySem.W.keepIn X.K (.ref f) = true) (hb : KB X.K fd ps ks n m g) (hx : Passes (L2.CX X.prog X.w) X EX)
    (ha : PA X (e :: es) ta) (hkw : PK X kws t) (hall : (backToKw pos (keywordEach kws X.env)).all (·.1.isSome) = true := by rfl) (hks : (backToKw pos (keywordEach kws X.env)).filterMap (·.1) = ks := by rfl)
    (he : starEach (e :: es) X.env = (false, eval e X.env) :: starEach es X.env := by rfl)
    (hpl : ((backTo pos (starEach (e :: es) X.env)).any (·.1) || (backToKw pos (keywordEach kws X.env)).any (·.1.isNone)) = false := by rfl) (hdb : (x == ("__debug__" : Str)) = false := by decide) :
    PE X (.Call (.Name x p) (e :: es) kws pos) (fun σ H Q => ta σ H fun vs H1 => t σ H1 fun zs H2 => vs.length = n ∧ zs.length = m ∧ sp (g vs zs) H2 Q EX) := by
  constructor
  intro pins s σ H Q I h
  refine wpAny_Call_Name_kw (ld_glob I hg hm (PySem.W.callWith_KW (h₀ := X.base) I.ok.mod.kin hk hall ?_ hpl he) hdb)
  refine thn (ha.run pos pins s σ H _ I h) fun us s1 ⟨vs, H1, I1, r1, q1⟩ => ?_
  refine thn (hkw.run pos pins s1 σ H1 _ I1 q1) fun ws s2 ⟨zs, H2, J, r, hv, hz, q⟩ => ⟨J.kIn, ?_⟩
  rw [hks]
  have hw : ws.length = m := by rw [← r.length]; exact hz
  have hu : us.length = n := by rw [← r1.length]; exact hv
  exact run_fng G hr hq (hb.to s2 us ws J.kIn hu hw) hx J (hb.relV r1 r hu hw) q
/-! the three ways, plain and by keywords -/
section
variable {F2 : Fd} (G : FnD X.prog X.w X.K X.mg X.base k f fd ps F) (hr : Room k X.A) (hq : Quiet X.A) (hm : X.mg x = some (.ref f)) (hk : PySem.W.keepIn X.K (.ref f) = true) (hx : Passes (L2.CX X.prog X.w) X EX)
  (hF : ∀ av m H cs vs ds Q, RC X.K X.mg av m H cs → RL X.K av m H vs ds → PostE X.K X.mg av m H EX Q (F2 ds cs) → spG X.K X.mg ps.length F vs H Q EX)
include G hr hq hm hk hx hF
theorem de_call (hb : Binds X.K fd ps []) (hg : Gl X x) (ha : DA X EX (e :: es) a) (hdb : (x == ("__debug__" : Str)) = false := by decide) (he : starEach (e :: es) X.env = (false, eval e X.env) :: starEach es X.env := by rfl) (hpl : (backTo pos (starEach es X.env)).any (·.1) = false := by rfl) :
    DE X EX (.Call (.Name x p) (e :: es) [] pos) (gA F2 a) :=
  let ⟨_, h, q⟩ := ha; ⟨_, pe_callG G hr hq hg hm hk hb hx h hdb he hpl, te_call hF q⟩
theorem de_call0 (hb : Binds X.K fd ps []) (hg : Gl X x) (hdb : (x == ("__debug__" : Str)) = false := by decide) : DE X EX (.Call (.Name x p) [] [] pos) (gA F2 aNil) :=
  let ⟨_, _, q⟩ := (da_nil : DA X EX [] aNil)
  ⟨_, pe_callG0 G hr hq hg hm hk hb hx hdb, te_call hF (t := tNil) fun av m H σ env cs Q c s p => p av m H [] (Ext.refl ..) c .nil⟩
end
structure DK (X : Cx) (EX : XK) (kws : List Keyword) (g : Ga) : Prop where
  ex : ∃ t, PK X kws t ∧ TaOk X.K X.mg EX t g
theorem dk_nil : DK X EX [] aNil := ⟨_, pk_nil, fun av m H σ env cs Q c s p => p av m H [] (Ext.refl ..) c .nil⟩
theorem dk_cons {nm : Option Str} {kpos : Pos} {ge : Gx} {r : Ga} (he : DE X EX e ge) (hr : DK X EX kws r) : DK X EX (⟨nm, e, kpos⟩ :: kws) (aCons ge r) := by
  obtain ⟨t, h, k⟩ := he
  obtain ⟨u, h', k'⟩ := hr
  refine ⟨_, pk_cons h h', fun av m H σ env cs Q c s p => k av m H σ env cs _ c s (PostE.bindA p fun d cs1 av1 m1 H1 v e1 c1 r1 p1 => ?_)⟩
  refine k' av1 m1 H1 σ env cs1 _ c1 (s.mono c.sub e1) (PostA.bindA p1 fun ds cs2 av2 m2 H2 vs e2 c2 r2 p2 => ?_)
  exact p2 av2 m2 H2 (v :: vs) (Ext.refl ..) c2 (.cons (r1.mono c1.sub e2) r2)
def gKw0 (m : Nat) (g : ∀ {α : Type}, List α → List α → List α) (F : Fd) (r : Ga) : Gx := fun env cs => (r env cs).bind fun zs cs => if zs.length = m then F (g [] zs) cs else .bad
def gKw (n m : Nat) (g : ∀ {α : Type}, List α → List α → List α) (F : Fd) (a r : Ga) : Gx := fun env cs => (a env cs).bind fun vs cs => (r env cs).bind fun zs cs => if vs.length = n ∧ zs.length = m then F (g vs zs) cs else .bad
section
variable {F2 : Fd} {r : Ga} (G : FnD X.prog X.w X.K X.mg X.base k f fd ps F) (hr : Room k X.A) (hq : Quiet X.A) (hm : X.mg x = some (.ref f)) (hk : PySem.W.keepIn X.K (.ref f) = true) (hx : Passes (L2.CX X.prog X.w) X EX)
  (hF : ∀ av m H cs vs ds Q, RC X.K X.mg av m H cs → RL X.K av m H vs ds → PostE X.K X.mg av m H EX Q (F2 ds cs) → spG X.K X.mg ps.length F vs H Q EX)
include G hr hq hm hk hx hF
theorem de_callK0 (hb : KB X.K fd ps ks 0 m g) (hg : Gl X x) (hkw : DK X EX kws r) (hall : (backToKw pos (keywordEach kws X.env)).all (·.1.isSome) = true := by rfl) (hks : (backToKw pos (keywordEach kws X.env)).filterMap (·.1) = ks := by rfl)
    (hpl : ((backTo pos (starEach [] X.env)).any (·.1) || (backToKw pos (keywordEach kws X.env)).any (·.1.isNone)) = false := by rfl) (hdb : (x == ("__debug__" : Str)) = false := by decide) :
    DE X EX (.Call (.Name x p) [] kws pos) (gKw0 m g F2 r) := by
  obtain ⟨t, h, q⟩ := hkw
  refine ⟨_, pe_callGK0 G hr hq hg hm hk hb hx h hall hks hpl hdb, fun av m H σ env cs Q c s p => q av m H σ env cs _ c s (PostA.bindE p fun ds cs1 av1 m1 H1 vs e1 c1 r1 p1 => ?_)⟩
  split at p1
  · rename_i hz
    exact ⟨r1.length.trans hz, hF _ _ _ _ _ _ _ c1 (hb.relR .nil r1 rfl hz) p1⟩
  · exact p1.elim
theorem de_callK (hb : KB X.K fd ps ks n m g) (hg : Gl X x) (ha : DA X EX (e :: es) a) (hkw : DK X EX kws r) (hall : (backToKw pos (keywordEach kws X.env)).all (·.1.isSome) = true := by rfl) (hks : (backToKw pos (keywordEach kws X.env)).filterMap (·.1) = ks := by rfl)
    (he : starEach (e :: es) X.env = (false, eval e X.env) :: starEach es X.env := by rfl)
    (hpl : ((backTo pos (starEach (e :: es) X.env)).any (·.1) || (backToKw pos (keywordEach kws X.env)).any (·.1.isNone)) = false := by rfl) (hdb : (x == ("__debug__" : Str)) = false := by decide) :
    DE X EX (.Call (.Name x p) (e :: es) kws pos) (gKw n m g F2 a r) := by
  obtain ⟨t, h, q⟩ := hkw
  obtain ⟨ta, h2, q2⟩ := ha
  refine ⟨_, pe_callGK G hr hq hg hm hk hb hx h2 h hall hks he hpl hdb, fun av m H σ env cs Q c s p => q2 av m H σ env cs _ c s (PostA.bindE p fun us cs1 av1 m1 H1 vs e1 c1 r1 p1 => ?_)⟩
  refine q av1 m1 H1 σ env cs1 _ c1 (s.mono c.sub e1) (PostA.bindE p1 fun ds cs2 av2 m2 H2 zs e2 c2 r2 p2 => ?_)
  split at p2
  · rename_i hz
    have r3 := RL.mono c1.sub e2 r1
    exact ⟨r1.length.trans hz.1, r2.length.trans hz.2, hF _ _ _ _ _ _ _ c2 (hb.relR r3 r2 hz.1 hz.2) p2⟩
  · exact p2.elim
end
end
end Dm
set_option linter.all false
set_option maxRecDepth 100000
set_option maxHeartbeats 1000000
/-! Dm: statements, targets, loops. -/
namespace Dm
open PySem PySem.Spec L2
section
variable {X : Cx} {EX : XK} {K : PySem.W.Frag} {mg : Str → Option Value} {pos : Pos}

/-! ### blocks -/
def sNext : Gs := fun env cs => .ok ⟨.nx, env⟩ cs
def sSeq (a b : Gs) : Gs := fun env cs => match a env cs with
  | .ok ⟨.nx, env'⟩ cs' => b env' cs'
  | .ok ⟨.rt d, e⟩ cs' => .ok ⟨.rt d, e⟩ cs'
  | .ok ⟨.bk, e⟩ cs' => .ok ⟨.bk, e⟩ cs'
  | .ok ⟨.ct, e⟩ cs' => .ok ⟨.ct, e⟩ cs'
  | .exc x fs cs' => .exc x fs cs'
  | .bad => .bad
theorem ds_nil : DSs X EX [] sNext := ⟨_, pss_nil, fun av m H σ env cs Dn c s p => p av m H σ (Ext.refl ..) c s⟩
theorem ds_one {st : Stmt} {g : Gs} (h : DS X EX st g) : DSs X EX [st] g := let ⟨_, h, k⟩ := h; ⟨_, pss_one h, k⟩
theorem ds_cons {st : Stmt} {rest : List Stmt} {a b : Gs} (h1 : DS X EX st a) (h2 : DSs X EX rest b) : DSs X EX (st :: rest) (sSeq a b) := by
  obtain ⟨t, h, k⟩ := h1
  obtain ⟨u, h', k'⟩ := h2
  refine ⟨_, pss_cons h h', fun av m H σ env cs Dn c s p => k av m H σ env cs _ c s ?_⟩
  unfold sSeq at p
  split at p
  · rename_i e
    rw [e]
    exact fun av2 m2 H2 σ2 e2 c2 s2 => k' av2 m2 H2 σ2 _ _ _ c2 s2 (PostS.ext e2 p)
  · rename_i e; rw [e]; exact p
  · rename_i e; rw [e]; exact p
  · rename_i e; rw [e]; exact p
  · rename_i e; rw [e]; exact p
  · exact p.elim
theorem ds_pass : DS X EX (.Pass pos) sNext := ⟨_, ps_pass, fun av m H σ env cs Dn c s p => p av m H σ (Ext.refl ..) c s⟩
theorem ds_break : DS X EX (.Break pos) (fun env cs => .ok ⟨.bk, env⟩ cs) := ⟨_, ps_break, fun av m H σ env cs Dn c s p => p av m H σ (Ext.refl ..) c s⟩
theorem ds_continue : DS X EX (.Continue pos) (fun env cs => .ok ⟨.ct, env⟩ cs) := ⟨_, ps_continue, fun av m H σ env cs Dn c s p => p av m H σ (Ext.refl ..) c s⟩
def sExpr (g : Gx) : Gs := fun env cs => (g env cs).bind fun _ cs => .ok ⟨.nx, env⟩ cs
theorem ds_expr {e : Expr} {g : Gx} (he : DE X EX e g) (hs : swapsWith e none pos.line X.env = pure false := by rfl) : DS X EX (.Expr e pos) (sExpr g) := by
  obtain ⟨t, h, k⟩ := he
  exact ⟨_, ps_expr h hs, fun av m H σ env cs Dn c s p => k av m H σ env cs _ c s (PostE.bindS p fun d cs1 av1 m1 H1 v e1 c1 r1 p1 => p1 av1 m1 H1 σ (Ext.refl ..) c1 (s.mono c.sub e1))⟩
def sRet (g : Gx) : Gs := fun env cs => (g env cs).bind fun d cs => .ok ⟨.rt d, env⟩ cs
theorem ds_ret {e : Expr} {g : Gx} (he : DE X EX e g) : DS X EX (.Return (some e) pos) (sRet g) := by
  obtain ⟨t, h, k⟩ := he
  exact ⟨_, ps_ret h, fun av m H σ env cs Dn c s p => k av m H σ env cs _ c s (PostE.bindS p fun d cs1 av1 m1 H1 v e1 c1 r1 p1 => p1 av1 m1 H1 v (Ext.refl ..) c1 r1)⟩
theorem ds_retN : DS X EX (.Return none pos) (fun env cs => .ok ⟨.rt .non, env⟩ cs) := ⟨_, ps_retN, fun av m H σ env cs Dn c s p => p av m H .non (Ext.refl ..) c .non⟩
def sIf (t : Gt) (a b : Gs) : Gs := fun env cs => (t env cs).bind fun x cs => if x then a env cs else b env cs
theorem ds_if {c : Expr} {a b : List Stmt} {gt : Gt} {ga gb : Gs} (hc : DT X EX c gt) (ha : DSs X EX a ga) (hb : DSs X EX b gb) : DS X EX (.If c a b pos) (sIf gt ga gb) := by
  obtain ⟨t, h, k⟩ := hc
  obtain ⟨ta, h1, k1⟩ := ha
  obtain ⟨tb, h2, k2⟩ := hb
  refine ⟨_, ps_if h h1 h2, fun av m H σ env cs Dn c s p => k av m H σ env cs _ c s (PostT.bindS p fun d cs1 av1 m1 H1 e1 c1 p1 => ?_)⟩
  cases d with
  | true => exact iteT (k1 av1 m1 H1 σ env cs1 _ c1 (s.mono c.sub e1) p1)
  | false => exact iteF (k2 av1 m1 H1 σ env cs1 _ c1 (s.mono c.sub e1) p1)

/-! ### targets -/
abbrev Env' := List (Option D)
abbrev Gg := D → Env' → List C → Out Env'
def PostG (K : PySem.W.Frag) (mg : Str → Option Value) (av m : List Addr) (H : Hp) (EX : XK) (Q : L2.St → Hp → Prop) : Out Env' → Prop
  | .ok env cs => ∀ (av' m' : List Addr) (H' : Hp) (σ' : L2.St), Ext av m H av' m' H' → RC K mg av' m' H' cs → RS K av' m' H' σ' env → Q σ' H'
  | .exc x fs cs => PostX K mg av m H EX x fs cs
  | .bad => False
structure DG (X : Cx) (EX : XK) (tg : Expr) (g : Gg) : Prop where
  ex : ∃ t, PG X tg t ∧ ∀ (av m : List Addr) (H : Hp) (σ : L2.St) (env : Env') (cs : List C) (v : V) (d : D) (Q : L2.St → Hp → Prop), RC X.K X.mg av m H cs → RS X.K av m H σ env → R X.K av m H v d → PostG X.K X.mg av m H EX Q (g d env cs) → t v σ H Q
structure DGs (X : Cx) (EX : XK) (tg : List Expr) (g : List D → Env' → List C → Out Env') : Prop where
  ex : ∃ t, PGs X tg t ∧ ∀ (av m : List Addr) (H : Hp) (σ : L2.St) (env : Env') (cs : List C) (v : List V) (d : List D) (Q : L2.St → Hp → Prop), RC X.K X.mg av m H cs → RS X.K av m H σ env → RL X.K av m H v d → PostG X.K X.mg av m H EX Q (g d env cs) → t v σ H Q
theorem PostG.ext {av m av' m' : List Addr} {H H' : Hp} {Q : L2.St → Hp → Prop} {o : Out Env'} (e : Ext av m H av' m' H') (p : PostG K mg av m H EX Q o) : PostG K mg av' m' H' EX Q o := by
  cases o with
  | ok d cs => exact fun a2 m2 H2 v e2 r q => p a2 m2 H2 v (e.trans e2) r q
  | exc x fs cs => exact PostX.ext e p
  | bad => exact p
theorem PostG.bind {av m : List Addr} {H : Hp} {Q Q2 : L2.St → Hp → Prop} {o : Out Env'} {f : Env' → List C → Out Env'} (p : PostG K mg av m H EX Q (o.bind f))
    (h : ∀ env cs' av' m' H' σ', Ext av m H av' m' H' → RC K mg av' m' H' cs' → RS K av' m' H' σ' env → PostG K mg av' m' H' EX Q (f env cs') → Q2 σ' H') : PostG K mg av m H EX Q2 o := by
  cases o with
  | ok d cs => exact fun a2 m2 H2 σ2 e2 r q => h d cs a2 m2 H2 σ2 e2 r q (PostG.ext e2 p)
  | exc x fs cs => exact p
  | bad => exact p
theorem PostE.bindG {av m : List Addr} {H : Hp} {Q : L2.St → Hp → Prop} {Q2 : VK} {o : Out D} {f : D → List C → Out Env'} (p : PostG K mg av m H EX Q (o.bind f))
    (h : ∀ d cs' av' m' H' v, Ext av m H av' m' H' → RC K mg av' m' H' cs' → R K av' m' H' v d → PostG K mg av' m' H' EX Q (f d cs') → Q2 v H') : PostE K mg av m H EX Q2 o := by
  cases o with
  | ok d cs => exact fun a2 m2 H2 v e2 r q => h d cs a2 m2 H2 v e2 r q (PostG.ext e2 p)
  | exc x fs cs => exact p
  | bad => exact p
theorem PostG.bindS {av m : List Addr} {H : Hp} {Dn : Ends} {Q2 : L2.St → Hp → Prop} {o : Out Env'} {f : Env' → List C → Out Sg} (p : PostS K mg av m H EX Dn (o.bind f))
    (h : ∀ env cs' av' m' H' σ', Ext av m H av' m' H' → RC K mg av' m' H' cs' → RS K av' m' H' σ' env → PostS K mg av' m' H' EX Dn (f env cs') → Q2 σ' H') : PostG K mg av m H EX Q2 o := by
  cases o with
  | ok d cs => exact fun a2 m2 H2 σ2 e2 r q => h d cs a2 m2 H2 σ2 e2 r q (PostS.ext e2 p)
  | exc x fs cs => exact p
  | bad => exact p
def tgName (i : Nat) : Gg := fun d env cs => .ok (env.set i (some d)) cs
theorem dg_name (i : Nat) {x : Str} (hN : X.N.Nodup) (hi : X.N[i]? = some x := by rfl) (hx : Loc X.env.scope x := by first | exact Or.inl rfl | exact Or.inr rfl) (hf : X.fn x = true ∨ X.env.scope.names.lookup x = some .local := by first | exact .inl rfl | exact .inr rfl) : DG X EX (.Name x pos) (tgName i) :=
  ⟨_, pg_name hN hi hx hf, fun av m H σ env cs v d Q c s r p => p av m H _ (Ext.refl ..) c (s.set r)⟩
def tgNil : List D → Env' → List C → Out Env'
  | [], env, cs => .ok env cs
  | _, _, _ => .bad
def tgCons (g : Gg) (r : List D → Env' → List C → Out Env') : List D → Env' → List C → Out Env'
  | d :: ds, env, cs => (g d env cs).bind fun env cs => r ds env cs
  | [], _, _ => .bad
theorem dgs_nil : DGs X EX [] tgNil := ⟨_, pgs_nil, fun av m H σ env cs v d Q c s l p => by
  cases l with
  | nil => exact ⟨rfl, p av m H σ (Ext.refl ..) c s⟩
  | cons _ _ => exact p.elim⟩
theorem dgs_cons {e : Expr} {es : List Expr} {g : Gg} {r : List D → Env' → List C → Out Env'} (h1 : DG X EX e g) (h2 : DGs X EX es r)
    (hs : (assignEach (e :: es) X.env).map (·.2) = assign e X.env :: (assignEach es X.env).map (·.2) := by rfl) : DGs X EX (e :: es) (tgCons g r) := by
  obtain ⟨t, h, k⟩ := h1
  obtain ⟨u, h', k'⟩ := h2
  refine ⟨_, pgs_cons h h' hs, fun av m H σ env cs v d Q c s l p => ?_⟩
  cases l with
  | nil => exact p.elim
  | cons rd l =>
    refine ⟨_, _, rfl, k av m H σ env cs _ _ _ c s rd (PostG.bind p fun env1 cs1 av1 m1 H1 σ1 e1 c1 s1 p1 => ?_)⟩
    exact k' av1 m1 H1 σ1 env1 cs1 _ _ _ c1 s1 (RL.mono c.sub e1 l) p1
def tgTup (n : Nat) (r : List D → Env' → List C → Out Env') : Gg := fun d env cs => match d with
  | .tup ds => if ds.length = n then r ds env cs else .bad
  | _ => .bad
theorem dg_tup {es : List Expr} {kk : Nat} {r : List D → Env' → List C → Out Env'} {n : Nat} (hc : X.calm = true) (h : DGs X EX es r) (hn : (assignEach es X.env).length = n := by rfl) (hst : (assignEach es X.env).findIdx? (·.1) = none := by rfl) :
    DG X EX (.Tuple es kk pos) (tgTup n r) := by
  obtain ⟨t, h, k⟩ := h
  refine ⟨_, pg_tup hc h hn hst, fun av m H σ env cs v d Q c s rd p => ?_⟩
  unfold tgTup at p
  split at p
  · split at p
    · rename_i ds hl
      obtain ⟨a, xs, rfl, h1, h2⟩ := asT_ok rd (ds := ds) rfl
      exact ⟨a, xs, rfl, h1, by rw [h2.length]; exact hl, k av m H σ env cs _ _ _ c s h2 p⟩
    · exact p.elim
  · exact p.elim
/-- an item of a cell -/
def putD (n : Nat) (i : Int) (d : D) (cs : List C) : Out Unit := match cs[n]? with
  | some (.lst xs) => match ixN xs.length i with
    | some j => .ok () (cs.set n (.lst (xs.set j d)))
    | none => .bad
  | _ => .bad
def tgSub (go gi : Gx) : Gg := fun d env cs => (go env cs).bind fun o cs => (gi env cs).bind fun i cs => match o, i with
  | .cell n, .int i => (putD n i d cs).bind fun _ cs => .ok env cs
  | _, _ => .bad
theorem dg_sub {o i : Expr} {go gi : Gx} (ho : DE X EX o go) (hi : DE X EX i gi)
    (ha : ∀ v, assign (.Subscript o i pos) X.env v = (do
      let ov ← holding [v] (eval o X.env)
      let iv ← holding [v, ov] (eval i X.env)
      standAt pos
      holding [v, ov, iv] (setItem ov iv v)
      release [v, ov, iv] []) := by intro _; rfl) : DG X EX (.Subscript o i pos) (tgSub go gi) := by
  obtain ⟨t, h, k⟩ := ho
  obtain ⟨u, h', k'⟩ := hi
  refine ⟨_, pg_sub h h' set_list ha, fun av m H σ env cs v d Q c s rd p => k av m H σ env cs _ c s (PostE.bindG p fun dO cs1 av1 m1 H1 vo e1 c1 r1 p1 => ?_)⟩
  have s1 := s.mono c.sub e1
  have rd1 := rd.mono c.sub e1
  refine k' av1 m1 H1 σ env cs1 _ c1 s1 (PostE.bindG p1 fun dI cs2 av2 m2 H2 vi e2 c2 r2 p2 => ?_)
  have s2 := s1.mono c1.sub e2
  have rd2 := rd1.mono c1.sub e2
  have ro := r1.mono c1.sub e2
  split at p2
  · rename_i n z
    cases r2
    cases ro with
    | @cell _ a hn =>
      unfold putD at p2
      split at p2
      · rename_i xs hx
        split at p2
        · rename_i j hj
          obtain ⟨ys, q, l⟩ := c2.ok n a _ hn hx
          refine ⟨a, ys, z, j, rfl, rfl, q, by rw [l.length]; exact hj, ?_⟩
          have ham : a ∈ m2 := List.mem_of_getElem? hn
          have e3 : Ext av2 m2 H2 av2 m2 (upd H2 a (.lst (ys.set j v))) := by
            refine ⟨⟨[], by simp, by simp, fun _ h => nomatch h⟩, fun b o hb hm => (upd_ne fun z => hm (by rw [z]; exact ham)).trans hb, fun b hb => ?_, fun b o u h => (upd_ne fun z => by rw [z, q] at h; cases h).trans h⟩
            by_cases z : b = a
            · subst z; rw [upd_same]; simp
            · rw [upd_ne z]; exact hb
          obtain ⟨e4, c4⟩ := c2.put (d := .lst (xs.set j d)) hn ⟨_, upd_same, (l.set j rd2).mono c2.sub e3⟩
          exact p2 av2 m2 _ σ e4 c4 (s2.mono c2.sub e4)
        · exact p2.elim
      · exact p2.elim
  · exact p2.elim

/-! ### assignments -/
def sAsg (g : Gx) (t : Gg) : Gs := fun env cs => (g env cs).bind fun d cs => (t d env cs).bind fun env cs => .ok ⟨.nx, env⟩ cs
theorem ds_asg {tg e : Expr} {g : Gx} {t : Gg} (he : DE X EX e g) (hg : DG X EX tg t) (hs : swapsWithSole [tg] e pos.line X.env = pure false := by rfl) (hw : swappedStores [tg] e X.env = pure none := by rfl)
    (h1 : (assignEach [tg] X.env).map (·.2) = [assign tg X.env] := by rfl) : DS X EX (.Assign [tg] e pos) (sAsg g t) := by
  obtain ⟨t, h, k⟩ := he
  obtain ⟨u, h', k'⟩ := hg
  refine ⟨_, ps_asg h h' hs hw h1, fun av m H σ env cs Dn c s p => k av m H σ env cs _ c s (PostE.bindS p fun d cs1 av1 m1 H1 v e1 c1 r1 p1 => ?_)⟩
  exact k' av1 m1 H1 σ env cs1 v d _ c1 (s.mono c.sub e1) r1 (PostG.bindS p1 fun env2 cs2 av2 m2 H2 σ2 e2 c2 s2 p2 => p2 av2 m2 H2 σ2 (Ext.refl ..) c2 s2)
theorem ds_set (i : Nat) {x : Str} {e : Expr} {g : Gx} {pos' : Pos} (hN : X.N.Nodup) (he : DE X EX e g) (hi : X.N[i]? = some x := by rfl) (hx : Loc X.env.scope x := by first | exact Or.inl rfl | exact Or.inr rfl) (hs : swapsWith e (some (.Name x pos')) pos.line X.env = pure false := by rfl)
    (hf : X.fn x = true ∨ X.env.scope.names.lookup x = some .local := by first | exact .inl rfl | exact .inr rfl) : DS X EX (.Assign [.Name x pos'] e pos) (sAsg g (tgName i)) := by
  obtain ⟨t, h, k⟩ := he
  refine ⟨_, ps_set hN hi hx h hs hf, fun av m H σ env cs Dn c s p => k av m H σ env cs _ c s (PostE.bindS p fun d cs1 av1 m1 H1 v e1 c1 r1 p1 => ?_)⟩
  exact p1 av1 m1 H1 _ (Ext.refl ..) c1 ((s.mono c.sub e1).set r1)
/-- a, b = x, y -/
def sPar (i j : Nat) (ga gb : Gx) : Gs := fun env cs => (ga env cs).bind fun x cs => (gb env cs).bind fun y cs => .ok ⟨.nx, (env.set i (some x)).set j (some y)⟩ cs
theorem ds_par (i j : Nat) {x y : Str} {a b : Expr} {ga gb : Gx} {t : Stmt} {hps : ∀ {ta : TA}, PA X [a, b] ta → PS X t (tPar i j ta)} (ha : DE X EX a ga) (hb : DE X EX b gb)
    (hs1 : starEach [a, b] X.env = (false, eval a X.env) :: starEach [b] X.env := by rfl) (hs2 : starEach [b] X.env = (false, eval b X.env) :: starEach [] X.env := by rfl) : DS X EX t (sPar i j ga gb) := by
  obtain ⟨ta, h1, k1⟩ := ha
  obtain ⟨tb, h2, k2⟩ := hb
  refine ⟨_, hps (pa_cons h1 (pa_cons h2 pa_nil hs2) hs1), fun av m H σ env cs Dn c s p => k1 av m H σ env cs _ c s (PostE.bindS p fun d cs1 av1 m1 H1 v e1 c1 r1 p1 => ?_)⟩
  have s1 := s.mono c.sub e1
  refine k2 av1 m1 H1 σ env cs1 _ c1 s1 (PostE.bindS p1 fun d2 cs2 av2 m2 H2 v2 e2 c2 r2 p2 => ?_)
  exact ⟨v, v2, rfl, p2 av2 m2 H2 _ (Ext.refl ..) c2 (((s1.mono c1.sub e2).set (r1.mono c1.sub e2)).set r2)⟩
/-- a statement that may be left unread -/
theorem ds_never {st : Stmt} : DS X EX st (fun _ _ => .bad) := ⟨_, ps_never, fun av m H σ env cs Dn c s p => p.elim⟩

/-! ### what is walked -/
structure WalkD (K : PySem.W.Frag) (mg : Str → Option Value) (av m : List Addr) (H : Hp) (J : It) (ds : List D) : Prop where
  go : ∀ (i : Nat) (d : D) (av' m' : List Addr) (H' : Hp), ds[i]? = some d → Wk av m H av' m' H' → J.go i H'
  yld : ∀ (i : Nat) (d : D) (av' m' : List Addr) (H' : Hp) (x : V) (H'' : Hp) (cs : List C), ds[i]? = some d → Wk av m H av' m' H' → RC K mg av' m' H' cs → J.yld i H' x H'' → Ext av' m' H' av' m' H'' ∧ RC K mg av' m' H'' cs ∧ R K av' m' H'' x d
  stop : ∀ (i : Nat) (av' m' : List Addr) (H' : Hp), ds.length ≤ i → Wk av m H av' m' H' → J.stop i H'
def PostI (K : PySem.W.Frag) (mg : Str → Option Value) (av m : List Addr) (H : Hp) (EX : XK) (Q : It → Hp → Prop) : Out (List D) → Prop
  | .ok ds cs => ∀ (av' m' : List Addr) (H' : Hp) (J : It), Ext av m H av' m' H' → RC K mg av' m' H' cs → WalkD K mg av' m' H' J ds → Q J H'
  | .exc x fs cs => PostX K mg av m H EX x fs cs
  | .bad => False
structure DI (X : Cx) (EX : XK) (tg iter : Expr) (g : Ga) : Prop where
  ex : ∃ wi, PI X tg iter wi ∧ ∀ (av m : List Addr) (H : Hp) (σ : L2.St) (env : Env') (cs : List C) (Q : It → Hp → Prop), RC X.K X.mg av m H cs → RS X.K av m H σ env → PostI X.K X.mg av m H EX Q (g env cs) → wi σ H Q
theorem PostI.ext {av m av' m' : List Addr} {H H' : Hp} {Q : It → Hp → Prop} {o : Out (List D)} (e : Ext av m H av' m' H') (p : PostI K mg av m H EX Q o) : PostI K mg av' m' H' EX Q o := by
  cases o with
  | ok d cs => exact fun a2 m2 H2 v e2 r q => p a2 m2 H2 v (e.trans e2) r q
  | exc x fs cs => exact PostX.ext e p
  | bad => exact p
theorem PostE.bindI {av m : List Addr} {H : Hp} {Q : It → Hp → Prop} {Q2 : VK} {o : Out D} {f : D → List C → Out (List D)} (p : PostI K mg av m H EX Q (o.bind f))
    (h : ∀ d cs' av' m' H' v, Ext av m H av' m' H' → RC K mg av' m' H' cs' → R K av' m' H' v d → PostI K mg av' m' H' EX Q (f d cs') → Q2 v H') : PostE K mg av m H EX Q2 o := by
  cases o with
  | ok d cs => exact fun a2 m2 H2 v e2 r q => h d cs a2 m2 H2 v e2 r q (PostI.ext e2 p)
  | exc x fs cs => exact p
  | bad => exact p
theorem PostA.bindI {av m : List Addr} {H : Hp} {Q : It → Hp → Prop} {Q2 : List V → Hp → Prop} {o : Out (List D)} {f : List D → List C → Out (List D)} (p : PostI K mg av m H EX Q (o.bind f))
    (h : ∀ d cs' av' m' H' v, Ext av m H av' m' H' → RC K mg av' m' H' cs' → RL K av' m' H' v d → PostI K mg av' m' H' EX Q (f d cs') → Q2 v H') : PostA K mg av m H EX Q2 o := by
  cases o with
  | ok d cs => exact fun a2 m2 H2 v e2 r q => h d cs a2 m2 H2 v e2 r q (PostI.ext e2 p)
  | exc x fs cs => exact p
  | bad => exact p
/-- a list that is a value -/
def asV : D → Option (List D)
  | .lst xs => some xs
  | .fro xs => some xs
  | _ => none
theorem asV_ok {av m : List Addr} {H : Hp} {cs : List C} {v : V} {d : D} {ds : List D} (c : RC K mg av m H cs) (r : R K av m H v d) (h : asV d = some ds) :
    ∃ a xs, v = .ref a ∧ RL K av m H xs ds ∧ ∀ av' m' H', Wk av m H av' m' H' → SqL K H' a xs ∧ ∀ ys, SqL K H' a ys → ys = xs ∨ True := by
  cases r with
  | lst h1 h2 l =>
    cases (show some _ = some ds from h)
    exact ⟨_, _, rfl, l, fun av' m' H' e => ⟨SqL.of (e.keep _ _ h1 h2), fun _ _ => .inr trivial⟩⟩
  | fro h1 l =>
    cases (show some _ = some ds from h)
    refine ⟨_, _, rfl, l, fun av' m' H' e => ⟨?_, fun _ _ => .inr trivial⟩⟩
    rcases h1 with ⟨⟨o, q⟩, n⟩ | q
    · exact .inl (.inr ⟨o, e.keep _ _ q n⟩)
    · exact q H'
  | _ => simp [asV] at h
theorem walk_list {av m : List Addr} {H : Hp} {a : Addr} {xs : List V} {ds : List D} (sub : ∀ b ∈ m, b ∈ av) (l : RL K av m H xs ds) (h : ∀ av' m' H', Wk av m H av' m' H' → SqL K H' a xs) : WalkD K mg av m H (Itl K a) ds where
  go := fun i d av' m' H' hd e => by
    obtain ⟨v, h1, _⟩ := l.get hd
    exact ⟨xs, v, h _ _ _ e, h1⟩
  yld := fun i d av' m' H' x H'' cs hd e c y => by
    obtain ⟨rfl, y⟩ := y
    obtain ⟨v, h1, r⟩ := l.get hd
    have := y xs (h _ _ _ e)
    rw [h1] at this; cases this
    exact ⟨Ext.refl .., c, r.monoW sub e⟩
  stop := fun i av' m' H' hi e => ⟨xs, h _ _ _ e, by rw [l.length]; exact hi⟩
theorem walk_tup {av m : List Addr} {H : Hp} {a : Addr} {xs : List V} {ds : List D} (sub : ∀ b ∈ m, b ∈ av) (l : RL K av m H xs ds) (h : ∀ av' m' H', Wk av m H av' m' H' → SqT K H' a xs) : WalkD K mg av m H (Itt K a) ds where
  go := fun i d av' m' H' hd e => by
    obtain ⟨v, h1, _⟩ := l.get hd
    exact ⟨xs, v, h _ _ _ e, h1⟩
  yld := fun i d av' m' H' x H'' cs hd e c y => by
    obtain ⟨rfl, y⟩ := y
    obtain ⟨v, h1, r⟩ := l.get hd
    have := y xs (h _ _ _ e)
    rw [h1] at this; cases this
    exact ⟨Ext.refl .., c, r.monoW sub e⟩
  stop := fun i av' m' H' hi e => ⟨xs, h _ _ _ e, by rw [l.length]; exact hi⟩
def iL (g : Gx) : Ga := fun env cs => (g env cs).bind fun d cs => match asV d with
  | some ds => .ok ds cs
  | none => .bad
theorem di_list {tg e : Expr} {g : Gx} (he : DE X EX e g) : DI X EX tg e (iL g) := by
  obtain ⟨t, h, k⟩ := he
  refine ⟨_, pi_list h, fun av m H σ env cs Q c s p => k av m H σ env cs _ c s (PostE.bindI p fun d cs1 av1 m1 H1 v e1 c1 r1 p1 => ?_)⟩
  split at p1
  · rename_i ds hd
    obtain ⟨a, xs, rfl, l, hs⟩ := asV_ok c1 r1 hd
    exact ⟨a, rfl, ⟨xs, (hs _ _ _ ((Ext.refl ..).wk c1.sub)).1⟩, p1 av1 m1 H1 _ (Ext.refl ..) c1 (walk_list c1.sub l fun _ _ _ e => (hs _ _ _ e).1)⟩
  · exact p1.elim
def iT (g : Gx) : Ga := fun env cs => (g env cs).bind fun d cs => match asT d with
  | some ds => .ok ds cs
  | none => .bad
theorem di_tup {tg e : Expr} {g : Gx} (he : DE X EX e g) : DI X EX tg e (iT g) := by
  obtain ⟨t, h, k⟩ := he
  refine ⟨_, pi_tup h, fun av m H σ env cs Q c s p => k av m H σ env cs _ c s (PostE.bindI p fun d cs1 av1 m1 H1 v e1 c1 r1 p1 => ?_)⟩
  split at p1
  · rename_i ds hd
    have go : ∃ a xs, v = .ref a ∧ RL X.K av1 m1 H1 xs ds ∧ ∀ av' m' H', Wk av1 m1 H1 av' m' H' → SqT X.K H' a xs := by
      cases r1 with
      | tup h1 h2 l => cases (show some _ = some ds from hd); exact ⟨_, _, rfl, l, fun av' m' H' e => SqT.of (e.keep _ _ h1 h2)⟩
      | tupK h1 l => cases (show some _ = some ds from hd); exact ⟨_, _, rfl, l, fun av' m' H' e => h1 H'⟩
      | _ => simp [asT] at hd
    obtain ⟨a, xs, rfl, l, hs⟩ := go
    exact ⟨a, rfl, ⟨xs, hs _ _ _ ((Ext.refl ..).wk c1.sub)⟩, p1 av1 m1 H1 _ (Ext.refl ..) c1 (walk_tup c1.sub l hs)⟩
  · exact p1.elim
def rngD (lo : Int) (n : Nat) : List D := (List.range n).map fun i => D.int (lo + (i : Nat))
theorem walk_range {av m : List Addr} {H : Hp} {lo : Int} {n : Nat} : WalkD K mg av m H (Itr lo n) (rngD lo n) where
  go := fun i d av' m' H' hd e => by
    have := (List.getElem?_eq_some_iff.mp hd).1
    rw [rngD, List.length_map, List.length_range] at this
    exact this
  yld := fun i d av' m' H' x H'' cs hd e c y => by
    obtain ⟨rfl, rfl⟩ := y
    have hi : i < n := by have := (List.getElem?_eq_some_iff.mp hd).1; simpa [rngD] using this
    have : d = .int (lo + (i : Nat)) := by
      simp only [rngD, List.getElem?_map, List.getElem?_range hi, Option.map_some, Option.some.injEq] at hd
      exact hd.symm
    subst this
    exact ⟨Ext.refl .., c, .int _⟩
  stop := fun i av' m' H' hi e => by
    rw [rngD, List.length_map, List.length_range] at hi
    exact hi
def iR1 (a : Ga) : Ga := fun env cs => (a env cs).bind fun ds cs => match ds with
  | [.int j] => if -(2 ^ 62) ≤ j ∧ j < 2 ^ 62 then .ok (rngD 0 j.toNat) cs else .bad
  | _ => .bad
theorem di_range1 {tg e : Expr} {a : Ga} {p : Pos} (hg : Gl X "range") (hm : X.mg "range" = none) (ha : DA X EX [e] a) (hs : starEach [e] X.env = [(false, eval e X.env)] := by rfl) : DI X EX tg (.Call (.Name "range" p) [e] [] pos) (iR1 a) := by
  obtain ⟨t, h, k⟩ := ha
  refine ⟨_, pi_range1 hg hm h hs, fun av m H σ env cs Q c s p => k av m H σ env cs _ c s (PostA.bindI p fun ds cs1 av1 m1 H1 vs e1 c1 r1 p1 => ?_)⟩
  split at p1
  · rename_i j
    cases r1 with
    | cons r t =>
      cases t; cases r
      split at p1
      · rename_i hj
        exact ⟨j, rfl, hj.1, hj.2, p1 av1 m1 H1 _ (Ext.refl ..) c1 walk_range⟩
      · exact p1.elim
  · exact p1.elim
def iR2 (a : Ga) : Ga := fun env cs => (a env cs).bind fun ds cs => match ds with
  | [.int i, .int j] => if -(2 ^ 62) ≤ i ∧ i < 2 ^ 62 ∧ -(2 ^ 62) ≤ j ∧ j < 2 ^ 62 then .ok (rngD i (j - i).toNat) cs else .bad
  | _ => .bad
theorem di_range2 {tg e e2 : Expr} {a : Ga} {p : Pos} (hg : Gl X "range") (hm : X.mg "range" = none) (ha : DA X EX [e, e2] a) (hs : starEach [e, e2] X.env = [(false, eval e X.env), (false, eval e2 X.env)] := by rfl) (hs2 : starEach [e2] X.env = [(false, eval e2 X.env)] := by rfl) :
    DI X EX tg (.Call (.Name "range" p) [e, e2] [] pos) (iR2 a) := by
  obtain ⟨t, h, k⟩ := ha
  refine ⟨_, pi_range2 hg hm h hs hs2, fun av m H σ env cs Q c s p => k av m H σ env cs _ c s (PostA.bindI p fun ds cs1 av1 m1 H1 vs e1 c1 r1 p1 => ?_)⟩
  split at p1
  · rename_i i j
    cases r1 with
    | cons r t =>
      cases t with
      | cons r' t =>
        cases t; cases r; cases r'
        split at p1
        · rename_i hj
          exact ⟨i, j, rfl, hj, p1 av1 m1 H1 _ (Ext.refl ..) c1 walk_range⟩
        · exact p1.elim
  · exact p1.elim
/-- enumerate: a new pair a turn -/
def enumD (n : Nat) : List D → List D
  | [] => []
  | d :: ds => .tup [.int (n : Nat), d] :: enumD (n + 1) ds
theorem enumD_len : ∀ (ds : List D) (n : Nat), (enumD n ds).length = ds.length
  | [], _ => rfl
  | _ :: ds, n => by simp [enumD, enumD_len ds (n + 1)]
theorem enumD_get : ∀ (ds : List D) (n i : Nat), (enumD n ds)[i]? = ds[i]?.map fun d => D.tup [.int ((n + i : Nat) : Int), d]
  | [], _, _ => by simp [enumD]
  | d :: ds, n, 0 => by simp [enumD]
  | d :: ds, n, i + 1 => by
    simp only [enumD, List.getElem?_cons_succ]
    rw [enumD_get ds (n + 1) i]
    congr 1
    funext d
    congr 4
    omega
theorem walk_enum {av m : List Addr} {H : Hp} {a : Addr} {xs : List V} {ds : List D} (sub : ∀ b ∈ m, b ∈ av) (l : RL K av m H xs ds) (h : ∀ av' m' H', Wk av m H av' m' H' → SqL K H' a xs) : WalkD K mg av m H (Ite K a) (enumD 0 ds) where
  go := fun i d av' m' H' hd e => by
    rw [enumD_get] at hd
    obtain ⟨d', h1, _⟩ := Option.map_eq_some_iff.mp hd
    obtain ⟨v, h2, _⟩ := l.get h1
    exact ⟨xs, v, h _ _ _ e, h2⟩
  yld := fun i d av' m' H' x H'' cs hd e c y => by
    obtain ⟨T, z, rfl, hT, rfl, hy⟩ := y
    rw [enumD_get] at hd
    obtain ⟨d', h1, rfl⟩ := Option.map_eq_some_iff.mp hd
    obtain ⟨v, h2, r⟩ := l.get h1
    obtain rfl : v = z := Option.some.inj (h2.symm.trans (hy xs (h _ _ _ e)))
    have r1 : RL K av' m' H' [.int ((i : Nat) : Int), v] [.int ((0 + i : Nat) : Int), d'] := .cons (by rw [Nat.zero_add]; exact .int _) (.cons (r.monoW sub e) .nil)
    exact ⟨Ext.fresh hT, c.fresh hT, .tup upd_same (c.notin hT) (r1.fresh c hT)⟩
  stop := fun i av' m' H' hi e => ⟨xs, h _ _ _ e, by rw [l.length, ← enumD_len ds 0]; exact hi⟩
def iE (a : Ga) : Ga := fun env cs => (a env cs).bind fun ds cs => match ds with
  | [d] => match asV d with
    | some xs => .ok (enumD 0 xs) cs
    | none => .bad
  | _ => .bad
theorem di_enum {e : Expr} {a : Ga} {p tpos : Pos} {elts : List Expr} {kk : Nat} (hg : Gl X "enumerate") (hm : X.mg "enumerate" = none) (ha : DA X EX [e] a) (hs : starEach [e] X.env = [(false, eval e X.env)] := by rfl) :
    DI X EX (.Tuple elts kk tpos) (.Call (.Name "enumerate" p) [e] [] pos) (iE a) := by
  obtain ⟨t, h, k⟩ := ha
  refine ⟨_, pi_enum hg hm h hs, fun av m H σ env cs Q c s p => k av m H σ env cs _ c s (PostA.bindI p fun ds cs1 av1 m1 H1 vs e1 c1 r1 p1 => ?_)⟩
  split at p1
  · cases r1 with
    | cons r t =>
      cases t
      split at p1
      · rename_i ds hd
        obtain ⟨a, xs, rfl, l, hs⟩ := asV_ok c1 r hd
        exact ⟨a, xs, rfl, (hs _ _ _ ((Ext.refl ..).wk c1.sub)).1, p1 av1 m1 H1 _ (Ext.refl ..) c1 (walk_enum c1.sub l fun _ _ _ e => (hs _ _ _ e).1)⟩
      · exact p1.elim
  · exact p1.elim

/-! ### for -/
def forD (t : Gg) (b : Gs) : List D → Gs
  | [], env, cs => .ok ⟨.nx, env⟩ cs
  | d :: ds, env, cs => (t d env cs).bind fun env1 cs1 => match b env1 cs1 with
    | .ok ⟨.nx, e⟩ c => forD t b ds e c
    | .ok ⟨.ct, e⟩ c => forD t b ds e c
    | .ok ⟨.bk, e⟩ c => .ok ⟨.nx, e⟩ c
    | .ok ⟨.rt v, e⟩ c => .ok ⟨.rt v, e⟩ c
    | .exc x fs c => .exc x fs c
    | .bad => .bad
def sFor (i : Ga) (t : Gg) (b : Gs) : Gs := fun env cs => (i env cs).bind fun ds cs => forD t b ds env cs
theorem PostI.bindS {av m : List Addr} {H : Hp} {Dn : Ends} {Q2 : It → Hp → Prop} {o : Out (List D)} {f : List D → List C → Out Sg} (p : PostS K mg av m H EX Dn (o.bind f))
    (h : ∀ ds cs' av' m' H' J, Ext av m H av' m' H' → RC K mg av' m' H' cs' → WalkD K mg av' m' H' J ds → PostS K mg av' m' H' EX Dn (f ds cs') → Q2 J H') : PostI K mg av m H EX Q2 o := by
  cases o with
  | ok d cs => exact fun a2 m2 H2 J e2 r q => h d cs a2 m2 H2 J e2 r q (PostS.ext e2 p)
  | exc x fs cs => exact p
  | bad => exact p
theorem ds_for {tg iter : Expr} {body : List Stmt} {gi : Ga} {gt : Gg} {gb : Gs} (hp : PassesOwn (model X.prog X.w) X.A X.env X.xe) (hc : X.calm = true) (hi : DI X EX tg iter gi) (hg : DG X EX tg gt) (hb : DSs X EX body gb)
    (hs : ∀ x, foldedSetIterable iter X.env x = pure x := by intro _; rfl) : DS X EX (.For tg iter body [] pos) (sFor gi gt gb) := by
  obtain ⟨wi, h1, k1⟩ := hi
  obtain ⟨tt, h2, k2⟩ := hg
  obtain ⟨tb, h3, k3⟩ := hb
  refine ⟨_, ps_for hp hc h1 h2 h3 hs, fun av m H σ env cs Dn c s p => k1 av m H σ env cs _ c s (PostI.bindS p fun ds cs1 av1 m1 H1 J e1 c1 wk p1 => ?_)⟩
  refine ⟨fun i mm σ' H' => mm = ds.length - i ∧ i ≤ ds.length ∧ ∃ av2 m2 env2 cs2, Ext av1 m1 H1 av2 m2 H' ∧ RC X.K X.mg av2 m2 H' cs2 ∧ RS X.K av2 m2 H' σ' env2 ∧ PostS X.K X.mg av2 m2 H' EX Dn (forD gt gb (ds.drop i) env2 cs2),
    ⟨ds.length, by simp, Nat.zero_le _, av1, m1, env, cs1, Ext.refl .., c1, s.mono c.sub e1, by simpa using p1⟩, ?_⟩
  rintro i mm σ' H' ⟨rfl, hi, av2, m2, env2, cs2, e2, c2, s2, p2⟩
  by_cases hlt : i < ds.length
  · have hd : ds[i]? = some ds[i] := List.getElem?_eq_getElem hlt
    rw [List.drop_eq_getElem_cons hlt] at p2
    refine .inr ⟨wk.go i _ _ _ _ hd (e2.wk c1.sub), fun σ3 H3 => ∃ mm, mm < ds.length - i ∧ (mm = ds.length - (i + 1) ∧ i + 1 ≤ ds.length ∧ ∃ av2 m2 env2 cs2, Ext av1 m1 H1 av2 m2 H3 ∧ RC X.K X.mg av2 m2 H3 cs2 ∧ RS X.K av2 m2 H3 σ3 env2 ∧ PostS X.K X.mg av2 m2 H3 EX Dn (forD gt gb (ds.drop (i + 1)) env2 cs2)), fun _ _ h => h, fun x H3 y => ?_⟩
    obtain ⟨e3, c3, r3⟩ := wk.yld i _ _ _ _ _ _ _ hd (e2.wk c1.sub) c2 y
    have p3 := PostS.ext e3 p2
    refine k2 av2 m2 H3 σ' env2 cs2 x _ _ c3 (s2.mono c2.sub e3) r3 (PostG.bindS p3 fun env4 cs4 av4 m4 H4 σ4 e4 c4 s4 p4 => ?_)
    have e14 := (e2.trans e3).trans e4
    refine k3 av4 m4 H4 σ4 env4 cs4 _ c4 s4 ?_
    have again : ∀ {e : Env'} {c : List C}, PostS X.K X.mg av4 m4 H4 EX Dn (forD gt gb (ds.drop (i + 1)) e c) → ∀ (av' m' : List Addr) (H' : Hp) (σ' : L2.St), Ext av4 m4 H4 av' m' H' → RC X.K X.mg av' m' H' c → RS X.K av' m' H' σ' e →
        ∃ mm, mm < ds.length - i ∧ (mm = ds.length - (i + 1) ∧ i + 1 ≤ ds.length ∧ ∃ av2 m2 env2 cs2, Ext av1 m1 H1 av2 m2 H' ∧ RC X.K X.mg av2 m2 H' cs2 ∧ RS X.K av2 m2 H' σ' env2 ∧ PostS X.K X.mg av2 m2 H' EX Dn (forD gt gb (ds.drop (i + 1)) env2 cs2)) :=
      fun q av' m' H' σ' e5 c5 s5 => ⟨ds.length - (i + 1), by omega, rfl, hlt, av', m', _, _, e14.trans e5, c5, s5, PostS.ext e5 q⟩
    split at p4
    · rename_i e; rw [e]; exact again p4
    · rename_i e; rw [e]; exact again p4
    · rename_i e; rw [e]; exact p4
    · rename_i e; rw [e]; exact p4
    · rename_i e; rw [e]; exact p4
    · exact p4.elim
  · have : i = ds.length := by omega
    subst this
    rw [List.drop_length] at p2
    exact .inl ⟨wk.stop _ _ _ _ (Nat.le_refl _) (e2.wk c1.sub), p2 av2 m2 H' σ' (Ext.refl ..) c2 s2⟩
end
end Dm
set_option linter.all false
set_option maxRecDepth 100000
set_option maxHeartbeats 1000000
/-! Dm: append, repr, list comprehensions. -/
namespace Dm
open PySem PySem.Spec L2

section
variable {X : Cx} {EX : XK} {K : PySem.W.Frag} {mg : Str → Option Value} {pos : Pos}
/-! ### xs.append(e), xs a cell -/
def appD (n : Nat) (d : D) (cs : List C) : Out D := match cs[n]? with
  | some (.lst xs) => if xs.length < sizeLine then .ok .non (cs.set n (.lst (xs ++ [d]))) else .bad
  | _ => .bad
def isLc (n : Nat) (cs : List C) : Bool := match cs[n]? with
  | some (.lst _) => true
  | _ => false
def gApp (go ge : Gx) : Gx := fun env cs => (go env cs).bind fun o cs => match o with
  | .cell n => if isLc n cs then (ge env cs).bind fun d cs => appD n d cs else .bad
  | _ => .bad
theorem Ext.put {av m : List Addr} {H : Hp} {a : Addr} {o : HO} (ham : a ∈ m) (hz : ∀ o u, H a ≠ some (.frz o u) := by (intro o u z; simp [*] at z; done)) : Ext av m H av m (upd H a o) := by
  refine ⟨⟨[], by simp, by simp, fun _ h => nomatch h⟩, fun b u hb hm => (upd_ne fun z => hm (by rw [z]; exact ham)).trans hb, fun b hb => ?_, fun b o u h => (upd_ne fun z => hz o u (by rw [← z]; exact h)).trans h⟩
  by_cases z : b = a
  · subst z; rw [upd_same]; simp
  · rw [upd_ne z]; exact hb
theorem de_append {o e : Expr} {go ge : Gx} {apos cpos : Pos} (ho : DE X EX o go) (he : DE X EX e ge)
    (hbase : attributeBase o "append" X.env (eval o X.env) = eval o X.env := by rfl)
    (hfew : ((backTo cpos (starEach [e] X.env)).all (fun x => !x.1) && (backToKw cpos (keywordEach [] X.env)).all (fun x => x.1.isSome)
      && decide ([e].length + ([] : List Keyword).length + (if ([] : List Keyword).isEmpty then 0 else 1) < 30)) = true := by rfl)
    (hline : (apos.endLine == cpos.line) = true := by rfl) (hs : starEach [e] X.env = (false, eval e X.env) :: starEach [] X.env := by rfl) (hplain : (backTo cpos (starEach [] X.env)).any (·.1) = false := by rfl) :
    DE X EX (.Call (.Attribute o "append" apos) [e] [] cpos) (gApp go ge) := by
  obtain ⟨t, h, k⟩ := ho
  obtain ⟨u, h', k'⟩ := he
  refine ⟨_, pe_bm PySem.F.plainAttrs_list PySem.F.slot_list_append PySem.F.type_list_append mt_append h (pa_cons h' pa_nil hs) hbase hfew hline hs hplain,
    fun av m H σ env cs Q c s p => k av m H σ env cs _ c s (PostE.bind p fun d cs1 av1 m1 H1 v e1 c1 r1 p1 => ?_)⟩
  split at p1
  · rename_i n
    cases r1 with
    | @cell _ a hn =>
      split at p1
      · rename_i hl
        unfold isLc at hl
        split at hl
        · rename_i xs hx
          obtain ⟨ys, q, l⟩ := c1.ok n a _ hn hx
          refine ⟨.inl ⟨rfl, _, SqL.of q⟩, ?_⟩
          refine k' av1 m1 H1 σ env cs1 _ c1 (s.mono c.sub e1) (PostE.bind p1 fun d2 cs2 av2 m2 H2 v2 e2 c2 r2 p2 => ?_)
          unfold appD at p2
          split at p2
          · rename_i zs hz
            split at p2
            · rename_i hlen
              have hn2 := e2.at hn
              obtain ⟨ws, q2, l2⟩ := c2.ok n a _ hn2 hz
              refine ⟨a, ws, v2, rfl, rfl, q2, by rw [l2.length]; exact hlen, ?_⟩
              have e3 : Ext av2 m2 H2 av2 m2 (upd H2 a (.lst (ws ++ [v2]))) := Ext.put (List.mem_of_getElem? hn2)
              obtain ⟨e4, c4⟩ := c2.put (d := .lst (zs ++ [d2])) hn2 ⟨_, upd_same, (l2.append (.cons r2 .nil)).mono c2.sub e3⟩
              exact p2 av2 m2 _ .non e4 c4 .non
            · exact p2.elim
          · exact p2.elim
        · cases hl
      · exact p1.elim
  · exact p1.elim

/-! ### repr -/
theorem call_reprD (hq : Quiet X.A) (hu : X.A.units + 100 < cLine) : CallR X (.builtin "repr") (fun xs H Q => ∃ x d, xs = [x] ∧ W X.K H x d ∧ rpl d = true ∧ (toPyR d).showable = true ∧ (toPyR d).depth ≤ 64 ∧ (toPyR d).shown.length ≤ sizeLine ∧ Q (.str (toPyR d).shown) H) := by
  intro pins s σ H xs us Q I r h
  obtain ⟨x, d, rfl, rd, hp, hs, hd, hz, q⟩ := h
  cases r with
  | cons r t =>
    cases t
    rename_i u
    have fin : ∀ tk tk', EP X pins σ Q (.str (toPyR d).shown tk) { s with toks := tk' } := fun tk tk' => ⟨.str (toPyR d).shown, H, I.tok _, ⟨_, rfl⟩, q⟩
    have far : ∀ a : Addr, u = .ref a → x = .ref a → wpAny (model X.prog X.w) X.A (call (.builtin "repr") [u]) (EP X pins σ Q) X.xe s := fun a e1 e2 => by
      subst e1 e2
      obtain ⟨T, idr, S⟩ := rd.shows I hp hs hz
      exact call_repr_slot (by omega) (S.typeIs s fun _ _ e => e) S.slotRepr (S.call X.A.in1 _ s _ hq (by show X.A.units + 1 + (toPyR d).depth < cLine; omega) (fun _ _ e => e) fun h' t tk kp => ⟨_, _, rfl, .str _, H, I.kept kp, ⟨_, rfl⟩, q⟩)
    cases rd with
    | non => cases r; simp only [toPyR] at fin; exact P.repr_of_none (by simpa only [PyData.shown] using fin s.toks _)
    | bl b => cases r; simp only [toPyR] at fin; exact P.repr_of_bool (by simpa only [PyData.shown] using fin s.toks _)
    | int i => obtain ⟨t, rfl⟩ := r; simp only [toPyR] at fin hs; exact P.repr_of_int (by simpa [PyData.showable] using hs) (by simpa only [PyData.shown] using fin s.toks _)
    | str x => obtain ⟨t, rfl⟩ := r; simp only [toPyR] at fin hz; exact P.repr_of_str (by simpa only [PyData.shown] using fin s.toks _) (by simpa only [PyData.shown] using hz)
    | tup => cases r; exact far _ rfl rfl
    | lst => cases r; exact far _ rfl rfl
    | fro => cases r; exact far _ rfl rfl
    | dct0 => cases r; exact far _ rfl rfl
    | other _ _ _ hn => cases d <;> simp [noD, rpl] at hn hp
/-- the datum that repr sees -/
def pyOf (cs : List C) (d : D) : Option D := if rpl d then some d else match thaw cs 9 d with
  | some e => if rpl e then some e else none
  | none => none
def shOk (p : PyData) : Bool := p.showable && decide (p.depth ≤ 64) && decide (p.shown.length ≤ sizeLine)
def reprD : List D → List C → Out D
  | [d], cs => match pyOf cs d with
    | some e => if shOk (toPyR e) then .ok (.str (toPyR e).shown) cs else .bad
    | none => .bad
  | _, _ => .bad
mutual
theorem R.w : ∀ {v : V} {d : D}, R K av m H v d → rpl d = true → W K H v d
  | _, _, .non, _ => .non
  | _, _, .bl b, _ => .bl b
  | _, _, .int i, _ => .int i
  | _, _, .str x, _ => .str x
  | _, _, .ty n, p => by simp [rpl] at p
  | _, _, .ptr _, p => by simp [rpl] at p
  | _, _, .tup h _ l, p => .tup (SqT.of h) (RL.w l (by simpa [rpl] using p))
  | _, _, .tupK h l, p => .tup (h H) (RL.w l (by simpa [rpl] using p))
  | _, _, .lst h _ l, p => .lst (SqL.of h) (RL.w l (by simpa [rpl] using p))
  | _, _, .fro h l, p => .fro (by
      rcases h with ⟨⟨o, q⟩, _⟩ | q
      · exact .inl (.inr ⟨o, q⟩)
      · exact q H) (RL.w l (by simpa [rpl] using p))
  | _, _, .dct h _ .nil, _ => .dct0 h
  | _, _, .dct _ _ (.cons _ _), p => by simp [rpl] at p
  | _, _, .cell _, p => by simp [rpl] at p
theorem RL.w : ∀ {v : List V} {d : List D}, RL K av m H v d → rplL d = true → WL K H v d
  | _, _, .nil, _ => .nil
  | _, _, .cons h t, p => by
    simp only [rplL, Bool.and_eq_true] at p
    exact .cons (R.w h p.1) (RL.w t p.2)
end
theorem w_of {av m : List Addr} {H : Hp} {cs : List C} {v : V} {d e : D} (c : RC K mg av m H cs) (r : R K av m H v d) (h : pyOf cs d = some e) : W K H v e ∧ rpl e = true := by
  unfold pyOf at h
  split at h
  · rename_i p; cases h; exact ⟨r.w p, p⟩
  · split at h
    · rename_i e1 h1
      split at h
      · rename_i p; cases h; exact ⟨R.thaw c r h1, p⟩
      · cases h
    · cases h
theorem de_reprU {p pos : Pos} {e : Expr} {a : Ga} (hu : X.A.units + 200 < cLine) (hq : Quiet X.A) (hg : Gl X "repr") (hm : X.mg "repr" = none) (ha : DA X EX [e] a)
    (he : starEach [e] X.env = (false, eval e X.env) :: starEach [] X.env := by rfl) (hpl : (backTo pos (starEach [] X.env)).any (·.1) = false := by rfl) : DE X EX (.Call (.Name "repr" p) [e] [] pos) (gA reprD a) := by
  refine de_callB (call_reprD hq (by omega)) ?_ hg hm (by decide +kernel) ha (by decide) (by decide) he hpl
  intro av m H cs xs ds Q c r q
  unfold reprD at q
  split at q
  · cases r with
    | cons r t =>
      cases t
      split at q
      · rename_i p hp
        split at q
        · rename_i ho
          unfold shOk at ho
          simp only [Bool.and_eq_true, decide_eq_true_eq] at ho
          obtain ⟨w, hr⟩ := w_of c r hp
          exact ⟨_, p, rfl, w, hr, ho.1.1, ho.1.2, ho.2, q.here c (.str _)⟩
        · exact q.elim
      · exact q.elim
  · exact q.elim
theorem de_repr {k : Nat} {p pos : Pos} {e : Expr} {a : Ga} (hr : Room k X.A) (hq : Quiet X.A) (hg : Gl X "repr") (hm : X.mg "repr" = none) (ha : DA X EX [e] a)
    (he : starEach [e] X.env = (false, eval e X.env) :: starEach [] X.env := by rfl) (hpl : (backTo pos (starEach [] X.env)).any (·.1) = false := by rfl) : DE X EX (.Call (.Name "repr" p) [e] [] pos) (gA reprD a) := de_reprU (by have := hr.un; omega) hq hg hm ha he hpl
end
end Dm
set_option linter.all false
set_option maxRecDepth 100000
set_option maxHeartbeats 1000000
/-! Dm: list comprehensions. -/
namespace Dm
open PySem PySem.Spec L2

section
variable {X : Cx} {EX : XK} {K : PySem.W.Frag} {mg : Str → Option Value} {pos : Pos}

def wipeD (env : Env') : List Nat → Env'
  | [] => env
  | v :: vs => (wipeD env vs).set v none
theorem wipeD_len (env : Env') : ∀ vs : List Nat, (wipeD env vs).length = env.length
  | [] => rfl
  | v :: vs => by unfold wipeD; rw [List.length_set, wipeD_len env vs]
theorem RS.wipe {av m : List Addr} {H : Hp} {σ : L2.St} {env : Env'} (s : RS K av m H σ env) : ∀ vs : List Nat, RS K av m H (wipe σ vs) (wipeD env vs)
  | [] => s
  | v :: vs => by
    have ih := RS.wipe s vs
    unfold L2.wipe wipeD
    refine ⟨by rw [List.length_set, List.length_set]; exact ih.1, fun i d h => ?_⟩
    by_cases e : v = i
    · subst e
      by_cases hl : v < (wipeD env vs).length
      · rw [List.getElem?_set_self hl] at h; cases h
      · rw [List.getElem?_eq_none (by rw [List.length_set]; omega)] at h; cases h
    · rw [List.getElem?_set_ne e] at h ⊢
      exact ih.2 i d h
theorem wipe_get {σ : L2.St} : ∀ (vs : List Nat) (i : Nat), (wipe σ vs)[i]? = if i ∈ vs ∧ i < σ.length then some none else σ[i]?
  | [], i => by simp [L2.wipe]
  | v :: vs, i => by
    unfold L2.wipe
    by_cases e : v = i
    · subst e
      by_cases hl : v < σ.length
      · rw [List.getElem?_set_self (by rw [wipe_length]; exact hl)]
        simp [hl]
      · rw [List.getElem?_eq_none (by rw [List.length_set, wipe_length]; omega), if_neg (by simp [hl]), List.getElem?_eq_none (by omega)]
    · rw [List.getElem?_set_ne e, wipe_get vs i]
      by_cases h : i ∈ vs ∧ i < σ.length
      · rw [if_pos h, if_pos ⟨List.mem_cons_of_mem _ h.1, h.2⟩]
      · rw [if_neg h, if_neg fun z => h ⟨(List.mem_cons.mp z.1).resolve_left (Ne.symm e), z.2⟩]
theorem wipe_idem {σ : L2.St} (vs : List Nat) : wipe (wipe σ vs) vs = wipe σ vs := by
  apply List.ext_getElem?
  intro i
  rw [wipe_get, wipe_get, wipe_length]
  by_cases h : i ∈ vs ∧ i < σ.length
  · rw [if_pos h, if_pos h]
  · rw [if_neg h, if_neg h]
theorem wipe_set {σ : L2.St} {i : Nat} {x : Option V} {vs : List Nat} (hi : i ∈ vs) : wipe (σ.set i x) vs = wipe σ vs := by
  apply List.ext_getElem?
  intro j
  rw [wipe_get, wipe_get, List.length_set]
  by_cases h : j ∈ vs ∧ j < σ.length
  · rw [if_pos h, if_pos h]
  · rw [if_neg h, if_neg h]
    by_cases e : i = j
    · subst e
      have hl : ¬ i < σ.length := fun z => h ⟨hi, z⟩
      rw [List.getElem?_eq_none (by rw [List.length_set]; omega), List.getElem?_eq_none (by omega)]
    · rw [List.getElem?_set_ne e]

/-! ### the targets of a comprehension: names of its own -/
structure DGc (X : Cx) (vs : List Nat) (tg : Expr) (g : D → Env' → Option Env') : Prop where
  ex : ∃ t, PG X tg t ∧ ∀ (av m : List Addr) (H : Hp) (σ : L2.St) (env env' : Env') (cs : List C) (v : V) (d : D) (Q : L2.St → Hp → Prop), RC X.K X.mg av m H cs → RS X.K av m H σ env → R X.K av m H v d → g d env = some env' →
    (∀ σ', RS X.K av m H σ' env' → wipe σ' vs = wipe σ vs → Q σ' H) → t v σ H Q
structure DGcs (X : Cx) (vs : List Nat) (tg : List Expr) (g : List D → Env' → Option Env') : Prop where
  ex : ∃ t, PGs X tg t ∧ ∀ (av m : List Addr) (H : Hp) (σ : L2.St) (env env' : Env') (cs : List C) (v : List V) (d : List D) (Q : L2.St → Hp → Prop), RC X.K X.mg av m H cs → RS X.K av m H σ env → RL X.K av m H v d → g d env = some env' →
    (∀ σ', RS X.K av m H σ' env' → wipe σ' vs = wipe σ vs → Q σ' H) → t v σ H Q
def tcName (i : Nat) : D → Env' → Option Env' := fun d env => some (env.set i (some d))
theorem dc_name (i : Nat) {x : Str} {vs : List Nat} (hN : X.N.Nodup) (hi : X.N[i]? = some x := by rfl) (hx : Loc X.env.scope x := by first | exact Or.inl rfl | exact Or.inr rfl) (hf : X.fn x = true ∨ X.env.scope.names.lookup x = some .local := by first | exact .inl rfl | exact .inr rfl) (hv : i ∈ vs := by decide) : DGc X vs (.Name x pos) (tcName i) :=
  ⟨_, pg_name hN hi hx hf, fun av m H σ env env' cs v d Q c s r h q => by
    cases h
    exact q _ (s.set r) (wipe_set hv)⟩
def tcNil : List D → Env' → Option Env'
  | [], env => some env
  | _, _ => none
def tcCons (g : D → Env' → Option Env') (r : List D → Env' → Option Env') : List D → Env' → Option Env'
  | d :: ds, env => (g d env).bind fun env => r ds env
  | [], _ => none
theorem dcs_nil {vs : List Nat} : DGcs X vs [] tcNil := ⟨_, pgs_nil, fun av m H σ env env' cs v d Q c s l h q => by
  cases l with
  | nil => cases h; exact ⟨rfl, q σ s rfl⟩
  | cons _ _ => cases h⟩
theorem dcs_cons {vs : List Nat} {e : Expr} {es : List Expr} {g : D → Env' → Option Env'} {r : List D → Env' → Option Env'} (h1 : DGc X vs e g) (h2 : DGcs X vs es r)
    (hs : (assignEach (e :: es) X.env).map (·.2) = assign e X.env :: (assignEach es X.env).map (·.2) := by rfl) : DGcs X vs (e :: es) (tcCons g r) := by
  obtain ⟨t, h, k⟩ := h1
  obtain ⟨u, h', k'⟩ := h2
  refine ⟨_, pgs_cons h h' hs, fun av m H σ env env' cs v d Q c s l hq q => ?_⟩
  cases l with
  | nil => cases hq
  | cons rd l =>
    obtain ⟨env1, e1, e2⟩ := Option.bind_eq_some_iff.mp hq
    exact ⟨_, _, rfl, k av m H σ env env1 cs _ _ _ c s rd e1 fun σ1 s1 w1 => k' av m H σ1 env1 env' cs _ _ _ c s1 l e2 fun σ2 s2 w2 => q σ2 s2 (w2.trans w1)⟩
def tcTup (n : Nat) (r : List D → Env' → Option Env') : D → Env' → Option Env' := fun d env => match d with
  | .tup ds => if ds.length = n then r ds env else none
  | _ => none
theorem dc_tup {vs : List Nat} {es : List Expr} {kk : Nat} {r : List D → Env' → Option Env'} {n : Nat} (hc : X.calm = true) (h : DGcs X vs es r) (hn : (assignEach es X.env).length = n := by rfl) (hst : (assignEach es X.env).findIdx? (·.1) = none := by rfl) :
    DGc X vs (.Tuple es kk pos) (tcTup n r) := by
  obtain ⟨t, h, k⟩ := h
  refine ⟨_, pg_tup hc h hn hst, fun av m H σ env env' cs v d Q c s rd hq q => ?_⟩
  unfold tcTup at hq
  split at hq
  · split at hq
    · rename_i ds hl
      obtain ⟨a, xs, rfl, h1, h2⟩ := asT_ok rd (ds := ds) rfl
      exact ⟨a, xs, rfl, h1, by rw [h2.length]; exact hl, k av m H σ env env' cs _ _ _ c s h2 hq q⟩
    · cases hq
  · cases hq

/-! ### tests -/
structure DTs (X : Cx) (EX : XK) (ifs : List Expr) (g : Gt) : Prop where
  ex : ∃ t, PTs X ifs t ∧ TtOk X.K X.mg EX t g
theorem dts_nil : DTs X EX [] (fun _ cs => .ok true cs) := ⟨_, pts_nil, fun av m H σ env cs Q c s p => p av m H (Ext.refl ..) c⟩
theorem dts_one {e : Expr} {g : Gt} (h : DT X EX e g) : DTs X EX [e] g := let ⟨_, h, k⟩ := h; ⟨_, pts_one h, k⟩

/-! ### a tracked address that is hidden -/
section
variable {av m : List Addr} {H : Hp} {p : Addr} {o : HO} {cs : List C}
theorem veil_mem {a : Addr} {u : HO} (h : H a = some u) (n : a ∉ av) (hp : H p = none) : a ∉ p :: av := fun z => by
  rcases List.mem_cons.mp z with z | z
  · rw [z, hp] at h; cases h
  · exact n z
theorem over_ne {a : Addr} (n : a ∉ av) (hp : p ∈ av) : a ≠ p := fun z => n (by rw [z]; exact hp)
mutual
theorem R.veil (hp : H p = none) : ∀ {v : V} {d : D}, R K av m H v d → R K (p :: av) m H v d
  | _, _, .non => .non
  | _, _, .bl b => .bl b
  | _, _, .int i => .int i
  | _, _, .str x => .str x
  | _, _, .ty n => .ty n
  | _, _, .tup h n l => .tup h (veil_mem h n hp) (RL.veil hp l)
  | _, _, .tupK h l => .tupK h (RL.veil hp l)
  | _, _, .lst h n l => .lst h (veil_mem h n hp) (RL.veil hp l)
  | _, _, .fro h l => .fro (h.imp (fun ⟨⟨u, q⟩, n⟩ => ⟨⟨u, q⟩, veil_mem q n hp⟩) id) (RL.veil hp l)
  | _, _, .dct h n l => .dct h (veil_mem h n hp) (RK.veil hp l)
  | _, _, .cell h => .cell h
  | _, _, .ptr h => .ptr fun d fs q => ⟨(h d fs q).1, veil_mem (h d fs q).1 (h d fs q).2 hp⟩
theorem RL.veil (hp : H p = none) : ∀ {v : List V} {d : List D}, RL K av m H v d → RL K (p :: av) m H v d
  | _, _, .nil => .nil
  | _, _, .cons h t => .cons (R.veil hp h) (RL.veil hp t)
theorem RK.veil (hp : H p = none) : ∀ {v : List (Key × V)} {d : List (Key × D)}, RK K av m H v d → RK K (p :: av) m H v d
  | _, _, .nil => .nil
  | _, _, .cons h t => .cons (R.veil hp h) (RK.veil hp t)
end
theorem RF.veil (hp : H p = none) : ∀ {v : List (Str × V)} {d : List (Str × D)}, RF K av m H v d → RF K (p :: av) m H v d
  | _, _, .nil => .nil
  | _, _, .cons h t => .cons (h.veil hp) (RF.veil hp t)
mutual
theorem R.bare : ∀ {v : V} {d : D}, R K (p :: av) m H v d → R K av m H v d
  | _, _, .non => .non
  | _, _, .bl b => .bl b
  | _, _, .int i => .int i
  | _, _, .str x => .str x
  | _, _, .ty n => .ty n
  | _, _, .tup h n l => .tup h (fun z => n (List.mem_cons_of_mem _ z)) (RL.bare l)
  | _, _, .tupK h l => .tupK h (RL.bare l)
  | _, _, .lst h n l => .lst h (fun z => n (List.mem_cons_of_mem _ z)) (RL.bare l)
  | _, _, .fro h l => .fro (h.imp (fun ⟨u, n⟩ => ⟨u, fun z => n (List.mem_cons_of_mem _ z)⟩) id) (RL.bare l)
  | _, _, .dct h n l => .dct h (fun z => n (List.mem_cons_of_mem _ z)) (RK.bare l)
  | _, _, .cell h => .cell h
  | _, _, .ptr h => .ptr fun d fs q => ⟨(h d fs q).1, fun z => (h d fs q).2 (List.mem_cons_of_mem _ z)⟩
theorem RL.bare : ∀ {v : List V} {d : List D}, RL K (p :: av) m H v d → RL K av m H v d
  | _, _, .nil => .nil
  | _, _, .cons h t => .cons (R.bare h) (RL.bare t)
theorem RK.bare : ∀ {v : List (Key × V)} {d : List (Key × D)}, RK K (p :: av) m H v d → RK K av m H v d
  | _, _, .nil => .nil
  | _, _, .cons h t => .cons (R.bare h) (RK.bare t)
end
theorem RF.bare : ∀ {v : List (Str × V)} {d : List (Str × D)}, RF K (p :: av) m H v d → RF K av m H v d
  | _, _, .nil => .nil
  | _, _, .cons h t => .cons h.bare (RF.bare t)
mutual
theorem R.over (hp : p ∈ av) : ∀ {v : V} {d : D}, R K av m H v d → R K av m (upd H p o) v d
  | _, _, .non => .non
  | _, _, .bl b => .bl b
  | _, _, .int i => .int i
  | _, _, .str x => .str x
  | _, _, .ty n => .ty n
  | _, _, .tup h n l => .tup ((upd_ne (over_ne n hp)).trans h) n (RL.over hp l)
  | _, _, .tupK h l => .tupK h (RL.over hp l)
  | _, _, .lst h n l => .lst ((upd_ne (over_ne n hp)).trans h) n (RL.over hp l)
  | _, _, .fro h l => .fro (h.imp (fun ⟨⟨u, q⟩, n⟩ => ⟨⟨u, (upd_ne (over_ne n hp)).trans q⟩, n⟩) id) (RL.over hp l)
  | _, _, .dct h n l => .dct ((upd_ne (over_ne n hp)).trans h) n (RK.over hp l)
  | _, _, .cell h => .cell h
  | _, _, .ptr h => .ptr fun d fs q => ⟨(upd_ne (over_ne (h d fs q).2 hp)).trans (h d fs q).1, (h d fs q).2⟩
theorem RL.over (hp : p ∈ av) : ∀ {v : List V} {d : List D}, RL K av m H v d → RL K av m (upd H p o) v d
  | _, _, .nil => .nil
  | _, _, .cons h t => .cons (R.over hp h) (RL.over hp t)
theorem RK.over (hp : p ∈ av) : ∀ {v : List (Key × V)} {d : List (Key × D)}, RK K av m H v d → RK K av m (upd H p o) v d
  | _, _, .nil => .nil
  | _, _, .cons h t => .cons (R.over hp h) (RK.over hp t)
end
theorem RF.over (hp : p ∈ av) : ∀ {v : List (Str × V)} {d : List (Str × D)}, RF K av m H v d → RF K av m (upd H p o) v d
  | _, _, .nil => .nil
  | _, _, .cons h t => .cons (h.over hp) (RF.over hp t)
theorem CellOk.map {av2 m2 : List Addr} {H2 : Hp} {a : Addr} {c : C} (h : CellOk K mg av m H a c) (ha : H2 a = H a) (fl : ∀ {xs ds}, RL K av m H xs ds → RL K av2 m2 H2 xs ds) (fk : ∀ {xs ds}, RK K av m H xs ds → RK K av2 m2 H2 xs ds)
    (ff : ∀ {xs ds}, RF K av m H xs ds → RF K av2 m2 H2 xs ds) : CellOk K mg av2 m2 H2 a c := by
  cases c with
  | lst ds => obtain ⟨xs, q, r⟩ := h; exact ⟨xs, ha.trans q, fl r⟩
  | dct ds => obtain ⟨xs, q, r⟩ := h; exact ⟨xs, ha.trans q, fk r⟩
  | obj x fs => obtain ⟨Ca, dx, vs, q0, q, r⟩ := h; exact ⟨Ca, dx, vs, q0, ha.trans q, ff r⟩
  | set xs => obtain ⟨nd, S, q, r⟩ := h; exact ⟨nd, S, ha.trans q, r⟩
  | lck ds => obtain ⟨o, xs, q, r⟩ := h; exact ⟨o, xs, ha.trans q, fk r⟩
/-- the accumulator laid and hidden -/
theorem RC.veil (c : RC K mg av m H cs) (hp : H p = none) : RC K mg (p :: av) m (upd H p o) cs := by
  have nm : p ∉ m := fun h => c.trk p (c.sub p h) hp
  refine ⟨fun a h => List.mem_cons_of_mem _ (c.sub a h), fun a h => ?_, c.len, c.nd, fun n a d h1 h2 => ?_⟩
  · rcases List.mem_cons.mp h with z | h
    · rw [z, upd_same]; simp
    · rw [upd_ne fun z => c.trk a h (by rw [z]; exact hp)]; exact c.trk a h
  · have na : a ≠ p := fun z => nm (by rw [← z]; exact List.mem_of_getElem? h1)
    have inv : p ∈ p :: av := List.mem_cons_self
    exact (c.ok n a d h1 h2).map (upd_ne na) (fun r => (r.veil hp).over inv) (fun r => (r.veil hp).over inv) fun r => (r.veil hp).over inv
/-- .. written -/
theorem RC.over (c : RC K mg av m H cs) (hp : p ∈ av) (nm : p ∉ m) : RC K mg av m (upd H p o) cs := by
  refine ⟨c.sub, fun a h => ?_, c.len, c.nd, fun n a d h1 h2 => ?_⟩
  · by_cases z : a = p
    · rw [z, upd_same]; simp
    · rw [upd_ne z]; exact c.trk a h
  · exact (c.ok n a d h1 h2).map (upd_ne fun z => nm (by rw [← z]; exact List.mem_of_getElem? h1)) (fun r => r.over hp) (fun r => r.over hp) fun r => r.over hp
theorem RC.bare (c : RC K mg (p :: av) m H cs) (sub : ∀ a ∈ m, a ∈ av) : RC K mg av m H cs :=
  ⟨sub, fun a h => c.trk a (List.mem_cons_of_mem _ h), c.len, c.nd, fun n a d h1 h2 => (c.ok n a d h1 h2).map rfl (fun r => r.bare) (fun r => r.bare) fun r => r.bare⟩
end

/-! ### the comprehension -/
theorem Wk.refl (av m : List Addr) (H : Hp) : Wk av m H av m H := ⟨fun _ _ h _ => h, fun h _ => h, fun h => h, fun _ _ _ h => h⟩
theorem Wk.trans {av m av1 m1 av2 m2 : List Addr} {H H1 H2 : Hp} (e : Wk av m H av1 m1 H1) (f : Wk av1 m1 H1 av2 m2 H2) : Wk av m H av2 m2 H2 :=
  ⟨fun b o h n => f.keep b o (e.keep b o h n) (e.mem n (by rw [h]; simp)), fun {a} n h => by
    obtain ⟨o, ho⟩ := Option.ne_none_iff_exists'.mp h
    exact f.mem (e.mem n h) (by rw [e.keep a o ho n]; simp), fun h => f.atw (e.atw h), fun b o u h => f.fz b o u (e.fz b o u h)⟩
theorem RS.monoW {av m av' m' : List Addr} {H H' : Hp} {σ : L2.St} {env : Env'} (s : ∀ a ∈ m, a ∈ av) (e : Wk av m H av' m' H') (r : RS K av m H σ env) : RS K av' m' H' σ env :=
  ⟨r.1, fun i d h => let ⟨v, h1, h2⟩ := r.2 i d h; ⟨v, h1, h2.monoW s e⟩⟩
theorem RF.monoW {av m av' m' : List Addr} {H H' : Hp} (s : ∀ a ∈ m, a ∈ av) (e : Wk av m H av' m' H') : ∀ {v : List (Str × V)} {d : List (Str × D)}, RF K av m H v d → RF K av' m' H' v d
  | _, _, .nil => .nil
  | _, _, .cons h t => .cons (h.monoW s e) (RF.monoW s e t)
/-- the accumulator, laid and hidden -/
structure Ac (K : PySem.W.Frag) (mg : Str → Option Value) (Da : Addr) (av1 m1 : List Addr) (H1 : Hp) (av m : List Addr) (H : Hp) (cs : List C) (accD : List D) : Prop where
  ext : Ext av1 m1 H1 av m H
  rc : RC K mg (Da :: av) m H cs
  nav : Da ∉ av
  sub : ∀ a ∈ m, a ∈ av
  fresh : H1 Da = none
  acc : ∃ acc, H Da = some (.lst acc) ∧ RL K (Da :: av) m H acc accD
section
variable {Da : Addr} {av1 m1 av m av' m' : List Addr} {H1 H H' : Hp} {cs cs' : List C} {accD : List D}
theorem Ac.wk1 (A : Ac K mg Da av1 m1 H1 av m H cs accD) (sub1 : ∀ a ∈ m1, a ∈ av1) : Wk av1 m1 H1 (Da :: av) m H :=
  ⟨fun b o h n => A.ext.keep b o h fun z => n (sub1 _ z), fun {a} h q z => (List.mem_cons.mp z).elim (fun z => q (by rw [z]; exact A.fresh)) (A.ext.mem h q), fun h => A.ext.at h, A.ext.fz⟩
theorem Ac.step (A : Ac K mg Da av1 m1 H1 av m H cs accD) (e : Ext (Da :: av) m H av' m' H') (c : RC K mg av' m' H' cs') :
    ∃ av7, av' = Da :: av7 ∧ Ac K mg Da av1 m1 H1 av7 m' H' cs' accD ∧ Wk (Da :: av) m H (Da :: av7) m' H' := by
  obtain ⟨acc, ha, la⟩ := A.acc
  have nm : Da ∉ m := fun h => A.nav (A.sub _ h)
  obtain ⟨nw, ea, em, f⟩ := id e.new
  have nn : Da ∉ nw := fun h => by have := f _ h; rw [ha] at this; cases this
  have ea : av' = Da :: (av ++ nw) := ea
  subst ea
  refine ⟨av ++ nw, rfl, ⟨A.ext.trans ⟨⟨nw, rfl, em, f⟩, e.keep, e.there, e.fz⟩, c, fun z => (List.mem_append.mp z).elim A.nav nn, fun a h => ?_, A.fresh, acc, e.keep _ _ ha nm, la.mono A.rc.sub e⟩, e.wk A.rc.sub⟩
  rw [em] at h
  exact (List.mem_append.mp h).elim (fun h => List.mem_append_left _ (A.sub _ h)) fun h => List.mem_append_right _ h
theorem Ac.put (A : Ac K mg Da av1 m1 H1 av m H cs accD) {y : V} {d : D} (r : R K (Da :: av) m H y d) : ∃ acc, H Da = some (.lst acc) ∧ acc.length = accD.length ∧
    Ac K mg Da av1 m1 H1 av m (upd H Da (.lst (acc ++ [y]))) cs (accD ++ [d]) ∧ Wk (Da :: av) m H (Da :: av) m (upd H Da (.lst (acc ++ [y]))) := by
  obtain ⟨acc, ha, la⟩ := A.acc
  have nm : Da ∉ m := fun h => A.nav (A.sub _ h)
  refine ⟨acc, ha, la.length, ⟨⟨A.ext.new, fun b o hb hm => (upd_ne fun z => ?_).trans (A.ext.keep b o hb hm), fun b hb => ?_, fun b o u h => (upd_ne fun z => by rw [z, A.fresh] at h; cases h).trans (A.ext.fz b o u h)⟩, A.rc.over List.mem_cons_self nm, A.nav, A.sub, A.fresh, _, upd_same, (la.append (.cons r .nil)).over List.mem_cons_self⟩, ⟨fun b o h n => (upd_ne fun z => n (by rw [z]; exact List.mem_cons_self)).trans h, fun h _ => h, fun h => h, fun b o u h => (upd_ne fun z => by rw [z, ha] at h; cases h).trans h⟩⟩
  · rw [z, A.fresh] at hb; cases hb
  · by_cases z : b = Da
    · rw [z, upd_same]; simp
    · rw [upd_ne z]; exact A.ext.there b hb
end
def compB (vs : List Nat) (gt : D → Env' → Option Env') (tt : Gt) (gb : Env' → List C → List D → Out (List D)) : List D → Env' → List C → List D → Out (List D)
  | [], _, cs, acc => .ok acc cs
  | d :: ds, env, cs, acc => match gt d (wipeD env vs) with
    | none => .bad
    | some env1 => (tt env1 cs).bind fun b cs => if b then (gb env1 cs acc).bind fun acc cs => compB vs gt tt gb ds env cs acc else compB vs gt tt gb ds env cs acc
/-- one turn of a loop that fills the accumulator, and the turns behind it -/
theorem loop_core {J : It} {g : TG} {tt : TT} {B : L2.St → Hp → (Hp → Prop) → Prop} {vs : List Nat} {gt : D → Env' → Option Env'} {gtt : Gt} {gb : Env' → List C → List D → Out (List D)} {Da : Addr} {av1 m1 avW mW avS mS : List Addr} {H1 HW HS : Hp}
    {ds accD0 accF : List D} {σ : L2.St} {env : Env'} {cs0 csF : List C} {Nx : Hp → Prop}
    (kg : ∀ (av m : List Addr) (H : Hp) (σ : L2.St) (env env' : Env') (cs : List C) (v : V) (d : D) (Q : L2.St → Hp → Prop), RC K mg av m H cs → RS K av m H σ env → R K av m H v d → gt d env = some env' →
      (∀ σ', RS K av m H σ' env' → wipe σ' vs = wipe σ vs → Q σ' H) → g v σ H Q)
    (kt : TtOk K mg E0 tt gtt)
    (kb : ∀ (av m : List Addr) (H : Hp) (cs : List C) (accD : List D) (σ4 : L2.St) (env1 : Env') (accM : List D) (csM : List C) (Nx : Hp → Prop), Ac K mg Da av1 m1 H1 av m H cs accD → RS K (Da :: av) m H σ4 env1 → gb env1 cs accD = .ok accM csM →
      (∀ av' m' H', Ac K mg Da av1 m1 H1 av' m' H' csM accM → Wk (Da :: av) m H (Da :: av') m' H' → Nx H') → B σ4 H Nx)
    (wk : WalkD K mg avW mW HW J ds) (a0 : Ac K mg Da av1 m1 H1 avS mS HS cs0 accD0) (wS : Wk avW mW HW (Da :: avS) mS HS) (s0 : RS K (Da :: avS) mS HS σ env) (run : compB vs gt gtt gb ds env cs0 accD0 = .ok accF csF)
    (fin : ∀ av m H, Ac K mg Da av1 m1 H1 av m H csF accF → Wk (Da :: avS) mS HS (Da :: av) m H → Nx H) :
    ∃ W : Nat → Nat → Hp → Prop, (∃ k, W 0 k HS) ∧ ∀ j k H, W j k H → (J.stop j H ∧ Nx H) ∨ (J.go j H ∧ ∃ Nx1 : Hp → Prop, (∀ H', Nx1 H' → ∃ k', k' < k ∧ W (j + 1) k' H') ∧ ∀ x H', J.yld j H x H' → g x (wipe σ vs) H' fun σ2 H2 =>
      wipe σ2 vs = wipe σ vs ∧ tt σ2 H2 fun b H3 => if b = true then B σ2 H3 Nx1 else Nx1 H3) := by
  refine ⟨fun i mm H' => mm = ds.length - i ∧ i ≤ ds.length ∧ ∃ av m cs accD, Ac K mg Da av1 m1 H1 av m H' cs accD ∧ Wk (Da :: avS) mS HS (Da :: av) m H' ∧ compB vs gt gtt gb (ds.drop i) env cs accD = .ok accF csF,
    ⟨ds.length, by simp, Nat.zero_le _, avS, mS, cs0, accD0, a0, Wk.refl .., by simpa using run⟩, ?_⟩
  rintro i mm H' ⟨rfl, hi, av, m, cs, accD, A, w, hrest⟩
  have wW := wS.trans w
  by_cases hlt : i < ds.length
  · have hd : ds[i]? = some ds[i] := List.getElem?_eq_getElem hlt
    rw [List.drop_eq_getElem_cons hlt] at hrest
    unfold compB at hrest
    refine .inr ⟨wk.go i _ _ _ _ hd wW, fun H3 => ∃ mm, mm < ds.length - i ∧ (mm = ds.length - (i + 1) ∧ i + 1 ≤ ds.length ∧ ∃ av m cs accD, Ac K mg Da av1 m1 H1 av m H3 cs accD ∧ Wk (Da :: avS) mS HS (Da :: av) m H3 ∧ compB vs gt gtt gb (ds.drop (i + 1)) env cs accD = .ok accF csF),
      fun _ h => h, fun x H3 y => ?_⟩
    obtain ⟨e3, c3, r3⟩ := wk.yld i _ _ _ _ _ _ _ hd wW A.rc y
    obtain ⟨av3, z, A3, w3⟩ := A.step e3 c3
    cases z
    have s3 := s0.monoW a0.rc.sub (w.trans w3)
    split at hrest
    · cases hrest
    · rename_i env1 henv
      refine kg _ _ _ (wipe σ vs) (wipeD env vs) env1 cs x _ _ c3 (s3.wipe vs) r3 henv fun σ4 s4 w4 => ⟨w4.trans (wipe_idem vs), ?_⟩
      cases hg : gtt env1 cs with
      | exc x fs cs5 => rw [hg] at hrest; cases hrest
      | bad => rw [hg] at hrest; cases hrest
      | ok b cs5 =>
        rw [hg] at hrest
        have hrest : (if b = true then (gb env1 cs5 accD).bind fun acc cs => compB vs gt gtt gb (ds.drop (i + 1)) env cs acc else compB vs gt gtt gb (ds.drop (i + 1)) env cs5 accD) = .ok accF csF := hrest
        refine kt _ _ _ σ4 env1 cs _ c3 s4 ?_
        rw [hg]
        intro av5 m5 H5 e5 c5
        obtain ⟨av6, z, A5, w5⟩ := A3.step e5 c5
        cases z
        cases b with
        | false =>
          rw [if_neg Bool.false_ne_true] at hrest
          exact iteF ⟨ds.length - (i + 1), by omega, rfl, hlt, av6, m5, cs5, accD, A5, (w.trans w3).trans w5, hrest⟩
        | true =>
          rw [if_pos rfl] at hrest
          refine iteT ?_
          cases hy : gb env1 cs5 accD with
          | exc x fs cs6 => rw [hy] at hrest; cases hrest
          | bad => rw [hy] at hrest; cases hrest
          | ok accM csM =>
            rw [hy] at hrest
            exact kb _ _ _ _ _ σ4 env1 accM csM _ A5 (s4.monoW c3.sub w5) hy fun av7 m7 H7 A7 w7 => ⟨ds.length - (i + 1), by omega, rfl, hlt, av7, m7, csM, accM, A7, ((w.trans w3).trans w5).trans w7, hrest⟩
  · have : i = ds.length := by omega
    subst this
    rw [List.drop_length] at hrest
    unfold compB at hrest
    cases hrest
    exact .inl ⟨wk.stop _ _ _ _ (Nat.le_refl _) wW, fin _ _ _ A w⟩
def bodyE (ge : Gx) : Env' → List C → List D → Out (List D) := fun env cs acc => (ge env cs).bind fun y cs => if acc.length < sizeLine then .ok (acc ++ [y]) cs else .bad
theorem body_one {te : TE} {ge : Gx} {Da : Addr} {av1 m1 : List Addr} {H1 : Hp} (ke : TeOk K mg E0 te ge) (av m : List Addr) (H : Hp) (cs : List C) (accD : List D) (σ4 : L2.St) (env1 : Env') (accM : List D) (csM : List C) (Nx : Hp → Prop)
    (A : Ac K mg Da av1 m1 H1 av m H cs accD) (s : RS K (Da :: av) m H σ4 env1) (h : bodyE ge env1 cs accD = .ok accM csM) (q : ∀ av' m' H', Ac K mg Da av1 m1 H1 av' m' H' csM accM → Wk (Da :: av) m H (Da :: av') m' H' → Nx H') :
    te σ4 H fun y H4 => ∃ acc, H4 Da = some (.lst acc) ∧ acc.length < sizeLine ∧ Nx (upd H4 Da (.lst (acc ++ [y]))) := by
  refine ke _ _ _ σ4 env1 cs _ A.rc s ?_
  unfold bodyE at h
  cases hy : ge env1 cs with
  | exc x fs cs6 => rw [hy] at h; cases h
  | bad => rw [hy] at h; cases h
  | ok yd cs6 =>
    rw [hy] at h
    have h : (if accD.length < sizeLine then Out.ok (accD ++ [yd]) cs6 else .bad) = .ok accM csM := h
    split at h
    · rename_i hl
      cases h
      intro av6 m6 H6 yv e6 c6 r6
      obtain ⟨av7, z, A7, w7⟩ := A.step e6 c6
      cases z
      obtain ⟨acc, ha, hlen, A8, w8⟩ := A7.put r6
      exact ⟨acc, ha, by rw [hlen]; exact hl, q _ _ _ A8 (w7.trans w8)⟩
    · cases h
/-- the lists of a comprehension's turns -/
def compD (vs : List Nat) (gt : D → Env' → Option Env') (tt : Gt) (ge : Gx) : List D → Env' → List C → List D → Out (List D) := compB vs gt tt (bodyE ge)
def comp2D (vs : List Nat) (gt : D → Env' → Option Env') (tt : Gt) (vs1 : List Nat) (gi1 : Ga) (gt1 : D → Env' → Option Env') (tt1 : Gt) (ge : Gx) : List D → Env' → List C → List D → Out (List D) :=
  compB vs gt tt fun env cs acc => (gi1 env cs).bind fun ds cs => compD vs1 gt1 tt1 ge ds env cs acc
/-- the outcome as a value, as a cell -/
def asVal : Out (List D) → Out D
  | .ok acc cs => .ok (.lst acc) cs
  | _ => .bad
def asCell : Out (List D) → Out D
  | .ok acc cs => .ok (.cell cs.length) (cs ++ [.lst acc])
  | _ => .bad
def gComp (vs : List Nat) (gi : Ga) (gt : D → Env' → Option Env') (tt : Gt) (ge : Gx) : Gx := fun env cs => (gi env cs).bind fun ds cs => asVal (compD vs gt tt ge ds env cs [])
def gCompC (vs : List Nat) (gi : Ga) (gt : D → Env' → Option Env') (tt : Gt) (ge : Gx) : Gx := fun env cs => (gi env cs).bind fun ds cs => asCell (compD vs gt tt ge ds env cs [])
def gComp2 (vs : List Nat) (gi : Ga) (gt : D → Env' → Option Env') (tt : Gt) (vs1 : List Nat) (gi1 : Ga) (gt1 : D → Env' → Option Env') (tt1 : Gt) (ge : Gx) : Gx := fun env cs => (gi env cs).bind fun ds cs => asVal (comp2D vs gt tt vs1 gi1 gt1 tt1 ge ds env cs [])
def gComp2C (vs : List Nat) (gi : Ga) (gt : D → Env' → Option Env') (tt : Gt) (vs1 : List Nat) (gi1 : Ga) (gt1 : D → Env' → Option Env') (tt1 : Gt) (ge : Gx) : Gx := fun env cs => (gi env cs).bind fun ds cs => asCell (comp2D vs gt tt vs1 gi1 gt1 tt1 ge ds env cs [])
theorem PostI.bindE {av m : List Addr} {H : Hp} {Q : VK} {Q2 : It → Hp → Prop} {o : Out (List D)} {f : List D → List C → Out D} (p : PostE K mg av m H EX Q (o.bind f))
    (h : ∀ ds cs' av' m' H' J, Ext av m H av' m' H' → RC K mg av' m' H' cs' → WalkD K mg av' m' H' J ds → PostE K mg av' m' H' EX Q (f ds cs') → Q2 J H') : PostI K mg av m H EX Q2 o := by
  cases o with
  | ok d cs => exact fun a2 m2 H2 J e2 r q => h d cs a2 m2 H2 J e2 r q (PostE.ext e2 p)
  | exc x fs cs => exact p
  | bad => exact p
theorem Ac.start {Da : Addr} {av m : List Addr} {H : Hp} {cs : List C} (c : RC K mg av m H cs) (hD : H Da = none) : Ac K mg Da av m H av m (upd H Da (.lst [])) cs [] :=
  ⟨Ext.fresh hD, c.veil hD, c.notin hD, c.sub, hD, [], upd_same, .nil⟩
/-- how the list is handed on -/
def Hand (K : PySem.W.Frag) (mg : Str → Option Value) (f : Out (List D) → Out D) : Prop := ∀ {EX : XK} {av1 m1 av m : List Addr} {H1 H : Hp} {Q : VK} {Da : Addr} {accF : List D} {csF : List C}, (∀ a ∈ m1, a ∈ av1) → PostE K mg av1 m1 H1 EX Q (f (.ok accF csF)) → Ac K mg Da av1 m1 H1 av m H csF accF → Q (.ref Da) H
def BadOnly (f : Out (List D) → Out D) : Prop := ∀ o, (∃ acc cs, o = .ok acc cs) ∨ f o = .bad
theorem bad_val : BadOnly asVal := fun o => by cases o <;> simp [asVal]
theorem bad_cell : BadOnly asCell := fun o => by cases o <;> simp [asCell]
theorem hand_val : Hand K mg asVal := fun sub p A => by
  obtain ⟨acc, ha, la⟩ := A.acc
  exact p _ _ _ _ A.ext (A.rc.bare A.sub) (.lst ha A.nav la.bare)
theorem hand_cell : Hand K mg asCell := fun {EX av1 m1 av m H1 H Q Da accF csF} sub p A => by
  obtain ⟨acc, ha, la⟩ := A.acc
  have nm : Da ∉ m := fun h => A.nav (A.sub _ h)
  have w : Wk (Da :: av) m H (av ++ [Da]) (m ++ [Da]) H := ⟨fun _ _ h _ => h, fun {a} h _ z => h ((List.mem_append.mp z).elim (fun z => List.mem_cons_of_mem _ z) fun z => by rw [List.mem_singleton.mp z]; exact List.mem_cons_self), fun {n a} h => by
    rw [List.getElem?_append_left (List.getElem?_eq_some_iff.mp h).1]; exact h, fun _ _ _ h => h⟩
  have e : Ext av1 m1 H1 (av ++ [Da]) (m ++ [Da]) H := by
    obtain ⟨nw, e1, e2, f⟩ := A.ext.new
    refine ⟨⟨nw ++ [Da], by rw [e1, List.append_assoc], by rw [e2, List.append_assoc], fun a h => ?_⟩, A.ext.keep, A.ext.there, A.ext.fz⟩
    rcases List.mem_append.mp h with h | h
    · exact f _ h
    · rw [List.mem_singleton.mp h]; exact A.fresh
  have c : RC K mg (av ++ [Da]) (m ++ [Da]) H (csF ++ [.lst accF]) := by
    have c0 := A.rc
    refine ⟨fun a h => ?_, fun a h => ?_, by rw [List.length_append, List.length_append, c0.len]; rfl, List.nodup_append.mpr ⟨c0.nd, by simp, fun a h b hb => ?_⟩, fun n a d h1 h2 => ?_⟩
    · rcases List.mem_append.mp h with h | h
      · exact List.mem_append_left _ (A.sub _ h)
      · exact List.mem_append_right _ h
    · refine c0.trk a ?_
      rcases List.mem_append.mp h with h | h
      · exact List.mem_cons_of_mem _ h
      · rw [List.mem_singleton.mp h]; exact List.mem_cons_self
    · rw [List.mem_singleton.mp hb]
      exact fun z => nm (z ▸ h)
    · by_cases hn : n < m.length
      · rw [List.getElem?_append_left hn] at h1
        rw [List.getElem?_append_left (by rw [← c0.len]; exact hn)] at h2
        exact (c0.ok n a d h1 h2).map rfl (fun r => r.monoW c0.sub w) (fun r => r.monoW c0.sub w) (fun r => r.monoW c0.sub w)
      · have hn : m.length ≤ n := by omega
        rw [List.getElem?_append_right hn] at h1
        rw [List.getElem?_append_right (by rw [← c0.len]; exact hn)] at h2
        have z : n - m.length = 0 := by
          have := (List.getElem?_eq_some_iff.mp h1).1
          simp at this
          omega
        rw [z] at h1
        rw [← c0.len, z] at h2
        cases h1
        cases h2
        exact ⟨acc, ha, la.monoW c0.sub w⟩
  refine p _ _ _ _ e c (.cell ?_)
  rw [← A.rc.len, List.getElem?_append_right (Nat.le_refl _)]
  simp
theorem te_comp {wi : TI} {g : TG} {tt : TT} {te : TE} {vs : List Nat} {gi : Ga} {gt : D → Env' → Option Env'} {gtt : Gt} {ge : Gx} {f : Out (List D) → Out D} (hf : Hand K mg f) (bf : BadOnly f)
    (ki : ∀ (av m : List Addr) (H : Hp) (σ : L2.St) (env : Env') (cs : List C) (Q : It → Hp → Prop), RC K mg av m H cs → RS K av m H σ env → PostI K mg av m H EX Q (gi env cs) → wi σ H Q)
    (kg : ∀ (av m : List Addr) (H : Hp) (σ : L2.St) (env env' : Env') (cs : List C) (v : V) (d : D) (Q : L2.St → Hp → Prop), RC K mg av m H cs → RS K av m H σ env → R K av m H v d → gt d env = some env' →
      (∀ σ', RS K av m H σ' env' → wipe σ' vs = wipe σ vs → Q σ' H) → g v σ H Q)
    (kt : TtOk K mg E0 tt gtt) (ke : TeOk K mg E0 te ge) : TeOk K mg EX (tLc wi g tt te vs) (fun env cs => (gi env cs).bind fun ds cs => f (compD vs gt gtt ge ds env cs [])) := by
  intro av m H σ env cs Q c s p
  refine ki av m H σ env cs _ c s (PostI.bindE p fun ds cs1 av1 m1 H1 J e1 c1 wk p1 => ?_)
  have s1 := s.mono c.sub e1
  intro Da hD
  rcases bf (compD vs gt gtt ge ds env cs1 []) with ⟨accF, csF, hF⟩ | hb
  · rw [hF] at p1
    have A0 := Ac.start c1 hD
    exact loop_core kg kt (body_one ke) wk A0 (A0.wk1 c1.sub) (s1.monoW c1.sub (A0.wk1 c1.sub)) hF fun av2 m2 H2 A w => hf c1.sub p1 A
  · rw [hb] at p1; exact p1.elim
theorem te_comp2 {wi wi1 : TI} {g g1 : TG} {tt tt1 : TT} {te : TE} {vs vs1 : List Nat} {gi gi1 : Ga} {gt gt1 : D → Env' → Option Env'} {gtt gtt1 : Gt} {ge : Gx} {f : Out (List D) → Out D} (hf : Hand K mg f) (bf : BadOnly f)
    (ki : ∀ (av m : List Addr) (H : Hp) (σ : L2.St) (env : Env') (cs : List C) (Q : It → Hp → Prop), RC K mg av m H cs → RS K av m H σ env → PostI K mg av m H EX Q (gi env cs) → wi σ H Q)
    (kg : ∀ (av m : List Addr) (H : Hp) (σ : L2.St) (env env' : Env') (cs : List C) (v : V) (d : D) (Q : L2.St → Hp → Prop), RC K mg av m H cs → RS K av m H σ env → R K av m H v d → gt d env = some env' →
      (∀ σ', RS K av m H σ' env' → wipe σ' vs = wipe σ vs → Q σ' H) → g v σ H Q)
    (kt : TtOk K mg E0 tt gtt)
    (ki1 : ∀ (av m : List Addr) (H : Hp) (σ : L2.St) (env : Env') (cs : List C) (Q : It → Hp → Prop), RC K mg av m H cs → RS K av m H σ env → PostI K mg av m H E0 Q (gi1 env cs) → wi1 σ H Q)
    (kg1 : ∀ (av m : List Addr) (H : Hp) (σ : L2.St) (env env' : Env') (cs : List C) (v : V) (d : D) (Q : L2.St → Hp → Prop), RC K mg av m H cs → RS K av m H σ env → R K av m H v d → gt1 d env = some env' →
      (∀ σ', RS K av m H σ' env' → wipe σ' vs1 = wipe σ vs1 → Q σ' H) → g1 v σ H Q)
    (kt1 : TtOk K mg E0 tt1 gtt1) (ke : TeOk K mg E0 te ge) : TeOk K mg EX (tLc2 wi g tt wi1 g1 tt1 te vs vs1) (fun env cs => (gi env cs).bind fun ds cs => f (comp2D vs gt gtt vs1 gi1 gt1 gtt1 ge ds env cs [])) := by
  intro av m H σ env cs Q c s p
  refine ki av m H σ env cs _ c s (PostI.bindE p fun ds cs1 av1 m1 H1 J e1 c1 wk p1 => ?_)
  have s1 := s.mono c.sub e1
  intro Da hD
  rcases bf (comp2D vs gt gtt vs1 gi1 gt1 gtt1 ge ds env cs1 []) with ⟨accF, csF, hF⟩ | hb
  · rw [hF] at p1
    have A0 := Ac.start c1 hD
    refine loop_core kg kt (fun av2 m2 H2 cs2 accD σ4 env1 accM csM Nx A s4 h q => ?_) wk A0 (A0.wk1 c1.sub) (s1.monoW c1.sub (A0.wk1 c1.sub)) hF fun av2 m2 H2 A w => hf c1.sub p1 A
    refine ki1 _ _ _ σ4 env1 cs2 _ A.rc s4 ?_
    cases hy : gi1 env1 cs2 with
    | exc x fs cs6 => rw [hy] at h; cases h
    | bad => rw [hy] at h; cases h
    | ok ds1 cs3 =>
      rw [hy] at h
      intro av3 m3 H3 J1 e3 c3 wk1
      obtain ⟨av4, z, A4, w4⟩ := A.step e3 c3
      cases z
      exact loop_core kg1 kt1 (body_one ke) wk1 A4 (Wk.refl ..) (s4.monoW A.rc.sub w4) h fun av5 m5 H5 A5 w5 => q _ _ _ A5 (w4.trans w5)
  · rw [hb] at p1; exact p1.elim
end
end Dm
set_option linter.all false
set_option maxRecDepth 100000
set_option maxHeartbeats 1000000
/-! Dm: the comprehension as a rule; the law's end. -/
namespace Dm
open PySem PySem.Spec L2
open PyProof.Rows (AllBare)

section
variable {X : Cx} {EX : XK} {pos : Pos}
def canE (K : PySem.W.Frag) (mg : Str → Option Value) (EX : XK) (g : Gx) : TE := fun σ H Q => ∃ av m env cs, RC K mg av m H cs ∧ RS K av m H σ env ∧ PostE K mg av m H EX Q (g env cs)
theorem DE.can {e : Expr} {g : Gx} (h : DE X EX e g) : PE X e (canE X.K X.mg EX g) := by
  obtain ⟨t, h, k⟩ := h
  exact ⟨fun pins s σ H Q I ⟨av, m, env, cs, c, r, p⟩ => h.run pins s σ H Q I (k av m H σ env cs Q c r p)⟩
theorem canE_ok {K : PySem.W.Frag} {mg : Str → Option Value} {g : Gx} : TeOk K mg EX (canE K mg EX g) g := fun av m H σ env cs Q c r p => ⟨av, m, env, cs, c, r, p⟩
def canT (K : PySem.W.Frag) (mg : Str → Option Value) (EX : XK) (g : Gt) : TT := fun σ H Q => ∃ av m env cs, RC K mg av m H cs ∧ RS K av m H σ env ∧ PostT K mg av m H EX Q (g env cs)
theorem DTs.can {e : List Expr} {g : Gt} (h : DTs X EX e g) : PTs X e (canT X.K X.mg EX g) := by
  obtain ⟨t, h, k⟩ := h
  exact ⟨fun pins s σ H Q I ⟨av, m, env, cs, c, r, p⟩ => h.run pins s σ H Q I (k av m H σ env cs Q c r p)⟩
theorem canT_ok {K : PySem.W.Frag} {mg : Str → Option Value} {g : Gt} : TtOk K mg EX (canT K mg EX g) g := fun av m H σ env cs Q c r p => ⟨av, m, env, cs, c, r, p⟩
def canG (K : PySem.W.Frag) (mg : Str → Option Value) (vs : List Nat) (g : D → Env' → Option Env') : TG := fun v σ H Q => ∃ av m env env' cs d, RC K mg av m H cs ∧ RS K av m H σ env ∧ R K av m H v d ∧ g d env = some env' ∧ (∀ σ', RS K av m H σ' env' → wipe σ' vs = wipe σ vs → Q σ' H)
theorem canG_ok {K : PySem.W.Frag} {mg : Str → Option Value} {vs : List Nat} {g : D → Env' → Option Env'} (av m : List Addr) (H : Hp) (σ : L2.St) (env env' : Env') (cs : List C) (v : V) (d : D) (Q : L2.St → Hp → Prop) (c : RC K mg av m H cs) (rs : RS K av m H σ env) (rd : R K av m H v d) (e : g d env = some env')
    (q : ∀ σ', RS K av m H σ' env' → wipe σ' vs = wipe σ vs → Q σ' H) : canG K mg vs g v σ H Q := ⟨av, m, env, env', cs, d, c, rs, rd, e, q⟩
theorem DGc.can {vs : List Nat} {tg : Expr} {g : D → Env' → Option Env'} (h : DGc X vs tg g) : PG X tg (canG X.K X.mg vs g) := by
  obtain ⟨t, h, k⟩ := h
  exact ⟨fun pins s σ H v u Q I r ⟨av, m, env, env', cs, d, c, rs, rd, e, q⟩ => h.run pins s σ H v u Q I r (k av m H σ env env' cs v d Q c rs rd e q)⟩
def canI (K : PySem.W.Frag) (mg : Str → Option Value) (g : Ga) : TI := fun σ H Q => ∃ av m env cs, RC K mg av m H cs ∧ RS K av m H σ env ∧ PostI K mg av m H E0 Q (g env cs)
theorem DI.can {tg iter : Expr} {g : Ga} (h : DI X E0 tg iter g) : PI X tg iter (canI X.K X.mg g) := by
  obtain ⟨wi, h, k⟩ := h
  exact ⟨fun pins s σ H Q I ⟨av, m, env, cs, c, rs, p⟩ => h.run pins s σ H Q I (k av m H σ env cs Q c rs p)⟩
theorem canI_ok {K : PySem.W.Frag} {mg : Str → Option Value} {gi : Ga} : ∀ (av m : List Addr) (H : Hp) (σ : L2.St) (env : Env') (cs : List C) (Q : It → Hp → Prop), RC K mg av m H cs → RS K av m H σ env → PostI K mg av m H E0 Q (gi env cs) → canI K mg gi σ H Q :=
  fun av m H σ env cs Q c rs p => ⟨av, m, env, cs, c, rs, p⟩
section
variable {elt tg iter tg1 iter1 : Expr} {ifs ifs1 : List Expr} {scope : Scope} {own : List (Str × Nat)} {vs1 : List Nat} {gi gi1 : Ga} {gt gt1 : D → Env' → Option Env'} {gtt gtt1 : Gt} {ge : Gx} {f : Out (List D) → Out D}
theorem de_compF (hf : Hand X.K X.mg f) (bf : BadOnly f) (hc : X.calm = true) (hN : X.N.Nodup) (hi : DI X EX tg iter gi) (ok : BlkOk X.N X.env.scope scope own)
    (hg : ∀ (s : Shared) (H : Hp) (Ca : Addr) (cl : List (Str × Addr)) (fp : List Addr), DGc (X.blk s H scope (compEnvC scope cl Ca X.env) fp) (own.map (·.2)) tg gt)
    (ht : ∀ (s : Shared) (H : Hp) (Ca : Addr) (cl : List (Str × Addr)) (fp : List Addr), DTs (X.blk s H scope (compEnvC scope cl Ca X.env) fp) E0 ifs gtt)
    (he : ∀ (s : Shared) (H : Hp) (Ca : Addr) (cl : List (Str × Addr)) (fp : List Addr), DE (X.blk s H scope (compEnvC scope cl Ca X.env) fp) E0 elt ge)
    (hs : ∀ x, foldedSetIterable iter X.env x = pure x := by intro _; rfl) : DE X EX (.ListComp elt [⟨tg, iter, ifs, 0⟩] scope pos) (fun env cs => (gi env cs).bind fun ds cs => f (compD (own.map (·.2)) gt gtt ge ds env cs [])) := by
  obtain ⟨wi, h1, k1⟩ := hi
  exact ⟨_, pe_lc (g := canG X.K X.mg (own.map (·.2)) gt) (tt := canT X.K X.mg E0 gtt) (te := canE X.K X.mg E0 ge) hc hN h1 ok (fun s H Ca cl fp => (hg s H Ca cl fp).can) (fun s H Ca cl fp => (ht s H Ca cl fp).can) (fun s H Ca cl fp => (he s H Ca cl fp).can) hs, te_comp (EX := EX) (K := X.K) (mg := X.mg) hf bf k1 (canG_ok (vs := own.map (·.2)) (g := gt)) (canT_ok (EX := E0) (g := gtt)) (canE_ok (EX := E0) (g := ge))⟩
theorem ds_compF (hf : Hand X.K X.mg f) (bf : BadOnly f) (i : Nat) {y : Str} {py spos : Pos} (hc : X.calm = true) (hN : X.N.Nodup) (hi : DI X EX tg iter gi) (ok : BlkOk X.N X.env.scope scope own)
    (hg : ∀ (s : Shared) (H : Hp) (Ca : Addr) (cl : List (Str × Addr)) (fp : List Addr), DGc (X.blk s H scope (compEnvC scope cl Ca X.env) fp) (own.map (·.2)) tg gt)
    (ht : ∀ (s : Shared) (H : Hp) (Ca : Addr) (cl : List (Str × Addr)) (fp : List Addr), DTs (X.blk s H scope (compEnvC scope cl Ca X.env) fp) E0 ifs gtt)
    (he : ∀ (s : Shared) (H : Hp) (Ca : Addr) (cl : List (Str × Addr)) (fp : List Addr), DE (X.blk s H scope (compEnvC scope cl Ca X.env) fp) E0 elt ge)
    (hsw : swapsWith (.ListComp elt [⟨tg, iter, ifs, 0⟩] scope pos) (some (.Name y py)) spos.line X.env = pure true) (hy : X.N[i]? = some y := by rfl) (hyl : X.env.scope.names.lookup y = some .local := by rfl)
    (hs : ∀ x, foldedSetIterable iter X.env x = pure x := by intro _; rfl) : DS X EX (.Assign [.Name y py] (.ListComp elt [⟨tg, iter, ifs, 0⟩] scope pos) spos) (sAsg (fun env cs => (gi env cs).bind fun ds cs => f (compD (own.map (·.2)) gt gtt ge ds env cs [])) (tgName i)) := by
  obtain ⟨wi, h1, k1⟩ := hi
  have kc := te_comp (EX := EX) (K := X.K) (mg := X.mg) hf bf k1 (canG_ok (vs := own.map (·.2)) (g := gt)) (canT_ok (EX := E0) (g := gtt)) (canE_ok (EX := E0) (g := ge))
  refine ⟨_, ps_setLc (g := canG X.K X.mg (own.map (·.2)) gt) (tt := canT X.K X.mg E0 gtt) (te := canE X.K X.mg E0 ge) hc hN hy hyl hsw h1 ok (fun s H Ca cl fp => (hg s H Ca cl fp).can) (fun s H Ca cl fp => (ht s H Ca cl fp).can) (fun s H Ca cl fp => (he s H Ca cl fp).can) hs, fun av m H σ env cs Dn c s p => ?_⟩
  exact kc av m H σ env cs _ c s (PostE.bindS p fun d cs1 av1 m1 H1 v e1 c1 r1 p1 => p1 av1 m1 H1 _ (Ext.refl ..) c1 ((s.mono c.sub e1).set r1))
theorem de_compF2 (hf : Hand X.K X.mg f) (bf : BadOnly f) (hc : X.calm = true) (hN : X.N.Nodup) (hi : DI X EX tg iter gi) (ok : BlkOk X.N X.env.scope scope own)
    (hg : ∀ (s : Shared) (H : Hp) (Ca : Addr) (cl : List (Str × Addr)) (fp : List Addr), DGc (X.blk s H scope (compEnvC scope cl Ca X.env) fp) (own.map (·.2)) tg gt)
    (ht : ∀ (s : Shared) (H : Hp) (Ca : Addr) (cl : List (Str × Addr)) (fp : List Addr), DTs (X.blk s H scope (compEnvC scope cl Ca X.env) fp) E0 ifs gtt)
    (hv : ∀ i ∈ vs1, i ∈ own.map (·.2))
    (hi1 : ∀ (s : Shared) (H : Hp) (Ca : Addr) (cl : List (Str × Addr)) (fp : List Addr), DI (X.blk s H scope (compEnvC scope cl Ca X.env) fp) E0 tg1 iter1 gi1)
    (hg1 : ∀ (s : Shared) (H : Hp) (Ca : Addr) (cl : List (Str × Addr)) (fp : List Addr), DGc (X.blk s H scope (compEnvC scope cl Ca X.env) fp) vs1 tg1 gt1)
    (ht1 : ∀ (s : Shared) (H : Hp) (Ca : Addr) (cl : List (Str × Addr)) (fp : List Addr), DTs (X.blk s H scope (compEnvC scope cl Ca X.env) fp) E0 ifs1 gtt1)
    (he : ∀ (s : Shared) (H : Hp) (Ca : Addr) (cl : List (Str × Addr)) (fp : List Addr), DE (X.blk s H scope (compEnvC scope cl Ca X.env) fp) E0 elt ge)
    (hs : ∀ x, foldedSetIterable iter X.env x = pure x := by intro _; rfl) (hs1 : ∀ env x, foldedSetIterable iter1 env x = pure x := by intro _ _; rfl) : DE X EX (.ListComp elt [⟨tg, iter, ifs, 0⟩, ⟨tg1, iter1, ifs1, 0⟩] scope pos) (fun env cs => (gi env cs).bind fun ds cs => f (comp2D (own.map (·.2)) gt gtt vs1 gi1 gt1 gtt1 ge ds env cs [])) := by
  obtain ⟨wi, h1, k1⟩ := hi
  exact ⟨_, pe_lc2 (g := canG X.K X.mg (own.map (·.2)) gt) (tt := canT X.K X.mg E0 gtt) (wi1 := canI X.K X.mg gi1) (g1 := canG X.K X.mg vs1 gt1) (tt1 := canT X.K X.mg E0 gtt1) (te := canE X.K X.mg E0 ge) hc hN h1 ok hv (fun s H Ca cl fp => (hg s H Ca cl fp).can) (fun s H Ca cl fp => (ht s H Ca cl fp).can) (fun s H Ca cl fp => (hi1 s H Ca cl fp).can) (fun s H Ca cl fp => (hg1 s H Ca cl fp).can) (fun s H Ca cl fp => (ht1 s H Ca cl fp).can) (fun s H Ca cl fp => (he s H Ca cl fp).can) hs hs1, te_comp2 (EX := EX) (K := X.K) (mg := X.mg) hf bf k1 (canG_ok (vs := own.map (·.2)) (g := gt)) (canT_ok (EX := E0) (g := gtt)) (canI_ok (gi := gi1)) (canG_ok (vs := vs1) (g := gt1)) (canT_ok (EX := E0) (g := gtt1)) (canE_ok (EX := E0) (g := ge))⟩
theorem ds_compF2 (hf : Hand X.K X.mg f) (bf : BadOnly f) (i : Nat) {y : Str} {py spos : Pos} (hc : X.calm = true) (hN : X.N.Nodup) (hi : DI X EX tg iter gi) (ok : BlkOk X.N X.env.scope scope own)
    (hg : ∀ (s : Shared) (H : Hp) (Ca : Addr) (cl : List (Str × Addr)) (fp : List Addr), DGc (X.blk s H scope (compEnvC scope cl Ca X.env) fp) (own.map (·.2)) tg gt)
    (ht : ∀ (s : Shared) (H : Hp) (Ca : Addr) (cl : List (Str × Addr)) (fp : List Addr), DTs (X.blk s H scope (compEnvC scope cl Ca X.env) fp) E0 ifs gtt)
    (hv : ∀ i ∈ vs1, i ∈ own.map (·.2))
    (hi1 : ∀ (s : Shared) (H : Hp) (Ca : Addr) (cl : List (Str × Addr)) (fp : List Addr), DI (X.blk s H scope (compEnvC scope cl Ca X.env) fp) E0 tg1 iter1 gi1)
    (hg1 : ∀ (s : Shared) (H : Hp) (Ca : Addr) (cl : List (Str × Addr)) (fp : List Addr), DGc (X.blk s H scope (compEnvC scope cl Ca X.env) fp) vs1 tg1 gt1)
    (ht1 : ∀ (s : Shared) (H : Hp) (Ca : Addr) (cl : List (Str × Addr)) (fp : List Addr), DTs (X.blk s H scope (compEnvC scope cl Ca X.env) fp) E0 ifs1 gtt1)
    (he : ∀ (s : Shared) (H : Hp) (Ca : Addr) (cl : List (Str × Addr)) (fp : List Addr), DE (X.blk s H scope (compEnvC scope cl Ca X.env) fp) E0 elt ge)
    (hsw : swapsWith (.ListComp elt [⟨tg, iter, ifs, 0⟩, ⟨tg1, iter1, ifs1, 0⟩] scope pos) (some (.Name y py)) spos.line X.env = pure true) (hy : X.N[i]? = some y := by rfl) (hyl : X.env.scope.names.lookup y = some .local := by rfl)
    (hs : ∀ x, foldedSetIterable iter X.env x = pure x := by intro _; rfl) (hs1 : ∀ env x, foldedSetIterable iter1 env x = pure x := by intro _ _; rfl) : DS X EX (.Assign [.Name y py] (.ListComp elt [⟨tg, iter, ifs, 0⟩, ⟨tg1, iter1, ifs1, 0⟩] scope pos) spos) (sAsg (fun env cs => (gi env cs).bind fun ds cs => f (comp2D (own.map (·.2)) gt gtt vs1 gi1 gt1 gtt1 ge ds env cs [])) (tgName i)) := by
  obtain ⟨wi, h1, k1⟩ := hi
  have kc := te_comp2 (EX := EX) (K := X.K) (mg := X.mg) hf bf k1 (canG_ok (vs := own.map (·.2)) (g := gt)) (canT_ok (EX := E0) (g := gtt)) (canI_ok (gi := gi1)) (canG_ok (vs := vs1) (g := gt1)) (canT_ok (EX := E0) (g := gtt1)) (canE_ok (EX := E0) (g := ge))
  refine ⟨_, ps_setLc2 (g := canG X.K X.mg (own.map (·.2)) gt) (tt := canT X.K X.mg E0 gtt) (wi1 := canI X.K X.mg gi1) (g1 := canG X.K X.mg vs1 gt1) (tt1 := canT X.K X.mg E0 gtt1) (te := canE X.K X.mg E0 ge) hc hN hy hyl hsw h1 ok hv (fun s H Ca cl fp => (hg s H Ca cl fp).can) (fun s H Ca cl fp => (ht s H Ca cl fp).can) (fun s H Ca cl fp => (hi1 s H Ca cl fp).can) (fun s H Ca cl fp => (hg1 s H Ca cl fp).can) (fun s H Ca cl fp => (ht1 s H Ca cl fp).can) (fun s H Ca cl fp => (he s H Ca cl fp).can) hs hs1, fun av m H σ env cs Dn c s p => ?_⟩
  exact kc av m H σ env cs _ c s (PostE.bindS p fun d cs1 av1 m1 H1 v e1 c1 r1 p1 => p1 av1 m1 H1 _ (Ext.refl ..) c1 ((s.mono c.sub e1).set r1))
end
end

/-! ### the law's end -/
theorem quiet_caller : Quiet callerA := rfl
/-- the law's call at the heap behind the top -/
theorem law_end {P : Program} {w : World} {K : PySem.W.Frag} {mg mb : Str → Option Value} {k : Nat} {fa a : Addr} {fd : FuncData} {x : Str} {sp : Sp} {s1 : Shared} {vs : List Value} {ns : List Int}
    (KX : K.In s1.heap) (hns : s1.heap.Ns mainGlobals mg) (hb : s1.heap.Ns builtinsNs mb) (hbb : ∀ x : Str, x ≠ "__name__" → mb x = bootBuiltins x) (hlim : s1.heap.NoLimit) (hg : s1.gens = #[])
    (ha : s1.heap.get? a = some { cls := .type "list", data := .seq vs.toArray }) (hi : PyProof.Rows.IntsAre vs ns) (hl : ns.length ≤ sizeLine) (hr : Room k callerA)
    (F : ∀ base : Heap, K.In base → base.Ns mainGlobals mg → FnG P w K mg base k fa fd [x] sp) (hbind : ∀ (s : Shared) (u : Value), BindsTo s fd ⟨[u], []⟩ [(x, u)])
    (hsp : ∀ H : Hp, (∀ b, H b = none ∨ b = a ∧ ∃ o, H b = some (.frz o (.lst (ns.map V.int)))) → SqL K H a (ns.map V.int) → (H a = none → KSeqL K a (ns.map V.int)) → sp [.ref a] H (fun v _ => v = .bl true) fun _ _ _ => False) :
    codeAny (model P w) callerA (.call (.ref fa) ⟨[.ref a], []⟩) (fun r s' => r = .ok (.ret (.bool true)) ∧ OldK s1.heap s'.heap ∧ s'.os = s1.os ∧ AllBare s'.gens) s1 := by
  have pv := vals_ints hi
  have lenV := hi.length
  obtain ⟨H, only, inH, notK, hok, seq, written⟩ : ∃ H : Hp, (∀ b, H b = none ∨ b = a ∧ ∃ o, H b = some (.frz o (.lst (ns.map V.int)))) ∧ (∀ b o u, H b = some (.frz o u) → s1.heap.get? b = some o) ∧ (∀ b, H b ≠ none → K.lookup b = none) ∧ HOk P w H s1.heap ∧
      SqL K H a (ns.map V.int) ∧ (H a = none → KSeqL K a (ns.map V.int)) := by
    cases hk : K.lookup a with
    | some o =>
      have e := KX a o hk
      rw [ha] at e
      cases e
      have sq : KSeqL K a (ns.map V.int) := fun H => .inr ⟨_, vs.toArray, _, hk, rfl, rfl, rfl, by rw [List.size_toArray, lenV]; exact hl, by simpa using pv⟩
      exact ⟨fun _ => none, fun _ => .inl rfl, fun _ _ _ z => by simp at z, fun _ z => absurd rfl z, fun _ _ z => by simp at z, sq _, fun _ => sq⟩
    | none =>
      let O : Obj := { cls := .type "list", data := .seq vs.toArray }
      refine ⟨fun b => if b = a then some (.frz O (.lst (ns.map V.int))) else none, fun b => ?_, fun b o u z => ?_, fun b z => ?_, fun b o z => ?_, .inl (.inr ⟨O, if_pos rfl⟩), fun z => ?_⟩
      · by_cases e : b = a
        · exact .inr ⟨e, O, if_pos e⟩
        · exact .inl (if_neg e)
      · by_cases e : b = a
        · cases (if_pos e).symm.trans z; rw [e]; exact ha
        · cases (if_neg e).symm.trans z
      · by_cases e : b = a
        · rw [e]; exact hk
        · exact absurd (if_neg e) z
      · by_cases e : b = a
        · cases (if_pos e).symm.trans z
          subst e
          exact ⟨ha, by rw [List.length_map]; exact hl, vs, _, pv, ha⟩
        · cases (if_neg e).symm.trans z
      · cases (if_pos rfl).symm.trans z
  have plain : ∀ {b : Addr} {o : Obj} {es : Array DictEntry} {ep : Nat}, s1.heap.get? b = some o → o.data = .dict es ep → H b = none := fun {b o es ep} e d => by
    rcases only b with z | ⟨z, _⟩
    · exact z
    · rw [z, ha] at e; cases e; cases d
  have ns2 : ∀ {b : Addr} {f : Str → Option Value}, s1.heap.Ns b f → (hidT s1.heap H).Ns b f := fun {b f} ⟨o, es, ep, e, d, q⟩ => ⟨o, es, ep, hidT_get e (plain e d), d, q⟩
  have kb : K.In (hidT s1.heap H) := fun b o e => hidT_get (KX b o e) (by
    cases z : H b with
    | none => rfl
    | some u => have := notK b (by rw [z]; simp); rw [this] at e; cases e)
  have mod : Mod K mg (hidT s1.heap H) := ⟨kb, ns2 hns, ⟨mb, ns2 hb, hbb⟩, let ⟨f, h1, h2⟩ := hlim; ⟨f, ns2 h1, h2⟩⟩
  have env0 : Env0 P w K mg (hidT s1.heap H) callerA [] s1 H := ⟨rfl, mod, fun _ _ e => of_hidT e, Nat.le_of_eq (hidT_size ..), trivial, (fun _ z => nomatch z), hok, AllBare.of_eq hg⟩
  have run := (F _ kb (ns2 hns)).run callerA [] s1 H ⟨[.ref a], []⟩ [.ref a] [.ref a] _ _ hr quiet_caller env0 (hbind s1 (.ref a)) (.cons rfl .nil) (hsp H only seq written)
  refine codeAny_mono run fun r s2 q => ?_
  match r, q with
  | .error u, q =>
    obtain ⟨_, _, _, _, _, _, _, _, _, _, _, _, z⟩ := q
    exact z.elim
  | .ok (.ret u), q =>
    obtain ⟨v, H2, os, bare, un, hok2, rv, qv⟩ := q
    have qv : v = .bl true := qv
    subst qv
    cases rv
    refine ⟨rfl, OldK.of_keep fun b o e => ?_, os, bare⟩
    rcases only b with z | ⟨_, ob, z⟩
    · exact un.keep b o e z (fun y => nomatch y) (fun y => nomatch y)
    · have z2 := un.frzs b ob _ z
      have h1 := inH b ob _ z
      rw [e] at h1; cases h1
      exact (hok2 b _ z2).1
/-- the goal that k_head leaves, from the law's function over plain values -/
theorem walk_end {l : PySem.W.OpenLaw} {n k : Nat} {q : Program} {loose : List Str} {XP : (Str → Option Value) → Heap → Prop} {YP : World → Heap → Prop} {d : DefRec} {K : Params → PySem.W.Frag} {x : Str} {G : Fd}
    (hn : l.most = some n) (hn2 : n ≤ sizeLine) (hdf : d.params.defaults = []) (hr : Room k callerA) (hY : ∀ (w : World) (h : Heap), YP w h → (K w.params).In h)
    (F : ∀ (w : World) (mg : Str → Option Value) (fa : Addr) (h : Heap), (K w.params).In h → h.Ns mainGlobals mg → mg d.name = some (.ref fa) →
      ∃ fd : FuncData, (∀ (s : Shared) (u : Value), BindsTo s fd ⟨[u], []⟩ [(x, u)]) ∧ ∀ base : Heap, (K w.params).In base → base.Ns mainGlobals mg → FnD l.prog w (K w.params) mg base k fa fd [x] G)
    (hG : ∀ ns : List Int, ns.length ≤ n → ∃ cs, G [.fro (ns.map D.int)] [] = .ok (.bl true) cs) : PySem.W.WalkO q loose XP YP l.row.toRowW d [] (fun f vs => PySem.call f vs) := by
  refine Att.attach_call hn hdf fun w s0 s1 mg mb fa o pm cd doc a vs ns G0 Y ho hd hcd hmg hobj hints hlen hg => ?_
  have KX := hY w _ Y
  obtain ⟨fd, hb, hF⟩ := F w mg fa _ KX G0.T.g hmg
  refine law_end KX G0.T.g G0.T.b G0.T.builtins G0.T.nolimit hg hobj hints (Nat.le_trans hlen hn2) hr hF hb fun H only seq written => ?_
  obtain ⟨cs, e⟩ := hG ns hlen
  refine ⟨[], [], [.fro (ns.map D.int)], [], ⟨(fun _ z => nomatch z), (fun _ z => nomatch z), rfl, List.nodup_nil, (fun n a c z _ => nomatch z)⟩, .cons (.fro (xs := ns.map V.int) ?_ ?_) .nil, rfl, ?_⟩
  · rcases only a with z | ⟨_, ob, z⟩
    · exact .inr (written z)
    · exact .inl ⟨⟨ob, z⟩, (fun y => nomatch y)⟩
  · have go : ∀ l : List Int, RL (K w.params) [] [] H (l.map V.int) (l.map D.int) := fun l => by
      induction l with
      | nil => exact .nil
      | cons i l ih => exact .cons (.int i) ih
    exact go ns
  · rw [e]
    intro av' m' H' v _ _ r
    cases r
    rfl
end Dm
set_option linter.all false
set_option maxRecDepth 100000
set_option maxHeartbeats 1000000
/-! Dm: the rules as a program writes them down: callees by one fact each, keywords by their places, chains, {}, two names at once. -/
namespace Dm
open PySem PySem.Spec L2

/-- a def that may be called by the name x -/
structure Cal (P : Program) (w : World) (K : PySem.W.Frag) (mg : Str → Option Value) (base : Heap) (k : Nat) (x qual : Str) (st : Stmt) (ps : List Str) (F : Fd) : Prop where
  ex : ∃ (f : Addr) (fd : FuncData), FnD P w K mg base k f fd ps F ∧ mg x = some (.ref f) ∧ Fun K x qual st f fd ∧ Binds K fd ps []
theorem Cal.up {P : Program} {w : World} {K : PySem.W.Frag} {mg : Str → Option Value} {base : Heap} {j k : Nat} {x qual : Str} {st : Stmt} {ps : List Str} {F : Fd} (c : Cal P w K mg base j x qual st ps F) (h : j ≤ k) : Cal P w K mg base k x qual st ps F :=
  let ⟨f, fd, a, b⟩ := c.ex; ⟨f, fd, a.up h, b⟩
def permG (ix : List Nat) {α : Type} (us ws : List α) : List α := ix.filterMap fun i => (us ++ ws)[i]?
theorem permG_vals {vs : List V} {us : List Value} (h : Vals vs us) : ∀ ix : List Nat, Vals (ix.filterMap fun i => vs[i]?) (ix.filterMap fun i => us[i]?)
  | [] => .nil
  | i :: ix => by
    have ih := permG_vals h ix
    cases e : vs[i]? with
    | none =>
      rw [List.filterMap_cons, List.filterMap_cons, e, h.none_of e]
      exact ih
    | some v =>
      obtain ⟨u, h1, h2⟩ := h.get e
      rw [List.filterMap_cons, List.filterMap_cons, e, h1]
      exact .cons h2 ih
theorem permG_rl {K : PySem.W.Frag} {av m : List Addr} {H : Hp} {vs : List V} {us : List D} (h : RL K av m H vs us) : ∀ ix : List Nat, RL K av m H (ix.filterMap fun i => vs[i]?) (ix.filterMap fun i => us[i]?)
  | [] => .nil
  | i :: ix => by
    have ih := permG_rl h ix
    cases e : us[i]? with
    | none =>
      have : vs[i]? = none := List.getElem?_eq_none_iff.mpr (by rw [h.length]; exact List.getElem?_eq_none_iff.mp e)
      rw [List.filterMap_cons, List.filterMap_cons, e, this]
      exact ih
    | some u =>
      obtain ⟨v, h1, h2⟩ := h.get e
      rw [List.filterMap_cons, List.filterMap_cons, e, h1]
      exact .cons h2 ih
theorem kb_of {K : PySem.W.Frag} {x qual : Str} {st : Stmt} {f : Addr} {fd : FuncData} {ps ks : List Str} {n m : Nat} {ix : List Nat} (F : Fun K x qual st f fd)
    (h : ∀ (kV doc pm : Value) (an : Option Addr) (cdv ct : Value) (us ws : List Value), us.length = n → ws.length = m → bindArgs (PySem.W.fnOf x qual (defArgs st) (defBody st) (defScope st) .none kV doc pm an cdv ct) ⟨us, ks.zip ws⟩ = pure (ps.zip (permG ix us ws))) : KB K fd ps ks n m (permG ix) := by
  obtain ⟨oc, od, kV, doc, pm, an, cdv, ct, osl, rfl, lk, hcd⟩ := F.ex
  exact ⟨fun s us ws _ h1 h2 => .of_eq (h kV doc pm an cdv ct us ws h1 h2), fun a b _ _ => permG_vals (a.append b) ix, fun a b _ _ => permG_rl (a.append b) ix⟩

section
variable {X : Cx} {EX : XK} {k j : Nat} {x qual : Str} {st : Stmt} {ps ks : List Str} {F : Fd} {p pos : Pos} {e : Expr} {es : List Expr} {a r : Ga} {kws : List Keyword} {n m : Nat} {ix : List Nat}
section
variable (c : Cal X.prog X.w X.K X.mg X.base k x qual st ps F) (hr : Room k X.A) (hq : Quiet X.A) (hx : Passes (L2.CX X.prog X.w) X EX)
include c hr hq hx
theorem de_calK (ha : DA X EX (e :: es) a) (hg : Gl X x := by rfl) (hdb : (x == ("__debug__" : Str)) = false := by decide) (he : starEach (e :: es) X.env = (false, eval e X.env) :: starEach es X.env := by rfl) (hpl : (backTo pos (starEach es X.env)).any (·.1) = false := by rfl) :
    DE X EX (.Call (.Name x p) (e :: es) [] pos) (gA (argN ps.length F) a) :=
  let ⟨_, _, G, hm, fn, hb⟩ := c.ex; de_call G hr hq hm fn.kp hx sp_K hb hg ha hdb he hpl
theorem de_calS (ha : DA X EX (e :: es) a) (hg : Gl X x := by rfl) (hdb : (x == ("__debug__" : Str)) = false := by decide) (he : starEach (e :: es) X.env = (false, eval e X.env) :: starEach es X.env := by rfl) (hpl : (backTo pos (starEach es X.env)).any (·.1) = false := by rfl) :
    DE X EX (.Call (.Name x p) (e :: es) [] pos) (gA (argN ps.length (callS F)) a) :=
  let ⟨_, _, G, hm, fn, hb⟩ := c.ex; de_call G hr hq hm fn.kp hx sp_S hb hg ha hdb he hpl
theorem de_calP (ha : DA X EX (e :: es) a) (hg : Gl X x := by rfl) (hdb : (x == ("__debug__" : Str)) = false := by decide) (he : starEach (e :: es) X.env = (false, eval e X.env) :: starEach es X.env := by rfl) (hpl : (backTo pos (starEach es X.env)).any (·.1) = false := by rfl) :
    DE X EX (.Call (.Name x p) (e :: es) [] pos) (gA (argN ps.length (callP F)) a) :=
  let ⟨_, _, G, hm, fn, hb⟩ := c.ex; de_call G hr hq hm fn.kp hx sp_P hb hg ha hdb he hpl
theorem de_calP0 (hg : Gl X x := by rfl) (hdb : (x == ("__debug__" : Str)) = false := by decide) : DE X EX (.Call (.Name x p) [] [] pos) (gA (argN ps.length (callP F)) aNil) :=
  let ⟨_, _, G, hm, fn, hb⟩ := c.ex; de_call0 G hr hq hm fn.kp hx sp_P hb hg hdb
theorem de_calPk0 (ix : List Nat)
    (h : ∀ (kV doc pm : Value) (an : Option Addr) (cdv ct : Value) (us ws : List Value), us.length = 0 → ws.length = m → bindArgs (PySem.W.fnOf x qual (defArgs st) (defBody st) (defScope st) .none kV doc pm an cdv ct) ⟨us, ks.zip ws⟩ = pure (ps.zip (permG ix us ws)))
    (hkw : DK X EX kws r) (hg : Gl X x := by rfl) (hall : (backToKw pos (keywordEach kws X.env)).all (·.1.isSome) = true := by rfl) (hks : (backToKw pos (keywordEach kws X.env)).filterMap (·.1) = ks := by rfl)
    (hpl : ((backTo pos (starEach [] X.env)).any (·.1) || (backToKw pos (keywordEach kws X.env)).any (·.1.isNone)) = false := by rfl) (hdb : (x == ("__debug__" : Str)) = false := by decide) :
    DE X EX (.Call (.Name x p) [] kws pos) (gKw0 m (permG ix) (argN ps.length (callP F)) r) :=
  let ⟨_, _, G, hm, fn, _⟩ := c.ex; de_callK0 G hr hq hm fn.kp hx sp_P (kb_of fn h) hg hkw hall hks hpl hdb
end

/-! ### a < b < c -/
def gChain (f f' : D → D → List C → Out D) (ga gb gc : Gx) : Gx := fun env cs => (ga env cs).bind fun x cs => (gb env cs).bind fun y cs => (f x y cs).bind fun z cs => match z with
  | .bl true => (gc env cs).bind fun w cs => f' y w cs
  | .bl false => .ok (.bl false) cs
  | _ => .bad
theorem te_chain {K : PySem.W.Frag} {mg : Str → Option Value} {r r' : R2} {f f' : D → D → List C → Out D} {ta tb tc : TE} {ga gb gc : Gx} (hd : OpD K mg EX r f) (hd' : OpD K mg EX r' f')
    (ka : TeOk K mg EX ta ga) (kb : TeOk K mg EX tb gb) (kc : TeOk K mg EX tc gc) : TeOk K mg EX (tChain r r' ta tb tc) (gChain f f' ga gb gc) := by
  refine fun av m H σ env cs Q c s p => ka av m H σ env cs _ c s (PostE.bind p fun d1 cs1 av1 m1 H1 v1 e1 c1 r1 p1 => ?_)
  have s1 := s.mono c.sub e1
  refine kb av1 m1 H1 σ env cs1 _ c1 s1 (PostE.bind p1 fun d2 cs2 av2 m2 H2 v2 e2 c2 r2 p2 => ?_)
  have s2 := s1.mono c1.sub e2
  refine hd av2 m2 H2 cs2 v1 v2 d1 d2 _ c2 (r1.mono c1.sub e2) r2 (PostE.bind p2 fun d3 cs3 av3 m3 H3 v3 e3 c3 r3 p3 => ?_)
  have s3 := s2.mono c2.sub e3
  split at p3
  · rw [r3.bool]
    refine ⟨true, rfl, iteT (kc av3 m3 H3 σ env cs3 _ c3 s3 (PostE.bind p3 fun d4 cs4 av4 m4 H4 v4 e4 c4 r4 p4 => ?_))⟩
    exact hd' av4 m4 H4 cs4 v2 v4 d2 d4 _ c4 ((r2.mono c2.sub e3).mono c3.sub e4) r4 p4
  · rw [r3.bool]
    exact ⟨false, rfl, iteF (p3.here c3 (.bl false))⟩
  · exact p3.elim
theorem de_chain {op op' : CmpOp} {b c d : Expr} {r r' : R2} {f f' : D → D → List C → Out D} {ga gb gc : Gx} (ho : OpR X (compareOp op) r) (hd : OpD X.K X.mg EX r f) (ho' : OpR X (compareOp op') r') (hd' : OpD X.K X.mg EX r' f')
    (ha : DE X EX b ga) (hb : DE X EX c gb) (hc : DE X EX d gc) (hm : lastMarks [op, op'] [c, d] = false := by with_unfolding_all rfl) : DE X EX (.Compare b [op, op'] [c, d] pos) (gChain f f' ga gb gc) := by
  obtain ⟨ta, ha, ka⟩ := ha
  obtain ⟨tb, hb, kb⟩ := hb
  obtain ⟨tc, hc, kc⟩ := hc
  exact ⟨_, pe_chain ho ho' ha hb hc hm, te_chain hd hd' ka kb kc⟩

/-! ### {} -/
theorem de_dict0 : DE X EX (.Dict [] [] pos) (gC (.dct [])) := ⟨_, pe_dnewK, fun av m H σ env cs Q c s p d hd =>
  p av m _ _ (Ext.fresh hd) (c.fresh hd) (.dct upd_same (c.notin hd) .nil)⟩

/-! ### built-ins -/
theorem de_len (ha : DA X EX [e] a) (hm : X.mg "len" = none) (hg : Gl X "len" := by rfl) (he : starEach [e] X.env = (false, eval e X.env) :: starEach [] X.env := by rfl) (hpl : (backTo pos (starEach [] X.env)).any (·.1) = false := by rfl) : DE X EX (.Call (.Name "len" p) [e] [] pos) (gA lenD a) :=
  de_callB call_len_seq cd_len hg hm PySem.boot_len ha (by decide) (by decide) he hpl
theorem de_abs (ha : DA X EX [e] a) (hm : X.mg "abs" = none) (hg : Gl X "abs" := by rfl) (he : starEach [e] X.env = (false, eval e X.env) :: starEach [] X.env := by rfl) (hpl : (backTo pos (starEach [] X.env)).any (·.1) = false := by rfl) : DE X EX (.Call (.Name "abs" p) [e] [] pos) (gA absD a) :=
  de_callB call_abs cd_abs hg hm (by decide +kernel) ha (by decide) (by decide) he hpl
theorem de_isi {e2 : Expr} (ha : DA X EX [e, e2] a) (hm : X.mg "isinstance" = none) (hg : Gl X "isinstance" := by rfl) (he : starEach [e, e2] X.env = (false, eval e X.env) :: starEach [e2] X.env := by rfl) (hpl : (backTo pos (starEach [e2] X.env)).any (·.1) = false := by rfl) : DE X EX (.Call (.Name "isinstance" p) [e, e2] [] pos) (gA isiD a) :=
  de_callB call_isi cd_isi hg hm (by decide +kernel) ha (by decide) (by decide) he hpl
theorem de_max2 {e2 : Expr} (hc : X.calm = true) (ha : DA X EX [e, e2] a) (hm : X.mg "max" = none) (hg : Gl X "max" := by rfl) (he : starEach [e, e2] X.env = (false, eval e X.env) :: starEach [e2] X.env := by rfl) (hpl : (backTo pos (starEach [e2] X.env)).any (·.1) = false := by rfl) : DE X EX (.Call (.Name "max" p) [e, e2] [] pos) (gA max2D a) :=
  de_callB (call_max2 hc) cd_max2 hg hm (by decide +kernel) ha (by decide) (by decide) he hpl
theorem de_min2 {e2 : Expr} (hc : X.calm = true) (ha : DA X EX [e, e2] a) (hm : X.mg "min" = none) (hg : Gl X "min" := by rfl) (he : starEach [e, e2] X.env = (false, eval e X.env) :: starEach [e2] X.env := by rfl) (hpl : (backTo pos (starEach [e2] X.env)).any (·.1) = false := by rfl) : DE X EX (.Call (.Name "min" p) [e, e2] [] pos) (gA min2D a) :=
  de_callB (call_min2 hc) cd_min2 hg hm (by decide +kernel) ha (by decide) (by decide) he hpl
theorem de_intc (ha : DA X EX [e] a) (hm : X.mg "int" = none) (hg : Gl X "int" := by rfl) (he : starEach [e] X.env = (false, eval e X.env) :: starEach [] X.env := by rfl) (hpl : (backTo pos (starEach [] X.env)).any (·.1) = false := by rfl) : DE X EX (.Call (.Name "int" p) [e] [] pos) (gA intD a) :=
  de_callTy call_int1 cd_int hg hm (by decide +kernel) ha (by decide) (by decide) he hpl
theorem de_listc (ha : DA X EX [e] a) (hm : X.mg "list" = none) (hg : Gl X "list" := by rfl) (he : starEach [e] X.env = (false, eval e X.env) :: starEach [] X.env := by rfl) (hpl : (backTo pos (starEach [] X.env)).any (·.1) = false := by rfl) : DE X EX (.Call (.Name "list" p) [e] [] pos) (gA listD a) :=
  de_callTy call_list_of cd_list hg hm (by decide +kernel) ha (by decide) (by decide) he hpl
theorem de_tuplec (ha : DA X EX [e] a) (hm : X.mg "tuple" = none) (hg : Gl X "tuple" := by rfl) (he : starEach [e] X.env = (false, eval e X.env) :: starEach [] X.env := by rfl) (hpl : (backTo pos (starEach [] X.env)).any (·.1) = false := by rfl) : DE X EX (.Call (.Name "tuple" p) [e] [] pos) (gA tupleD a) :=
  de_callTy call_tuple_of cd_tuple hg hm (by decide +kernel) ha (by decide) (by decide) he hpl
/-- a built-in type as a value -/
theorem de_ty {n : String} (hm : X.mg x = none) (hv : bootBuiltins x = some (.type n)) (hg : Gl X x := by rfl) (hn : x ≠ "__name__" := by decide) (hdb : (x == ("__debug__" : Str)) = false := by decide) : DE X EX (.Name x p) (gC (.ty n)) :=
  ⟨_, pe_bltn (v := .ty n) hg hm hv rfl hn hdb, fun _ _ _ _ _ _ _ c _ p => p.here c (.ty n)⟩
end
end Dm
set_option linter.all false
set_option maxRecDepth 100000
set_option maxHeartbeats 1000000
/-! Dm: a block whose new cells are forgotten behind it; a new list of n times an item as a cell. -/
namespace Dm
open PySem PySem.Spec L2
section
variable {X : Cx} {EX : XK} {pos : Pos}
def clearO (n : Nat) : Option D → Option D
  | some d => if low n d then some d else none
  | none => none
def sScope (g : Gs) : Gs := fun env cs => match g env cs with
  | .ok ⟨.nx, e⟩ cs' => if (cs'.take cs.length).all (lowC cs.length) then .ok ⟨.nx, e.map (clearO cs.length)⟩ (cs'.take cs.length) else .bad
  | .ok ⟨.ct, e⟩ cs' => if (cs'.take cs.length).all (lowC cs.length) then .ok ⟨.ct, e.map (clearO cs.length)⟩ (cs'.take cs.length) else .bad
  | .ok ⟨.rt d, e⟩ cs' => if (cs'.take cs.length).all (lowC cs.length) && low cs.length d then .ok ⟨.rt d, e⟩ (cs'.take cs.length) else .bad
  | _ => .bad
theorem RS.cut {K : PySem.W.Frag} {av m nw : List Addr} {H : Hp} {σ : L2.St} {env : Env'} (s : RS K (av ++ nw) (m ++ nw) H σ env) : RS K av m H σ (env.map (clearO m.length)) := by
  refine ⟨by rw [List.length_map]; exact s.1, fun i d h => ?_⟩
  rw [List.getElem?_map] at h
  cases e : env[i]? with
  | none => rw [e] at h; cases h
  | some o =>
    rw [e] at h
    cases o with
    | none => simp [clearO] at h
    | some d2 =>
      simp only [Option.map_some, clearO, Option.some.injEq] at h
      split at h
      · cases h
        rename_i hl
        obtain ⟨v, h1, h2⟩ := s.2 i _ e
        exact ⟨v, h1, h2.low hl⟩
      · cases h
theorem ds_scope {st : List Stmt} {g : Gs} (h : DSs X EX st g) : DSs X EX st (sScope g) := by
  obtain ⟨t, h, k⟩ := h
  refine ⟨t, h, fun av m H σ env cs Dn c s p => k av m H σ env cs Dn c s ?_⟩
  unfold sScope at p
  have hl := c.len
  split at p
  · rename_i e cs' eq
    rw [eq]
    split at p
    · rename_i ha
      intro av2 m2 H2 σ2 e2 c2 s2
      obtain ⟨nw, rfl, rfl, f⟩ := id e2.new
      rw [← hl] at ha p
      exact p av m H2 σ2 e2.cut (c2.cut c.sub ha) s2.cut
    · exact p.elim
  · rename_i e cs' eq
    rw [eq]
    split at p
    · rename_i ha
      intro av2 m2 H2 σ2 e2 c2 s2
      obtain ⟨nw, rfl, rfl, f⟩ := id e2.new
      rw [← hl] at ha p
      exact p av m H2 σ2 e2.cut (c2.cut c.sub ha) s2.cut
    · exact p.elim
  · rename_i d e cs' eq
    rw [eq]
    split at p
    · rename_i ha
      rw [Bool.and_eq_true] at ha
      intro av2 m2 H2 v e2 c2 r2
      obtain ⟨nw, rfl, rfl, f⟩ := id e2.new
      rw [← hl] at ha p
      exact p av m H2 v e2.cut (c2.cut c.sub ha.1) (r2.low ha.2)
    · exact p.elim
  · exact p.elim
/-- a new list, n times the items of one, as a cell -/
def mulC : D → D → List C → Out D
  | dx, .int k, cs => match asLm cs dx with
    | some xs => if k < 2 ^ 20 ∧ -(2 ^ 20) < k ∧ xs.length * k.toNat ≤ sizeLine then .ok (.cell cs.length) (cs ++ [.lst (List.replicate k.toNat xs).flatten]) else .bad
    | none => .bad
  | _, _, _ => .bad
theorem PostE.newC {K : PySem.W.Frag} {mg : Str → Option Value} {av m : List Addr} {H : Hp} {cs : List C} {Q : VK} {ds : List D} {xs : List V} {p : Addr} (c : RC K mg av m H cs) (q : PostE K mg av m H EX Q (.ok (.cell cs.length) (cs ++ [.lst ds]))) (hp : H p = none) (r : RL K av m H xs ds) : Q (.ref p) (upd H p (.lst xs)) := by
  have e : Ext av m H (av ++ [p]) (m ++ [p]) (upd H p (.lst xs)) := ⟨⟨[p], rfl, rfl, fun a h => by rw [List.mem_singleton.mp h]; exact hp⟩, (Ext.fresh (av := av) (m := m) hp).keep, (Ext.fresh (av := av) (m := m) hp).there, (Ext.fresh (av := av) (m := m) hp).fz⟩
  obtain ⟨e2, c2⟩ := c.cell (o := .lst xs) (d := .lst ds) hp ⟨xs, upd_same, r.mono c.sub e⟩
  refine q _ _ _ _ e2 c2 (.cell ?_)
  rw [← c.len, List.getElem?_append_right (Nat.le_refl _)]
  simp
theorem de_mulC {a b : Expr} {ga gb : Gx} (ha : DE X EX a ga) (hb : DE X EX b gb) : DE X EX (.BinOp a .Mult b pos) (g2 mulC ga gb) := de_op op_rep (fun av m H cs x y dx dy Q c rx ry q => by
  unfold mulC at q
  split at q
  · cases ry
    split at q
    · rename_i xs h
      obtain ⟨a, vs, rfl, s1, l1⟩ := asLm_ok c rx h
      split at q
      · rename_i hz
        exact ⟨a, _, vs, rfl, rfl, s1, by omega, by omega, by rw [l1.length]; exact hz.2.2, fun p hp => q.newC c hp (l1.rep _)⟩
      · exact q.elim
    · exact q.elim
  · exact q.elim) ha hb
/-! ### comparisons as tests -/
theorem dt_cmp {op : CmpOp} {a b : Expr} {r : R2} {f : D → D → List C → Out D} {ga gb : Gx} (ho : OpR X (compareOp op) r) (hd : OpD X.K X.mg EX r f) (ha : DE X EX a ga) (hb : DE X EX b gb) (hm : behindInMarks op b = false) : DT X EX (.Compare a [op] [b] pos) (tE (g2 f ga gb)) := by
  obtain ⟨ta, ha, ka⟩ := ha
  obtain ⟨tb, hb, kb⟩ := hb
  refine ⟨_, pt_cmpR ho ha hb hm, fun av m H σ env cs Q c s p => te_op hd ka kb av m H σ env cs _ c s (PostE.bindT p fun d cs1 av1 m1 H1 v e1 c1 r1 p1 => ?_)⟩
  cases d with
  | bl b => rw [r1.bool]; exact ⟨b, rfl, p1 av1 m1 H1 (Ext.refl ..) c1⟩
  | _ => exact p1.elim
theorem od_is {K : PySem.W.Frag} {mg : Str → Option Value} : OpD K mg EX (fun x y H Q => y = .non ∧ Q (.bl (decide (x = .non))) H) (isD false) := fun av m H cs x y dx dy Q c rx ry q => by
  unfold isD at q
  split at q
  · rename_i h
    refine ⟨ry.eq_non h, ?_⟩
    rw [rx.non_iff]
    exact q.here c (.bl _)
  · exact q.elim
theorem od_isnot {K : PySem.W.Frag} {mg : Str → Option Value} : OpD K mg EX (fun x y H Q => y = .non ∧ Q (.bl (!decide (x = .non))) H) (isD true) := fun av m H cs x y dx dy Q c rx ry q => by
  unfold isD at q
  split at q
  · rename_i h
    refine ⟨ry.eq_non h, ?_⟩
    rw [rx.non_iff]
    exact q.here c (.bl _)
  · exact q.elim
section
variable {a b : Expr} {ga gb : Gx} {k : Nat}
theorem dt_lt (ha : DE X EX a ga) (hb : DE X EX b gb) : DT X EX (.Compare a [.Lt] [b] pos) (tE (g2 ltD ga gb)) := dt_cmp op_lt od_lt ha hb (nomark _)
theorem dt_le (ha : DE X EX a ga) (hb : DE X EX b gb) : DT X EX (.Compare a [.LtE] [b] pos) (tE (g2 leD ga gb)) := dt_cmp op_le od_le ha hb (nomark _)
theorem dt_gt (ha : DE X EX a ga) (hb : DE X EX b gb) : DT X EX (.Compare a [.Gt] [b] pos) (tE (g2 gtD ga gb)) := dt_cmp op_gt od_gt ha hb (nomark _)
theorem dt_ge (ha : DE X EX a ga) (hb : DE X EX b gb) : DT X EX (.Compare a [.GtE] [b] pos) (tE (g2 geD ga gb)) := dt_cmp op_ge od_ge ha hb (nomark _)
theorem dt_is (ha : DE X EX a ga) (hb : DE X EX b gb) : DT X EX (.Compare a [.Is] [b] pos) (tE (g2 (isD false) ga gb)) := dt_cmp op_isN od_is ha hb (nomark _)
theorem dt_isnot (ha : DE X EX a ga) (hb : DE X EX b gb) : DT X EX (.Compare a [.IsNot] [b] pos) (tE (g2 (isD true) ga gb)) := dt_cmp op_notN od_isnot ha hb (nomark _)
theorem dt_in (ha : DE X EX a ga) (hb : DE X EX b gb) (hm : behindInMarks .In b = false := by first | exact nomark _ | rfl) : DT X EX (.Compare a [.In] [b] pos) (tE (g2 (inD false) ga gb)) := dt_cmp op_in_seq (od_in false) ha hb hm
theorem dt_notin (ha : DE X EX a ga) (hb : DE X EX b gb) (hm : behindInMarks .NotIn b = false := by first | exact nomark _ | rfl) : DT X EX (.Compare a [.NotIn] [b] pos) (tE (g2 (inD true) ga gb)) := dt_cmp op_notIn_seq (od_in true) ha hb hm
theorem dt_eq (hr : Room k X.A) (ha : DE X EX a ga) (hb : DE X EX b gb) : DT X EX (.Compare a [.Eq] [b] pos) (tE (g2 (eqD false) ga gb)) := dt_cmp (OpR.or op_eq (op_eqD hr.units)) od_eq ha hb (nomark _)
theorem dt_ne (hr : Room k X.A) (ha : DE X EX a ga) (hb : DE X EX b gb) : DT X EX (.Compare a [.NotEq] [b] pos) (tE (g2 (eqD true) ga gb)) := dt_cmp (OpR.or op_ne (op_neD hr.units)) od_ne ha hb (nomark _)
end
theorem dt_chain {op op' : CmpOp} {b c d : Expr} {r r' : R2} {f f' : D → D → List C → Out D} {ga gb gc : Gx} (ho : OpR X (compareOp op) r) (hd : OpD X.K X.mg EX r f) (ho' : OpR X (compareOp op') r') (hd' : OpD X.K X.mg EX r' f')
    (ha : DE X EX b ga) (hb : DE X EX c gb) (hc : DE X EX d gc) (hm : lastMarks [op, op'] [c, d] = false := by with_unfolding_all rfl) : DT X EX (.Compare b [op, op'] [c, d] pos) (tE (gChain f f' ga gb gc)) := by
  obtain ⟨ta, ha, ka⟩ := ha
  obtain ⟨tb, hb, kb⟩ := hb
  obtain ⟨tc, hc, kc⟩ := hc
  refine ⟨_, pt_chain ho ho' ha hb hc hm, fun av m H σ env cs Q c s p => te_chain hd hd' ka kb kc av m H σ env cs _ c s (PostE.bindT p fun d cs1 av1 m1 H1 v e1 c1 r1 p1 => ?_)⟩
  cases d with
  | bl b => rw [r1.bool]; exact ⟨b, rfl, p1 av1 m1 H1 (Ext.refl ..) c1⟩
  | _ => exact p1.elim
/-- a new list, two behind one another, as a cell -/
def catC : D → D → List C → Out D := fun dx dy cs => match asL cs dx, asL cs dy with
  | some xs, some ys => if xs.length + ys.length ≤ sizeLine then .ok (.cell cs.length) (cs ++ [.lst (xs ++ ys)]) else .bad
  | _, _ => .bad
theorem de_catC {a b : Expr} {ga gb : Gx} (ha : DE X EX a ga) (hb : DE X EX b gb) : DE X EX (.BinOp a .Add b pos) (g2 catC ga gb) := de_op op_catS (fun av m H cs x y dx dy Q c rx ry q => by
  unfold catC at q
  split at q
  · rename_i xs ys h1 h2
    obtain ⟨a, vs, rfl, s1, l1⟩ := asL_ok c rx h1
    obtain ⟨b, us, rfl, s2, l2⟩ := asL_ok c ry h2
    split at q
    · rename_i hz
      exact ⟨a, b, vs, us, rfl, rfl, s1, s2, by rw [l1.length, l2.length]; exact hz, fun p hp => q.newC c hp (l1.append l2)⟩
    · exact q.elim
  · exact q.elim) ha hb
end
end Dm
set_option linter.all false
set_option maxRecDepth 100000
set_option maxHeartbeats 1000000
/-! Dm: x in l at any depth; a statement that no run comes to. -/
namespace Dm
open PySem PySem.Spec L2
section
variable {X : Cx} {EX : XK} {K : PySem.W.Frag} {mg : Str → Option Value} {pos : Pos}
/-- a statement of which nothing is known: no run may come to it -/
def sDead : Gs := fun _ _ => .bad
theorem ds_dead {st : Stmt} : DS X EX st sDead := ⟨fun _ _ _ => False, ⟨fun _ _ _ _ _ _ h => h.elim⟩, fun _ _ _ _ _ _ _ _ _ p => p.elim⟩
def notTup : D → Bool
  | .tup _ => false
  | _ => true
def inDeepD (neg : Bool) : D → D → List C → Out D := fun dx dy cs => match flatten cs dx, flatten cs dy with
  | some a, some b => match asS [] b with
    | some ys => if notTup b && shp a && shp b then .ok (.bl (if neg then !(toPyL ys).any (fun z => PyData.eqv z (toPy a)) else (toPyL ys).any (fun z => PyData.eqv z (toPy a)))) cs else .bad
    | none => .bad
  | _, _ => .bad
theorem od_inDeep (neg : Bool) : OpD K mg EX (if neg then rNotInD K else rInD K) (inDeepD neg) := by
  intro av m H cs x y dx dy Q c rx ry q
  unfold inDeepD at q
  split at q
  · rename_i a b h1 h2
    split at q
    · rename_i ys h3
      split at q
      · rename_i h4
        simp only [Bool.and_eq_true] at h4
        have da := flatten_ok c rx h1
        have db := flatten_ok c ry h2
        have e : toPy b = .list (toPyL ys) := by
          cases b <;> simp [asS, asL, asT, notTup] at h3 h4 <;> (try (subst h3; simp only [toPy]))
        have sb := h4.2
        unfold shp at sb
        rw [e] at db sb
        cases neg with
        | true => exact ⟨_, _, da, db, h4.1.2, sb, q.here c (.bl _)⟩
        | false => exact ⟨_, _, da, db, h4.1.2, sb, q.here c (.bl _)⟩
      · exact q.elim
    · exact q.elim
  · exact q.elim
section
variable {k : Nat} {a b : Expr} {ga gb : Gx} (hr : Room k X.A) (ha : DE X EX a ga) (hb : DE X EX b gb)
include hr ha hb
theorem de_inDeep (hm : behindInMarks .In b = false := by first | exact nomark _ | rfl) : DE X EX (.Compare a [.In] [b] pos) (g2 (inDeepD false) ga gb) := de_cmp (op_inD (by have := hr.un; omega)) (od_inDeep false) ha hb hm
theorem de_notinDeep (hm : behindInMarks .NotIn b = false := by first | exact nomark _ | rfl) : DE X EX (.Compare a [.NotIn] [b] pos) (g2 (inDeepD true) ga gb) := de_cmp (op_notInD (by have := hr.un; omega)) (od_inDeep true) ha hb hm
theorem dt_inDeep (hm : behindInMarks .In b = false := by first | exact nomark _ | rfl) : DT X EX (.Compare a [.In] [b] pos) (tE (g2 (inDeepD false) ga gb)) := dt_cmp (op_inD (by have := hr.un; omega)) (od_inDeep false) ha hb hm
theorem dt_notinDeep (hm : behindInMarks .NotIn b = false := by first | exact nomark _ | rfl) : DT X EX (.Compare a [.NotIn] [b] pos) (tE (g2 (inDeepD true) ga gb)) := dt_cmp (op_notInD (by have := hr.un; omega)) (od_inDeep true) ha hb hm
end
end
/-! ### a call with an empty store whose list comes as a cell -/
section
variable {K : PySem.W.Frag} {mg : Str → Option Value} {av m : List Addr} {H : Hp} {cs : List C} {E : XK} {Q : VK}
mutual
theorem R.less {av2 m2 : List Addr} (hs : ∀ b ∈ av2, b ∈ av) : ∀ {v : V} {d : D}, R K av m H v d → low 0 d = true → R K av2 m2 H v d
  | _, _, .non, _ => .non
  | _, _, .bl b, _ => .bl b
  | _, _, .int i, _ => .int i
  | _, _, .str x, _ => .str x
  | _, _, .ty n, _ => .ty n
  | _, _, .tup h n l, p => .tup h (fun z => n (hs _ z)) (RL.less hs l (by simpa [Dm.low] using p))
  | _, _, .tupK h l, p => .tupK h (RL.less hs l (by simpa [Dm.low] using p))
  | _, _, .lst h n l, p => .lst h (fun z => n (hs _ z)) (RL.less hs l (by simpa [Dm.low] using p))
  | _, _, .fro h l, p => .fro (h.imp (fun z => ⟨z.1, fun y => z.2 (hs _ y)⟩) id) (RL.less hs l (by simpa [Dm.low] using p))
  | _, _, .dct h n l, p => .dct h (fun z => n (hs _ z)) (RK.less hs l (by simpa [Dm.low] using p))
  | _, _, .cell h, p => by simp [Dm.low] at p
  | _, _, .ptr h, _ => .ptr fun d fs q => ⟨(h d fs q).1, fun z => (h d fs q).2 (hs _ z)⟩
theorem RL.less {av2 m2 : List Addr} (hs : ∀ b ∈ av2, b ∈ av) : ∀ {v : List V} {d : List D}, RL K av m H v d → lowL 0 d = true → RL K av2 m2 H v d
  | _, _, .nil, _ => .nil
  | _, _, .cons h t, p => by
    simp only [lowL, Bool.and_eq_true] at p
    exact .cons (R.less hs h p.1) (RL.less hs t p.2)
theorem RK.less {av2 m2 : List Addr} (hs : ∀ b ∈ av2, b ∈ av) : ∀ {v : List (Key × V)} {d : List (Key × D)}, RK K av m H v d → lowK 0 d = true → RK K av2 m2 H v d
  | _, _, .nil, _ => .nil
  | _, _, .cons h t, p => by
    simp only [lowK, Bool.and_eq_true] at p
    exact .cons (R.less hs h p.1) (RK.less hs t p.2)
end
/-- one more cell, at an address that is new since H -/
theorem RC.snoc {p : Addr} {H' : Hp} {d : C} (c : RC K mg av m H cs) (hp : H p = none) (e : Ext av m H (av ++ [p]) (m ++ [p]) H') (same : ∀ b ∈ m, H' b = H b) (there : H' p ≠ none) (hd : CellOk K mg (av ++ [p]) (m ++ [p]) H' p d) :
    RC K mg (av ++ [p]) (m ++ [p]) H' (cs ++ [d]) := by
  have np : p ∉ m := fun h => c.trk p (c.sub p h) hp
  refine ⟨fun a h => ?_, fun a h => ?_, by simp [c.len], ?_, fun n a u h1 h2 => ?_⟩
  · rcases List.mem_append.mp h with h | h
    · exact List.mem_append_left _ (c.sub a h)
    · exact List.mem_append_right _ h
  · rcases List.mem_append.mp h with h | h
    · exact e.there a (c.trk a h)
    · rw [List.mem_singleton.mp h]; exact there
  · exact List.nodup_append.mpr ⟨c.nd, by simp, fun a h b h' z => by rw [List.mem_singleton.mp h'] at z; exact np (z ▸ h)⟩
  · by_cases hn : n < m.length
    · rw [List.getElem?_append_left hn] at h1
      rw [List.getElem?_append_left (by rw [← c.len]; exact hn)] at h2
      exact (c.ok n a u h1 h2).mono c.sub e (same a (List.mem_of_getElem? h1))
    · have hl := (List.getElem?_eq_some_iff.mp h1).1
      rw [List.length_append, List.length_singleton] at hl
      have en : n = m.length := by omega
      subst en
      rw [List.getElem?_append_right (Nat.le_refl _)] at h1
      rw [c.len, List.getElem?_append_right (Nat.le_refl _)] at h2
      simp at h1 h2
      subst h1; subst h2
      exact hd
def toC (cs : List C) : Out D → Out D
  | .ok (.cell k) cs' => match cs'[k]? with
    | some (.lst xs) => if lowL 0 xs then .ok (.cell cs.length) (cs ++ [.lst xs]) else .bad
    | _ => .bad
  | .exc x fs _ => if fs.all (lowF 0) then .exc x fs cs else .bad
  | _ => .bad
def callC (F : Fd) : Fd := fun ds cs => if lowL 0 ds then toC cs (F ds []) else .bad
theorem post_callC {F : Fd} {ds : List D} {vs : List V} (c : RC K mg av m H cs) (l : RL K av m H vs ds) (p : PostE K mg av m H E Q (callC F ds cs)) : RL K av [] H vs ds ∧ PostE K mg av [] H E Q (F ds []) := by
  unfold callC at p
  split at p
  · rename_i hl
    refine ⟨l.hide hl, ?_⟩
    unfold toC at p
    split at p
    · rename_i k cs' e
      rw [e]
      split at p
      · rename_i xs hx
        split at p
        · rename_i hlow
          intro av2 m2 H2 v e2 c2 r2
          obtain ⟨nw, e3, e4, f⟩ := id e2.new
          obtain rfl : m2 = nw := by simpa using e4
          subst e3
          cases r2 with
          | @cell _ a hk =>
            obtain ⟨k1, k2⟩ := c.show e2
            obtain ⟨us, q, lx⟩ := c2.ok k a _ hk hx
            have am : a ∈ m2 := List.mem_of_getElem? hk
            have fa : H a = none := f a am
            have e5 : Ext av m H (av ++ [a]) (m ++ [a]) H2 := ⟨⟨[a], rfl, rfl, fun b z => by rw [List.mem_singleton.mp z]; exact fa⟩, k1.keep, k1.there, k1.fz⟩
            have same : ∀ b ∈ m, H2 b = H b := fun b hb => by
              cases z : H b with
              | none => exact absurd z (c.trk b (c.sub b hb))
              | some o => exact e2.keep b o z (by simp)
            refine p _ _ _ _ e5 (c.snoc fa e5 same (by rw [q]; simp) ⟨us, q, lx.less (fun b z => ?_) hlow⟩) (.cell ?_)
            · rcases List.mem_append.mp z with z | z
              · exact List.mem_append_left _ z
              · rw [List.mem_singleton.mp z]; exact List.mem_append_right _ am
            · rw [← c.len, List.getElem?_append_right (Nat.le_refl _)]
              simp
        · exact p.elim
      · exact p.elim
    · rename_i x fs cs' e
      rw [e]
      split at p
      · rename_i ha
        intro av2 m2 H2 Ca dd e2 c2 z x2
        obtain ⟨nw, e3, e4, f⟩ := id e2.new
        obtain rfl : m2 = nw := by simpa using e4
        subst e3
        obtain ⟨k1, k2⟩ := c.show e2
        refine p av m H2 Ca dd k1 k2 z ?_
        have x3 := XF.low (m := []) (av := av) (nw := m2) (by simpa using x2) (by simpa using ha)
        cases dd <;> cases fs <;> try exact x3
        obtain ⟨us, q, n, r⟩ := x3
        exact ⟨us, q, n, r.hide (by simpa using ha)⟩
      · exact p.elim
    · exact p.elim
  · exact p.elim
end
section
variable {F : Fd} {EX : XK}
theorem sp_C {K : PySem.W.Frag} {mg : Str → Option Value} {n : Nat} : ∀ av m H cs vs ds Q, RC K mg av m H cs → RL K av m H vs ds → PostE K mg av m H EX Q (argN n (callC F) ds cs) → spG K mg n F vs H Q EX := fun av m H cs vs ds Q c l p => by
  unfold argN at p
  split at p
  · rename_i hn
    obtain ⟨l2, p2⟩ := post_callC c l p
    exact ⟨av, [], ds, [], c.hide, l2, hn, p2⟩
  · exact p.elim
end
section
variable {X : Cx} {EX : XK} {k j : Nat} {x qual : Str} {st : Stmt} {ps ks : List Str} {F : Fd} {p pos : Pos} {e : Expr} {es : List Expr} {a r : Ga} {kws : List Keyword} {n m : Nat} {ix : List Nat}
variable (c : Cal X.prog X.w X.K X.mg X.base k x qual st ps F) (hr : Room k X.A) (hq : Quiet X.A) (hx : Passes (L2.CX X.prog X.w) X EX)
include c hr hq hx
theorem de_calC (ha : DA X EX (e :: es) a) (hg : Gl X x := by rfl) (hdb : (x == ("__debug__" : Str)) = false := by decide) (he : starEach (e :: es) X.env = (false, eval e X.env) :: starEach es X.env := by rfl) (hpl : (backTo pos (starEach es X.env)).any (·.1) = false := by rfl) :
    DE X EX (.Call (.Name x p) (e :: es) [] pos) (gA (argN ps.length (callC F)) a) :=
  let ⟨_, _, G, hm, fn, hb⟩ := c.ex; de_call G hr hq hm fn.kp hx sp_C hb hg ha hdb he hpl
theorem de_calC0 (hg : Gl X x := by rfl) (hdb : (x == ("__debug__" : Str)) = false := by decide) : DE X EX (.Call (.Name x p) [] [] pos) (gA (argN ps.length (callC F)) aNil) :=
  let ⟨_, _, G, hm, fn, hb⟩ := c.ex; de_call0 G hr hq hm fn.kp hx sp_C hb hg hdb
theorem de_calCk0 (ix : List Nat)
    (h : ∀ (kV doc pm : Value) (an : Option Addr) (cdv ct : Value) (us ws : List Value), us.length = 0 → ws.length = m → bindArgs (PySem.W.fnOf x qual (defArgs st) (defBody st) (defScope st) .none kV doc pm an cdv ct) ⟨us, ks.zip ws⟩ = pure (ps.zip (permG ix us ws)))
    (hkw : DK X EX kws r) (hg : Gl X x := by rfl) (hall : (backToKw pos (keywordEach kws X.env)).all (·.1.isSome) = true := by rfl) (hks : (backToKw pos (keywordEach kws X.env)).filterMap (·.1) = ks := by rfl)
    (hpl : ((backTo pos (starEach [] X.env)).any (·.1) || (backToKw pos (keywordEach kws X.env)).any (·.1.isNone)) = false := by rfl) (hdb : (x == ("__debug__" : Str)) = false := by decide) :
    DE X EX (.Call (.Name x p) [] kws pos) (gKw0 m (permG ix) (argN ps.length (callC F)) r) :=
  let ⟨_, _, G, hm, fn, _⟩ := c.ex; de_callK0 G hr hq hm fn.kp hx sp_C (kb_of fn h) hg hkw hall hks hpl hdb
theorem de_calSk0 (ix : List Nat)
    (h : ∀ (kV doc pm : Value) (an : Option Addr) (cdv ct : Value) (us ws : List Value), us.length = 0 → ws.length = m → bindArgs (PySem.W.fnOf x qual (defArgs st) (defBody st) (defScope st) .none kV doc pm an cdv ct) ⟨us, ks.zip ws⟩ = pure (ps.zip (permG ix us ws)))
    (hkw : DK X EX kws r) (hg : Gl X x := by rfl) (hall : (backToKw pos (keywordEach kws X.env)).all (·.1.isSome) = true := by rfl) (hks : (backToKw pos (keywordEach kws X.env)).filterMap (·.1) = ks := by rfl)
    (hpl : ((backTo pos (starEach [] X.env)).any (·.1) || (backToKw pos (keywordEach kws X.env)).any (·.1.isNone)) = false := by rfl) (hdb : (x == ("__debug__" : Str)) = false := by decide) :
    DE X EX (.Call (.Name x p) [] kws pos) (gKw0 m (permG ix) (argN ps.length (callS F)) r) :=
  let ⟨_, _, G, hm, fn, _⟩ := c.ex; de_callK0 G hr hq hm fn.kp hx sp_S (kb_of fn h) hg hkw hall hks hpl hdb
theorem de_calKk0 (ix : List Nat)
    (h : ∀ (kV doc pm : Value) (an : Option Addr) (cdv ct : Value) (us ws : List Value), us.length = 0 → ws.length = m → bindArgs (PySem.W.fnOf x qual (defArgs st) (defBody st) (defScope st) .none kV doc pm an cdv ct) ⟨us, ks.zip ws⟩ = pure (ps.zip (permG ix us ws)))
    (hkw : DK X EX kws r) (hg : Gl X x := by rfl) (hall : (backToKw pos (keywordEach kws X.env)).all (·.1.isSome) = true := by rfl) (hks : (backToKw pos (keywordEach kws X.env)).filterMap (·.1) = ks := by rfl)
    (hpl : ((backTo pos (starEach [] X.env)).any (·.1) || (backToKw pos (keywordEach kws X.env)).any (·.1.isNone)) = false := by rfl) (hdb : (x == ("__debug__" : Str)) = false := by decide) :
    DE X EX (.Call (.Name x p) [] kws pos) (gKw0 m (permG ix) (argN ps.length F) r) :=
  let ⟨_, _, G, hm, fn, _⟩ := c.ex; de_callK0 G hr hq hm fn.kp hx sp_K (kb_of fn h) hg hkw hall hks hpl hdb
end
/-- in a comprehension nothing is raised -/
theorem pass_in_comp {X : Cx} (hx : X.xe = fun _ _ => False := by rfl) : Passes (L2.CX X.prog X.w) X E0 := by
  intro pins σ H' s1 e s' I h
  unfold L2.CX at h
  obtain ⟨_, _, _, _, _, _, _, _, _, _, _, _, z⟩ := h
  exact z.elim
section
variable {X : Cx} {EX : XK} {pos : Pos}
section
variable {elt tg iter tg1 iter1 : Expr} {ifs ifs1 : List Expr} {scope : Scope} {own : List (Str × Nat)} {vs1 : List Nat} {gi gi1 : Ga} {gt gt1 : D → Env' → Option Env'} {gtt gtt1 : Gt} {ge : Gx}
theorem de_comp (hc : X.calm = true) (hN : X.N.Nodup) (hi : DI X EX tg iter gi) (ok : BlkOk X.N X.env.scope scope own)
    (hg : ∀ (s : Shared) (H : Hp) (Ca : Addr) (cl : List (Str × Addr)) (fp : List Addr), DGc (X.blk s H scope (compEnvC scope cl Ca X.env) fp) (own.map (·.2)) tg gt)
    (ht : ∀ (s : Shared) (H : Hp) (Ca : Addr) (cl : List (Str × Addr)) (fp : List Addr), DTs (X.blk s H scope (compEnvC scope cl Ca X.env) fp) E0 ifs gtt)
    (he : ∀ (s : Shared) (H : Hp) (Ca : Addr) (cl : List (Str × Addr)) (fp : List Addr), DE (X.blk s H scope (compEnvC scope cl Ca X.env) fp) E0 elt ge)
    (hs : ∀ x, foldedSetIterable iter X.env x = pure x := by intro _; rfl) : DE X EX (.ListComp elt [⟨tg, iter, ifs, 0⟩] scope pos) (gComp (own.map (·.2)) gi gt gtt ge) :=
  de_compF hand_val bad_val hc hN hi ok hg ht he hs
theorem de_compC (hc : X.calm = true) (hN : X.N.Nodup) (hi : DI X EX tg iter gi) (ok : BlkOk X.N X.env.scope scope own)
    (hg : ∀ (s : Shared) (H : Hp) (Ca : Addr) (cl : List (Str × Addr)) (fp : List Addr), DGc (X.blk s H scope (compEnvC scope cl Ca X.env) fp) (own.map (·.2)) tg gt)
    (ht : ∀ (s : Shared) (H : Hp) (Ca : Addr) (cl : List (Str × Addr)) (fp : List Addr), DTs (X.blk s H scope (compEnvC scope cl Ca X.env) fp) E0 ifs gtt)
    (he : ∀ (s : Shared) (H : Hp) (Ca : Addr) (cl : List (Str × Addr)) (fp : List Addr), DE (X.blk s H scope (compEnvC scope cl Ca X.env) fp) E0 elt ge)
    (hs : ∀ x, foldedSetIterable iter X.env x = pure x := by intro _; rfl) : DE X EX (.ListComp elt [⟨tg, iter, ifs, 0⟩] scope pos) (gCompC (own.map (·.2)) gi gt gtt ge) :=
  de_compF hand_cell bad_cell hc hN hi ok hg ht he hs
theorem ds_comp (i : Nat) {y : Str} {py spos : Pos} (hc : X.calm = true) (hN : X.N.Nodup) (hi : DI X EX tg iter gi) (ok : BlkOk X.N X.env.scope scope own)
    (hg : ∀ (s : Shared) (H : Hp) (Ca : Addr) (cl : List (Str × Addr)) (fp : List Addr), DGc (X.blk s H scope (compEnvC scope cl Ca X.env) fp) (own.map (·.2)) tg gt)
    (ht : ∀ (s : Shared) (H : Hp) (Ca : Addr) (cl : List (Str × Addr)) (fp : List Addr), DTs (X.blk s H scope (compEnvC scope cl Ca X.env) fp) E0 ifs gtt)
    (he : ∀ (s : Shared) (H : Hp) (Ca : Addr) (cl : List (Str × Addr)) (fp : List Addr), DE (X.blk s H scope (compEnvC scope cl Ca X.env) fp) E0 elt ge)
    (hsw : swapsWith (.ListComp elt [⟨tg, iter, ifs, 0⟩] scope pos) (some (.Name y py)) spos.line X.env = pure true) (hy : X.N[i]? = some y := by rfl) (hyl : X.env.scope.names.lookup y = some .local := by rfl)
    (hs : ∀ x, foldedSetIterable iter X.env x = pure x := by intro _; rfl) : DS X EX (.Assign [.Name y py] (.ListComp elt [⟨tg, iter, ifs, 0⟩] scope pos) spos) (sAsg (gComp (own.map (·.2)) gi gt gtt ge) (tgName i)) :=
  ds_compF hand_val bad_val i hc hN hi ok hg ht he hsw hy hyl hs
theorem ds_compC (i : Nat) {y : Str} {py spos : Pos} (hc : X.calm = true) (hN : X.N.Nodup) (hi : DI X EX tg iter gi) (ok : BlkOk X.N X.env.scope scope own)
    (hg : ∀ (s : Shared) (H : Hp) (Ca : Addr) (cl : List (Str × Addr)) (fp : List Addr), DGc (X.blk s H scope (compEnvC scope cl Ca X.env) fp) (own.map (·.2)) tg gt)
    (ht : ∀ (s : Shared) (H : Hp) (Ca : Addr) (cl : List (Str × Addr)) (fp : List Addr), DTs (X.blk s H scope (compEnvC scope cl Ca X.env) fp) E0 ifs gtt)
    (he : ∀ (s : Shared) (H : Hp) (Ca : Addr) (cl : List (Str × Addr)) (fp : List Addr), DE (X.blk s H scope (compEnvC scope cl Ca X.env) fp) E0 elt ge)
    (hsw : swapsWith (.ListComp elt [⟨tg, iter, ifs, 0⟩] scope pos) (some (.Name y py)) spos.line X.env = pure true) (hy : X.N[i]? = some y := by rfl) (hyl : X.env.scope.names.lookup y = some .local := by rfl)
    (hs : ∀ x, foldedSetIterable iter X.env x = pure x := by intro _; rfl) : DS X EX (.Assign [.Name y py] (.ListComp elt [⟨tg, iter, ifs, 0⟩] scope pos) spos) (sAsg (gCompC (own.map (·.2)) gi gt gtt ge) (tgName i)) :=
  ds_compF hand_cell bad_cell i hc hN hi ok hg ht he hsw hy hyl hs
theorem de_comp2 (hc : X.calm = true) (hN : X.N.Nodup) (hi : DI X EX tg iter gi) (ok : BlkOk X.N X.env.scope scope own)
    (hg : ∀ (s : Shared) (H : Hp) (Ca : Addr) (cl : List (Str × Addr)) (fp : List Addr), DGc (X.blk s H scope (compEnvC scope cl Ca X.env) fp) (own.map (·.2)) tg gt)
    (ht : ∀ (s : Shared) (H : Hp) (Ca : Addr) (cl : List (Str × Addr)) (fp : List Addr), DTs (X.blk s H scope (compEnvC scope cl Ca X.env) fp) E0 ifs gtt)
    (hv : ∀ i ∈ vs1, i ∈ own.map (·.2))
    (hi1 : ∀ (s : Shared) (H : Hp) (Ca : Addr) (cl : List (Str × Addr)) (fp : List Addr), DI (X.blk s H scope (compEnvC scope cl Ca X.env) fp) E0 tg1 iter1 gi1)
    (hg1 : ∀ (s : Shared) (H : Hp) (Ca : Addr) (cl : List (Str × Addr)) (fp : List Addr), DGc (X.blk s H scope (compEnvC scope cl Ca X.env) fp) vs1 tg1 gt1)
    (ht1 : ∀ (s : Shared) (H : Hp) (Ca : Addr) (cl : List (Str × Addr)) (fp : List Addr), DTs (X.blk s H scope (compEnvC scope cl Ca X.env) fp) E0 ifs1 gtt1)
    (he : ∀ (s : Shared) (H : Hp) (Ca : Addr) (cl : List (Str × Addr)) (fp : List Addr), DE (X.blk s H scope (compEnvC scope cl Ca X.env) fp) E0 elt ge)
    (hs : ∀ x, foldedSetIterable iter X.env x = pure x := by intro _; rfl) (hs1 : ∀ env x, foldedSetIterable iter1 env x = pure x := by intro _ _; rfl) : DE X EX (.ListComp elt [⟨tg, iter, ifs, 0⟩, ⟨tg1, iter1, ifs1, 0⟩] scope pos) (gComp2 (own.map (·.2)) gi gt gtt vs1 gi1 gt1 gtt1 ge) :=
  de_compF2 hand_val bad_val hc hN hi ok hg ht hv hi1 hg1 ht1 he hs hs1
theorem de_comp2C (hc : X.calm = true) (hN : X.N.Nodup) (hi : DI X EX tg iter gi) (ok : BlkOk X.N X.env.scope scope own)
    (hg : ∀ (s : Shared) (H : Hp) (Ca : Addr) (cl : List (Str × Addr)) (fp : List Addr), DGc (X.blk s H scope (compEnvC scope cl Ca X.env) fp) (own.map (·.2)) tg gt)
    (ht : ∀ (s : Shared) (H : Hp) (Ca : Addr) (cl : List (Str × Addr)) (fp : List Addr), DTs (X.blk s H scope (compEnvC scope cl Ca X.env) fp) E0 ifs gtt)
    (hv : ∀ i ∈ vs1, i ∈ own.map (·.2))
    (hi1 : ∀ (s : Shared) (H : Hp) (Ca : Addr) (cl : List (Str × Addr)) (fp : List Addr), DI (X.blk s H scope (compEnvC scope cl Ca X.env) fp) E0 tg1 iter1 gi1)
    (hg1 : ∀ (s : Shared) (H : Hp) (Ca : Addr) (cl : List (Str × Addr)) (fp : List Addr), DGc (X.blk s H scope (compEnvC scope cl Ca X.env) fp) vs1 tg1 gt1)
    (ht1 : ∀ (s : Shared) (H : Hp) (Ca : Addr) (cl : List (Str × Addr)) (fp : List Addr), DTs (X.blk s H scope (compEnvC scope cl Ca X.env) fp) E0 ifs1 gtt1)
    (he : ∀ (s : Shared) (H : Hp) (Ca : Addr) (cl : List (Str × Addr)) (fp : List Addr), DE (X.blk s H scope (compEnvC scope cl Ca X.env) fp) E0 elt ge)
    (hs : ∀ x, foldedSetIterable iter X.env x = pure x := by intro _; rfl) (hs1 : ∀ env x, foldedSetIterable iter1 env x = pure x := by intro _ _; rfl) : DE X EX (.ListComp elt [⟨tg, iter, ifs, 0⟩, ⟨tg1, iter1, ifs1, 0⟩] scope pos) (gComp2C (own.map (·.2)) gi gt gtt vs1 gi1 gt1 gtt1 ge) :=
  de_compF2 hand_cell bad_cell hc hN hi ok hg ht hv hi1 hg1 ht1 he hs hs1
theorem ds_comp2 (i : Nat) {y : Str} {py spos : Pos} (hc : X.calm = true) (hN : X.N.Nodup) (hi : DI X EX tg iter gi) (ok : BlkOk X.N X.env.scope scope own)
    (hg : ∀ (s : Shared) (H : Hp) (Ca : Addr) (cl : List (Str × Addr)) (fp : List Addr), DGc (X.blk s H scope (compEnvC scope cl Ca X.env) fp) (own.map (·.2)) tg gt)
    (ht : ∀ (s : Shared) (H : Hp) (Ca : Addr) (cl : List (Str × Addr)) (fp : List Addr), DTs (X.blk s H scope (compEnvC scope cl Ca X.env) fp) E0 ifs gtt)
    (hv : ∀ i ∈ vs1, i ∈ own.map (·.2))
    (hi1 : ∀ (s : Shared) (H : Hp) (Ca : Addr) (cl : List (Str × Addr)) (fp : List Addr), DI (X.blk s H scope (compEnvC scope cl Ca X.env) fp) E0 tg1 iter1 gi1)
    (hg1 : ∀ (s : Shared) (H : Hp) (Ca : Addr) (cl : List (Str × Addr)) (fp : List Addr), DGc (X.blk s H scope (compEnvC scope cl Ca X.env) fp) vs1 tg1 gt1)
    (ht1 : ∀ (s : Shared) (H : Hp) (Ca : Addr) (cl : List (Str × Addr)) (fp : List Addr), DTs (X.blk s H scope (compEnvC scope cl Ca X.env) fp) E0 ifs1 gtt1)
    (he : ∀ (s : Shared) (H : Hp) (Ca : Addr) (cl : List (Str × Addr)) (fp : List Addr), DE (X.blk s H scope (compEnvC scope cl Ca X.env) fp) E0 elt ge)
    (hsw : swapsWith (.ListComp elt [⟨tg, iter, ifs, 0⟩, ⟨tg1, iter1, ifs1, 0⟩] scope pos) (some (.Name y py)) spos.line X.env = pure true) (hy : X.N[i]? = some y := by rfl) (hyl : X.env.scope.names.lookup y = some .local := by rfl)
    (hs : ∀ x, foldedSetIterable iter X.env x = pure x := by intro _; rfl) (hs1 : ∀ env x, foldedSetIterable iter1 env x = pure x := by intro _ _; rfl) : DS X EX (.Assign [.Name y py] (.ListComp elt [⟨tg, iter, ifs, 0⟩, ⟨tg1, iter1, ifs1, 0⟩] scope pos) spos) (sAsg (gComp2 (own.map (·.2)) gi gt gtt vs1 gi1 gt1 gtt1 ge) (tgName i)) :=
  ds_compF2 hand_val bad_val i hc hN hi ok hg ht hv hi1 hg1 ht1 he hsw hy hyl hs hs1
theorem ds_comp2C (i : Nat) {y : Str} {py spos : Pos} (hc : X.calm = true) (hN : X.N.Nodup) (hi : DI X EX tg iter gi) (ok : BlkOk X.N X.env.scope scope own)
    (hg : ∀ (s : Shared) (H : Hp) (Ca : Addr) (cl : List (Str × Addr)) (fp : List Addr), DGc (X.blk s H scope (compEnvC scope cl Ca X.env) fp) (own.map (·.2)) tg gt)
    (ht : ∀ (s : Shared) (H : Hp) (Ca : Addr) (cl : List (Str × Addr)) (fp : List Addr), DTs (X.blk s H scope (compEnvC scope cl Ca X.env) fp) E0 ifs gtt)
    (hv : ∀ i ∈ vs1, i ∈ own.map (·.2))
    (hi1 : ∀ (s : Shared) (H : Hp) (Ca : Addr) (cl : List (Str × Addr)) (fp : List Addr), DI (X.blk s H scope (compEnvC scope cl Ca X.env) fp) E0 tg1 iter1 gi1)
    (hg1 : ∀ (s : Shared) (H : Hp) (Ca : Addr) (cl : List (Str × Addr)) (fp : List Addr), DGc (X.blk s H scope (compEnvC scope cl Ca X.env) fp) vs1 tg1 gt1)
    (ht1 : ∀ (s : Shared) (H : Hp) (Ca : Addr) (cl : List (Str × Addr)) (fp : List Addr), DTs (X.blk s H scope (compEnvC scope cl Ca X.env) fp) E0 ifs1 gtt1)
    (he : ∀ (s : Shared) (H : Hp) (Ca : Addr) (cl : List (Str × Addr)) (fp : List Addr), DE (X.blk s H scope (compEnvC scope cl Ca X.env) fp) E0 elt ge)
    (hsw : swapsWith (.ListComp elt [⟨tg, iter, ifs, 0⟩, ⟨tg1, iter1, ifs1, 0⟩] scope pos) (some (.Name y py)) spos.line X.env = pure true) (hy : X.N[i]? = some y := by rfl) (hyl : X.env.scope.names.lookup y = some .local := by rfl)
    (hs : ∀ x, foldedSetIterable iter X.env x = pure x := by intro _; rfl) (hs1 : ∀ env x, foldedSetIterable iter1 env x = pure x := by intro _ _; rfl) : DS X EX (.Assign [.Name y py] (.ListComp elt [⟨tg, iter, ifs, 0⟩, ⟨tg1, iter1, ifs1, 0⟩] scope pos) spos) (sAsg (gComp2C (own.map (·.2)) gi gt gtt vs1 gi1 gt1 gtt1 ge) (tgName i)) :=
  ds_compF2 hand_cell bad_cell i hc hN hi ok hg ht hv hi1 hg1 ht1 he hsw hy hyl hs hs1
end
end
section
variable {X : Cx} {EX : XK} {k : Nat} {x qual : Str} {st : Stmt} {ps : List Str} {F : Fd} {p pos : Pos} {e : Expr} {es : List Expr} {a : Ga} {n : Nat}
variable (c : Cal X.prog X.w X.K X.mg X.base k x qual st ps F) (hr : Room k X.A) (hq : Quiet X.A) (hx : Passes (L2.CX X.prog X.w) X EX)
include c hr hq hx
theorem dn_calK (ha : DA X EX (e :: es) a) (hn : ps.length = n := by rfl) (hg : Gl X x := by rfl) (hdb : (x == ("__debug__" : Str)) = false := by decide) (he : starEach (e :: es) X.env = (false, eval e X.env) :: starEach es X.env := by rfl) (hpl : (backTo pos (starEach es X.env)).any (·.1) = false := by rfl) :
    DE X EX (.Call (.Name x p) (e :: es) [] pos) (gA (argN n F) a) := hn ▸ de_calK c hr hq hx ha hg hdb he hpl
theorem dn_calS (ha : DA X EX (e :: es) a) (hn : ps.length = n := by rfl) (hg : Gl X x := by rfl) (hdb : (x == ("__debug__" : Str)) = false := by decide) (he : starEach (e :: es) X.env = (false, eval e X.env) :: starEach es X.env := by rfl) (hpl : (backTo pos (starEach es X.env)).any (·.1) = false := by rfl) :
    DE X EX (.Call (.Name x p) (e :: es) [] pos) (gA (argN n (callS F)) a) := hn ▸ de_calS c hr hq hx ha hg hdb he hpl
theorem dn_calP (ha : DA X EX (e :: es) a) (hn : ps.length = n := by rfl) (hg : Gl X x := by rfl) (hdb : (x == ("__debug__" : Str)) = false := by decide) (he : starEach (e :: es) X.env = (false, eval e X.env) :: starEach es X.env := by rfl) (hpl : (backTo pos (starEach es X.env)).any (·.1) = false := by rfl) :
    DE X EX (.Call (.Name x p) (e :: es) [] pos) (gA (argN n (callP F)) a) := hn ▸ de_calP c hr hq hx ha hg hdb he hpl
theorem dn_calC (ha : DA X EX (e :: es) a) (hn : ps.length = n := by rfl) (hg : Gl X x := by rfl) (hdb : (x == ("__debug__" : Str)) = false := by decide) (he : starEach (e :: es) X.env = (false, eval e X.env) :: starEach es X.env := by rfl) (hpl : (backTo pos (starEach es X.env)).any (·.1) = false := by rfl) :
    DE X EX (.Call (.Name x p) (e :: es) [] pos) (gA (argN n (callC F)) a) := hn ▸ de_calC c hr hq hx ha hg hdb he hpl
end
end Dm
set_option linter.all false
set_option maxRecDepth 100000
set_option maxHeartbeats 2000000
/-! Dm: how many different numbers a set comprehension finds. -/
namespace Dm
open PySem PySem.Spec L2
section
variable {X : Cx}
/-- one number more in a set that is being filled -/
theorem put_in {pl : List (Addr × Obj)} {τ : L2.St} {G : Hp} {z : Shared} {E : Value → Shared → Prop} {p : Addr} {In : Int → Bool} {k : Nat} {c : Int} {tk : Tok} {R : Value → Shared → Prop} (iv : Inv X pl τ G z) (hp : G p = some (SetO X.w p In k)) (few : k + 1 < scanBound)
    (then_ : ∀ z', Inv X pl τ (upd G p (SetO X.w p (fun x => In x || decide (x = c)) (if In c = true then k else k + 1))) z' → R .none z') : wpAny (model X.prog X.w) X.A (call (.builtin "set.add") [.ref p, .int c tk]) R E z := by
  refine setR_add (setO_get iv hp) few fun h2 but made => then_ _ (iv.write (e := p) (t' := z.toks + 1) (by rw [hp]; trivial) (.inl rfl) (fun b u hb hu => (but.2 b hb).trans hu) ?_ (setO_new made))
  obtain ⟨o, _, _, _, ho, _⟩ := made
  exact ⟨o, ho⟩
/-- the walk: Da is the set, filled turn by turn -/
def tSetc (w : World) (wi : TI) (g : TG) (tt : TT) (te : TE) (vs : List Nat) : TE := fun τ G Q => wi τ G fun J G1 => ∀ p, G1 p = none → ∃ W : Nat → Nat → Hp → Prop, (∃ m, W 0 m (upd G1 p (SetO w p (fun _ => false) 0))) ∧ ∀ i m G, W i m G →
  (J.stop i G ∧ Q (.ref p) G) ∨ (J.go i G ∧ ∃ Nx : Hp → Prop, (∀ G', Nx G' → ∃ m', m' < m ∧ W (i + 1) m' G') ∧ ∀ x G', J.yld i G x G' → g x (wipe τ vs) G' fun τ2 G2 => wipe τ2 vs = wipe τ vs ∧ tt τ2 G2 fun b G3 =>
    if b = true then te τ2 G3 fun y G4 => ∃ (c : Int) (In : Int → Bool) (n : Nat), y = .int c ∧ G4 p = some (SetO w p In n) ∧ n + 1 < scanBound ∧ Nx (upd G4 p (SetO w p (fun x => In x || decide (x = c)) (if In c = true then n else n + 1))) else Nx G3)
theorem set_walk {pl : List (Addr × Obj)} {z : Shared} {τ : L2.St} {G : Hp} {Q : VK} {elt tg iter : Expr} {ifs : List Expr} {scope : Scope} {own : List (PySem.Str × Nat)} {pos pos' : Pos} {wi : TI} {g : TG} {tt : TT} {te : TE} {use : Option (Value → Sem Unit)} {Qf : Value → Shared → Prop}
    (hc : X.calm = true) (nd : X.N.Nodup) (iv : Inv X pl τ G z) (wk : PI X tg iter wi) (ok : BlkOk X.N X.env.scope scope own)
    (hg : ∀ (z : Shared) (G : Hp) (C : Addr) (cl : List (PySem.Str × Addr)) (fp : List Addr), PG (X.blk z G scope (compEnvC scope cl C X.env) fp) tg g)
    (ht : ∀ (z : Shared) (G : Hp) (C : Addr) (cl : List (PySem.Str × Addr)) (fp : List Addr), PTs (X.blk z G scope (compEnvC scope cl C X.env) fp) ifs tt)
    (he : ∀ (z : Shared) (G : Hp) (C : Addr) (cl : List (PySem.Str × Addr)) (fp : List Addr), PE (X.blk z G scope (compEnvC scope cl C X.env) fp) elt te) (fold : ∀ x, foldedSetIterable iter X.env x = pure x)
    (h : tSetc X.w wi g tt te (own.map (·.2)) τ G Q)
    (back : ∀ p C z' mm G', Inv X pl τ G' z' → Q (.ref p) G' → z'.heap.Ns C mm → FpOk X pl G' C → compPost (model X.prog X.w) X.A X.xe use Qf (.ref p) C (.ok .next) z') :
    wpAny (model X.prog X.w) X.A (comprehension (.SetComp elt [⟨tg, iter, ifs, 0⟩] scope pos) scope X.env pos' (newSet (.type "set")) false (eval iter X.env) use) Qf X.xe z := by
  have cells : ∀ y ∈ scope.names, y.2 = .free → ∃ c, X.env.cells.lookup y.1 = some c := fun y my ey => (ok.free y my ey).elim (fun q => iv.ok.has _ (.inl q)) fun q => iv.ok.has _ (.inr q)
  refine wpAny_comprehension_free (use := use) rfl fold (closure_ok cells) ok.kind (fun y my ey => by rw [ok.uniq y my, ey]) (thn (wk.run pl z τ G _ iv h) fun _ z1 q1 => thn q1 fun _ z2 q2 => ?_)
  obtain ⟨it, fp, tn, J, G2, rfl, iv2, T, st2, fr2, q⟩ := q2
  refine PpSet.newSet_ok (newEnv_comp ?_)
  generalize ep : z2.heap.objs.size = p
  have np : G2 p = none := iv2.hok.fresh (Nat.le_of_eq ep)
  obtain ⟨W, ⟨m0, w0⟩, turn⟩ := q p np
  generalize ez3 : ({ z2 with heap := z2.heap.push { cls := .type "set", dict := none, data := .set #[] 0 (.fresh 0 0 (!X.w.params.followText "set-order")) } } : Shared) = z3
  have hh3 : z3.heap = z2.heap.push { cls := .type "set", dict := none, data := .set #[] 0 (.fresh 0 0 (!X.w.params.followText "set-order")) } := by subst ez3; rfl
  have iv3 : Inv X pl τ (upd G2 p (SetO X.w p (fun _ => false) 0)) z3 := by
    subst ez3
    exact iv2.laid (t' := z2.toks) (fun b u eb => Heap.get?_push_of_some _ eb) (Nat.le_of_eq ep) (by subst ep; exact setO_new (setR_fresh X.w))
  have lt2 : ∀ b ∈ fp, b < z2.heap.objs.size := fun b mb => by
    obtain ⟨_, eb, _⟩ := T.obj _ _ st2 b mb
    exact Heap.lt_size eb
  have fr3 : ∀ b ∈ fp, FpOk X pl (upd G2 p (SetO X.w p (fun _ => false) 0)) b ∧ b < z3.heap.objs.size := fun b mb =>
    ⟨⟨by rw [upd_ne (by subst ep; exact Nat.ne_of_lt (lt2 b mb))]; exact (fr2 b mb).1, (fr2 b mb).2⟩, by rw [hh3, Heap.size_push]; exact Nat.lt_succ_of_lt (lt2 b mb)⟩
  have st3 : tn 0 z3.heap := T.keep _ _ _ st2 fun b _ u eb => by rw [hh3]; exact Heap.get?_push_of_some _ eb
  have iv4 := block_start iv3 ok nd fr3
  have pg := hg z3 (upd G2 p (SetO X.w p (fun _ => false) 0)) z3.heap.objs.size (cellsFrom (z3.heap.objs.size + 1) scope.names (cloFrom X.env.cells scope.names [])) fp
  have pt := ht z3 (upd G2 p (SetO X.w p (fun _ => false) 0)) z3.heap.objs.size (cellsFrom (z3.heap.objs.size + 1) scope.names (cloFrom X.env.cells scope.names [])) fp
  have pe := he z3 (upd G2 p (SetO X.w p (fun _ => false) 0)) z3.heap.objs.size (cellsFrom (z3.heap.objs.size + 1) scope.names (cloFrom X.env.cells scope.names [])) fp
  show codeAny _ _ (.compStart (.SetComp elt [⟨tg, iter, ifs, 0⟩] scope pos) 0 (.ref it) (.ref p) (compEnvC scope (cellsFrom (z3.heap.objs.size + 1) scope.names (cloFrom X.env.cells scope.names [])) z3.heap.objs.size X.env)) (compPost (model X.prog X.w) X.A X.xe use Qf (.ref p) z3.heap.objs.size) { z3 with heap := pushCells (z3.heap.push { cls := .type "dict", data := .dict #[] }) scope.names }
  have off : ∀ b ∈ fp, (upd G2 p (SetO X.w p (fun _ => false) 0)) b = none := fun b mb => (fr3 b mb).1.1
  generalize ece : compEnvC scope (cellsFrom (z3.heap.objs.size + 1) scope.names (cloFrom X.env.cells scope.names [])) z3.heap.objs.size X.env = ce at iv4 pg pt pe ⊢
  have cl : ce.locals = z3.heap.objs.size := by subst ece; rfl
  generalize eG3 : upd G2 p (SetO X.w p (fun _ => false) 0) = G3 at iv3 iv4 pg pt pe w0 off fr3
  generalize ez4 : ({ z3 with heap := pushCells (z3.heap.push { cls := .type "dict", data := .dict #[] }) scope.names } : Shared) = z4 at iv4 ⊢
  have st4 : tn 0 z4.heap := T.keep _ _ _ st3 fun b _ u eb => by subst ez4; exact pushCells_keeps _ _ _ _ (Heap.get?_push_of_some _ eb)
  have stay : ∀ {τ' : L2.St} {G' : Hp} {z' : Shared}, Inv (X.blk z3 G3 scope ce fp) [] τ' G' z' → (∀ b ∈ fp, G' b = none) → ∀ b ∈ fp, FpOk (X.blk z3 G3 scope ce fp) [] G' b := fun {τ' G' z'} iv' hn b mb =>
    ⟨hn b mb, (iv'.ok.exf b mb).1, iv'.ok.exfs b mb, .inl mb, fun x c ex => (iv'.ok.exf b mb).2 x c ex, fun q mq => absurd (show q ∈ ([] : List (Addr × Obj)) ++ [] from mq) (by simp)⟩
  have loop : codeAny (model X.prog X.w) X.A (.compLoop (.SetComp elt [⟨tg, iter, ifs, 0⟩] scope pos) 0 (.ref it) (.ref p) ce) (compPost (model X.prog X.w) X.A X.xe use Qf (.ref p) z3.heap.objs.size) z4 := by
    refine PpSet.compLoopS_any (fun n z' => ∃ i G', Inv (X.blk z3 G3 scope ce fp) [] (wipe τ (own.map (·.2))) G' z' ∧ tn i z'.heap ∧ (∀ b ∈ fp, G' b = none) ∧ W i n G') ?_ m0 ⟨0, G3, iv4, st4, off, w0⟩
    rintro n z5 ⟨i, G5, iv5, st5, n5, w5⟩
    rcases turn i n G5 w5 with ⟨stop, qq⟩ | ⟨go, Nx, less, stp⟩
    · refine thnF (T.done (X.blk z3 G3 scope ce fp) rfl rfl rfl hc i [] z5 _ G5 (fun _ _ => False) iv5 (stay iv5 n5) st5 stop) fun r z6 ⟨er, iv6⟩ => ?_
      subst er
      have iv7 : Inv X pl τ G5 z6 := iv3.call' (ch := fp) iv6.os iv6.base iv6.hok iv6.bare fun b mb => ⟨(fr3 b mb).1.2.2.2.1, (fr3 b mb).1.2.1, (fr3 b mb).1.2.2.2.2.1, (fr3 b mb).1.2.2.2.2.2⟩
      have nC : G5 z3.heap.objs.size = none := cl ▸ (iv6.free : G5 ce.locals = none)
      obtain ⟨mm, ns, _⟩ := iv6.loc
      exact back p z3.heap.objs.size z6 mm G5 iv7 qq (cl ▸ (ns : z6.heap.Ns ce.locals mm)) (iv3.fpOk (Nat.le_refl _) nC)
    · refine thnF (T.item (X.blk z3 G3 scope ce fp) rfl rfl rfl hc i [] z5 _ G5 (fun _ _ => False) iv5 (stay iv5 n5) st5 go) fun r z6 ⟨u, er, q6⟩ => ?_
      subst er
      refine thnF q6 fun _ z7 ⟨x, G7, iv7, rx, y7, st7, n7⟩ => ?_
      refine thnF (pg.run _ z7 _ G7 x u _ (iv7.pinned (stay iv7 n7) (T.obj _ _ st7)) rx (stp x G7 y7)) fun _ z8 ⟨τ8, G8, iv8, w8, q8⟩ => ?_
      refine thnF (pt.run _ z8 τ8 G8 _ iv8 q8) fun b z9 ⟨G9, iv9, q9⟩ => ?_
      have next : ∀ {z' : Shared} {G' : Hp}, Inv (X.blk z3 G3 scope ce fp) ([] ++ pinsAt fp z7.heap) τ8 G' z' → Nx G' → ∃ m, m < n ∧ ∃ i G', Inv (X.blk z3 G3 scope ce fp) [] (wipe τ (own.map (·.2))) G' z' ∧ tn i z'.heap ∧ (∀ b ∈ fp, G' b = none) ∧ W i m G' := fun {z' G'} iv' nx => by
        obtain ⟨m', lm, w'⟩ := less G' nx
        have held : ∀ b ∈ fp, ∀ u, z7.heap.get? b = some u → z'.heap.get? b = some u ∧ G' b = none := fun b mb u eb =>
          have q := iv'.pin (b, u) (List.mem_append_right _ (List.mem_append_right _ (mem_pinsAt mb eb)))
          ⟨q.1, q.2.1⟩
        refine ⟨m', lm, i + 1, G', (iv'.unpinned (pins := [])).weak (by rw [← w8, wipe_length]) (fun j v ej => (wipe_some (by rw [← w8] at ej; exact ej)).1), T.keep _ _ _ st7 fun b mb u eb => (held b mb u eb).1, fun b mb => ?_, w'⟩
        obtain ⟨u, eb, _⟩ := T.obj _ _ st7 b mb
        exact (held b mb u eb).2
      cases b with
      | false =>
        rw [if_neg Bool.false_ne_true] at q9
        refine iteF ?_
        exact next iv9 q9
      | true =>
        rw [if_pos rfl] at q9
        refine iteT ?_
        refine thnF (pe.run _ z9 τ8 G9 _ iv9 q9) fun v z10 ⟨yv, G10, iv10, r10, c, In, k0, ey, e10, few, nx⟩ => ?_
        subst ey
        obtain ⟨tk, rfl⟩ : ∃ tk, v = .int c tk := r10
        exact put_in (X := X.blk z3 G3 scope ce fp) iv10 e10 few fun z11 iv11 => next iv11 nx
  exact PpSet.codeAny_compStart_set loop (T.self X.A 0 _ _ _ st4 loop)
end

section
variable {X : Cx} {EX : XK} {K : PySem.W.Frag} {mg : Str → Option Value} {w : World}
theorem pe_setc {elt tg iter : Expr} {ifs : List Expr} {scope : Scope} {own : List (PySem.Str × Nat)} {pos : Pos} {wi : TI} {g : TG} {tt : TT} {te : TE} (hc : X.calm = true) (nd : X.N.Nodup) (wk : PI X tg iter wi) (ok : BlkOk X.N X.env.scope scope own)
    (hg : ∀ (z : Shared) (G : Hp) (C : Addr) (cl : List (PySem.Str × Addr)) (fp : List Addr), PG (X.blk z G scope (compEnvC scope cl C X.env) fp) tg g)
    (ht : ∀ (z : Shared) (G : Hp) (C : Addr) (cl : List (PySem.Str × Addr)) (fp : List Addr), PTs (X.blk z G scope (compEnvC scope cl C X.env) fp) ifs tt)
    (he : ∀ (z : Shared) (G : Hp) (C : Addr) (cl : List (PySem.Str × Addr)) (fp : List Addr), PE (X.blk z G scope (compEnvC scope cl C X.env) fp) elt te) (fold : ∀ x, foldedSetIterable iter X.env x = pure x) :
    PE X (.SetComp elt [⟨tg, iter, ifs, 0⟩] scope pos) (tSetc X.w wi g tt te (own.map (·.2))) := by
  refine ⟨fun pl z τ G Q iv h => ?_⟩
  rw [PpSet.eval_SetComp]
  refine set_walk hc nd iv wk ok hg ht he fold h fun p C z' mm G' iv' q ns fr => ⟨mm, ns, fun _ sb => ?_⟩
  obtain ⟨a0, a1, _, a3, a4, a5⟩ := fr
  exact ⟨.ref p, G', iv'.turned (t' := z'.toks) (fun b u nb eb => (sb.2 b nb).trans eb) a0 a1 a3 a4 a5, rfl, q⟩
def tLenS (w : World) (wi : TI) (g : TG) (tt : TT) (te : TE) (vs : List Nat) : TE := fun τ G Q => tSetc w wi g tt te vs τ G fun v G1 => ∃ (p : Addr) (In : Int → Bool) (n : Nat), v = .ref p ∧ G1 p = some (SetO w p In n) ∧ Q (.int (n : Nat)) G1
theorem pe_lenS {elt tg iter : Expr} {ifs : List Expr} {scope : Scope} {own : List (PySem.Str × Nat)} {p1 pos cpos : Pos} {wi : TI} {g : TG} {tt : TT} {te : TE} (gl : Gl X "len") (nl : X.mg "len" = none) (hc : X.calm = true) (nd : X.N.Nodup) (wk : PI X tg iter wi) (ok : BlkOk X.N X.env.scope scope own)
    (hg : ∀ (z : Shared) (G : Hp) (C : Addr) (cl : List (PySem.Str × Addr)) (fp : List Addr), PG (X.blk z G scope (compEnvC scope cl C X.env) fp) tg g)
    (ht : ∀ (z : Shared) (G : Hp) (C : Addr) (cl : List (PySem.Str × Addr)) (fp : List Addr), PTs (X.blk z G scope (compEnvC scope cl C X.env) fp) ifs tt)
    (he : ∀ (z : Shared) (G : Hp) (C : Addr) (cl : List (PySem.Str × Addr)) (fp : List Addr), PE (X.blk z G scope (compEnvC scope cl C X.env) fp) elt te) (fold : ∀ x, foldedSetIterable iter X.env x = pure x) :
    PE X (.Call (.Name "len" p1) [.SetComp elt [⟨tg, iter, ifs, 0⟩] scope pos] [] cpos) (tLenS X.w wi g tt te (own.map (·.2))) := by
  refine ⟨fun pl z τ G Q iv h => PyProof.Rows.Call_ (ld_blt iv gl nl boot_len ?_)⟩
  refine PyProof.Rows.callWith_builtin1 (PyProof.Rows.args_cons (thn ((pe_setc hc nd wk ok hg ht he fold).run pl z τ G _ iv h) fun v z1 q1 => PyProof.Rows.args_nil ?_) rfl) rfl rfl
  obtain ⟨x, G1, iv1, r1, p, In, n, rfl, hp, q⟩ := q1
  cases r1
  obtain ⟨o, es, ep, t, ho, hex, hd, hrest⟩ := setO_get iv1 hp
  obtain ⟨g1, g2, g3, hb, hf, hn, _⟩ := hrest
  refine call_len_set ho hex hd hf ?_ ⟨.int (n : Nat), G1, iv1.tok _, ⟨_, by rw [hn]⟩, q⟩
  unfold scanBound at hb
  omega
/-- the set, hidden -/
structure AcS (w : World) (K : PySem.W.Frag) (mg : Str → Option Value) (Da : Addr) (av1 m1 : List Addr) (H1 : Hp) (av m : List Addr) (H : Hp) (cs : List C) (accD : List D) : Prop where
  ext : Ext av1 m1 H1 av m H
  rc : RC K mg (Da :: av) m H cs
  nav : Da ∉ av
  sub : ∀ a ∈ m, a ∈ av
  fresh : H1 Da = none
  acc : ∃ ks : List Int, accD = ks.map D.int ∧ ks.Nodup ∧ H Da = some (SetO w Da (fun x => decide (x ∈ ks)) ks.length)
section
variable {Da : Addr} {av1 m1 av m av' m' : List Addr} {H1 H H' : Hp} {cs cs' : List C} {accD : List D}
theorem AcS.wk1 (A : AcS w K mg Da av1 m1 H1 av m H cs accD) (sub1 : ∀ a ∈ m1, a ∈ av1) : Wk av1 m1 H1 (Da :: av) m H :=
  ⟨fun b o h n => A.ext.keep b o h fun z => n (sub1 _ z), fun {a} h q z => (List.mem_cons.mp z).elim (fun z => q (by rw [z]; exact A.fresh)) (A.ext.mem h q), fun h => A.ext.at h, A.ext.fz⟩
theorem AcS.step (A : AcS w K mg Da av1 m1 H1 av m H cs accD) (e : Ext (Da :: av) m H av' m' H') (c : RC K mg av' m' H' cs') :
    ∃ av7, av' = Da :: av7 ∧ AcS w K mg Da av1 m1 H1 av7 m' H' cs' accD ∧ Wk (Da :: av) m H (Da :: av7) m' H' := by
  obtain ⟨ks, e1, e2, ha⟩ := A.acc
  have nm : Da ∉ m := fun h => A.nav (A.sub _ h)
  obtain ⟨nw, ea, em, f⟩ := id e.new
  have nn : Da ∉ nw := fun h => by have := f _ h; rw [ha] at this; cases this
  have ea : av' = Da :: (av ++ nw) := ea
  subst ea
  refine ⟨av ++ nw, rfl, ⟨A.ext.trans ⟨⟨nw, rfl, em, f⟩, e.keep, e.there, e.fz⟩, c, fun z => (List.mem_append.mp z).elim A.nav nn, fun a h => ?_, A.fresh, ks, e1, e2, e.keep _ _ ha nm⟩, e.wk A.rc.sub⟩
  rw [em] at h
  exact (List.mem_append.mp h).elim (fun h => List.mem_append_left _ (A.sub _ h)) fun h => List.mem_append_right _ h
def hasI (c : Int) (acc : List D) : Bool := acc.any fun d => match d with
  | .int i => decide (i = c)
  | _ => false
theorem hasI_map (c : Int) : ∀ ks : List Int, hasI c (ks.map D.int) = decide (c ∈ ks)
  | [] => rfl
  | k :: ks => by
    have ih := hasI_map c ks
    unfold hasI at ih ⊢
    simp only [List.map_cons, List.any_cons, ih, List.mem_cons]
    by_cases h1 : k = c
    · subst h1; simp
    · have h2 : ¬ c = k := fun z => h1 z.symm
      by_cases h3 : c ∈ ks <;> simp [h1, h2, h3]
/-- one more -/
theorem AcS.put (A : AcS w K mg Da av1 m1 H1 av m H cs accD) (c : Int) : ∃ (In : Int → Bool) (n : Nat), H Da = some (SetO w Da In n) ∧ n = accD.length ∧
    AcS w K mg Da av1 m1 H1 av m (upd H Da (SetO w Da (fun x => In x || decide (x = c)) (if In c = true then n else n + 1))) cs (if hasI c accD then accD else accD ++ [.int c]) ∧
    Wk (Da :: av) m H (Da :: av) m (upd H Da (SetO w Da (fun x => In x || decide (x = c)) (if In c = true then n else n + 1))) := by
  obtain ⟨ks, e1, e2, ha⟩ := A.acc
  have nm : Da ∉ m := fun h => A.nav (A.sub _ h)
  have hI : hasI c accD = decide (c ∈ ks) := by rw [e1, hasI_map]
  have lift : ∀ u : HO, Ext av1 m1 H1 av m (upd H Da u) := fun u => ⟨A.ext.new, fun b o hb hm => (upd_ne fun z => by rw [z, A.fresh] at hb; cases hb).trans (A.ext.keep b o hb hm), fun b hb => by
    by_cases z : b = Da
    · rw [z, upd_same]; simp
    · rw [upd_ne z]; exact A.ext.there b hb, fun b o v h => (upd_ne fun z => by rw [z, A.fresh] at h; cases h).trans (A.ext.fz b o v h)⟩
  refine ⟨_, _, ha, by rw [e1, List.length_map], ⟨lift _, A.rc.over List.mem_cons_self nm, A.nav, A.sub, A.fresh, ?_⟩, ⟨fun b o h n => (upd_ne fun z => n (by rw [z]; exact List.mem_cons_self)).trans h, fun h _ => h, fun h => h, fun b o u h => (upd_ne fun z => by rw [z, ha] at h; cases h).trans h⟩⟩
  rw [upd_same, hI]
  by_cases hc : c ∈ ks
  · refine ⟨ks, by rw [decide_eq_true hc, if_pos rfl, e1], e2, ?_⟩
    congr 2
    · funext x
      by_cases hx : x = c
      · subst hx; simp [hc]
      · simp [hx]
    · simp [hc]
  · refine ⟨ks ++ [c], by rw [decide_eq_false hc, if_neg Bool.false_ne_true, e1]; simp, List.nodup_append.mpr ⟨e2, by simp, fun a h b hb z => by rw [List.mem_singleton.mp hb] at z; exact hc (z ▸ h)⟩, ?_⟩
    congr 2
    · funext x
      by_cases hx : x = c
      · subst hx; simp
      · simp [hx]
    · simp [hc]
end
/-- one turn of a loop that fills the accumulator, and the turns behind it -/
theorem loop_coreS {J : It} {g : TG} {tt : TT} {B : L2.St → Hp → (Hp → Prop) → Prop} {vs : List Nat} {gt : D → Env' → Option Env'} {gtt : Gt} {gb : Env' → List C → List D → Out (List D)} {Da : Addr} {av1 m1 avW mW avS mS : List Addr} {H1 HW HS : Hp}
    {wo : World} {ds accD0 accF : List D} {σ : L2.St} {env : Env'} {cs0 csF : List C} {Nx : Hp → Prop}
    (kg : ∀ (av m : List Addr) (H : Hp) (σ : L2.St) (env env' : Env') (cs : List C) (v : V) (d : D) (Q : L2.St → Hp → Prop), RC K mg av m H cs → RS K av m H σ env → R K av m H v d → gt d env = some env' →
      (∀ σ', RS K av m H σ' env' → wipe σ' vs = wipe σ vs → Q σ' H) → g v σ H Q)
    (kt : TtOk K mg E0 tt gtt)
    (kb : ∀ (av m : List Addr) (H : Hp) (cs : List C) (accD : List D) (σ4 : L2.St) (env1 : Env') (accM : List D) (csM : List C) (Nx : Hp → Prop), AcS wo K mg Da av1 m1 H1 av m H cs accD → RS K (Da :: av) m H σ4 env1 → gb env1 cs accD = .ok accM csM →
      (∀ av' m' H', AcS wo K mg Da av1 m1 H1 av' m' H' csM accM → Wk (Da :: av) m H (Da :: av') m' H' → Nx H') → B σ4 H Nx)
    (wk : WalkD K mg avW mW HW J ds) (a0 : AcS wo K mg Da av1 m1 H1 avS mS HS cs0 accD0) (wS : Wk avW mW HW (Da :: avS) mS HS) (s0 : RS K (Da :: avS) mS HS σ env) (run : compB vs gt gtt gb ds env cs0 accD0 = .ok accF csF)
    (fin : ∀ av m H, AcS wo K mg Da av1 m1 H1 av m H csF accF → Wk (Da :: avS) mS HS (Da :: av) m H → Nx H) :
    ∃ W : Nat → Nat → Hp → Prop, (∃ k, W 0 k HS) ∧ ∀ j k H, W j k H → (J.stop j H ∧ Nx H) ∨ (J.go j H ∧ ∃ Nx1 : Hp → Prop, (∀ H', Nx1 H' → ∃ k', k' < k ∧ W (j + 1) k' H') ∧ ∀ x H', J.yld j H x H' → g x (wipe σ vs) H' fun σ2 H2 =>
      wipe σ2 vs = wipe σ vs ∧ tt σ2 H2 fun b H3 => if b = true then B σ2 H3 Nx1 else Nx1 H3) := by
  refine ⟨fun i mm H' => mm = ds.length - i ∧ i ≤ ds.length ∧ ∃ av m cs accD, AcS wo K mg Da av1 m1 H1 av m H' cs accD ∧ Wk (Da :: avS) mS HS (Da :: av) m H' ∧ compB vs gt gtt gb (ds.drop i) env cs accD = .ok accF csF,
    ⟨ds.length, by simp, Nat.zero_le _, avS, mS, cs0, accD0, a0, Wk.refl .., by simpa using run⟩, ?_⟩
  rintro i mm H' ⟨rfl, hi, av, m, cs, accD, A, w, hrest⟩
  have wW := wS.trans w
  by_cases hlt : i < ds.length
  · have hd : ds[i]? = some ds[i] := List.getElem?_eq_getElem hlt
    rw [List.drop_eq_getElem_cons hlt] at hrest
    unfold compB at hrest
    refine .inr ⟨wk.go i _ _ _ _ hd wW, fun H3 => ∃ mm, mm < ds.length - i ∧ (mm = ds.length - (i + 1) ∧ i + 1 ≤ ds.length ∧ ∃ av m cs accD, AcS wo K mg Da av1 m1 H1 av m H3 cs accD ∧ Wk (Da :: avS) mS HS (Da :: av) m H3 ∧ compB vs gt gtt gb (ds.drop (i + 1)) env cs accD = .ok accF csF),
      fun _ h => h, fun x H3 y => ?_⟩
    obtain ⟨e3, c3, r3⟩ := wk.yld i _ _ _ _ _ _ _ hd wW A.rc y
    obtain ⟨av3, z, A3, w3⟩ := A.step e3 c3
    cases z
    have s3 := s0.monoW a0.rc.sub (w.trans w3)
    split at hrest
    · cases hrest
    · rename_i env1 henv
      refine kg _ _ _ (wipe σ vs) (wipeD env vs) env1 cs x _ _ c3 (s3.wipe vs) r3 henv fun σ4 s4 w4 => ⟨w4.trans (wipe_idem vs), ?_⟩
      cases hg : gtt env1 cs with
      | exc x fs cs5 => rw [hg] at hrest; cases hrest
      | bad => rw [hg] at hrest; cases hrest
      | ok b cs5 =>
        rw [hg] at hrest
        have hrest : (if b = true then (gb env1 cs5 accD).bind fun acc cs => compB vs gt gtt gb (ds.drop (i + 1)) env cs acc else compB vs gt gtt gb (ds.drop (i + 1)) env cs5 accD) = .ok accF csF := hrest
        refine kt _ _ _ σ4 env1 cs _ c3 s4 ?_
        rw [hg]
        intro av5 m5 H5 e5 c5
        obtain ⟨av6, z, A5, w5⟩ := A3.step e5 c5
        cases z
        cases b with
        | false =>
          rw [if_neg Bool.false_ne_true] at hrest
          exact iteF ⟨ds.length - (i + 1), by omega, rfl, hlt, av6, m5, cs5, accD, A5, (w.trans w3).trans w5, hrest⟩
        | true =>
          rw [if_pos rfl] at hrest
          refine iteT ?_
          cases hy : gb env1 cs5 accD with
          | exc x fs cs6 => rw [hy] at hrest; cases hrest
          | bad => rw [hy] at hrest; cases hrest
          | ok accM csM =>
            rw [hy] at hrest
            exact kb _ _ _ _ _ σ4 env1 accM csM _ A5 (s4.monoW c3.sub w5) hy fun av7 m7 H7 A7 w7 => ⟨ds.length - (i + 1), by omega, rfl, hlt, av7, m7, csM, accM, A7, ((w.trans w3).trans w5).trans w7, hrest⟩
  · have : i = ds.length := by omega
    subst this
    rw [List.drop_length] at hrest
    unfold compB at hrest
    cases hrest
    exact .inl ⟨wk.stop _ _ _ _ (Nat.le_refl _) wW, fin _ _ _ A w⟩

end
end Dm
set_option linter.all false
set_option maxRecDepth 100000
set_option maxHeartbeats 2000000
/-! Dm: len of a set comprehension. -/
namespace Dm
open PySem PySem.Spec L2
section
variable {X : Cx} {EX : XK} {K : PySem.W.Frag} {mg : Str → Option Value} {wo : World}
def bodyI (ge : Gx) : Env' → List C → List D → Out (List D) := fun env cs acc => (ge env cs).bind fun y cs => match y with
  | .int c => if acc.length + 1 < scanBound then .ok (if hasI c acc then acc else acc ++ [.int c]) cs else .bad
  | _ => .bad
theorem body_int {te : TE} {ge : Gx} {Da : Addr} {av1 m1 : List Addr} {H1 : Hp} (ke : TeOk K mg E0 te ge) (av m : List Addr) (H : Hp) (cs : List C) (accD : List D) (σ4 : L2.St) (env1 : Env') (accM : List D) (csM : List C) (Nx : Hp → Prop)
    (A : AcS wo K mg Da av1 m1 H1 av m H cs accD) (s : RS K (Da :: av) m H σ4 env1) (h : bodyI ge env1 cs accD = .ok accM csM) (q : ∀ av' m' H', AcS wo K mg Da av1 m1 H1 av' m' H' csM accM → Wk (Da :: av) m H (Da :: av') m' H' → Nx H') :
    te σ4 H fun y H4 => ∃ (c : Int) (In : Int → Bool) (n : Nat), y = .int c ∧ H4 Da = some (SetO wo Da In n) ∧ n + 1 < scanBound ∧ Nx (upd H4 Da (SetO wo Da (fun x => In x || decide (x = c)) (if In c = true then n else n + 1))) := by
  refine ke _ _ _ σ4 env1 cs _ A.rc s ?_
  unfold bodyI at h
  cases hy : ge env1 cs with
  | exc x fs cs6 => rw [hy] at h; cases h
  | bad => rw [hy] at h; cases h
  | ok yd cs6 =>
    rw [hy] at h
    cases yd with
    | int c =>
      have h : (if accD.length + 1 < scanBound then Out.ok (if hasI c accD then accD else accD ++ [.int c]) cs6 else .bad) = .ok accM csM := h
      split at h
      · rename_i hl
        cases h
        intro av6 m6 H6 yv e6 c6 r6
        obtain ⟨av7, z, A7, w7⟩ := A.step e6 c6
        cases z
        cases r6
        obtain ⟨In, n, ha, hn, A8, w8⟩ := A7.put c
        exact ⟨c, In, n, rfl, ha, by rw [hn]; exact hl, q _ _ _ A8 (w7.trans w8)⟩
      · cases h
    | _ => cases h
def compI (vs : List Nat) (gt : D → Env' → Option Env') (tt : Gt) (ge : Gx) : List D → Env' → List C → List D → Out (List D) := compB vs gt tt (bodyI ge)
def asLen : Out (List D) → Out D
  | .ok acc cs => .ok (.int (acc.length : Nat)) cs
  | _ => .bad
def gLenS (vs : List Nat) (gi : Ga) (gt : D → Env' → Option Env') (tt : Gt) (ge : Gx) : Gx := fun env cs => (gi env cs).bind fun ds cs => asLen (compI vs gt tt ge ds env cs [])
theorem AcS.start {Da : Addr} {av m : List Addr} {H : Hp} {cs : List C} (c : RC K mg av m H cs) (hD : H Da = none) : AcS wo K mg Da av m H av m (upd H Da (SetO wo Da (fun _ => false) 0)) cs [] :=
  ⟨Ext.fresh hD, c.veil hD, c.notin hD, c.sub, hD, [], rfl, .nil, by rw [upd_same]; simp⟩
theorem te_lenS {wi : TI} {g : TG} {tt : TT} {te : TE} {vs : List Nat} {gi : Ga} {gt : D → Env' → Option Env'} {gtt : Gt} {ge : Gx}
    (ki : ∀ (av m : List Addr) (H : Hp) (σ : L2.St) (env : Env') (cs : List C) (Q : It → Hp → Prop), RC K mg av m H cs → RS K av m H σ env → PostI K mg av m H EX Q (gi env cs) → wi σ H Q)
    (kg : ∀ (av m : List Addr) (H : Hp) (σ : L2.St) (env env' : Env') (cs : List C) (v : V) (d : D) (Q : L2.St → Hp → Prop), RC K mg av m H cs → RS K av m H σ env → R K av m H v d → gt d env = some env' →
      (∀ σ', RS K av m H σ' env' → wipe σ' vs = wipe σ vs → Q σ' H) → g v σ H Q)
    (kt : TtOk K mg E0 tt gtt) (ke : TeOk K mg E0 te ge) : TeOk K mg EX (tLenS wo wi g tt te vs) (gLenS vs gi gt gtt ge) := by
  intro av m H σ env cs Q c s p
  unfold tLenS tSetc
  unfold gLenS at p
  refine ki av m H σ env cs _ c s (PostI.bindE p fun ds cs1 av1 m1 H1 J e1 c1 wk p1 => ?_)
  have s1 := s.mono c.sub e1
  intro Da hD
  cases hF : compI vs gt gtt ge ds env cs1 [] with
  | exc x fs cs6 => rw [hF] at p1; exact p1.elim
  | bad => rw [hF] at p1; exact p1.elim
  | ok accF csF =>
    rw [hF] at p1
    have A0 := AcS.start (wo := wo) c1 hD
    refine loop_coreS kg kt (body_int ke) wk A0 (A0.wk1 c1.sub) (s1.monoW c1.sub (A0.wk1 c1.sub)) hF fun av2 m2 H2 A w => ?_
    obtain ⟨ks, e1, e2, ha⟩ := A.acc
    refine ⟨Da, _, _, rfl, ha, ?_⟩
    have := p1 _ _ _ (.int (accF.length : Nat)) A.ext (A.rc.bare A.sub) (.int _)
    rw [e1, List.length_map] at this
    exact this
theorem de_lenS {elt tg iter : Expr} {ifs : List Expr} {scope : Scope} {own : List (Str × Nat)} {p1 pos cpos : Pos} {gi : Ga} {gt : D → Env' → Option Env'} {gtt : Gt} {ge : Gx} (hc : X.calm = true) (hN : X.N.Nodup) (hi : DI X EX tg iter gi) (ok : BlkOk X.N X.env.scope scope own)
    (hg : ∀ (s : Shared) (H : Hp) (Ca : Addr) (cl : List (Str × Addr)) (fp : List Addr), DGc (X.blk s H scope (compEnvC scope cl Ca X.env) fp) (own.map (·.2)) tg gt)
    (ht : ∀ (s : Shared) (H : Hp) (Ca : Addr) (cl : List (Str × Addr)) (fp : List Addr), DTs (X.blk s H scope (compEnvC scope cl Ca X.env) fp) E0 ifs gtt)
    (he : ∀ (s : Shared) (H : Hp) (Ca : Addr) (cl : List (Str × Addr)) (fp : List Addr), DE (X.blk s H scope (compEnvC scope cl Ca X.env) fp) E0 elt ge)
    (hm : X.mg "len" = none) (hgl : Gl X "len" := by rfl) (hs : ∀ x, foldedSetIterable iter X.env x = pure x := by intro _; rfl) : DE X EX (.Call (.Name "len" p1) [.SetComp elt [⟨tg, iter, ifs, 0⟩] scope pos] [] cpos) (gLenS (own.map (·.2)) gi gt gtt ge) := by
  obtain ⟨wi, h1, k1⟩ := hi
  exact ⟨_, pe_lenS (g := canG X.K X.mg (own.map (·.2)) gt) (tt := canT X.K X.mg E0 gtt) (te := canE X.K X.mg E0 ge) hgl hm hc hN h1 ok (fun s H Ca cl fp => (hg s H Ca cl fp).can) (fun s H Ca cl fp => (ht s H Ca cl fp).can) (fun s H Ca cl fp => (he s H Ca cl fp).can) hs,
    te_lenS (EX := EX) (K := X.K) (mg := X.mg) k1 (canG_ok (vs := own.map (·.2)) (g := gt)) (canT_ok (EX := E0) (g := gtt)) (canE_ok (EX := E0) (g := ge))⟩
end
end Dm
set_option linter.all false
set_option maxRecDepth 100000
set_option maxHeartbeats 2000000
/-! Dm: comprehensions over a list that is a cell, which stays as it is meanwhile. -/
namespace Dm
open PySem PySem.Spec L2
section
variable {X : Cx} {EX : XK} {K : PySem.W.Frag} {mg : Str → Option Value}
open Classical in
noncomputable def compBC (n0 : Nat) (ds0 : List D) (vs : List Nat) (gt : D → Env' → Option Env') (tt : Gt) (gb : Env' → List C → List D → Out (List D)) : List D → Env' → List C → List D → Out (List D)
  | [], _, cs, acc => if cs[n0]? = some (.lst ds0) then .ok acc cs else .bad
  | d :: ds, env, cs, acc => if cs[n0]? = some (.lst ds0) then (match gt d (wipeD env vs) with
    | none => .bad
    | some env1 => (tt env1 cs).bind fun b cs => if b then (gb env1 cs acc).bind fun acc cs => compBC n0 ds0 vs gt tt gb ds env cs acc else compBC n0 ds0 vs gt tt gb ds env cs acc) else .bad
structure WalkC (K : PySem.W.Frag) (mg : Str → Option Value) (n0 : Nat) (av m : List Addr) (H : Hp) (J : It) (ds : List D) : Prop where
  go : ∀ (i : Nat) (d : D) (av' m' : List Addr) (H' : Hp) (cs : List C), ds[i]? = some d → Wk av m H av' m' H' → RC K mg av' m' H' cs → cs[n0]? = some (.lst ds) → J.go i H'
  yld : ∀ (i : Nat) (d : D) (av' m' : List Addr) (H' : Hp) (x : V) (H'' : Hp) (cs : List C), ds[i]? = some d → Wk av m H av' m' H' → RC K mg av' m' H' cs → cs[n0]? = some (.lst ds) → J.yld i H' x H'' → Ext av' m' H' av' m' H'' ∧ RC K mg av' m' H'' cs ∧ R K av' m' H'' x d
  stop : ∀ (i : Nat) (av' m' : List Addr) (H' : Hp) (cs : List C), ds.length ≤ i → Wk av m H av' m' H' → RC K mg av' m' H' cs → cs[n0]? = some (.lst ds) → J.stop i H'
theorem walk_cell {av m : List Addr} {H : Hp} {a : Addr} {n0 : Nat} {ds : List D} (ha : m[n0]? = some a) : WalkC K mg n0 av m H (Itl K a) ds where
  go := fun i d av' m' H' cs hd e c hc => by
    obtain ⟨xs, q, l⟩ := c.ok n0 a _ (e.atw ha) hc
    obtain ⟨v, h1, _⟩ := l.get hd
    exact ⟨xs, v, SqL.of q, h1⟩
  yld := fun i d av' m' H' x H'' cs hd e c hc y => by
    obtain ⟨rfl, y⟩ := y
    obtain ⟨xs, q, l⟩ := c.ok n0 a _ (e.atw ha) hc
    obtain ⟨v, h1, r⟩ := l.get hd
    have := y xs (SqL.of q)
    rw [h1] at this; cases this
    exact ⟨Ext.refl .., c, r⟩
  stop := fun i av' m' H' cs hi e c hc => by
    obtain ⟨xs, q, l⟩ := c.ok n0 a _ (e.atw ha) hc
    exact ⟨xs, SqL.of q, by rw [l.length]; exact hi⟩
/-- the same over a cell: one turn of a loop that fills the accumulator, and the turns behind it -/
theorem loop_coreC {J : It} {g : TG} {tt : TT} {B : L2.St → Hp → (Hp → Prop) → Prop} {vs : List Nat} {gt : D → Env' → Option Env'} {gtt : Gt} {gb : Env' → List C → List D → Out (List D)} {Da : Addr} {av1 m1 avW mW avS mS : List Addr} {H1 HW HS : Hp}
    {n0 : Nat} {ds accD0 accF : List D} {σ : L2.St} {env : Env'} {cs0 csF : List C} {Nx : Hp → Prop}
    (kg : ∀ (av m : List Addr) (H : Hp) (σ : L2.St) (env env' : Env') (cs : List C) (v : V) (d : D) (Q : L2.St → Hp → Prop), RC K mg av m H cs → RS K av m H σ env → R K av m H v d → gt d env = some env' →
      (∀ σ', RS K av m H σ' env' → wipe σ' vs = wipe σ vs → Q σ' H) → g v σ H Q)
    (kt : TtOk K mg E0 tt gtt)
    (kb : ∀ (av m : List Addr) (H : Hp) (cs : List C) (accD : List D) (σ4 : L2.St) (env1 : Env') (accM : List D) (csM : List C) (Nx : Hp → Prop), Ac K mg Da av1 m1 H1 av m H cs accD → RS K (Da :: av) m H σ4 env1 → gb env1 cs accD = .ok accM csM →
      (∀ av' m' H', Ac K mg Da av1 m1 H1 av' m' H' csM accM → Wk (Da :: av) m H (Da :: av') m' H' → Nx H') → B σ4 H Nx)
    (wk : WalkC K mg n0 avW mW HW J ds) (a0 : Ac K mg Da av1 m1 H1 avS mS HS cs0 accD0) (wS : Wk avW mW HW (Da :: avS) mS HS) (s0 : RS K (Da :: avS) mS HS σ env) (run : compBC n0 ds vs gt gtt gb ds env cs0 accD0 = .ok accF csF)
    (fin : ∀ av m H, Ac K mg Da av1 m1 H1 av m H csF accF → Wk (Da :: avS) mS HS (Da :: av) m H → Nx H) :
    ∃ W : Nat → Nat → Hp → Prop, (∃ k, W 0 k HS) ∧ ∀ j k H, W j k H → (J.stop j H ∧ Nx H) ∨ (J.go j H ∧ ∃ Nx1 : Hp → Prop, (∀ H', Nx1 H' → ∃ k', k' < k ∧ W (j + 1) k' H') ∧ ∀ x H', J.yld j H x H' → g x (wipe σ vs) H' fun σ2 H2 =>
      wipe σ2 vs = wipe σ vs ∧ tt σ2 H2 fun b H3 => if b = true then B σ2 H3 Nx1 else Nx1 H3) := by
  refine ⟨fun i mm H' => mm = ds.length - i ∧ i ≤ ds.length ∧ ∃ av m cs accD, Ac K mg Da av1 m1 H1 av m H' cs accD ∧ Wk (Da :: avS) mS HS (Da :: av) m H' ∧ compBC n0 ds vs gt gtt gb (ds.drop i) env cs accD = .ok accF csF,
    ⟨ds.length, by simp, Nat.zero_le _, avS, mS, cs0, accD0, a0, Wk.refl .., by simpa using run⟩, ?_⟩
  rintro i mm H' ⟨rfl, hi, av, m, cs, accD, A, w, hrest⟩
  have wW := wS.trans w
  by_cases hlt : i < ds.length
  · have hd : ds[i]? = some ds[i] := List.getElem?_eq_getElem hlt
    rw [List.drop_eq_getElem_cons hlt] at hrest
    unfold compBC at hrest
    split at hrest
    case isFalse => cases hrest
    rename_i hsame
    refine .inr ⟨wk.go i _ _ _ _ _ hd wW A.rc hsame, fun H3 => ∃ mm, mm < ds.length - i ∧ (mm = ds.length - (i + 1) ∧ i + 1 ≤ ds.length ∧ ∃ av m cs accD, Ac K mg Da av1 m1 H1 av m H3 cs accD ∧ Wk (Da :: avS) mS HS (Da :: av) m H3 ∧ compBC n0 ds vs gt gtt gb (ds.drop (i + 1)) env cs accD = .ok accF csF),
      fun _ h => h, fun x H3 y => ?_⟩
    obtain ⟨e3, c3, r3⟩ := wk.yld i _ _ _ _ _ _ _ hd wW A.rc hsame y
    obtain ⟨av3, z, A3, w3⟩ := A.step e3 c3
    cases z
    have s3 := s0.monoW a0.rc.sub (w.trans w3)
    split at hrest
    · cases hrest
    · rename_i env1 henv
      refine kg _ _ _ (wipe σ vs) (wipeD env vs) env1 cs x _ _ c3 (s3.wipe vs) r3 henv fun σ4 s4 w4 => ⟨w4.trans (wipe_idem vs), ?_⟩
      cases hg : gtt env1 cs with
      | exc x fs cs5 => rw [hg] at hrest; cases hrest
      | bad => rw [hg] at hrest; cases hrest
      | ok b cs5 =>
        rw [hg] at hrest
        have hrest : (if b = true then (gb env1 cs5 accD).bind fun acc cs => compBC n0 ds vs gt gtt gb (ds.drop (i + 1)) env cs acc else compBC n0 ds vs gt gtt gb (ds.drop (i + 1)) env cs5 accD) = .ok accF csF := hrest
        refine kt _ _ _ σ4 env1 cs _ c3 s4 ?_
        rw [hg]
        intro av5 m5 H5 e5 c5
        obtain ⟨av6, z, A5, w5⟩ := A3.step e5 c5
        cases z
        cases b with
        | false =>
          rw [if_neg Bool.false_ne_true] at hrest
          exact iteF ⟨ds.length - (i + 1), by omega, rfl, hlt, av6, m5, cs5, accD, A5, (w.trans w3).trans w5, hrest⟩
        | true =>
          rw [if_pos rfl] at hrest
          refine iteT ?_
          cases hy : gb env1 cs5 accD with
          | exc x fs cs6 => rw [hy] at hrest; cases hrest
          | bad => rw [hy] at hrest; cases hrest
          | ok accM csM =>
            rw [hy] at hrest
            exact kb _ _ _ _ _ σ4 env1 accM csM _ A5 (s4.monoW c3.sub w5) hy fun av7 m7 H7 A7 w7 => ⟨ds.length - (i + 1), by omega, rfl, hlt, av7, m7, csM, accM, A7, ((w.trans w3).trans w5).trans w7, hrest⟩
  · have : i = ds.length := by omega
    subst this
    rw [List.drop_length] at hrest
    unfold compBC at hrest
    split at hrest
    case isFalse => cases hrest
    rename_i hsame
    cases hrest
    exact .inl ⟨wk.stop _ _ _ _ _ (Nat.le_refl _) wW A.rc hsame, fin _ _ _ A w⟩

/-- [elt for .. in a cell], as a value -/
noncomputable def gCompK (vs : List Nat) (g : Gx) (gt : D → Env' → Option Env') (tt : Gt) (ge : Gx) : Gx := fun env cs => (g env cs).bind fun d cs => match d with
  | .cell n0 => match cs[n0]? with
    | some (.lst ds) => asVal (compBC n0 ds vs gt tt (bodyE ge) ds env cs [])
    | _ => .bad
  | _ => .bad
theorem de_compK {elt tg iter : Expr} {ifs : List Expr} {scope : Scope} {own : List (Str × Nat)} {pos : Pos} {g : Gx} {gt : D → Env' → Option Env'} {gtt : Gt} {ge : Gx} (hc : X.calm = true) (hN : X.N.Nodup) (hi : DE X EX iter g) (ok : BlkOk X.N X.env.scope scope own)
    (hg : ∀ (s : Shared) (H : Hp) (Ca : Addr) (cl : List (Str × Addr)) (fp : List Addr), DGc (X.blk s H scope (compEnvC scope cl Ca X.env) fp) (own.map (·.2)) tg gt)
    (ht : ∀ (s : Shared) (H : Hp) (Ca : Addr) (cl : List (Str × Addr)) (fp : List Addr), DTs (X.blk s H scope (compEnvC scope cl Ca X.env) fp) E0 ifs gtt)
    (he : ∀ (s : Shared) (H : Hp) (Ca : Addr) (cl : List (Str × Addr)) (fp : List Addr), DE (X.blk s H scope (compEnvC scope cl Ca X.env) fp) E0 elt ge)
    (hs : ∀ x, foldedSetIterable iter X.env x = pure x := by intro _; rfl) : DE X EX (.ListComp elt [⟨tg, iter, ifs, 0⟩] scope pos) (gCompK (own.map (·.2)) g gt gtt ge) := by
  obtain ⟨t, h, k⟩ := hi
  refine ⟨_, pe_lc (g := canG X.K X.mg (own.map (·.2)) gt) (tt := canT X.K X.mg E0 gtt) (te := canE X.K X.mg E0 ge) hc hN (pi_list h) ok (fun s H Ca cl fp => (hg s H Ca cl fp).can) (fun s H Ca cl fp => (ht s H Ca cl fp).can) (fun s H Ca cl fp => (he s H Ca cl fp).can) hs, ?_⟩
  intro av m H σ env cs Q c s p
  unfold gCompK at p
  refine k av m H σ env cs _ c s (PostE.bind p fun d cs1 av1 m1 H1 v e1 c1 r1 p1 => ?_)
  split at p1
  · rename_i n0
    split at p1
    · rename_i ds hds
      cases r1 with
      | cell ha =>
        obtain ⟨xs, q, l⟩ := c1.ok _ _ _ ha hds
        refine ⟨_, rfl, ⟨xs, SqL.of q⟩, ?_⟩
        intro Da hD
        have s1 := s.mono c.sub e1
        rcases bad_val (compBC n0 ds (own.map (·.2)) gt gtt (bodyE ge) ds env cs1 []) with ⟨accF, csF, hF⟩ | hb
        · rw [hF] at p1
          have A0 := Ac.start c1 hD
          exact loop_coreC (canG_ok (vs := own.map (·.2)) (g := gt)) (canT_ok (EX := E0) (g := gtt)) (body_one (canE_ok (EX := E0) (g := ge))) (walk_cell ha) A0 (A0.wk1 c1.sub) (s1.monoW c1.sub (A0.wk1 c1.sub)) hF fun av2 m2 H2 A w => hand_val c1.sub p1 A
        · rw [hb] at p1; exact p1.elim
    · exact p1.elim
  · exact p1.elim
end
/-- a comprehension within a comprehension -/
theorem relabel_free {env : Env} : ∀ (l : List (Str × NameKind)) (x : Str), l.lookup x = some .cell ∨ l.lookup x = some .free →
    (l.map fun (n, k) => if (k == NameKind.free && env.scope.kind == .function && env.kindOf n == some .cell) then (n, NameKind.cell) else (n, k)).lookup x = some .cell ∨ (l.map fun (n, k) => if (k == NameKind.free && env.scope.kind == .function && env.kindOf n == some .cell) then (n, NameKind.cell) else (n, k)).lookup x = some .free
  | [], x, h => by simp at h
  | (n, k) :: r, x, h => by
    have ih := relabel_free (env := env) r x
    rw [List.map_cons]
    by_cases e : x = n
    · subst e
      rw [List.lookup_cons_self] at h
      dsimp only
      split
      · rw [List.lookup_cons_self]; exact .inl rfl
      · rw [List.lookup_cons_self]; exact h
    · have e' : (x == n) = false := beq_eq_false_iff_ne.mpr e
      rw [List.lookup_cons, e'] at h
      have := ih (by simpa using h)
      dsimp only
      split
      · rw [List.lookup_cons, e']; exact this
      · rw [List.lookup_cons, e']; exact this
theorem blk_in {N : List Str} {scopeO scopeI : Scope} {cl : List (Str × Addr)} {Ca : Addr} {env : Env} {own : List (Str × Nat)} (h : blkC N scopeO scopeI own = true) : BlkOk N (compEnvC scopeO cl Ca env).scope scopeI own :=
  have b := blkOk_by h
  ⟨b.kind, b.uniq, b.ix, fun y hy e => relabel_free _ _ (b.free y hy e), b.own⟩
end Dm
set_option linter.all false
set_option maxRecDepth 100000
set_option maxHeartbeats 2000000
/-! Dm: objects of the program's classes, as cells: made, their fields read and stored, their methods called. -/
namespace Dm
open PySem PySem.Spec L2

/-! ### fields -/
def putFD (f : Str) (d : D) : List (Str × D) → List (Str × D)
  | [] => [(f, d)]
  | (g, e) :: r => if g = f then (g, d) :: r else (g, e) :: putFD f d r
section
variable {K : PySem.W.Frag} {mg : Str → Option Value} {av m : List Addr} {H : Hp} {cs : List C}
theorem RF.len : ∀ {vs : List (Str × V)} {ds : List (Str × D)}, RF K av m H vs ds → vs.length = ds.length
  | _, _, .nil => rfl
  | _, _, .cons _ t => by rw [List.length_cons, List.length_cons, t.len]
theorem RF.some {f : Str} : ∀ {vs : List (Str × V)} {ds : List (Str × D)} {d : D}, RF K av m H vs ds → ds.lookup f = Option.some d → ∃ v, vs.lookup f = Option.some v ∧ R K av m H v d
  | _, _, _, .nil, h => by simp at h
  | _, _, d, .cons (k := k) (v := v) r t, h => by
    by_cases e : f = k
    · subst e
      rw [List.lookup_cons_self] at h
      cases h
      exact ⟨v, List.lookup_cons_self, r⟩
    · have e' : (f == k) = false := beq_eq_false_iff_ne.mpr e
      rw [List.lookup_cons, e'] at h
      obtain ⟨u, h1, h2⟩ := RF.some t (by simpa using h)
      exact ⟨u, by rw [List.lookup_cons, e']; simpa using h1, h2⟩
theorem RF.none {f : Str} : ∀ {vs : List (Str × V)} {ds : List (Str × D)}, RF K av m H vs ds → ds.lookup f = Option.none → vs.lookup f = Option.none
  | _, _, .nil, _ => rfl
  | _, _, .cons (k := k) r t, h => by
    by_cases e : f = k
    · subst e; rw [List.lookup_cons_self] at h; cases h
    · have e' : (f == k) = false := beq_eq_false_iff_ne.mpr e
      rw [List.lookup_cons, e'] at h
      rw [List.lookup_cons, e']
      exact RF.none t (by simpa using h)
theorem RF.put {f : Str} {v : V} {d : D} (rv : R K av m H v d) : ∀ {vs : List (Str × V)} {ds : List (Str × D)}, RF K av m H vs ds → RF K av m H (putF f v vs) (putFD f d ds)
  | _, _, .nil => .cons rv .nil
  | _, _, .cons (k := k) r t => by
    unfold putF putFD
    by_cases e : k = f
    · rw [if_pos e, if_pos e]; exact .cons rv t
    · rw [if_neg e, if_neg e]; exact .cons r (RF.put rv t)
/-- what is known of a class of the text -/
structure Kls (K : PySem.W.Frag) (mg : Str → Option Value) (x : Str) : Prop where
  ex : ∃ Ca, mg x = some (.ref Ca) ∧ Cls K Ca
/-- none of the classes xs has a name f -/
structure Fre (K : PySem.W.Frag) (mg : Str → Option Value) (xs : List Str) (f : Str) : Prop where
  ex : ∀ x ∈ xs, ∃ Ca, mg x = some (.ref Ca) ∧ Cls K Ca ∧ NoAttr K Ca f
theorem Fre.at {x f : Str} {xs : List Str} {Ca : Addr} (h : Fre K mg xs f) (hx : x ∈ xs) (e : mg x = some (.ref Ca)) : Cls K Ca ∧ NoAttr K Ca f := by
  obtain ⟨Cb, e2, c, n⟩ := h.ex x hx
  rw [e] at e2
  cases e2
  exact ⟨c, n⟩
end
section
variable {X : Cx} {EX : XK} {pos pos' apos : Pos}
/-- o.f, o an object of one of the classes xs -/
def gFld (xs : List Str) (f : Str) (g : Gx) : Gx := fun env cs => (g env cs).bind fun o cs => match o with
  | .cell n => match cs[n]? with
    | some (.obj x fs) => if x ∈ xs then (match fs.lookup f with
      | some d => .ok d cs
      | none => .bad) else .bad
    | _ => .bad
  | _ => .bad
theorem de_fld {xs : List Str} {f : Str} {o : Expr} {g : Gx} (k : Fre X.K X.mg xs f) (ho : DE X EX o g) (hb : attributeBase o f X.env (eval o X.env) = eval o X.env := by rfl) : DE X EX (.Attribute o f pos) (gFld xs f g) := by
  obtain ⟨t, h, kk⟩ := ho
  refine ⟨_, pe_fld h hb, fun av m H σ env cs Q c s p => kk av m H σ env cs _ c s (PostE.bind p fun d cs1 av1 m1 H1 v e1 c1 r1 p1 => ?_)⟩
  split at p1
  · rename_i n
    split at p1
    · rename_i x fs hn
      split at p1
      · rename_i hx
        split at p1
        · rename_i d hd
          cases r1 with
          | cell ha =>
            obtain ⟨Ca, dx, vs, h0, h1, h2⟩ := c1.ok _ _ _ ha hn
            obtain ⟨v, h3, r3⟩ := h2.some hd
            have q := k.at hx h0
            exact ⟨_, Ca, dx, vs, v, rfl, h1, q.1, q.2, h3, p1 av1 m1 H1 v (Ext.refl ..) c1 r3⟩
        · exact p1.elim
      · exact p1.elim
    · exact p1.elim
  · exact p1.elim
/-- o.f = e -/
def sFldD (xs : List Str) (f : Str) (go ge : Gx) : Gs := fun env cs => (ge env cs).bind fun d cs => (go env cs).bind fun o cs => match o with
  | .cell n => match cs[n]? with
    | some (.obj x fs) => if x ∈ xs ∧ fs.length < 1000 then .ok ⟨.nx, env⟩ (cs.set n (.obj x (putFD f d fs))) else .bad
    | _ => .bad
  | _ => .bad
theorem ds_fld {xs : List Str} {f : Str} {o e : Expr} {go ge : Gx} (k : Fre X.K X.mg xs f) (ho : DE X EX o go) (he : DE X EX e ge) (hs : swapsWith e (some (.Attribute o f pos')) pos.line X.env = pure false := by rfl) :
    DS X EX (.Assign [.Attribute o f pos'] e pos) (sFldD xs f go ge) := by
  obtain ⟨t, h, kk⟩ := ho
  obtain ⟨u, h', k'⟩ := he
  refine ⟨_, ps_fld h h' hs, fun av m H σ env cs Dn c s p => k' av m H σ env cs _ c s (PostE.bindS p fun d cs1 av1 m1 H1 v e1 c1 r1 p1 => ?_)⟩
  refine kk av1 m1 H1 σ env cs1 _ c1 (s.mono c.sub e1) (PostE.bindS p1 fun d2 cs2 av2 m2 H2 v2 e2 c2 r2 p2 => ?_)
  split at p2
  · rename_i n
    split at p2
    · rename_i x fs hn
      split at p2
      · rename_i hx
        cases r2 with
        | cell ha =>
          rename_i a
          obtain ⟨Ca, dx, vs, h0, h1, h2⟩ := c2.ok _ _ _ ha hn
          have q := k.at hx.1 h0
          refine ⟨a, Ca, dx, vs, rfl, h1, q.1, q.2, by rw [h2.len]; exact hx.2, ?_⟩
          have e3 : Ext av2 m2 H2 av2 m2 (upd H2 a (.ins Ca dx (putF f v vs))) := Ext.put (List.mem_of_getElem? ha)
          obtain ⟨e4, c4⟩ := c2.put (d := .obj x (putFD f d fs)) ha ⟨Ca, dx, _, h0, upd_same, (h2.put (r1.mono c1.sub e2)).mono c2.sub e3⟩
          exact p2 av2 m2 _ σ e4 c4 ((s.mono c.sub e1).mono c1.sub (e2.trans e4))
      · exact p2.elim
    · exact p2.elim
  · exact p2.elim
end

/-! ### C(..), o.m(..) -/
section
variable {X : Cx} {EX : XK} {pos p apos : Pos} {k : Nat} {f Ca : Addr} {fd : FuncData} {ps : List Str} {F : Fd} {x mt : Str} {e o : Expr} {es : List Expr} {a : Ga}
theorem run_mkG {sp : Sp} {pins : List (Addr × Obj)} {σ : L2.St} {H : Hp} {s : Shared} {Q : VK} {us : List Value} {vs : List V} (M : Mk X.K Ca f) (G : FnG X.prog X.w X.K X.mg X.base k f fd ps sp) (hr : Room (k + 1) X.A) (hq : Quiet X.A) (hb : Binds X.K fd ps [])
    (hx : Passes (L2.CX X.prog X.w) X EX) (I : Inv X pins σ H s) (r : Vals vs us)
    (want : ∀ o dx, H o = none → H dx = none → dx ≠ o → sp (.ref o :: vs) (upd (upd H dx (.own o)) o (.ins Ca dx [])) (fun v H2 => v = .non ∧ Q (.ref o) H2) EX) : wpAny (model X.prog X.w) X.A (call (.ref Ca) us) (EP X pins σ Q) X.xe s := by
  have w := want (s.heap.objs.size + 1) s.heap.objs.size (I.hok.fresh (Nat.le_succ _)) (I.hok.fresh (Nat.le_refl _)) (Nat.ne_of_lt (Nat.lt_succ_self _))
  have I2 := Inv.made (C := Ca) I
  have r2 : Vals (V.ref (s.heap.objs.size + 1) :: vs) (Value.ref (s.heap.objs.size + 1) :: us) := .cons rfl r
  have hl : ((Value.ref (s.heap.objs.size + 1) :: us) ++ []).length = ps.length := by rw [List.append_nil, ← r2.length]; exact G.len _ _ _ _ w
  have b := hb _ (Value.ref (s.heap.objs.size + 1) :: us) I2.kIn hl
  rw [List.append_nil] at b
  have run := G.run (X.A.under (.builtin "type.__call__" ⟨.ref Ca :: us, []⟩)) X.stack _ _ ⟨Value.ref (s.heap.objs.size + 1) :: us, []⟩ _ _ _ EX (hr.make Ca us []) hq (I2.env0.make Ca us []) b r2 w
  refine wpAny_call (make_map (f := f) I.kIn M.makes M.init (beq_iff_eq.mp M.fn) (codeAny_mono run fun out s1 h1 => ?_))
  match out, h1 with
  | .error u, h1 => exact hx pins σ _ _ u s1 I2 h1
  | .ok (.ret u), h1 =>
    obtain ⟨v, H', I3, rv, ev, q3⟩ := I2.after h1
    subst ev
    exact ⟨rv, V.ref (s.heap.objs.size + 1), H', I3, rfl, q3⟩
def tMkG (Ca : Addr) (sp : Sp) (E : XK) (t : TA) : TE := fun σ H Q => t σ H fun vs H1 => ∀ o dx, H1 o = none → H1 dx = none → dx ≠ o → sp (.ref o :: vs) (upd (upd H1 dx (.own o)) o (.ins Ca dx [])) (fun v H2 => v = .non ∧ Q (.ref o) H2) E
theorem pe_mkG {sp : Sp} {t : TA} (M : Mk X.K Ca f) (G : FnG X.prog X.w X.K X.mg X.base k f fd ps sp) (hr : Room (k + 1) X.A) (hq : Quiet X.A) (hg : Gl X x) (hm : X.mg x = some (.ref Ca)) (hb : Binds X.K fd ps []) (hx : Passes (L2.CX X.prog X.w) X EX)
    (ha : PA X (e :: es) t) (hdb : (x == ("__debug__" : Str)) = false := by decide) (he : starEach (e :: es) X.env = (false, eval e X.env) :: starEach es X.env := by rfl) (hpl : (backTo pos (starEach es X.env)).any (·.1) = false := by rfl) :
    PE X (.Call (.Name x p) (e :: es) [] pos) (tMkG Ca sp EX t) := by
  constructor
  intro pins s σ H Q I h
  refine wpAny_Call_Name_kw (ld_glob I hg hm (PySem.W.callWith_K (h₀ := X.base) I.ok.mod.kin M.kp ?_ he hpl) hdb)
  refine thn (ha.run pos pins s σ H _ I h) fun us s1 hh => ?_
  obtain ⟨vs, H1, J, r, q⟩ := hh
  exact ⟨J.kIn, run_mkG M G hr hq hb hx J r q⟩
/-- a class that can be made by a def of the text -/
structure New (P : Program) (w : World) (K : PySem.W.Frag) (mg : Str → Option Value) (base : Heap) (k : Nat) (x : Str) (ps : List Str) (F : Fd) : Prop where
  ex : ∃ (Ca f : Addr) (fd : FuncData), mg x = some (.ref Ca) ∧ Mk K Ca f ∧ FnD P w K mg base k f fd ps F ∧ Binds K fd ps []
def gNew (x : Str) (F : Fd) (ga : Ga) : Gx := fun env cs => (ga env cs).bind fun ds cs => (F (.cell cs.length :: ds) (cs ++ [.obj x []])).bind fun r cs2 => match r with
  | .non => .ok (.cell cs.length) cs2
  | _ => .bad
theorem de_new (c : New X.prog X.w X.K X.mg X.base k x ps F) (hr : Room (k + 1) X.A) (hq : Quiet X.A) (hx : Passes (L2.CX X.prog X.w) X EX) (ha : DA X EX (e :: es) a) (hg : Gl X x := by rfl)
    (hdb : (x == ("__debug__" : Str)) = false := by decide) (he : starEach (e :: es) X.env = (false, eval e X.env) :: starEach es X.env := by rfl) (hpl : (backTo pos (starEach es X.env)).any (·.1) = false := by rfl) :
    DE X EX (.Call (.Name x p) (e :: es) [] pos) (gNew x (argN ps.length F) a) := by
  obtain ⟨Ca, f, fd, hm, M, G, hb⟩ := c.ex
  obtain ⟨t, h, kk⟩ := ha
  refine ⟨_, pe_mkG M G hr hq hg hm hb hx h hdb he hpl, fun av m H σ env cs Q c s p => ?_⟩
  unfold gNew at p
  refine kk av m H σ env cs _ c s (PostA.bindE p fun ds cs1 av1 m1 H1 vs e1 c1 r1 p1 => ?_)
  intro ob dx ho hd ne
  have ext : Ext av1 m1 H1 (av1 ++ [ob]) (m1 ++ [ob]) (upd (upd H1 dx (.own ob)) ob (.ins Ca dx [])) := by
    refine ⟨⟨[ob], rfl, rfl, fun b hb => by rw [List.mem_singleton.mp hb]; exact ho⟩, fun b u hb _ => ?_, fun b hb => ?_, fun b o u hb => by rw [upd_ne (ne_of_none hb ho), upd_ne (ne_of_none hb hd)]; exact hb⟩
    · rw [upd_ne (ne_of_none hb ho), upd_ne (ne_of_none hb hd)]; exact hb
    · by_cases z : b = ob
      · rw [z, upd_same]; simp
      · rw [upd_ne z]
        by_cases y : b = dx
        · rw [y, upd_same]; simp
        · rw [upd_ne y]; exact hb
  have same : ∀ b ∈ m1, (upd (upd H1 dx (.own ob)) ob (.ins Ca dx [])) b = H1 b := fun b hb => by
    have nb := c1.trk b (c1.sub b hb)
    rw [upd_ne fun z => nb (by rw [z]; exact ho), upd_ne fun z => nb (by rw [z]; exact hd)]
  have c2 : RC X.K X.mg (av1 ++ [ob]) (m1 ++ [ob]) (upd (upd H1 dx (.own ob)) ob (.ins Ca dx [])) (cs1 ++ [.obj x []]) :=
    c1.snoc ho ext same (by rw [upd_same]; simp) ⟨Ca, dx, [], hm, upd_same, .nil⟩
  have hat : (m1 ++ [ob])[cs1.length]? = some ob := by rw [← c1.len]; simp
  have rl : RL X.K (av1 ++ [ob]) (m1 ++ [ob]) (upd (upd H1 dx (.own ob)) ob (.ins Ca dx [])) (.ref ob :: vs) (.cell cs1.length :: ds) := .cons (.cell hat) (r1.mono c1.sub ext)
  refine sp_K _ _ _ _ _ _ _ c2 rl ?_
  cases hF : argN ps.length F (.cell cs1.length :: ds) (cs1 ++ [.obj x []]) with
  | bad => rw [hF] at p1; exact p1.elim
  | exc xx fs cs3 => rw [hF] at p1; exact PostX.ext ext p1
  | ok rr cs3 =>
    rw [hF] at p1
    cases rr with
    | non =>
      intro av3 m3 H3 v e3 c3 r3
      cases r3
      exact ⟨rfl, p1 av3 m3 H3 (.ref ob) (ext.trans e3) c3 (.cell (e3.at hat))⟩
    | _ => exact p1.elim
/-- a method of a class -/
structure Mth (P : Program) (w : World) (K : PySem.W.Frag) (mg : Str → Option Value) (base : Heap) (k : Nat) (x mt : Str) (ps : List Str) (F : Fd) : Prop where
  ex : ∃ (Ca f : Addr) (fd : FuncData), mg x = some (.ref Ca) ∧ Cls K Ca ∧ Meth K Ca mt f ∧ FnD P w K mg base k f fd ps F ∧ Binds K fd ps []
theorem Mth.up {P : Program} {w : World} {K : PySem.W.Frag} {mg : Str → Option Value} {base : Heap} {j k : Nat} {x mt : Str} {ps : List Str} {F : Fd} (c : Mth P w K mg base j x mt ps F) (h : j ≤ k) : Mth P w K mg base k x mt ps F :=
  let ⟨Ca, f, fd, a, b, d, G, e⟩ := c.ex; ⟨Ca, f, fd, a, b, d, G.up h, e⟩
theorem New.up {P : Program} {w : World} {K : PySem.W.Frag} {mg : Str → Option Value} {base : Heap} {j k : Nat} {x : Str} {ps : List Str} {F : Fd} (c : New P w K mg base j x ps F) (h : j ≤ k) : New P w K mg base k x ps F :=
  let ⟨Ca, f, fd, a, b, G, e⟩ := c.ex; ⟨Ca, f, fd, a, b, G.up h, e⟩
def tMtG (Ca : Addr) (mt : Str) (sp : Sp) (E : XK) (ta : TE) (t : TA) : TE := fun σ H Q => ta σ H fun x H1 => ∃ b dx fs, x = .ref b ∧ H1 b = some (.ins Ca dx fs) ∧ fs.lookup mt = none ∧ t σ H1 fun vs H2 => sp (x :: vs) H2 Q E
theorem pe_mtG {sp : Sp} {ta : TE} {t : TA} {pl : Sem Bool} (ho : PE X o ta) (c : Cls X.K Ca) (hm : Meth X.K Ca mt f) (G : FnG X.prog X.w X.K X.mg X.base k f fd ps sp) (hr : Room k X.A) (hq : Quiet X.A) (hb : Binds X.K fd ps []) (hx : Passes (L2.CX X.prog X.w) X EX) (ha : PA X (e :: es) t)
    (hst : starEach (e :: es) X.env = (false, eval e X.env) :: starEach es X.env := by rfl) (hpl : (backTo pos (starEach es X.env)).any (·.1) = false := by rfl)
    (ht : eval (.Call (.Attribute o mt apos) (e :: es) [] pos) X.env = (do
      let ov ← eval o X.env
      standAt apos.atName
      let (f, first) ← holding [ov] (getMethod ov mt pl)
      callWith pos f first (backTo pos (starEach (e :: es) X.env)) (backToKw pos (keywordEach [] X.env))) := by rfl) : PE X (.Call (.Attribute o mt apos) (e :: es) [] pos) (tMtG Ca mt sp EX ta t) := by
  refine ⟨fun pins s σ H Q I h => PySem.W.methodCall_KW (pl := pl) (thn (ho.run pins s σ H _ I h) fun u s1 ⟨x, H1, I1, rx, b, dx, fs, ex, eb, nl, q⟩ => ?_) ht⟩
  subst ex
  cases (show u = Value.ref b from rx)
  refine getmeth_ok I1 eb c hm nl (PySem.W.callWith_K (first := [.ref b]) (h₀ := X.base) I.ok.mod.kin hm.kp (thn (ha.run pos pins s1 σ H1 _ I1 q) fun us s2 ⟨vs, H2, J, r, q2⟩ => ⟨J.kIn, ?_⟩) hst hpl)
  have r2 : Vals (V.ref b :: vs) (Value.ref b :: us) := .cons rfl r
  have bb := hb s2 (Value.ref b :: us) J.kIn (by rw [List.append_nil, ← r2.length]; exact G.len _ _ _ _ q2)
  rw [List.append_nil] at bb
  exact run_fng G hr hq bb hx J r2 q2
def gMth (x mt : Str) (F : Fd) (go : Gx) (ga : Ga) : Gx := fun env cs => (go env cs).bind fun ob cs => match ob with
  | .cell n => match cs[n]? with
    | some (.obj y fs) => if y = x ∧ fs.lookup mt = none then (ga env cs).bind fun ds cs => F (.cell n :: ds) cs else .bad
    | _ => .bad
  | _ => .bad
theorem de_mth {go : Gx} {pl : Sem Bool} (c : Mth X.prog X.w X.K X.mg X.base k x mt ps F) (hr : Room k X.A) (hq : Quiet X.A) (hx : Passes (L2.CX X.prog X.w) X EX) (ho : DE X EX o go) (ha : DA X EX (e :: es) a)
    (hst : starEach (e :: es) X.env = (false, eval e X.env) :: starEach es X.env := by rfl) (hpl : (backTo pos (starEach es X.env)).any (·.1) = false := by rfl)
    (ht : eval (.Call (.Attribute o mt apos) (e :: es) [] pos) X.env = (do
      let ov ← eval o X.env
      standAt apos.atName
      let (f, first) ← holding [ov] (getMethod ov mt pl)
      callWith pos f first (backTo pos (starEach (e :: es) X.env)) (backToKw pos (keywordEach [] X.env))) := by rfl) : DE X EX (.Call (.Attribute o mt apos) (e :: es) [] pos) (gMth x mt (argN ps.length F) go a) := by
  obtain ⟨Ca, f, fd, hm, cl, me, G, hb⟩ := c.ex
  obtain ⟨to, h, kk⟩ := ho
  obtain ⟨t, h', k'⟩ := ha
  refine ⟨_, pe_mtG (pl := pl) h cl me G hr hq hb hx h' hst hpl ht, fun av m H σ env cs Q rc s p => ?_⟩
  unfold gMth at p
  refine kk av m H σ env cs _ rc s (PostE.bind p fun d cs1 av1 m1 H1 v e1 c1 r1 p1 => ?_)
  split at p1
  · rename_i n
    split at p1
    · rename_i y fs hn
      split at p1
      · rename_i hy
        obtain ⟨rfl, hl⟩ := hy
        cases r1 with
        | cell hat =>
          obtain ⟨Cb, dx, vs, h0, h1, h2⟩ := c1.ok _ _ _ hat hn
          rw [hm] at h0
          cases h0
          refine ⟨_, dx, vs, rfl, h1, h2.none hl, k' av1 m1 H1 σ env cs1 _ c1 (s.mono rc.sub e1) (PostA.bindE p1 fun ds cs2 av2 m2 H2 ws e2 c2 r2 p2 => ?_)⟩
          exact sp_K _ _ _ _ _ _ _ c2 (.cons (.cell (e2.at hat)) r2) p2
      · exact p1.elim
    · exact p1.elim
  · exact p1.elim
end
end Dm
set_option linter.all false
set_option maxRecDepth 100000
set_option maxHeartbeats 2000000
/-! Dm: dicts that are cells, sorted numbers, while, augmented names. -/
namespace Dm
open PySem PySem.Spec L2
section
variable {K : PySem.W.Frag} {mg : Str → Option Value} {av m : List Addr} {H : Hp} {cs : List C}
def valD (ds : List (Key × D)) (k : Key) : Option D := (ds.find? fun kd => decide (kd.1 = k)).map (·.2)
def putKD (ds : List (Key × D)) (k : Key) (d : D) : List (Key × D) := if (ds.any fun kd => decide (kd.1 = k)) = true then ds.map (fun kd => if kd.1 = k then (kd.1, d) else kd) else ds ++ [(k, d)]
theorem RK.val (k : Key) : ∀ {vs : List (Key × V)} {ds : List (Key × D)}, RK K av m H vs ds → (∀ d, valD ds k = some d → ∃ v, valV vs k = some v ∧ R K av m H v d) ∧ (valD ds k = none → valV vs k = none)
  | _, _, .nil => ⟨fun d h => by simp [valD] at h, fun _ => rfl⟩
  | _, _, .cons (k := j) (v := v) (d := e) r t => by
    obtain ⟨h1, h2⟩ := RK.val k t
    by_cases q : j = k
    · refine ⟨fun d h => ⟨v, valV_pos (p := (j, v)) q, ?_⟩, fun h => ?_⟩
      · have : ∀ l, valD ((j, e) :: l) k = some e := fun l => by simp [valD, List.find?_cons, q]
        rw [this] at h
        cases h
        exact r
      · have : ∀ l, valD ((j, e) :: l) k = some e := fun l => by simp [valD, List.find?_cons, q]
        rw [this] at h
        cases h
    · have un : ∀ l, valD ((j, e) :: l) k = valD l k := fun l => by simp [valD, List.find?_cons, q]
      refine ⟨fun d h => ?_, fun h => ?_⟩
      · rw [un] at h
        obtain ⟨u, a, b⟩ := h1 d h
        exact ⟨u, (valV_neg (p := (j, v)) q).trans a, b⟩
      · rw [un] at h
        exact (valV_neg (p := (j, v)) q).trans (h2 h)
theorem RK.any (k : Key) : ∀ {vs : List (Key × V)} {ds : List (Key × D)}, RK K av m H vs ds → (vs.any fun kv => decide (kv.1 = k)) = (ds.any fun kd => decide (kd.1 = k))
  | _, _, .nil => rfl
  | _, _, .cons _ t => by rw [List.any_cons, List.any_cons, RK.any k t]
theorem RK.len : ∀ {vs : List (Key × V)} {ds : List (Key × D)}, RK K av m H vs ds → vs.length = ds.length
  | _, _, .nil => rfl
  | _, _, .cons _ t => by rw [List.length_cons, List.length_cons, t.len]
theorem RK.mapAt {k : Key} {v : V} {d : D} (rv : R K av m H v d) : ∀ {vs : List (Key × V)} {ds : List (Key × D)}, RK K av m H vs ds → RK K av m H (vs.map fun kv => if kv.1 = k then (kv.1, v) else kv) (ds.map fun kd => if kd.1 = k then (kd.1, d) else kd)
  | _, _, .nil => .nil
  | _, _, .cons (k := j) r t => by
    rw [List.map_cons, List.map_cons]
    by_cases q : j = k
    · simp only [q, if_true]; exact .cons rv (RK.mapAt rv t)
    · simp only [q, if_false]; exact .cons r (RK.mapAt rv t)
theorem RK.snoc {k : Key} {v : V} {d : D} (rv : R K av m H v d) : ∀ {vs : List (Key × V)} {ds : List (Key × D)}, RK K av m H vs ds → RK K av m H (vs ++ [(k, v)]) (ds ++ [(k, d)])
  | _, _, .nil => .cons rv .nil
  | _, _, .cons r t => .cons r (RK.snoc rv t)
theorem RK.put {k : Key} {v : V} {d : D} (rv : R K av m H v d) {vs : List (Key × V)} {ds : List (Key × D)} (r : RK K av m H vs ds) : RK K av m H (putK vs k v) (putKD ds k d) := by
  unfold putK putKD
  rw [RK.any k r]
  split
  · exact RK.mapAt rv r
  · exact RK.snoc rv r
end
def keyD : D → Option Key
  | .int i => some (.inl i)
  | .str x => some (.inr x)
  | _ => none
theorem keyD_ok {K : PySem.W.Frag} {av m : List Addr} {H : Hp} {v : V} {d : D} {k : Key} (r : R K av m H v d) (h : keyD d = some k) : v = kV k := by
  cases r with
  | int i => cases h; rfl
  | str x => cases h; rfl
  | _ => cases h
section
variable {X : Cx} {EX : XK} {pos pos' apos cpos : Pos}
/-- {} as a cell -/
def gDictC : Gx := fun _ cs => .ok (.cell cs.length) (cs ++ [.dct []])
theorem de_dictC : DE X EX (.Dict [] [] pos) gDictC := ⟨_, pe_dnewK, fun av m H σ env cs Q c s p d hd => by
  have e : Ext av m H (av ++ [d]) (m ++ [d]) (upd H d (.dK [])) := ⟨⟨[d], rfl, rfl, fun a h => by rw [List.mem_singleton.mp h]; exact hd⟩, (Ext.fresh (av := av) (m := m) hd).keep, (Ext.fresh (av := av) (m := m) hd).there, (Ext.fresh (av := av) (m := m) hd).fz⟩
  obtain ⟨e2, c2⟩ := c.cell hd (d := .dct []) ⟨[], upd_same, .nil⟩
  refine p _ _ _ _ e2 c2 (.cell ?_)
  rw [← c.len, List.getElem?_append_right (Nat.le_refl _)]
  simp⟩
/-- d.get(k, e) -/
def gDGet (go gk ge : Gx) : Gx := fun env cs => (go env cs).bind fun o cs => match o with
  | .cell n => match cs[n]? with
    | some (.dct _) => (gk env cs).bind fun y cs => (ge env cs).bind fun z cs => match keyD y, cs[n]? with
      | some k, some (.dct ds) => .ok ((valD ds k).getD z) cs
      | _, _ => .bad
    | _ => .bad
  | _ => .bad
theorem de_dget {o e f : Expr} {go gk ge : Gx} {kr : Nat} (hr : Room kr X.A) (ho : DE X EX o go) (hk : DE X EX e gk) (hf : DE X EX f ge) (mm : M2 X o "get" apos e f cpos := by exact ⟨rfl, rfl, rfl, rfl⟩) : DE X EX (.Call (.Attribute o "get" apos) [e, f] [] cpos) (gDGet go gk ge) := by
  obtain ⟨t1, h1, k1⟩ := ho
  obtain ⟨t2, h2, k2⟩ := hk
  obtain ⟨t3, h3, k3⟩ := hf
  refine ⟨_, pe_dget2 (by have := hr.units; omega) h1 h2 h3 mm, fun av m H σ env cs Q c s p => k1 av m H σ env cs _ c s (PostE.bind p fun d cs1 av1 m1 H1 v e1 c1 r1 p1 => ?_)⟩
  split at p1
  · rename_i n
    split at p1
    · rename_i ds0 hn
      cases r1 with
      | cell hat =>
        rename_i a
        obtain ⟨xs0, q0, _⟩ := c1.ok _ _ _ hat hn
        refine ⟨a, rfl, .inl ⟨xs0, .inl q0⟩, k2 av1 m1 H1 σ env cs1 _ c1 (s.mono c.sub e1) (PostE.bind p1 fun y cs2 av2 m2 H2 vy e2 c2 r2 p2 => ?_)⟩
        refine k3 av2 m2 H2 σ env cs2 _ c2 ((s.mono c.sub e1).mono c1.sub e2) (PostE.bind p2 fun z cs3 av3 m3 H3 vz e3 c3 r3 p3 => ?_)
        split at p3
        · rename_i k ds hk hn3
          obtain ⟨xs, q, l⟩ := c3.ok _ _ _ ((e2.trans e3).at hat) hn3
          have ey := keyD_ok (r2.mono c2.sub e3) hk
          obtain ⟨l1, l2⟩ := RK.val k l
          refine ⟨valV xs k, .inl ⟨xs, k, .inl q, ey, rfl⟩, ?_⟩
          cases hv : valD ds k with
          | none =>
            rw [hv] at p3
            rw [l2 hv]
            exact p3 av3 m3 H3 vz (Ext.refl ..) c3 r3
          | some dd =>
            rw [hv] at p3
            obtain ⟨u, hu, ru⟩ := l1 dd hv
            rw [hu]
            exact p3 av3 m3 H3 u (Ext.refl ..) c3 ru
        · exact p3.elim
    · exact p1.elim
  · exact p1.elim
/-- d[k], the key there -/
def gDIx (go gk : Gx) : Gx := fun env cs => (go env cs).bind fun o cs => (gk env cs).bind fun y cs => match o, keyD y with
  | .cell n, some k => match cs[n]? with
    | some (.dct ds) => match valD ds k with
      | some d => .ok d cs
      | none => .bad
    | _ => .bad
  | _, _ => .bad
theorem de_dix {o i : Expr} {go gk : Gx} {kr : Nat} (hr : Room kr X.A) (ho : DE X EX o go) (hk : DE X EX i gk) (hs : NoSl i := by intro _ _; rfl) : DE X EX (.Subscript o i pos) (gDIx go gk) := by
  obtain ⟨t1, h1, k1⟩ := ho
  obtain ⟨t2, h2, k2⟩ := hk
  refine ⟨_, pe_dget (by have := hr.units; omega) h1 h2 hs, fun av m H σ env cs Q c s p => k1 av m H σ env cs _ c s (PostE.bind p fun d cs1 av1 m1 H1 v e1 c1 r1 p1 => ?_)⟩
  refine k2 av1 m1 H1 σ env cs1 _ c1 (s.mono c.sub e1) (PostE.bind p1 fun y cs2 av2 m2 H2 vy e2 c2 r2 p2 => ?_)
  split at p2
  · rename_i n k hk
    split at p2
    · rename_i ds hn
      split at p2
      · rename_i dd hv
        cases r1 with
        | cell hat =>
          rename_i a
          obtain ⟨xs, q, l⟩ := c2.ok _ _ _ (e2.at hat) hn
          have ey := keyD_ok r2 hk
          obtain ⟨u, hu, ru⟩ := (RK.val k l).1 dd hv
          exact ⟨a, u, rfl, .inl ⟨xs, k, .inl q, ey, hu.symm⟩, p2 av2 m2 H2 u (Ext.refl ..) c2 ru⟩
      · exact p2.elim
    · exact p2.elim
  · exact p2.elim
/-- d[k] = e -/
def sDPutD (go gk ge : Gx) : Gs := fun env cs => (ge env cs).bind fun d cs => (go env cs).bind fun o cs => (gk env cs).bind fun y cs => match o, keyD y with
  | .cell n, some k => match cs[n]? with
    | some (.dct ds) => if ds.length < sizeLine then .ok ⟨.nx, env⟩ (cs.set n (.dct (putKD ds k d))) else .bad
    | _ => .bad
  | _, _ => .bad
theorem ds_dput {o i e : Expr} {go gk ge : Gx} {kr : Nat} (hr : Room kr X.A) (ho : DE X EX o go) (hk : DE X EX i gk) (he : DE X EX e ge) (hs : swapsWith e (some (.Subscript o i pos')) pos.line X.env = pure false := by rfl) :
    DS X EX (.Assign [.Subscript o i pos'] e pos) (sDPutD go gk ge) := by
  obtain ⟨t1, h1, k1⟩ := ho
  obtain ⟨t2, h2, k2⟩ := hk
  obtain ⟨t3, h3, k3⟩ := he
  refine ⟨_, ps_dput (by have := hr.units; omega) h1 h2 h3 hs, fun av m H σ env cs Dn c s p => k3 av m H σ env cs _ c s (PostE.bindS p fun d cs1 av1 m1 H1 v e1 c1 r1 p1 => ?_)⟩
  have s1 := s.mono c.sub e1
  refine k1 av1 m1 H1 σ env cs1 _ c1 s1 (PostE.bindS p1 fun o cs2 av2 m2 H2 vo e2 c2 r2 p2 => ?_)
  have s2 := s1.mono c1.sub e2
  refine k2 av2 m2 H2 σ env cs2 _ c2 s2 (PostE.bindS p2 fun y cs3 av3 m3 H3 vy e3 c3 r3 p3 => ?_)
  have s3 := s2.mono c2.sub e3
  split at p3
  · rename_i n k hk
    split at p3
    · rename_i ds hn
      split at p3
      · rename_i hl
        cases r2 with
        | cell hat =>
          rename_i a
          have hat3 := e3.at hat
          obtain ⟨xs, q, l⟩ := c3.ok _ _ _ hat3 hn
          have ey := keyD_ok r3 hk
          have rv := (r1.mono c1.sub e2).mono c2.sub e3
          refine ⟨a, _, rfl, .inl ⟨xs, k, q, ey, by rw [l.len]; exact hl, rfl⟩, ?_⟩
          have e4 : Ext av3 m3 H3 av3 m3 (upd H3 a (.dK (putK xs k v))) := Ext.put (List.mem_of_getElem? hat3)
          obtain ⟨e5, c5⟩ := c3.put (d := .dct (putKD ds k d)) hat3 ⟨_, upd_same, (l.put rv).mono c3.sub e4⟩
          exact p3 av3 m3 _ σ e5 c5 (s3.mono c3.sub e5)
      · exact p3.elim
    · exact p3.elim
  · exact p3.elim
end
end Dm
set_option linter.all false
set_option maxRecDepth 100000
set_option maxHeartbeats 2000000
/-! Dm: sorted numbers, all, augmented names, while. -/
namespace Dm
open PySem PySem.Spec L2
def intsOf : List D → Option (List Int)
  | [] => some []
  | .int i :: r => (intsOf r).map (i :: ·)
  | _ => none
theorem intsOf_ok {K : PySem.W.Frag} {av m : List Addr} {H : Hp} : ∀ {vs : List V} {ds : List D} {ns : List Int}, RL K av m H vs ds → intsOf ds = some ns → vs = ns.map V.int
  | _, _, _, .nil, h => by cases h; rfl
  | _, _, ns, .cons r t, h => by
    cases r with
    | int i =>
      unfold intsOf at h
      obtain ⟨l, h1, h2⟩ := Option.map_eq_some_iff.mp h
      subst h2
      rw [List.map_cons, intsOf_ok t h1]
    | _ => simp [intsOf] at h
theorem intsRL {K : PySem.W.Frag} {av m : List Addr} {H : Hp} : ∀ ns : List Int, RL K av m H (ns.map V.int) (ns.map D.int)
  | [] => .nil
  | n :: ns => .cons (.int n) (intsRL ns)
def sortI (ns : List Int) : List Int := ns.mergeSort fun a b => decide (a ≤ b)
theorem sortI_perm (ns : List Int) : (sortI ns).Perm ns := List.mergeSort_perm _ _
theorem sortI_le (ns : List Int) : (sortI ns).Pairwise (· ≤ ·) := by
  have h := List.pairwise_mergeSort (le := fun a b : Int => decide (a ≤ b)) (fun a b c h1 h2 => by simp only [decide_eq_true_eq] at *; omega) (fun a b => by simp only [Bool.or_eq_true, decide_eq_true_eq]; omega) ns
  exact h.imp fun h => by simpa using h
theorem sort_one {a b : List Int} (h : a.Perm b) (ha : a.Pairwise (· ≤ ·)) (hb : b.Pairwise (· ≤ ·)) : a = b := List.Perm.eq_of_pairwise (fun x y _ _ h1 h2 => by omega) ha hb h
/-- sorted(xs), xs a list of numbers -/
def sortedD : List D → List C → Out D
  | [d], cs => match asL cs d with
    | some xs => match intsOf xs with
      | some ns => .ok (.lst ((sortI ns).map D.int)) cs
      | none => .bad
    | none => .bad
  | _, _ => .bad
section
variable {X : Cx} {EX : XK} {K : PySem.W.Frag} {mg : Str → Option Value} {pos p : Pos} {e : Expr} {a : Ga}
theorem cd_sorted : CallD K mg EX (rSortedI K) sortedD := by
  intro av m H cs xs ds Q c r q
  unfold sortedD at q
  split at q
  · cases r with
    | cons r t =>
      cases t
      split at q
      · rename_i ys hy
        split at q
        · rename_i ns hn
          obtain ⟨b, vs, rfl, hs, l⟩ := asL_ok c r hy
          refine ⟨b, ns, rfl, by rw [← intsOf_ok l hn]; exact hs, fun ns' p hp hw h0 => ?_⟩
          have : ns' = sortI ns := sort_one (hp.trans (sortI_perm ns).symm) hw (sortI_le ns)
          subst this
          exact q.newL c h0 (intsRL _)
        · exact q.elim
      · exact q.elim
  · exact q.elim
theorem de_sorted (ha : DA X EX [e] a) (hm : X.mg "sorted" = none) (hg : Gl X "sorted" := by rfl) (he : starEach [e] X.env = (false, eval e X.env) :: starEach [] X.env := by rfl) (hpl : (backTo pos (starEach [] X.env)).any (·.1) = false := by rfl) : DE X EX (.Call (.Name "sorted" p) [e] [] pos) (gA sortedD a) :=
  de_callB cr_sortedI cd_sorted hg hm (by decide +kernel) ha (by decide) (by decide) he hpl
def boolsOf : List D → Option (List Bool)
  | [] => some []
  | .bl i :: r => (boolsOf r).map (i :: ·)
  | _ => none
theorem boolsOf_ok {av m : List Addr} {H : Hp} : ∀ {vs : List V} {ds : List D} {ns : List Bool}, RL K av m H vs ds → boolsOf ds = some ns → vs = ns.map V.bl
  | _, _, _, .nil, h => by cases h; rfl
  | _, _, ns, .cons r t, h => by
    cases r with
    | bl i =>
      unfold boolsOf at h
      obtain ⟨l, h1, h2⟩ := Option.map_eq_some_iff.mp h
      subst h2
      rw [List.map_cons, boolsOf_ok t h1]
    | _ => simp [boolsOf] at h
/-- all(xs), xs a list of truth values -/
def allD : List D → List C → Out D
  | [d], cs => match asL cs d with
    | some xs => match boolsOf xs with
      | some bs => .ok (.bl (bs.all id)) cs
      | none => .bad
    | none => .bad
  | _, _ => .bad
theorem cd_all : CallD K mg EX (rAll K) allD := by
  intro av m H cs xs ds Q c r q
  unfold allD at q
  split at q
  · cases r with
    | cons r t =>
      cases t
      split at q
      · rename_i ys hy
        split at q
        · rename_i ns hn
          obtain ⟨b, vs, rfl, hs, l⟩ := asL_ok c r hy
          exact ⟨b, ns, rfl, by rw [← boolsOf_ok l hn]; exact hs, q.here c (.bl _)⟩
        · exact q.elim
      · exact q.elim
  · exact q.elim
theorem de_all (hc : X.calm = true) (ha : DA X EX [e] a) (hm : X.mg "all" = none) (hg : Gl X "all" := by rfl) (he : starEach [e] X.env = (false, eval e X.env) :: starEach [] X.env := by rfl) (hpl : (backTo pos (starEach [] X.env)).any (·.1) = false := by rfl) : DE X EX (.Call (.Name "all" p) [e] [] pos) (gA allD a) :=
  de_callB (cr_all hc) cd_all hg hm (by decide +kernel) ha (by decide) (by decide) he hpl
/-- x op= e, numbers -/
def sAug (f : Int → Int → Int) (i : Nat) (ge : Gx) : Gs := fun env cs => match env[i]? with
  | some (some (.int x)) => (ge env cs).bind fun y cs => match y with
    | .int y => .ok ⟨.nx, env.set i (some (.int (f x y)))⟩ cs
    | _ => .bad
  | _ => .bad
theorem ds_aug {op : Operator} {f : Int → Int → Int} (ho : PIp X op (ipI f)) (i : Nat) {x : Str} {ge : Gx} {pos' : Pos} (hN : X.N.Nodup) (he : DE X EX e ge) (hi : X.N[i]? = some x := by rfl) (hx : Loc X.env.scope x := by first | exact Or.inl rfl | exact Or.inr rfl)
    (hf : X.fn x = true ∨ X.env.scope.names.lookup x = some .local := by first | exact .inl rfl | exact .inr rfl) : DS X EX (.AugAssign (.Name x pos') op e pos) (sAug f i ge) := by
  obtain ⟨t, h, k⟩ := he
  refine ⟨_, ps_aug hN hi hx h ho hf, fun av m H σ env cs Dn c s p => ?_⟩
  unfold sAug at p
  split at p
  · rename_i z hz
    obtain ⟨v, h1, h2⟩ := s.2 i _ hz
    refine ⟨v, h1, k av m H σ env cs _ c s (PostE.bindS p fun d cs1 av1 m1 H1 w e1 c1 r1 p1 => ?_)⟩
    split at p1
    · cases h2
      cases r1
      exact ⟨_, _, rfl, rfl, p1 av1 m1 H1 _ (Ext.refl ..) c1 ((s.mono c.sub e1).set (.int _))⟩
    · exact p1.elim
  · exact p.elim
/-- while, at most so many turns -/
def whileD (t : Gt) (b : Gs) : Nat → Gs
  | 0, _, _ => .bad
  | n + 1, env, cs => (t env cs).bind fun x cs => if x then (match b env cs with
    | .ok ⟨.nx, e⟩ c => whileD t b n e c
    | .ok ⟨.ct, e⟩ c => whileD t b n e c
    | .ok ⟨.bk, e⟩ c => .ok ⟨.nx, e⟩ c
    | .ok ⟨.rt v, e⟩ c => .ok ⟨.rt v, e⟩ c
    | .exc x fs c => .exc x fs c
    | .bad => .bad) else .ok ⟨.nx, env⟩ cs
theorem ds_while (fuel : Nat) {c0 : Expr} {body : List Stmt} {gt : Gt} {gb : Gs} (hp : PassesOwn (model X.prog X.w) X.A X.env X.xe) (ht : DT X EX c0 gt) (hb : DSs X EX body gb) : DS X EX (.While c0 body [] pos) (whileD gt gb fuel) := by
  obtain ⟨tt, h1, k1⟩ := ht
  obtain ⟨tb, h2, k2⟩ := hb
  refine ⟨_, ps_while hp h1 h2, fun av m H σ env cs Dn c s p => ?_⟩
  refine ⟨fun n σ' H' => ∃ av2 m2 env2 cs2, Ext av m H av2 m2 H' ∧ RC X.K X.mg av2 m2 H' cs2 ∧ RS X.K av2 m2 H' σ' env2 ∧ PostS X.K X.mg av2 m2 H' EX Dn (whileD gt gb n env2 cs2), ⟨fuel, av, m, env, cs, Ext.refl .., c, s, p⟩, ?_⟩
  rintro n σ' H' ⟨av2, m2, env2, cs2, e2, c2, s2, p2⟩
  cases n with
  | zero => exact p2.elim
  | succ n =>
    unfold whileD at p2
    refine k1 av2 m2 H' σ' env2 cs2 _ c2 s2 (PostT.bindS p2 fun b cs3 av3 m3 H3 e3 c3 p3 => ?_)
    have s3 := s2.mono c2.sub e3
    cases b with
    | false =>
      rw [if_neg Bool.false_ne_true] at p3 ⊢
      exact p3 av3 m3 H3 σ' (Ext.refl ..) c3 s3
    | true =>
      rw [if_pos rfl] at p3 ⊢
      refine ⟨fun σ4 H4 => ∃ n', n' < n + 1 ∧ ∃ av2 m2 env2 cs2, Ext av m H av2 m2 H4 ∧ RC X.K X.mg av2 m2 H4 cs2 ∧ RS X.K av2 m2 H4 σ4 env2 ∧ PostS X.K X.mg av2 m2 H4 EX Dn (whileD gt gb n' env2 cs2), fun _ _ h => h, ?_⟩
      refine k2 av3 m3 H3 σ' env2 cs3 _ c3 s3 ?_
      have again : ∀ {e : Env'} {c : List C}, PostS X.K X.mg av3 m3 H3 EX Dn (whileD gt gb n e c) → ∀ (av' m' : List Addr) (H' : Hp) (σ' : L2.St), Ext av3 m3 H3 av' m' H' → RC X.K X.mg av' m' H' c → RS X.K av' m' H' σ' e →
          ∃ n', n' < n + 1 ∧ ∃ av2 m2 env2 cs2, Ext av m H av2 m2 H' ∧ RC X.K X.mg av2 m2 H' cs2 ∧ RS X.K av2 m2 H' σ' env2 ∧ PostS X.K X.mg av2 m2 H' EX Dn (whileD gt gb n' env2 cs2) :=
        fun q av' m' H' σ' e5 c5 s5 => ⟨n, Nat.lt_succ_self n, av', m', _, _, (e2.trans e3).trans e5, c5, s5, PostS.ext e5 q⟩
      split at p3
      · rename_i e; rw [e]; exact again p3
      · rename_i e; rw [e]; exact again p3
      · rename_i e; rw [e]; exact p3
      · rename_i e; rw [e]; exact p3
      · rename_i e; rw [e]; exact p3
      · exact p3.elim
end
end Dm
set_option linter.all false
set_option maxRecDepth 100000
set_option maxHeartbeats 2000000
/-! Dm: calls whose arguments are read out of the cells (the callee changes none of them); the returned list is one of numbers, texts or the like. -/
namespace Dm
open PySem PySem.Spec L2
section
variable {K : PySem.W.Frag} {mg : Str → Option Value} {av m : List Addr} {H : Hp} {cs : List C}
theorem mapM_RL {g : D → Option D} {av2 m2 : List Addr} : ∀ {vs : List V} {ds es : List D}, RL K av m H vs ds → ds.mapM g = some es → (∀ v d e, R K av m H v d → g d = some e → R K av2 m2 H v e) → RL K av2 m2 H vs es
  | _, _, es, .nil, h, _ => by
    rw [List.mapM_nil] at h
    cases h
    exact .nil
  | _, _, es, .cons (d := d) (ds := ds) r t, h, k => by
    rw [List.mapM_cons] at h
    cases h1 : g d with
    | none => rw [h1] at h; cases h
    | some e =>
      rw [h1] at h
      cases h2 : ds.mapM g with
      | none => rw [h2] at h; cases h
      | some es2 =>
        rw [h2] at h
        cases h
        exact .cons (k _ _ _ r h1) (mapM_RL t h2 k)
theorem thaw_ok (c : RC K mg av m H cs) : ∀ (n : Nat) (v : V) (d e : D), R K av m H v d → thaw cs n d = some e → R K [] [] H v e
  | 0, _, _, _, _, h => by simp [thaw] at h
  | n + 1, v, d, e, r, h => by
    have ih := thaw_ok c n
    have lists : ∀ {xs : List V} {ds es : List D}, RL K av m H xs ds → ds.mapM (thaw cs n) = some es → RL K [] [] H xs es := fun l h => mapM_RL l h ih
    cases r with
    | non => simp [thaw] at h; subst h; exact .non
    | bl b => simp [thaw] at h; subst h; exact .bl b
    | int i => simp [thaw] at h; subst h; exact .int i
    | str x => simp [thaw] at h; subst h; exact .str x
    | ty x => simp [thaw] at h; subst h; exact .ty x
    | ptr h1 => simp [thaw] at h; subst h; exact .ptr fun d fs q => ⟨(h1 d fs q).1, by simp⟩
    | tup h1 h2 l =>
      simp only [thaw] at h
      obtain ⟨es, h3, rfl⟩ := Option.map_eq_some_iff.mp h
      exact .tup h1 (by simp) (lists l h3)
    | tupK h1 l =>
      simp only [thaw] at h
      obtain ⟨es, h3, rfl⟩ := Option.map_eq_some_iff.mp h
      exact .tupK h1 (lists l h3)
    | lst h1 h2 l =>
      simp only [thaw] at h
      obtain ⟨es, h3, rfl⟩ := Option.map_eq_some_iff.mp h
      exact .lst h1 (by simp) (lists l h3)
    | fro h1 l =>
      simp only [thaw] at h
      obtain ⟨es, h3, rfl⟩ := Option.map_eq_some_iff.mp h
      exact .fro (h1.imp (fun z => ⟨z.1, by simp⟩) id) (lists l h3)
    | dct h1 h2 l =>
      cases l with
      | nil => simp [thaw] at h; subst h; exact .dct h1 (by simp) .nil
      | cons _ _ => simp [thaw] at h
    | @cell k a ha =>
      simp only [thaw] at h
      cases hk : cs[k]? with
      | none => rw [hk] at h; cases h
      | some u =>
        rw [hk] at h
        cases u with
        | lst xs =>
          obtain ⟨es, h3, rfl⟩ := Option.map_eq_some_iff.mp h
          obtain ⟨us, q, l⟩ := c.ok k a _ ha hk
          exact .lst q (by simp) (lists l h3)
        | _ => cases h
theorem R.flat2 {av2 m2 : List Addr} {H2 : Hp} {v : V} {d : D} (r : R K av m H v d) (h : flatD d = true) : R K av2 m2 H2 v d := by
  cases r with
  | non => exact .non
  | bl b => exact .bl b
  | int i => exact .int i
  | str x => exact .str x
  | _ => simp [flatD] at h
theorem RL.flat2 {av2 m2 : List Addr} {H2 : Hp} : ∀ {vs : List V} {ds : List D}, RL K av m H vs ds → ds.all flatD = true → RL K av2 m2 H2 vs ds
  | _, _, .nil, _ => .nil
  | _, _, .cons r t, h => by
    rw [List.all_cons, Bool.and_eq_true] at h
    exact .cons (r.flat2 h.1) (t.flat2 h.2)
def toZ (cs : List C) : Out D → Out D
  | .ok (.cell k) cs' => match cs'[k]? with
    | some (.lst xs) => if xs.all flatD then .ok (.cell cs.length) (cs ++ [.lst xs]) else .bad
    | _ => .bad
  | .ok d _ => if flatD d then .ok d cs else .bad
  | _ => .bad
/-- the callee sees the cells' contents as values -/
def callZ (F : Fd) : Fd := fun ds cs => match ds.mapM (thaw cs 9) with
  | some es => toZ cs (F es [])
  | none => .bad
variable {F : Fd} {EX : XK}
theorem Ext.of_none {av' m' : List Addr} {H' : Hp} (e : Ext [] [] H av' m' H') : Ext av m H av m H' := ⟨⟨[], by simp, by simp, fun _ h => nomatch h⟩, fun b o h _ => e.keep b o h (by simp), fun b h => e.there b h, e.fz⟩
theorem sp_Z {n : Nat} : ∀ av m H cs vs ds Q, RC K mg av m H cs → RL K av m H vs ds → PostE K mg av m H EX Q (argN n (callZ F) ds cs) → spG K mg n F vs H Q EX := fun av m H cs vs ds Q c l p => by
  unfold argN at p
  split at p
  · rename_i hn
    unfold callZ at p
    split at p
    · rename_i es hes
      have l2 : RL K [] [] H vs es := mapM_RL l hes (thaw_ok c 9)
      have c0 : RC K mg [] [] H [] := ⟨fun _ h => (nomatch h), fun _ h => (nomatch h), rfl, List.nodup_nil, fun n a d h1 _ => (nomatch h1)⟩
      refine ⟨[], [], es, [], c0, l2, by rw [← l2.length, l.length]; exact hn, ?_⟩
      unfold toZ at p
      split at p
      · rename_i k cs' e
        rw [e]
        split at p
        · rename_i xs hx
          split at p
          · rename_i hf
            intro av2 m2 H2 v e2 c2 r2
            cases r2 with
            | @cell _ a hk =>
              obtain ⟨us, q, lx⟩ := c2.ok k a _ hk hx
              obtain ⟨nw, e3, e4, f⟩ := id e2.new
              have am : a ∈ nw := by have := List.mem_of_getElem? hk; rw [e4] at this; simpa using this
              have fa : H a = none := f a am
              have e5 : Ext av m H (av ++ [a]) (m ++ [a]) H2 := ⟨⟨[a], rfl, rfl, fun b z => by rw [List.mem_singleton.mp z]; exact fa⟩, fun b o h _ => e2.keep b o h (by simp), fun b h => e2.there b h, e2.fz⟩
              have same : ∀ b ∈ m, H2 b = H b := fun b hb => by
                cases z : H b with
                | none => exact absurd z (c.trk b (c.sub b hb))
                | some o => exact e2.keep b o z (by simp)
              refine p _ _ _ _ e5 (c.snoc fa e5 same (by rw [q]; simp) ⟨us, q, lx.flat2 hf⟩) (.cell ?_)
              rw [← c.len, List.getElem?_append_right (Nat.le_refl _)]
              simp
          · exact p.elim
        · exact p.elim
      · rename_i d cs' _ e
        rw [e]
        split at p
        · rename_i hf
          intro av2 m2 H2 v e2 c2 r2
          have e5 : Ext av m H av m H2 := Ext.of_none e2
          have same : ∀ b ∈ m, H2 b = H b := fun b hb => by
            cases z : H b with
            | none => exact absurd z (c.trk b (c.sub b hb))
            | some o => exact e2.keep b o z (by simp)
          exact p av m H2 v e5 (c.ext e5 same) (r2.flat2 hf)
        · exact p.elim
      · exact p.elim
    · exact p.elim
  · exact p.elim
end
section
variable {X : Cx} {EX : XK} {k j : Nat} {x qual : Str} {st : Stmt} {ps ks : List Str} {F : Fd} {p pos : Pos} {e : Expr} {es : List Expr} {a r : Ga} {kws : List Keyword} {n m : Nat}
variable (c : Cal X.prog X.w X.K X.mg X.base k x qual st ps F) (hr : Room k X.A) (hq : Quiet X.A) (hx : Passes (L2.CX X.prog X.w) X EX)
include c hr hq hx
theorem de_calZ (ha : DA X EX (e :: es) a) (hg : Gl X x := by rfl) (hdb : (x == ("__debug__" : Str)) = false := by decide) (he : starEach (e :: es) X.env = (false, eval e X.env) :: starEach es X.env := by rfl) (hpl : (backTo pos (starEach es X.env)).any (·.1) = false := by rfl) :
    DE X EX (.Call (.Name x p) (e :: es) [] pos) (gA (argN ps.length (callZ F)) a) :=
  let ⟨_, _, G, hm, fn, hb⟩ := c.ex; de_call G hr hq hm fn.kp hx sp_Z hb hg ha hdb he hpl
theorem de_calZk0 (ix : List Nat)
    (h : ∀ (kV doc pm : Value) (an : Option Addr) (cdv ct : Value) (us ws : List Value), us.length = 0 → ws.length = m → bindArgs (PySem.W.fnOf x qual (defArgs st) (defBody st) (defScope st) .none kV doc pm an cdv ct) ⟨us, ks.zip ws⟩ = pure (ps.zip (permG ix us ws)))
    (hkw : DK X EX kws r) (hg : Gl X x := by rfl) (hall : (backToKw pos (keywordEach kws X.env)).all (·.1.isSome) = true := by rfl) (hks : (backToKw pos (keywordEach kws X.env)).filterMap (·.1) = ks := by rfl)
    (hpl : ((backTo pos (starEach [] X.env)).any (·.1) || (backToKw pos (keywordEach kws X.env)).any (·.1.isNone)) = false := by rfl) (hdb : (x == ("__debug__" : Str)) = false := by decide) :
    DE X EX (.Call (.Name x p) [] kws pos) (gKw0 m (permG ix) (argN ps.length (callZ F)) r) :=
  let ⟨_, _, G, hm, fn, _⟩ := c.ex; de_callK0 G hr hq hm fn.kp hx sp_Z (kb_of fn h) hg hkw hall hks hpl hdb
end
/-- a, b, c = x, y, z -/
def sPar3 (i j l : Nat) (ga gb gc : Gx) : Gs := fun env cs => (ga env cs).bind fun x cs => (gb env cs).bind fun y cs => (gc env cs).bind fun z cs => .ok ⟨.nx, ((env.set i (some x)).set j (some y)).set l (some z)⟩ cs
theorem ds_par3 {X : Cx} {EX : XK} (i j l : Nat) {a b c : Expr} {ga gb gc : Gx} {t : Stmt} {hps : ∀ {ta : TA}, PA X [a, b, c] ta → PS X t (tPar3 i j l ta)} (ha : DE X EX a ga) (hb : DE X EX b gb) (hc : DE X EX c gc)
    (hs1 : starEach [a, b, c] X.env = (false, eval a X.env) :: starEach [b, c] X.env := by rfl) (hs2 : starEach [b, c] X.env = (false, eval b X.env) :: starEach [c] X.env := by rfl) (hs3 : starEach [c] X.env = (false, eval c X.env) :: starEach [] X.env := by rfl) : DS X EX t (sPar3 i j l ga gb gc) := by
  obtain ⟨ta, h1, k1⟩ := ha
  obtain ⟨tb, h2, k2⟩ := hb
  obtain ⟨tc, h3, k3⟩ := hc
  refine ⟨_, hps (pa_cons h1 (pa_cons h2 (pa_cons h3 pa_nil hs3) hs2) hs1), fun av m H σ env cs Dn rc s p => k1 av m H σ env cs _ rc s (PostE.bindS p fun d cs1 av1 m1 H1 v e1 c1 r1 p1 => ?_)⟩
  have s1 := s.mono rc.sub e1
  refine k2 av1 m1 H1 σ env cs1 _ c1 s1 (PostE.bindS p1 fun d2 cs2 av2 m2 H2 v2 e2 c2 r2 p2 => ?_)
  have s2 := s1.mono c1.sub e2
  refine k3 av2 m2 H2 σ env cs2 _ c2 s2 (PostE.bindS p2 fun d3 cs3 av3 m3 H3 v3 e3 c3 r3 p3 => ?_)
  have s3 := s2.mono c2.sub e3
  exact ⟨v, v2, v3, rfl, p3 av3 m3 H3 _ (Ext.refl ..) c3 (((s3.set ((r1.mono c1.sub e2).mono c2.sub e3)).set (r2.mono c2.sub e3)).set r3)⟩
end Dm
set_option linter.all false
set_option maxRecDepth 100000
set_option maxHeartbeats 2000000
/-! Dm: how often a number stands in a list of numbers; methods within comprehensions. -/
namespace Dm
open PySem PySem.Spec L2 PyProof.Rows
def rCnt (K : PySem.W.Frag) : V → List V → Hp → VK → Prop := fun x xs H Q => ∃ (a : Addr) (ns : List Int) (k : Int), x = V.ref a ∧ xs = [.int k] ∧ SqL K H a (ns.map V.int) ∧ Q (.int ((ns.count k : Nat) : Int)) H
theorem mt_cnt {X : Cx} : MtR X "list.count" (rCnt X.K) := by
  intro pins s σ H x xs v us Q I rx rxs h
  obtain ⟨a, ns, k, rfl, rfl, hs, q⟩ := h
  cases rx
  cases rxs with
  | cons ry rt =>
    cases rt
    obtain ⟨t, rfl⟩ := ry
    obtain ⟨its, rv, hl, hlen⟩ := I.list hs
    exact count_list_ints hl.isList (intsAre_of rv) ⟨.int ((ns.count k : Nat) : Int), H, I.tok _, ⟨_, rfl⟩, q⟩
/-- o.count(e) -/
def gCnt (go ge : Gx) : Gx := fun env cs => (go env cs).bind fun o cs => if (asL cs o).isSome then (ge env cs).bind fun d cs => match asL cs o, d with
  | some xs, .int k => match intsOf xs with
    | some ns => .ok (.int ((ns.count k : Nat) : Int)) cs
    | none => .bad
  | _, _ => .bad else .bad
section
variable {X : Cx} {EX : XK}
theorem de_count {o e : Expr} {go ge : Gx} {apos cpos : Pos} (ho : DE X EX o go) (he : DE X EX e ge)
    (hbase : attributeBase o "count" X.env (eval o X.env) = eval o X.env := by rfl)
    (hfew : ((backTo cpos (starEach [e] X.env)).all (fun x => !x.1) && (backToKw cpos (keywordEach [] X.env)).all (fun x => x.1.isSome)
      && decide ([e].length + ([] : List Keyword).length + (if ([] : List Keyword).isEmpty then 0 else 1) < 30)) = true := by rfl)
    (hline : (apos.endLine == cpos.line) = true := by rfl) (hs : starEach [e] X.env = (false, eval e X.env) :: starEach [] X.env := by rfl) (hplain : (backTo cpos (starEach [] X.env)).any (·.1) = false := by rfl) :
    DE X EX (.Call (.Attribute o "count" apos) [e] [] cpos) (gCnt go ge) := by
  obtain ⟨t, h, k⟩ := ho
  obtain ⟨u, h', k'⟩ := he
  refine ⟨_, pe_bm PySem.F.plainAttrs_list PySem.F.slot_list_count PySem.F.type_list_count mt_cnt h (pa_cons h' pa_nil hs) hbase hfew hline hs hplain,
    fun av m H σ env cs Q c s p => k av m H σ env cs _ c s (PostE.bind p fun d cs1 av1 m1 H1 v e1 c1 r1 p1 => ?_)⟩
  split at p1
  · rename_i hi
    obtain ⟨xs, hx⟩ := Option.isSome_iff_exists.mp hi
    obtain ⟨a, vs, rfl, hq, l⟩ := asL_ok c1 r1 hx
    refine ⟨.inl ⟨rfl, _, hq⟩, ?_⟩
    refine k' av1 m1 H1 σ env cs1 _ c1 (s.mono c.sub e1) (PostE.bind p1 fun d2 cs2 av2 m2 H2 v2 e2 c2 r2 p2 => ?_)
    split at p2
    · rename_i ys j hy
      split at p2
      · rename_i ns hn
        obtain ⟨b, ws, hb, hq2, l2⟩ := asL_ok c2 (r1.mono c1.sub e2) hy
        cases hb
        cases r2
        refine ⟨_, ns, j, rfl, rfl, by rw [← intsOf_ok l2 hn]; exact hq2, p2.here c2 (.int _)⟩
      · exact p2.elim
    · exact p2.elim
  · exact p1.elim
end
section
variable {X : Cx} {EX : XK} {K : PySem.W.Frag} {k : Nat} {x mt : Str} {ps : List Str} {F : Fd} {o e : Expr} {es : List Expr} {apos pos : Pos} {a : Ga} {n : Nat}
/-- a method within a comprehension -/
theorem dn_mth {go : Gx} {pl : Sem Bool} (c : Mth X.prog X.w X.K X.mg X.base k x mt ps F) (hr : Room k X.A) (hq : Quiet X.A) (hx : Passes (L2.CX X.prog X.w) X EX) (ho : DE X EX o go) (ha : DA X EX (e :: es) a) (hn : ps.length = n := by rfl)
    (hst : starEach (e :: es) X.env = (false, eval e X.env) :: starEach es X.env := by rfl) (hpl : (backTo pos (starEach es X.env)).any (·.1) = false := by rfl)
    (ht : eval (.Call (.Attribute o mt apos) (e :: es) [] pos) X.env = (do
      let ov ← eval o X.env
      standAt apos.atName
      let (f, first) ← holding [ov] (getMethod ov mt pl)
      callWith pos f first (backTo pos (starEach (e :: es) X.env)) (backToKw pos (keywordEach [] X.env))) := by rfl) : DE X EX (.Call (.Attribute o mt apos) (e :: es) [] pos) (gMth x mt (argN n F) go a) := hn ▸ de_mth (pl := pl) c hr hq hx ho ha hst hpl ht
end
/-- defs of which nothing is known -/
theorem dss_dead {X : Cx} {EX : XK} {s : Stmt} {ss : List Stmt} : DSs X EX (s :: ss) sDead := ⟨fun _ _ _ => False, ⟨fun _ _ _ _ _ _ h => h.elim⟩, fun _ _ _ _ _ _ _ _ _ p => p.elim⟩
end Dm
set_option linter.all false
set_option maxRecDepth 100000
set_option maxHeartbeats 2000000
/-! Dm: x *= e; divmod; a, b = a list. -/
namespace Dm
open PySem PySem.Spec L2
section
variable {X : Cx} {EX : XK} {K : PySem.W.Frag} {mg : Str → Option Value} {pos p : Pos} {e : Expr} {es : List Expr} {a : Ga}
/-- x *= e, numbers, the second one small -/
def sAugM (i : Nat) (ge : Gx) : Gs := fun env cs => match env[i]? with
  | some (some (.int x)) => (ge env cs).bind fun y cs => match y with
    | .int y => if -(2 ^ 64) < y ∧ y < 2 ^ 64 then .ok ⟨.nx, env.set i (some (.int (x * y)))⟩ cs else .bad
    | _ => .bad
  | _ => .bad
theorem ds_augM (i : Nat) {x : Str} {ge : Gx} {pos' : Pos} (hN : X.N.Nodup) (he : DE X EX e ge) (hi : X.N[i]? = some x := by rfl) (hx : Loc X.env.scope x := by first | exact Or.inl rfl | exact Or.inr rfl)
    (hf : X.fn x = true ∨ X.env.scope.names.lookup x = some .local := by first | exact .inl rfl | exact .inr rfl) : DS X EX (.AugAssign (.Name x pos') .Mult e pos) (sAugM i ge) := by
  obtain ⟨t, h, k⟩ := he
  refine ⟨_, ps_aug hN hi hx h (fun pins s σ H x y v u Q I r1 r2 q => iop_mul pins s σ H x y v u Q I r1 r2 q) hf, fun av m H σ env cs Dn c s p => ?_⟩
  unfold sAugM at p
  split at p
  · rename_i z hz
    obtain ⟨v, h1, h2⟩ := s.2 i _ hz
    refine ⟨v, h1, k av m H σ env cs _ c s (PostE.bindS p fun d cs1 av1 m1 H1 w e1 c1 r1 p1 => ?_)⟩
    split at p1
    · split at p1
      · rename_i hb
        cases h2
        cases r1
        exact ⟨_, _, rfl, rfl, .inr hb, p1 av1 m1 H1 _ (Ext.refl ..) c1 ((s.mono c.sub e1).set (.int _))⟩
      · exact p1.elim
    · exact p1.elim
  · exact p.elim
/-- a, b = a list -/
def tgUnl (n : Nat) (r : List D → Env' → List C → Out Env') : Gg := fun d env cs => match asL cs d with
  | some ds => if ds.length = n then r ds env cs else .bad
  | none => .bad
theorem dg_unl {kk : Nat} {r : List D → Env' → List C → Out Env'} {n : Nat} (hc : X.calm = true) (h : DGs X EX es r) (hn : (assignEach es X.env).length = n := by rfl) (hst : (assignEach es X.env).findIdx? (·.1) = none := by rfl) :
    DG X EX (.Tuple es kk pos) (tgUnl n r) := by
  obtain ⟨t, h, k⟩ := h
  refine ⟨_, pg_unl hc h hn hst, fun av m H σ env cs v d Q c s rd p => ?_⟩
  unfold tgUnl at p
  split at p
  · rename_i ds hd
    split at p
    · rename_i hl
      obtain ⟨a, xs, rfl, h1, h2⟩ := asL_ok c rd hd
      exact ⟨a, xs, rfl, h1, by rw [h2.length]; exact hl, k av m H σ env cs _ _ _ c s h2 p⟩
    · exact p.elim
  · exact p.elim
/-- divmod(i, j) -/
def divmodD : List D → List C → Out D
  | [.int i, .int j], cs => if 0 < j ∧ j < 1073741824 then .ok (.tup [.int (i / j), .int (i % j)]) cs else .bad
  | _, _ => .bad
theorem cd_divmod : CallD K mg EX (fun xs H Q => ∃ i j, xs = [.int i, .int j] ∧ CDiv i j ∧ ∀ p, H p = none → Q (.ref p) (upd H p (.tup [.int (i / j), .int (i % j)]))) divmodD := by
  intro av m H cs xs ds Q c r q
  unfold divmodD at q
  split at q
  · cases r with
    | cons r1 t =>
      cases t with
      | cons r2 t =>
        cases t
        cases r1
        cases r2
        split at q
        · rename_i h
          exact ⟨_, _, rfl, h, fun p h0 => q.newT c h0 (.cons (.int _) (.cons (.int _) .nil))⟩
        · exact q.elim
  · exact q.elim
theorem de_divmod (ha : DA X EX (e :: es) a) (hm : X.mg "divmod" = none) (hg : Gl X "divmod" := by rfl) (he : starEach (e :: es) X.env = (false, eval e X.env) :: starEach es X.env := by rfl) (hpl : (backTo pos (starEach es X.env)).any (·.1) = false := by rfl) : DE X EX (.Call (.Name "divmod" p) (e :: es) [] pos) (gA divmodD a) :=
  de_callB call_divmod cd_divmod hg hm (by decide +kernel) ha (by decide) (by decide) he hpl
end
end Dm
set_option linter.all false
set_option maxRecDepth 100000
set_option maxHeartbeats 2000000
/-! Dm: least, greatest, sum of a list of numbers; where an item stands; sorted pairs. -/
namespace Dm
open PySem PySem.Spec L2
section
variable {X : Cx} {EX : XK} {K : PySem.W.Frag} {mg : Str → Option Value} {pos p : Pos} {e : Expr} {a : Ga}
def leastOf : List Int → Option Int
  | [] => none
  | n :: ns => some (ns.foldl (fun m k => if k < m then k else m) n)
def mostOf : List Int → Option Int
  | [] => none
  | n :: ns => some (ns.foldl (fun m k => if m < k then k else m) n)
theorem least_le : ∀ (ns : List Int) (n : Int), (ns.foldl (fun m k => if k < m then k else m) n ≤ n) ∧ ∀ k ∈ ns, ns.foldl (fun m k => if k < m then k else m) n ≤ k
  | [], n => ⟨Int.le_refl _, fun _ z => nomatch z⟩
  | x :: ns, n => by
    obtain ⟨h1, h2⟩ := least_le ns (if x < n then x else n)
    rw [List.foldl_cons]
    refine ⟨Int.le_trans h1 (by split <;> omega), fun k hk => ?_⟩
    rcases List.mem_cons.mp hk with rfl | hk
    · exact Int.le_trans h1 (by split <;> omega)
    · exact h2 k hk
theorem least_mem : ∀ (ns : List Int) (n : Int), ns.foldl (fun m k => if k < m then k else m) n ∈ n :: ns
  | [], n => by simp
  | x :: ns, n => by
    have h := least_mem ns (if x < n then x else n)
    rw [List.foldl_cons]
    rcases List.mem_cons.mp h with h | h
    · rw [h]
      split <;> simp
    · exact List.mem_cons_of_mem _ (List.mem_cons_of_mem _ h)
theorem most_le : ∀ (ns : List Int) (n : Int), (n ≤ ns.foldl (fun m k => if m < k then k else m) n) ∧ ∀ k ∈ ns, k ≤ ns.foldl (fun m k => if m < k then k else m) n
  | [], n => ⟨Int.le_refl _, fun _ z => nomatch z⟩
  | x :: ns, n => by
    obtain ⟨h1, h2⟩ := most_le ns (if n < x then x else n)
    rw [List.foldl_cons]
    refine ⟨Int.le_trans (by split <;> omega) h1, fun k hk => ?_⟩
    rcases List.mem_cons.mp hk with rfl | hk
    · exact Int.le_trans (by split <;> omega) h1
    · exact h2 k hk
theorem most_mem : ∀ (ns : List Int) (n : Int), ns.foldl (fun m k => if m < k then k else m) n ∈ n :: ns
  | [], n => by simp
  | x :: ns, n => by
    have h := most_mem ns (if n < x then x else n)
    rw [List.foldl_cons]
    rcases List.mem_cons.mp h with h | h
    · rw [h]
      split <;> simp
    · exact List.mem_cons_of_mem _ (List.mem_cons_of_mem _ h)
def minLD : List D → List C → Out D
  | [d], cs => match asL cs d with
    | some xs => match (intsOf xs).bind leastOf with
      | some n => .ok (.int n) cs
      | none => .bad
    | none => .bad
  | _, _ => .bad
def maxLD : List D → List C → Out D
  | [d], cs => match asL cs d with
    | some xs => match (intsOf xs).bind mostOf with
      | some n => .ok (.int n) cs
      | none => .bad
    | none => .bad
  | _, _ => .bad
def sumLD : List D → List C → Out D
  | [d], cs => match asL cs d with
    | some xs => match intsOf xs with
      | some ns => .ok (.int ns.sum) cs
      | none => .bad
    | none => .bad
  | _, _ => .bad
theorem cd_minL : CallD K mg EX (rMin K) minLD := by
  intro av m H cs xs ds Q c r q
  unfold minLD at q
  split at q
  · cases r with
    | cons r t =>
      cases t
      split at q
      · rename_i ys hy
        split at q
        · rename_i n hn
          obtain ⟨ns, h1, h2⟩ := Option.bind_eq_some_iff.mp hn
          obtain ⟨b, vs, rfl, hs, l⟩ := asL_ok c r hy
          refine ⟨b, ns, rfl, by rw [← intsOf_ok l h1]; exact hs, ?_, fun k hk hle => ?_⟩
          · cases ns with
            | nil => cases h2
            | cons _ _ => simp
          · have : k = n := by
              cases ns with
              | nil => cases h2
              | cons x ns =>
                cases h2
                have a1 := hle _ (least_mem ns x)
                have a2 := least_le ns x
                rcases List.mem_cons.mp hk with rfl | hk
                · omega
                · have := a2.2 k hk; omega
            subst this
            exact q.here c (.int _)
        · exact q.elim
      · exact q.elim
  · exact q.elim
theorem cd_maxL : CallD K mg EX (rMax K) maxLD := by
  intro av m H cs xs ds Q c r q
  unfold maxLD at q
  split at q
  · cases r with
    | cons r t =>
      cases t
      split at q
      · rename_i ys hy
        split at q
        · rename_i n hn
          obtain ⟨ns, h1, h2⟩ := Option.bind_eq_some_iff.mp hn
          obtain ⟨b, vs, rfl, hs, l⟩ := asL_ok c r hy
          refine ⟨b, ns, rfl, by rw [← intsOf_ok l h1]; exact hs, ?_, fun k hk hle => ?_⟩
          · cases ns with
            | nil => cases h2
            | cons _ _ => simp
          · have : k = n := by
              cases ns with
              | nil => cases h2
              | cons x ns =>
                cases h2
                have a1 := hle _ (most_mem ns x)
                have a2 := most_le ns x
                rcases List.mem_cons.mp hk with rfl | hk
                · omega
                · have := a2.2 k hk; omega
            subst this
            exact q.here c (.int _)
        · exact q.elim
      · exact q.elim
  · exact q.elim
theorem cd_sumL : CallD K mg EX (rSum K) sumLD := by
  intro av m H cs xs ds Q c r q
  unfold sumLD at q
  split at q
  · cases r with
    | cons r t =>
      cases t
      split at q
      · rename_i ys hy
        split at q
        · rename_i ns hn
          obtain ⟨b, vs, rfl, hs, l⟩ := asL_ok c r hy
          exact ⟨b, ns, rfl, by rw [← intsOf_ok l hn]; exact hs, q.here c (.int _)⟩
        · exact q.elim
      · exact q.elim
  · exact q.elim
theorem de_minL (hc : X.calm = true) (ha : DA X EX [e] a) (hm : X.mg "min" = none) (hg : Gl X "min" := by rfl) (he : starEach [e] X.env = (false, eval e X.env) :: starEach [] X.env := by rfl) (hpl : (backTo pos (starEach [] X.env)).any (·.1) = false := by rfl) : DE X EX (.Call (.Name "min" p) [e] [] pos) (gA minLD a) :=
  de_callB (cr_min hc) cd_minL hg hm (by decide +kernel) ha (by decide) (by decide) he hpl
theorem de_maxL (hc : X.calm = true) (ha : DA X EX [e] a) (hm : X.mg "max" = none) (hg : Gl X "max" := by rfl) (he : starEach [e] X.env = (false, eval e X.env) :: starEach [] X.env := by rfl) (hpl : (backTo pos (starEach [] X.env)).any (·.1) = false := by rfl) : DE X EX (.Call (.Name "max" p) [e] [] pos) (gA maxLD a) :=
  de_callB (cr_max hc) cd_maxL hg hm (by decide +kernel) ha (by decide) (by decide) he hpl
theorem de_sumL (hc : X.calm = true) (ha : DA X EX [e] a) (hm : X.mg "sum" = none) (hg : Gl X "sum" := by rfl) (he : starEach [e] X.env = (false, eval e X.env) :: starEach [] X.env := by rfl) (hpl : (backTo pos (starEach [] X.env)).any (·.1) = false := by rfl) : DE X EX (.Call (.Name "sum" p) [e] [] pos) (gA sumLD a) :=
  de_callB (cr_sum hc) cd_sumL hg hm (by decide +kernel) ha (by decide) (by decide) he hpl
/-! where an item stands -/
def idxF (d : D) : List D → Option Nat
  | [] => none
  | e :: es => match eqF e d with
    | some true => some 0
    | some false => (idxF d es).map (· + 1)
    | none => none
theorem idxF_ok {av m : List Addr} {H : Hp} {x : V} {d : D} (rx : R K av m H x d) : ∀ {vs : List V} {es : List D} {j : Nat}, RL K av m H vs es → idxF d es = some j → ∃ z, vs[j]? = some z ∧ eqV z x = true ∧ ∀ (k : Nat) (z' : V), k < j → vs[k]? = some z' → eqV z' x = false
  | _, _, _, .nil, h => by cases h
  | _, _, j, .cons (v := v) (vs := vs) r t, h => by
    unfold idxF at h
    split at h
    · rename_i h1
      cases h
      exact ⟨v, rfl, (eqF_ok r rx h1).2.2, fun k z' hk => by omega⟩
    · rename_i h1
      obtain ⟨i, h2, rfl⟩ := Option.map_eq_some_iff.mp h
      obtain ⟨z, z1, z2, z3⟩ := idxF_ok rx t h2
      refine ⟨z, by simpa using z1, z2, fun k z' hk hz => ?_⟩
      cases k with
      | zero =>
        simp only [List.getElem?_cons_zero, Option.some.injEq] at hz
        subst hz
        exact (eqF_ok r rx h1).2.2
      | succ k => exact z3 k z' (by omega) (by simpa using hz)
    · cases h
theorem RL.flatAll {av m : List Addr} {H : Hp} : ∀ {vs : List V} {ds : List D}, RL K av m H vs ds → vs.all flatV = ds.all flatD
  | _, _, .nil => rfl
  | _, _, .cons r t => by rw [List.all_cons, List.all_cons, r.flat, RL.flatAll t]
def gIdxL (go ge : Gx) : Gx := fun env cs => (go env cs).bind fun o cs => if (asL cs o).isSome then (ge env cs).bind fun d cs => match asL cs o with
  | some xs => if flatD d && xs.all flatD then (match idxF d xs with
    | some j => .ok (.int (j : Nat)) cs
    | none => .bad) else .bad
  | none => .bad else .bad
theorem de_index {o e : Expr} {go ge : Gx} {apos cpos : Pos} (ho : DE X EX o go) (he : DE X EX e ge)
    (hbase : attributeBase o "index" X.env (eval o X.env) = eval o X.env := by rfl)
    (hfew : ((backTo cpos (starEach [e] X.env)).all (fun x => !x.1) && (backToKw cpos (keywordEach [] X.env)).all (fun x => x.1.isSome)
      && decide ([e].length + ([] : List Keyword).length + (if ([] : List Keyword).isEmpty then 0 else 1) < 30)) = true := by rfl)
    (hline : (apos.endLine == cpos.line) = true := by rfl) (hs : starEach [e] X.env = (false, eval e X.env) :: starEach [] X.env := by rfl) (hplain : (backTo cpos (starEach [] X.env)).any (·.1) = false := by rfl) :
    DE X EX (.Call (.Attribute o "index" apos) [e] [] cpos) (gIdxL go ge) := by
  obtain ⟨t, h, k⟩ := ho
  obtain ⟨u, h', k'⟩ := he
  refine ⟨_, pe_bm PySem.F.plainAttrs_list PySem.F.slot_list_index PySem.F.type_list_index mt_index h (pa_cons h' pa_nil hs) hbase hfew hline hs hplain,
    fun av m H σ env cs Q c s p => k av m H σ env cs _ c s (PostE.bind p fun d cs1 av1 m1 H1 v e1 c1 r1 p1 => ?_)⟩
  split at p1
  · rename_i hi
    obtain ⟨xs, hx⟩ := Option.isSome_iff_exists.mp hi
    obtain ⟨a, vs, rfl, hq, l⟩ := asL_ok c1 r1 hx
    refine ⟨.inl ⟨rfl, _, hq⟩, ?_⟩
    refine k' av1 m1 H1 σ env cs1 _ c1 (s.mono c.sub e1) (PostE.bind p1 fun d2 cs2 av2 m2 H2 v2 e2 c2 r2 p2 => ?_)
    split at p2
    · rename_i ys hy
      split at p2
      · rename_i hf
        rw [Bool.and_eq_true] at hf
        split at p2
        · rename_i j hj
          obtain ⟨b, ws, hb, hq2, l2⟩ := asL_ok c2 (r1.mono c1.sub e2) hy
          cases hb
          obtain ⟨z, z1, z2, z3⟩ := idxF_ok r2 l2 hj
          exact ⟨_, ws, v2, j, z, rfl, rfl, hq2, by rw [r2.flat]; exact hf.1, by rw [l2.flatAll]; exact hf.2, z1, z2, z3, p2.here c2 (.int _)⟩
        · exact p2.elim
      · exact p2.elim
    · exact p2.elim
  · exact p1.elim
/-! sorted pairs of numbers from 0 on -/
def pD (p : Int × Int) : D := .tup [.int p.1, .int p.2]
def pairsOf : List D → Option (List (Int × Int))
  | [] => some []
  | .tup [.int i, .int j] :: r => if 0 ≤ i ∧ 0 ≤ j then (pairsOf r).map ((i, j) :: ·) else none
  | _ => none
theorem pairsOf_ok : ∀ {ds : List D} {ps : List (Int × Int)}, pairsOf ds = some ps → ds = ps.map pD ∧ ∀ q ∈ ps, 0 ≤ q.1 ∧ 0 ≤ q.2
  | [], ps, h => by cases h; exact ⟨rfl, fun _ z => nomatch z⟩
  | d :: r, ps, h => by
    unfold pairsOf at h
    split at h
    · cases ‹_ :: _ = []›
    · rename_i i j r' e
      cases e
      split at h
      · rename_i hij
        obtain ⟨l, h1, rfl⟩ := Option.map_eq_some_iff.mp h
        obtain ⟨h2, h3⟩ := pairsOf_ok h1
        refine ⟨by rw [List.map_cons, ← h2]; rfl, fun q hq => ?_⟩
        rcases List.mem_cons.mp hq with rfl | hq
        · exact hij
        · exact h3 q hq
      · cases h
    · cases h
def leP (p q : Int × Int) : Bool := decide (p.1 < q.1 ∨ (p.1 = q.1 ∧ p.2 ≤ q.2))
def sortP (ps : List (Int × Int)) : List (Int × Int) := ps.mergeSort leP
theorem sortP_perm (ps : List (Int × Int)) : (sortP ps).Perm ps := List.mergeSort_perm _ _
theorem sortP_le (ps : List (Int × Int)) : (sortP ps).Pairwise fun p q => leP p q = true :=
  List.pairwise_mergeSort (le := leP) (fun a b c h1 h2 => by simp only [leP, decide_eq_true_eq] at *; omega) (fun a b => by simp only [leP, Bool.or_eq_true, decide_eq_true_eq]; omega) ps
theorem sortP_one {a b : List (Int × Int)} (h : a.Perm b) (ha : a.Pairwise fun p q => leP p q = true) (hb : b.Pairwise fun p q => leP p q = true) : a = b :=
  List.Perm.eq_of_pairwise (fun x y _ _ h1 h2 => by
    simp only [leP, decide_eq_true_eq] at h1 h2
    exact Prod.ext (by omega) (by omega)) ha hb h
theorem tupI_of {av m : List Addr} {H : Hp} {x : V} {q : Int × Int} (r : R K av m H x (pD q)) : TupI K H x [q.1, q.2] := by
  obtain ⟨a, xs, rfl, h, l⟩ := asT_ok r (ds := [.int q.1, .int q.2]) rfl
  refine ⟨a, rfl, ?_⟩
  cases l with
  | cons r1 l =>
    cases l with
    | cons r2 l => cases l; cases r1; cases r2; exact h
theorem perm_pairs {av m : List Addr} {H : Hp} {ys vs : List V} (h : ys.Perm vs) : ∀ {ps : List (Int × Int)}, RL K av m H vs (ps.map pD) → ∃ qs : List (Int × Int), qs.Perm ps ∧ RL K av m H ys (qs.map pD) := by
  induction h with
  | nil => exact fun {ps} l => ⟨ps, .refl _, l⟩
  | cons x h ih =>
    intro ps l
    cases ps with
    | nil => cases l
    | cons q ps =>
      rw [List.map_cons] at l
      cases l with
      | cons r l =>
        obtain ⟨qs, h1, h2⟩ := ih l
        exact ⟨q :: qs, h1.cons q, .cons r h2⟩
  | swap x y l =>
    intro ps l
    match ps, l with
    | q :: q2 :: ps, .cons r (.cons r2 l) => exact ⟨q2 :: q :: ps, .swap _ _ _, .cons r2 (.cons r l)⟩
  | trans h1 h2 ih1 ih2 =>
    intro ps l
    obtain ⟨qs, a1, a2⟩ := ih2 l
    obtain ⟨qs2, b1, b2⟩ := ih1 a2
    exact ⟨qs2, b1.trans a1, b2⟩
theorem pair_trans {av m : List Addr} {H : Hp} {B : Int} : ∀ {ys : List V} {qs : List (Int × Int)}, RL K av m H ys (qs.map pD) → ys.Pairwise (fun x y => ∀ n m, TupI K H x n → TupI K H y m → TS.code B n ≤ TS.code B m) → qs.Pairwise fun p q => p.1 * B + p.2 ≤ q.1 * B + q.2
  | [], [], _, _ => .nil
  | y :: ys, q :: qs, .cons r l, h => by
    obtain ⟨h1, h2⟩ := List.pairwise_cons.mp h
    refine List.pairwise_cons.mpr ⟨fun p hp => ?_, pair_trans l h2⟩
    obtain ⟨i, hi⟩ := List.getElem?_of_mem hp
    obtain ⟨v, v1, v2⟩ := l.get (i := i) (d := pD p) (by rw [List.getElem?_map, hi]; rfl)
    have := h1 v (List.mem_of_getElem? v1) [q.1, q.2] [p.1, p.2] (tupI_of r) (tupI_of v2)
    simpa [TS.code, Int.pow_succ] using this
def rSortPr (K : PySem.W.Frag) : List V → Hp → VK → Prop := fun vs H Q => ∃ B : Int, rSortU K 2 B vs H Q
theorem cr_sortPr : CallR X (.builtin "sorted") (rSortPr X.K) := by
  intro pins s σ H vs us Q I r h
  obtain ⟨B, h⟩ := h
  exact cr_sortT (d := 2) (B := B) (by decide) pins s σ H vs us Q I r h
/-- sorted(xs), xs a short list of pairs -/
def sortedPD : List D → List C → Out D
  | [d], cs => match asL cs d with
    | some xs => match pairsOf xs with
      | some ps => if ps.length < 64 then .ok (.lst ((sortP ps).map pD)) cs else .bad
      | none => .bad
    | none => .bad
  | _, _ => .bad
theorem bound_pairs : ∀ ps : List (Int × Int), ∃ B : Int, ∀ q ∈ ps, q.1 < B ∧ q.2 < B
  | [] => ⟨0, fun _ z => nomatch z⟩
  | q :: ps => by
    obtain ⟨B, h⟩ := bound_pairs ps
    refine ⟨((q.1.natAbs + q.2.natAbs + 1 + B.natAbs : Nat) : Int), fun p hp => ?_⟩
    rcases List.mem_cons.mp hp with rfl | hp
    · constructor <;> omega
    · have := h p hp
      constructor <;> omega
theorem cd_sortedP : CallD K mg EX (rSortPr K) sortedPD := by
  intro av m H cs xs ds Q c r q
  unfold sortedPD at q
  split at q
  · cases r with
    | cons r t =>
      cases t
      split at q
      · rename_i ys hy
        split at q
        · rename_i ps hn
          split at q
          · rename_i h64
            obtain ⟨b, vs, rfl, hs, l⟩ := asL_ok c r hy
            obtain ⟨e1, e2⟩ := pairsOf_ok hn
            subst e1
            obtain ⟨B, hB⟩ := bound_pairs ps
            refine ⟨B, b, vs, rfl, hs, by rw [l.length, List.length_map]; exact h64, fun x hx => ?_, fun ys2 p hp hw h0 => ?_⟩
            · obtain ⟨i, hi⟩ := List.getElem?_of_mem hx
              have hl : i < ps.length := by
                have := (List.getElem?_eq_some_iff.mp hi).1
                rwa [l.length, List.length_map] at this
              obtain ⟨v, v1, v2⟩ := l.get (i := i) (d := pD ps[i]) (by rw [List.getElem?_map, List.getElem?_eq_getElem hl]; rfl)
              rw [hi] at v1
              cases v1
              have m0 := e2 _ (List.getElem_mem hl)
              have m1 := hB _ (List.getElem_mem hl)
              refine ⟨_, tupI_of v2, rfl, fun k hk => ?_⟩
              simp only [List.mem_cons, List.not_mem_nil, or_false] at hk
              rcases hk with rfl | rfl
              · exact ⟨m0.1, m1.1⟩
              · exact ⟨m0.2, m1.2⟩
            · obtain ⟨qs, q1, q2⟩ := perm_pairs hp l
              have w := pair_trans q2 hw
              have e : qs = sortP ps := sortP_one (q1.trans (sortP_perm ps).symm) (w.imp_of_mem fun {x y} hx hy h => by
                have x0 := e2 x (q1.mem_iff.mp hx)
                have y0 := e2 y (q1.mem_iff.mp hy)
                have x1 := hB x (q1.mem_iff.mp hx)
                have y1 := hB y (q1.mem_iff.mp hy)
                simp only [leP, decide_eq_true_eq]
                rcases Int.lt_trichotomy x.1 y.1 with z | z | z
                · exact .inl z
                · refine .inr ⟨z, ?_⟩
                  rw [z] at h
                  omega
                · have : (y.1 + 1) * B ≤ x.1 * B := Int.mul_le_mul_of_nonneg_right (by omega) (by omega)
                  rw [Int.add_mul] at this
                  omega) (sortP_le ps)
              subst e
              exact q.newL c h0 q2
          · exact q.elim
        · exact q.elim
      · exact q.elim
  · exact q.elim
theorem de_sortedP (ha : DA X EX [e] a) (hm : X.mg "sorted" = none) (hg : Gl X "sorted" := by rfl) (he : starEach [e] X.env = (false, eval e X.env) :: starEach [] X.env := by rfl) (hpl : (backTo pos (starEach [] X.env)).any (·.1) = false := by rfl) : DE X EX (.Call (.Name "sorted" p) [e] [] pos) (gA sortedPD a) :=
  de_callB cr_sortPr cd_sortedP hg hm (by decide +kernel) ha (by decide) (by decide) he hpl
end
end Dm
set_option linter.all false
set_option maxRecDepth 100000
set_option maxHeartbeats 2000000
/-! Dm: for over a list that is a cell and stays as it is meanwhile. -/
namespace Dm
open PySem PySem.Spec L2
section
variable {X : Cx} {EX : XK} {K : PySem.W.Frag} {mg : Str → Option Value} {pos : Pos}
open Classical in
noncomputable def forC (n0 : Nat) (ds0 : List D) (t : Gg) (b : Gs) : List D → Gs
  | [], env, cs => if cs[n0]? = some (.lst ds0) then .ok ⟨.nx, env⟩ cs else .bad
  | d :: ds, env, cs => if cs[n0]? = some (.lst ds0) then ((t d env cs).bind fun env1 cs1 => match b env1 cs1 with
    | .ok ⟨.nx, e⟩ c => forC n0 ds0 t b ds e c
    | .ok ⟨.ct, e⟩ c => forC n0 ds0 t b ds e c
    | .ok ⟨.bk, e⟩ c => .ok ⟨.nx, e⟩ c
    | .ok ⟨.rt v, e⟩ c => .ok ⟨.rt v, e⟩ c
    | .exc x fs c => .exc x fs c
    | .bad => .bad) else .bad
noncomputable def sForC (g : Gx) (t : Gg) (b : Gs) : Gs := fun env cs => (g env cs).bind fun o cs => match o with
  | .cell n => match cs[n]? with
    | some (.lst ds) => forC n ds t b ds env cs
    | _ => .bad
  | _ => .bad
theorem ds_forC {tg iter : Expr} {body : List Stmt} {gi : Gx} {gt : Gg} {gb : Gs} (hp : PassesOwn (model X.prog X.w) X.A X.env X.xe) (hc : X.calm = true) (hi : DE X EX iter gi) (hg : DG X EX tg gt) (hb : DSs X EX body gb)
    (hs : ∀ x, foldedSetIterable iter X.env x = pure x := by intro _; rfl) : DS X EX (.For tg iter body [] pos) (sForC gi gt gb) := by
  obtain ⟨wi, h1, k1⟩ := hi
  obtain ⟨tt, h2, k2⟩ := hg
  obtain ⟨tb, h3, k3⟩ := hb
  refine ⟨_, ps_for hp hc (pi_list h1) h2 h3 hs, fun av m H σ env cs Dn c s p => k1 av m H σ env cs _ c s (PostE.bindS p fun d cs1 av1 m1 H1 v e1 c1 r1 p1 => ?_)⟩
  split at p1
  · rename_i n0
    split at p1
    · rename_i ds hds
      cases r1 with
      | @cell _ a ha =>
        obtain ⟨xs, q, l⟩ := c1.ok _ _ _ ha hds
        have wk := walk_cell (K := X.K) (mg := X.mg) (av := av1) (m := m1) (H := H1) (ds := ds) ha
        refine ⟨_, rfl, ⟨xs, SqL.of q⟩, ?_⟩
        refine ⟨fun i mm σ' H' => mm = ds.length - i ∧ i ≤ ds.length ∧ ∃ av2 m2 env2 cs2, Ext av1 m1 H1 av2 m2 H' ∧ RC X.K X.mg av2 m2 H' cs2 ∧ RS X.K av2 m2 H' σ' env2 ∧ PostS X.K X.mg av2 m2 H' EX Dn (forC n0 ds gt gb (ds.drop i) env2 cs2),
          ⟨ds.length, by simp, Nat.zero_le _, av1, m1, env, cs1, Ext.refl .., c1, s.mono c.sub e1, by simpa using p1⟩, ?_⟩
        rintro i mm σ' H' ⟨rfl, hi, av2, m2, env2, cs2, e2, c2, s2, p2⟩
        by_cases hlt : i < ds.length
        · have hd : ds[i]? = some ds[i] := List.getElem?_eq_getElem hlt
          rw [List.drop_eq_getElem_cons hlt, forC] at p2
          split at p2
          case isFalse => exact p2.elim
          rename_i hsame
          refine .inr ⟨wk.go i _ _ _ _ _ hd (e2.wk c1.sub) c2 hsame, fun σ3 H3 => ∃ mm, mm < ds.length - i ∧ (mm = ds.length - (i + 1) ∧ i + 1 ≤ ds.length ∧ ∃ av2 m2 env2 cs2, Ext av1 m1 H1 av2 m2 H3 ∧ RC X.K X.mg av2 m2 H3 cs2 ∧ RS X.K av2 m2 H3 σ3 env2 ∧ PostS X.K X.mg av2 m2 H3 EX Dn (forC n0 ds gt gb (ds.drop (i + 1)) env2 cs2)), fun _ _ h => h, fun x H3 y => ?_⟩
          obtain ⟨e3, c3, r3⟩ := wk.yld i _ _ _ _ _ _ _ hd (e2.wk c1.sub) c2 hsame y
          have p3 := PostS.ext e3 p2
          refine k2 av2 m2 H3 σ' env2 cs2 x _ _ c3 (s2.mono c2.sub e3) r3 (PostG.bindS p3 fun env4 cs4 av4 m4 H4 σ4 e4 c4 s4 p4 => ?_)
          have e14 := (e2.trans e3).trans e4
          refine k3 av4 m4 H4 σ4 env4 cs4 _ c4 s4 ?_
          have again : ∀ {e : Env'} {c : List C}, PostS X.K X.mg av4 m4 H4 EX Dn (forC n0 ds gt gb (ds.drop (i + 1)) e c) → ∀ (av' m' : List Addr) (H' : Hp) (σ' : L2.St), Ext av4 m4 H4 av' m' H' → RC X.K X.mg av' m' H' c → RS X.K av' m' H' σ' e →
              ∃ mm, mm < ds.length - i ∧ (mm = ds.length - (i + 1) ∧ i + 1 ≤ ds.length ∧ ∃ av2 m2 env2 cs2, Ext av1 m1 H1 av2 m2 H' ∧ RC X.K X.mg av2 m2 H' cs2 ∧ RS X.K av2 m2 H' σ' env2 ∧ PostS X.K X.mg av2 m2 H' EX Dn (forC n0 ds gt gb (ds.drop (i + 1)) env2 cs2)) :=
            fun q av' m' H' σ' e5 c5 s5 => ⟨ds.length - (i + 1), by omega, rfl, hlt, av', m', _, _, e14.trans e5, c5, s5, PostS.ext e5 q⟩
          split at p4
          · rename_i e; rw [e]; exact again p4
          · rename_i e; rw [e]; exact again p4
          · rename_i e; rw [e]; exact p4
          · rename_i e; rw [e]; exact p4
          · rename_i e; rw [e]; exact p4
          · exact p4.elim
        · have : i = ds.length := by omega
          subst this
          rw [List.drop_length, forC] at p2
          split at p2
          case isFalse => exact p2.elim
          rename_i hsame
          exact .inl ⟨wk.stop _ _ _ _ _ (Nat.le_refl _) (e2.wk c1.sub) c2 hsame, p2 av2 m2 H' σ' (Ext.refl ..) c2 s2⟩
    · exact p1.elim
  · exact p1.elim
end
end Dm
set_option linter.all false
set_option maxRecDepth 100000
set_option maxHeartbeats 2000000
/-! Dm: i in range(n), i not in range(n). -/
namespace Dm
open PySem PySem.Spec L2
section
variable {X : Cx} {EX : XK} {pos : Pos}
theorem cr_range1 : CallR X (.type "range") (fun vs H Q => ∃ j, vs = [V.int j] ∧ ∀ p, H p = none → Q (.ref p) (upd H p (.rng 0 j))) := by
  intro pins s σ H vs us Q I r h
  obtain ⟨j, rfl, q⟩ := h
  obtain ⟨u1, rfl, ri⟩ := vals1 r
  obtain ⟨t, rfl⟩ := ri
  refine call_range_1 ⟨.ref s.heap.objs.size, upd H s.heap.objs.size (.rng 0 j), I.laid (fun b o e => Heap.get?_push_of_some _ e) (Nat.le_refl _) ?_, rfl, q _ (I.hok.fresh (Nat.le_refl _))⟩
  exact ⟨_, _, _, Heap.get?_push_size _ rfl⟩
theorem op_notin_rng : OpR X (compareOp .NotIn) (fun x y H Q => ∃ i a lo hi, x = V.int i ∧ y = V.ref a ∧ H a = some (.rng lo hi) ∧ Q (.bl (!decide (lo ≤ i ∧ i < hi))) H) := by
  intro pins s σ H x y v u Q I rx ry h
  obtain ⟨i, a, lo, hi, rfl, rfl, ha, q⟩ := h
  obtain ⟨k, rfl⟩ := rx
  obtain rfl : u = Value.ref a := ry
  obtain ⟨t1, t2, t3, ho⟩ := I.hok a _ ha
  show wpAny _ _ (do return Value.bool (!(← contains (Value.ref a) (Value.int i k)))) _ _ s
  refine wpAny_bind (wpAny_contains_slot (T := "range") ⟨_, ho, rfl⟩ F.slot_range_contains (call_meets F.slot_range_contains ⟨_, ho, rfl⟩ F.entry_range_contains (F.args_range_contains_2 _ _) (q_contains a lo hi i t1 t2 t3 k)
    ⟨ho, wpAny_truthy_bool (wpAny_pure ⟨.bl _, H, I, rfl, ?_⟩)⟩))
  rw [place1]
  exact q
def gInR (neg : Bool) (ga : Gx) (gn : Ga) : Gx := fun env cs => (ga env cs).bind fun x cs => (gn env cs).bind fun n cs => match x, n with
  | .int i, [.int j] => .ok (.bl (if neg then !decide (0 ≤ i ∧ i < j) else decide (0 ≤ i ∧ i < j))) cs
  | _, _ => .bad
theorem te_inR {neg : Bool} {r : R2} {ta : TE} {tn : TA} {ga : Gx} {gn : Ga} (hr : ∀ i j p H Q, H p = some (.rng 0 j) → Q (V.bl (if neg then !decide (0 ≤ i ∧ i < j) else decide (0 ≤ i ∧ i < j))) H → r (V.int i) (.ref p) H Q) (ka : TeOk X.K X.mg EX ta ga) (kn : TaOk X.K X.mg EX tn gn) :
    TeOk X.K X.mg EX (tOp r ta (tCB (fun vs H Q => ∃ j, vs = [V.int j] ∧ ∀ p, H p = none → Q (.ref p) (upd H p (.rng 0 j))) tn)) (gInR neg ga gn) := by
  intro av m H σ env cs Q c s p
  refine ka av m H σ env cs _ c s (PostE.bind p fun d cs1 av1 m1 H1 v e1 c1 r1 p1 => ?_)
  refine kn av1 m1 H1 σ env cs1 _ c1 (s.mono c.sub e1) (PostA.bindE p1 fun ds cs2 av2 m2 H2 vs e2 c2 r2 p2 => ?_)
  have r3 := r1.mono c1.sub e2
  split at p2
  · rename_i i j
    cases r3
    cases r2 with
    | cons r t =>
      cases t
      cases r
      refine ⟨j, rfl, fun q hq => hr i j q _ _ upd_same ?_⟩
      exact p2 av2 m2 _ _ (Ext.fresh hq) (c2.fresh hq) (.bl _)
  · exact p2.elim
section
variable {a b : Expr} {p cpos : Pos} {ga : Gx} {gn : Ga}
theorem pe_rng1 {tn : TA} (hn : PA X [b] tn) (hm : X.mg "range" = none) (hg : Gl X "range" := by rfl) (he : starEach [b] X.env = (false, eval b X.env) :: starEach [] X.env := by rfl) (hpl : (backTo cpos (starEach [] X.env)).any (·.1) = false := by rfl) :
    PE X (.Call (.Name "range" p) [b] [] cpos) (tCB (fun vs H Q => ∃ j, vs = [V.int j] ∧ ∀ p, H p = none → Q (.ref p) (upd H p (.rng 0 j))) tn) := pe_callTy cr_range1 hg hm (by decide +kernel) hn (by decide) (by decide) he hpl
theorem de_inR (ha : DE X EX a ga) (hn : DA X EX [b] gn) (hm : X.mg "range" = none) (hg : Gl X "range" := by rfl) (he : starEach [b] X.env = (false, eval b X.env) :: starEach [] X.env := by rfl) (hpl : (backTo cpos (starEach [] X.env)).any (·.1) = false := by rfl) (hb : behindInMarks .In (.Call (.Name "range" p) [b] [] cpos) = false := by first | exact nomark _ | rfl) :
    DE X EX (.Compare a [.In] [.Call (.Name "range" p) [b] [] cpos] pos) (gInR false ga gn) := by
  obtain ⟨ta, ha, ka⟩ := ha
  obtain ⟨tn, hn, kn⟩ := hn
  exact ⟨_, pe_cmpR op_in_rng ha (pe_rng1 hn hm hg he hpl) hb, te_inR (neg := false) (fun i j p H Q h q => ⟨i, p, 0, j, rfl, rfl, h, q⟩) ka kn⟩
theorem de_notinR (ha : DE X EX a ga) (hn : DA X EX [b] gn) (hm : X.mg "range" = none) (hg : Gl X "range" := by rfl) (he : starEach [b] X.env = (false, eval b X.env) :: starEach [] X.env := by rfl) (hpl : (backTo cpos (starEach [] X.env)).any (·.1) = false := by rfl) (hb : behindInMarks .NotIn (.Call (.Name "range" p) [b] [] cpos) = false := by first | exact nomark _ | rfl) :
    DE X EX (.Compare a [.NotIn] [.Call (.Name "range" p) [b] [] cpos] pos) (gInR true ga gn) := by
  obtain ⟨ta, ha, ka⟩ := ha
  obtain ⟨tn, hn, kn⟩ := hn
  exact ⟨_, pe_cmpR op_notin_rng ha (pe_rng1 hn hm hg he hpl) hb, te_inR (neg := true) (fun i j p H Q h q => ⟨i, p, 0, j, rfl, rfl, h, q⟩) ka kn⟩
theorem dt_inR (ha : DE X EX a ga) (hn : DA X EX [b] gn) (hm : X.mg "range" = none) (hg : Gl X "range" := by rfl) (he : starEach [b] X.env = (false, eval b X.env) :: starEach [] X.env := by rfl) (hpl : (backTo cpos (starEach [] X.env)).any (·.1) = false := by rfl) (hb : behindInMarks .In (.Call (.Name "range" p) [b] [] cpos) = false := by first | exact nomark _ | rfl) :
    DT X EX (.Compare a [.In] [.Call (.Name "range" p) [b] [] cpos] pos) (tE (gInR false ga gn)) := by
  obtain ⟨ta, ha, ka⟩ := ha
  obtain ⟨tn, hn, kn⟩ := hn
  refine ⟨_, pt_cmpR op_in_rng ha (pe_rng1 hn hm hg he hpl) hb, fun av m H σ env cs Q c s p => te_inR (X := X) (neg := false) (fun i j p H Q h q => ⟨i, p, 0, j, rfl, rfl, h, q⟩) ka kn av m H σ env cs _ c s (PostE.bindT p fun d cs1 av1 m1 H1 v e1 c1 r1 p1 => ?_)⟩
  cases d with
  | bl b => rw [r1.bool]; exact ⟨b, rfl, p1 av1 m1 H1 (Ext.refl ..) c1⟩
  | _ => exact p1.elim
theorem dt_notinR (ha : DE X EX a ga) (hn : DA X EX [b] gn) (hm : X.mg "range" = none) (hg : Gl X "range" := by rfl) (he : starEach [b] X.env = (false, eval b X.env) :: starEach [] X.env := by rfl) (hpl : (backTo cpos (starEach [] X.env)).any (·.1) = false := by rfl) (hb : behindInMarks .NotIn (.Call (.Name "range" p) [b] [] cpos) = false := by first | exact nomark _ | rfl) :
    DT X EX (.Compare a [.NotIn] [.Call (.Name "range" p) [b] [] cpos] pos) (tE (gInR true ga gn)) := by
  obtain ⟨ta, ha, ka⟩ := ha
  obtain ⟨tn, hn, kn⟩ := hn
  refine ⟨_, pt_cmpR op_notin_rng ha (pe_rng1 hn hm hg he hpl) hb, fun av m H σ env cs Q c s p => te_inR (X := X) (neg := true) (fun i j p H Q h q => ⟨i, p, 0, j, rfl, rfl, h, q⟩) ka kn av m H σ env cs _ c s (PostE.bindT p fun d cs1 av1 m1 H1 v e1 c1 r1 p1 => ?_)⟩
  cases d with
  | bl b => rw [r1.bool]; exact ⟨b, rfl, p1 av1 m1 H1 (Ext.refl ..) c1⟩
  | _ => exact p1.elim
end
end
end Dm
set_option linter.all false
set_option maxRecDepth 100000
set_option maxHeartbeats 2000000
/-! Dm: a[i] += e of a list of numbers; range(i, j, -1). -/
namespace Dm
open PySem PySem.Spec L2 PyProof.Rows
theorem get_list {X : Cx} : PGet X (rIxL X.K) := by
  intro pins s σ H x y v u Q I rx ry h
  obtain ⟨p, xs, i, z, rfl, rfl, hq, he, q⟩ := h
  cases rx
  obtain ⟨t, rfl⟩ := ry
  obtain ⟨its, r, pl, hz⟩ := I.list hq
  obtain ⟨j, h1, h2, h3, h4, h5⟩ := atI_get he
  obtain ⟨w, ew, rw'⟩ := r.get h2
  have hl := r.length
  have hn := line63
  have fin : EP X pins σ Q w s := ⟨z, H, I, rw', q⟩
  by_cases h0 : 0 ≤ i
  · have hj : i.toNat = j := by
      rw [seqIndex_of h0 h5] at h1
      exact Option.some.inj h1
    exact wpAny_getItem_list pl.isList h0 (by omega) (by rw [hj]; simpa using ew) fin
  · have hj : (i + (its.toArray.size : Int)).toNat = j := by
      rw [seqIndex_neg (by omega) h4] at h1
      rw [List.size_toArray, ← hl]
      exact Option.some.inj h1
    exact wpAny_getItem_list_neg pl.isList (by omega) (by rw [List.size_toArray] <;> omega) (by omega) (by rw [hj]; simpa using ew) fin
section
variable {X : Cx} {EX : XK} {pos tpos : Pos} {o i e : Expr}
def sAugI (go gi ge : Gx) : Gs := fun env cs => (go env cs).bind fun o cs => (gi env cs).bind fun i cs => match o, i with
  | .cell n, .int i => match cs[n]? with
    | some (.lst xs) => match L2.atI xs i with
      | some (.int x) => (ge env cs).bind fun y cs => match y with
        | .int y => (putD n i (.int (x + y)) cs).bind fun _ cs => .ok ⟨.nx, env⟩ cs
        | _ => .bad
      | _ => .bad
    | _ => .bad
  | _, _ => .bad
theorem ds_augI {go gi ge : Gx} (ho : DE X EX o go) (hi : DE X EX i gi) (he : DE X EX e ge)
    (ha : ∀ ov iv new, augStore i ov iv new = (do holding [new, ov, iv] (setItem ov iv new); release [new, ov, iv] []; pure .next) := by intros; rfl) : DS X EX (.AugAssign (.Subscript o i tpos) .Add e pos) (sAugI go gi ge) := by
  obtain ⟨t, h, k⟩ := ho
  obtain ⟨u, h', k'⟩ := hi
  obtain ⟨w, h2, k2⟩ := he
  refine ⟨_, ps_augS h h' get_list h2 ip_add set_list ha, fun av m H σ env cs Dn c s p => ?_⟩
  unfold sAugI at p
  refine k av m H σ env cs _ c s (PostE.bindS p fun dO cs1 av1 m1 H1 vo e1 c1 r1 p1 => ?_)
  have s1 := s.mono c.sub e1
  refine k' av1 m1 H1 σ env cs1 _ c1 s1 (PostE.bindS p1 fun dI cs2 av2 m2 H2 vi e2 c2 r2 p2 => ?_)
  have s2 := s1.mono c1.sub e2
  have ro := r1.mono c1.sub e2
  split at p2
  · rename_i n z
    cases r2
    cases ro with
    | @cell _ a hn =>
      split at p2
      · rename_i xs hx
        split at p2
        · rename_i x hd
          obtain ⟨ys, q, l⟩ := c2.ok n a _ hn hx
          obtain ⟨v, g1, g2⟩ := l.atI hd
          cases g2
          refine ⟨a, ys, z, _, rfl, rfl, SqL.of q, g1, ?_⟩
          refine k2 av2 m2 H2 σ env cs2 _ c2 s2 (PostE.bindS p2 fun dy cs3 av3 m3 H3 vy e3 c3 r3 p3 => ?_)
          have s3 := s2.mono c2.sub e3
          have hn3 : m3[n]? = some a := e3.at hn
          split at p3
          · rename_i yy
            cases r3
            refine ⟨_, _, rfl, rfl, ?_⟩
            unfold putD at p3
            split at p3
            · rename_i xs' hx'
              split at p3
              · rename_i j hj
                obtain ⟨ys', q', l'⟩ := c3.ok n a _ hn3 hx'
                refine ⟨a, ys', z, j, rfl, rfl, q', by rw [l'.length]; exact hj, ?_⟩
                have ham : a ∈ m3 := List.mem_of_getElem? hn3
                have e4 : Ext av3 m3 H3 av3 m3 (upd H3 a (.lst (ys'.set j (.int (x + yy))))) := Ext.put ham
                obtain ⟨e5, c5⟩ := c3.put (d := .lst (xs'.set j (.int (x + yy)))) hn3 ⟨_, upd_same, (l'.set j (.int _)).mono c3.sub e4⟩
                exact p3 av3 m3 _ σ e5 c5 (s3.mono c3.sub e5)
              · exact p3.elim
            · exact p3.elim
          · exact p3.elim
        · exact p2.elim
      · exact p2.elim
  · exact p2.elim
/-- isinstance of a list that is a cell -/
def isiCD : List D → List C → Out D
  | [.cell n, .ty b], cs => match cs[n]? with
    | some (.lst _) => match isSub "list" b with
      | some k => .ok (.bl k) cs
      | none => .bad
    | _ => .bad
  | _, _ => .bad
theorem cd_isiC {K : PySem.W.Frag} {mg : Str → Option Value} : CallD K mg EX (rIsi K) isiCD := by
  intro av m H cs xs ds Q c r q
  unfold isiCD at q
  split at q
  · cases r with
    | cons r t =>
      cases t with
      | cons r' t =>
        cases t; cases r'
        split at q
        · rename_i ys hy
          split at q
          · rename_i k hk
            cases r with
            | cell hn =>
              obtain ⟨vs, h1, _⟩ := c.ok _ _ _ hn hy
              exact ⟨_, _, _, _, k, rfl, .ty _, .base (.lst h1), kit_sub (by simp) hk, q.here c (.bl k)⟩
          · exact q.elim
        · exact q.elim
  · exact q.elim
theorem de_isiC {a : Ga} {p : Pos} {e2 : Expr} (ha : DA X EX [e, e2] a) (hm : X.mg "isinstance" = none) (hg : Gl X "isinstance" := by rfl) (he : starEach [e, e2] X.env = (false, eval e X.env) :: starEach [e2] X.env := by rfl) (hpl : (backTo pos (starEach [e2] X.env)).any (·.1) = false := by rfl) : DE X EX (.Call (.Name "isinstance" p) [e, e2] [] pos) (gA isiCD a) :=
  de_callB call_isi cd_isiC hg hm (by decide +kernel) ha (by decide) (by decide) he hpl
/-- range(i, j, -1) -/
def dwnD (lo : Int) (n : Nat) : List D := (List.range n).map fun i => D.int (lo + (i : Nat) * (-1))
theorem walk_down {K : PySem.W.Frag} {mg : Str → Option Value} {av m : List Addr} {H : Hp} {lo : Int} {n : Nat} : WalkD K mg av m H (Itc lo (-1) n) (dwnD lo n) where
  go := fun i d av' m' H' hd e => by
    have := (List.getElem?_eq_some_iff.mp hd).1
    rw [dwnD, List.length_map, List.length_range] at this
    exact this
  yld := fun i d av' m' H' x H'' cs hd e c y => by
    obtain ⟨rfl, rfl⟩ := y
    have hi : i < n := by have := (List.getElem?_eq_some_iff.mp hd).1; simpa [dwnD] using this
    have : d = .int (lo + (i : Nat) * (-1)) := by
      simp only [dwnD, List.getElem?_map, List.getElem?_range hi, Option.map_some, Option.some.injEq] at hd
      exact hd.symm
    subst this
    exact ⟨Ext.refl .., c, .int _⟩
  stop := fun i av' m' H' hi e => by
    rw [dwnD, List.length_map, List.length_range] at hi
    exact hi
def iR3 (a : Ga) : Ga := fun env cs => (a env cs).bind fun ds cs => match ds with
  | [.int i, .int j, .int k] => if k = -1 ∧ -(2 ^ 62) ≤ i ∧ i < 2 ^ 62 ∧ -(2 ^ 62) ≤ j ∧ j < 2 ^ 62 then .ok (dwnD i (i - j).toNat) cs else .bad
  | _ => .bad
theorem di_range3 {tg a b c : Expr} {ga : Ga} {p : Pos} (hg : Gl X "range") (hm : X.mg "range" = none) (ha : DA X EX [a, b, c] ga)
    (hs : starEach [a, b, c] X.env = (false, eval a X.env) :: starEach [b, c] X.env := by rfl) (hpl : (backTo pos (starEach [b, c] X.env)).any (·.1) = false := by rfl) :
    DI X EX tg (.Call (.Name "range" p) [a, b, c] [] pos) (iR3 ga) := by
  obtain ⟨t, h, k⟩ := ha
  refine ⟨_, pi_range3 hg hm h hs hpl, fun av m H σ env cs Q c s p => k av m H σ env cs _ c s (PostA.bindI p fun ds cs1 av1 m1 H1 vs e1 c1 r1 p1 => ?_)⟩
  split at p1
  · rename_i i j kk
    cases r1 with
    | cons r t =>
      cases t with
      | cons r' t =>
        cases t with
        | cons r'' t =>
          cases t; cases r; cases r'; cases r''
          split at p1
          · rename_i hj
            obtain ⟨rfl, h1, h2, h3, h4⟩ := hj
            exact ⟨i, j, -1, _, rfl, RgC.neg h1 h2 h3 h4, p1 av1 m1 H1 _ (Ext.refl ..) c1 walk_down⟩
          · exact p1.elim
  · exact p1.elim
end
end Dm
set_option linter.all false
set_option maxRecDepth 100000
set_option maxHeartbeats 2000000
/-! Dm: super().__init__(..) as the first statement of a method. -/
namespace Dm
open PySem PySem.Spec L2
open PyProof.Rows (envOfC)
section
variable {X : Cx} {EX : XK}
/-- what of the text the call of the method above wants -/
structure SupOk (X : Cx) (f f2 cc D : Addr) (m slf : Str) : Prop where
  ks : X.env.kindOf "super" = some .globalImplicit
  kc : X.env.kindOf "__class__" = some .free
  fu : X.env.func = some f
  fn : ∃ oc od fd osl ar, X.K.lookup f = some ⟨oc, od, .func fd, osl⟩ ∧ (fd.params.posonlyargs ++ fd.params.args).head? = some ar ∧ ar.arg = slf
  co : ∃ cda oc od vs osl file tf, X.env.code = .ref cda ∧ X.K.lookup cda = some ⟨oc, od, .fields vs, osl⟩ ∧ vs[2]? = some (.str file tf) ∧ ((X.prog.main.file : Str) == file) = true
  top : (X.prog.main.scope.names.lookup ("super" : Str)).isSome = false
  cell : X.env.cells.lookup ("__class__" : Str) = some cc
  cc : ∃ oc od osl, X.K.lookup cc = some ⟨oc, od, .cell (some (.ref D)), osl⟩
  cls : ∃ cd, PySem.W.clsIn X.K D = some cd
  mg : X.mg "super" = none
  op : PySem.W.nsIn X.K cStatics "thirdparty.any" = some none
  kl : X.env.kindOf slf = some .local
  n0 : X.N[0]? = some slf
  fn2 : PySem.W.fnIn X.K f2 = true
  ty2 : PySem.W.typeIn X.K (.ref f2) = some (.type "function")
/-- the class C has f2 above D -/
structure Above (K : PySem.W.Frag) (C D f2 : Addr) (m : Str) : Prop where
  sub : PySem.W.mroIn K C (.ref D) = some true
  at_ : PySem.W.ks_superIn K C D m = some (some (.ref f2))
theorem cls_at {K : PySem.W.Frag} {D : Addr} {cd : ClassData} (h : PySem.W.clsIn K D = some cd) : ∃ oD, K.lookup D = some oD ∧ oD.data = .cls cd := by
  unfold PySem.W.clsIn at h
  split at h
  · rename_i c d cd' sl ho
    cases h
    exact ⟨_, ho, rfl⟩
  · cases h
theorem super_run {body : List Stmt} {p0 p1 apos pos pos' : Pos} {m slf : Str} {e : Expr} {es : List Expr} {f f2 cc D C a dx : Addr} {fs : List (Str × V)} {fd2 : FuncData} {ps : List Str} {sp : Sp} {ta : TA} {k : Nat} {s : Shared} {σ : L2.St} {H : Hp} {Dn : Ends}
    (S : SupOk X f f2 cc D m slf) (Ab : Above X.K C D f2 m) (hmn : (m == ("__class__" : Str)) = false) (I : Inv X [] σ H s) (h0 : σ[0]? = some (some (.ref a))) (hH : H a = some (.ins C dx fs))
    (G : FnG X.prog X.w X.K X.mg X.base k f2 fd2 ps sp) (hr : Room k X.A) (hq : Quiet X.A) (hb : Binds X.K fd2 ps []) (hx : Passes (L2.CX X.prog X.w) X EX) (ha : PA X (e :: es) ta)
    (h : ta σ H fun vs H1 => sp (.ref a :: vs) H1 (fun _ H2 => Dn.nx σ H2) EX)
    (hi : interactive X.env = false) (hs : swapsWith (.Call (.Attribute (.Call (.Name "super" p0) [] [] p1) m apos) (e :: es) [] pos) none pos'.line X.env = pure false)
    {pl : Sem Bool} (he : eval (.Call (.Attribute (.Call (.Name "super" p0) [] [] p1) m apos) (e :: es) [] pos) X.env = (do
      let ov ← attributeBase (.Call (.Name "super" p0) [] [] p1) m X.env (eval (.Call (.Name "super" p0) [] [] p1) X.env)
      standAt apos.atName
      let (f, first) ← holding [ov] (getMethod ov m pl)
      callWith pos f first (backTo pos (starEach (e :: es) X.env)) []))
    (hst : starEach (e :: es) X.env = (false, eval e X.env) :: starEach es X.env) (hpl : (backTo pos (starEach es X.env)).any (·.1) = false) :
    PySem.wpAt (model X.prog X.w) X.A (.func body X.env) (exec (.Expr (.Call (.Attribute (.Call (.Name "super" p0) [] [] p1) m apos) (e :: es) [] pos) pos') X.env) (SP X [] Dn) X.xe s := by
  obtain ⟨oc, od, fd, osl, ar, hf, hp, hsl⟩ := S.fn
  obtain ⟨cda, oc2, od2, vs2, osl2, file, tf, hco, hcode, hvs, hfile⟩ := S.co
  obtain ⟨oc3, od3, osl3, hcc⟩ := S.cc
  obtain ⟨cd, hcd⟩ := S.cls
  obtain ⟨oD, hD1, hD2⟩ := cls_at hcd
  obtain ⟨mA, O, _, _, _, _⟩ := ins_get I.hok hH
  obtain ⟨mL, hn, hl⟩ := I.loc
  obtain ⟨u, ru, lk⟩ := hl 0 slf _ S.n0 h0 (.inl S.kl)
  cases (show u = Value.ref a from ru)
  have hv : mL slf = some (.ref a) := by
    rcases lk with ⟨_, z⟩ | ⟨z, _⟩
    · exact z
    · rw [S.kl] at z; rcases z with z | z <;> cases z
  have kIn := I.kIn
  subst hsl
  refine ks_wpAt_Expr_any ?_ hi hs
  refine ks_wpAt_MethodCall (pl := pl) ?_ he
  refine ks_wpAt_super_base (env := X.env) S.ks S.kc hmn S.fu (kIn _ _ hf) rfl hp hco (kIn _ _ hcode) rfl hvs hfile S.top ?_
  obtain ⟨mb, b1, b2⟩ := I.mod.blt
  refine PySem.W.ks_loadName_global I.ok.kind S.ks (PySem.Calls.loadGlobal_builtin (by rw [I.ok.glob]; exact I.mod.glob.keeps I.bk) S.mg (by rw [I.ok.blt]; exact b1.keeps I.bk) ((b2 "super" (by decide)).trans (by decide +kernel : bootBuiltins "super" = some (.type "super"))) ⟨rfl, ?_⟩)
  refine wpAny_loadName_free I.ok.kind S.kc S.cell ⟨_, kIn _ _ hcc, rfl⟩ ?_
  refine wpAny_loadName_local I.ok.kind S.kl hn hv ?_
  refine ks_wpAny_isType_cls (kIn _ _ hD1) hD2 ⟨rfl, ?_⟩
  obtain ⟨hp0, g, d, t, os⟩ := s
  refine ks_wpAny_call_super (C := C) (kIn _ _ hD1) hD2 O.obj rfl (fun c z => by cases z) (PySem.W.looks_mroIn kIn Ab.sub) fun h' e1 k1 => ?_
  have I1 : Inv X [] σ H ⟨h', g, d, t, os⟩ := I.kept (t' := t) k1
  have kIn1 : X.K.In h' := fun b o e => k1 b o (kIn b o e)
  have hx1 : h'.get? a = some (PySem.W.instObj C dx) := k1 _ _ O.obj
  obtain ⟨of, hof, hofc⟩ : ∃ of, h'.get? f2 = some of ∧ of.cls = .type "function" := by
    have ht' : (X.K.lookup f2).map (·.cls) = some (.type "function") := S.ty2
    cases z : X.K.lookup f2 with
    | none => rw [z] at ht'; cases ht'
    | some of => rw [z] at ht'; exact ⟨of, kIn1 _ _ z, Option.some.inj ht'⟩
  have hsi := Ab.at_
  unfold PySem.W.ks_superIn at hsi
  cases hcC : PySem.W.clsIn X.K C with
  | none => rw [hcC] at hsi; cases hsi
  | some cdC =>
    rw [hcC] at hsi
    have hne : a ≠ C := by
      rintro rfl
      obtain ⟨oC, c1, c2⟩ := cls_at hcC
      have := kIn1 _ _ c1
      rw [hx1] at this
      cases this
      cases c2
    refine ks_wpAny_getMethod_super e1 (PySem.W.looks_opaque kIn1 S.op) (l₀ := cdC.mro) (fun A Q E s k q => wpAny_bind ((PySem.W.looks_clsIn kIn1 hcC) A _ E s k (wpAny_pure q))) rfl kIn1 hsi hof hofc hne hmn ?_
    have I2 : Inv X [] σ H ⟨h'.push { cls := .type "method", data := .fields #[.ref f2, .ref a] }, g, d, t + 1, os⟩ := I1.kept (t' := t + 1) fun b o e => Heap.get?_push_of_some _ e
    have fr : H h'.objs.size = none := I1.hok.fresh (Nat.le_refl _)
    have I3 : Inv X [(h'.objs.size, PySem.W.methodObj (.ref f2) (.ref a))] σ H ⟨h'.push { cls := .type "method", data := .fields #[.ref f2, .ref a] }, g, d, t + 1, os⟩ := by
      refine ⟨I2.ok, I2.os, I2.bare, I2.base, I2.loc, I2.cell, I2.free, I2.freeC, fun q hq => ?_, I2.hok, I2.len⟩
      rcases List.mem_append.mp hq with hq | hq
      · exact I2.pin q (List.mem_append_left _ hq)
      · cases List.mem_singleton.mp hq
        exact ⟨Heap.get?_push_at rfl rfl, fr, Nat.ne_of_gt I1.lt, I1.nofs (Nat.le_refl _), fun v z => nomatch z⟩
    rw [hst]
    refine PySem.W.callWith_of (P := PySem.W.MethP X.K h'.objs.size f2 (.ref a)) (by show ((false || (backTo pos (starEach es X.env)).any (·.1)) || false) = false; rw [hpl]; rfl) (fun h X => PySem.W.keeps_M S.fn2 h X) (PySem.Calls.evalArgs_plain ?_)
    have sp1 := ha.run pos [(h'.objs.size, PySem.W.methodObj (.ref f2) (.ref a))] _ σ H _ I3 h
    rw [hst] at sp1
    refine thn sp1 fun us s3 ⟨vs, H1, J, r, q⟩ => ?_
    have pin := J.pin _ (List.mem_append_right _ List.mem_cons_self)
    refine ⟨⟨pin.1, J.kIn⟩, ?_⟩
    refine wpAny_call (ks_codeAny_call_bound pin.1 ?_)
    have J0 : Inv X [] σ H1 s3 := ⟨J.ok, J.os, J.bare, J.base, J.loc, J.cell, J.free, J.freeC, fun q hq => J.pin q (by rcases List.mem_append.mp hq with hq | hq; exact List.mem_append_left _ hq; cases hq), J.hok, J.len⟩
    have hl2 : (Value.ref a :: us).length = ps.length := by
      have z := G.len _ _ _ _ q
      rw [← z, List.length_cons, List.length_cons, r.length]
    have bb := hb s3 (Value.ref a :: us) J0.kIn (by rw [List.append_nil]; exact hl2)
    rw [List.append_nil] at bb
    have run := G.run X.A X.stack s3 H1 ⟨.ref a :: us, []⟩ (.ref a :: us) (.ref a :: vs) _ EX hr hq J0.env0 bb (.cons rfl r) q
    refine codeAny_mono run fun o s4 h4 => ?_
    match o, h4 with
    | .error u, h4 => exact hx [] σ H1 s3 u s4 J0 h4
    | .ok (.ret u), h4 =>
      obtain ⟨v, H', J4, rv, q4⟩ := J0.after h4
      exact ⟨σ, H', J4, q4⟩
end

/-! ### the def -/
/-- the def at f: it captures the cell cc of its class -/
structure FunS (K : PySem.W.Frag) (x qual : Str) (st : Stmt) (f : Addr) (fd : FuncData) (cc cda : Addr) : Prop where
  ex : ∃ c0 d0 dV kV doc pm an ct0 s0, fd = PySem.W.fnX x qual (defArgs st) (defBody st) (defScope st) [("__class__", cc)] dV kV doc pm an (.ref cda) ct0 ∧ K.lookup f = some ⟨c0, d0, .func fd, s0⟩ ∧ PySem.W.codeIn K (.ref cda) qual = true
abbrev nfOf (x qual : Str) (st : Stmt) (cc cda : Addr) : NdefX.NF := ⟨x, qual, defArgs st, defBody st, defScope st, [("__class__", cc)], cda⟩
abbrev supCx (P : Program) (w : World) (K : PySem.W.Frag) (mg : Str → Option Value) (base : Heap) (N : List Str) (F : NdefX.NF) (f : Addr) (A : Around) (outer : List Env) (s : Shared) (H : Hp) (E : XK) : Cx := NdefX.ncx (L2.CX P w) P w K mg base N F f A outer s H E
def sSup (xs : List Str) (F : Fd) (ga : Ga) : Gs := fun env cs => match env[0]? with
  | some (some (D.cell n)) => match cs[n]? with
    | some (C.obj x _) => if x ∈ xs then (ga env cs).bind fun ds cs => (F (.cell n :: ds) cs).bind fun _ cs => .ok ⟨.nx, env⟩ cs else .bad
    | _ => .bad
  | _ => .bad
section
variable {P : Program} {w : World} {K : PySem.W.Frag} {mg : Str → Option Value} {base : Heap}
theorem sup_seq (xs : List Str) (F : Fd) (ga : Ga) (g : Gs) (env : List (Option D)) (cs : List C) : sSeq (sSup xs F ga) g env cs = match env[0]? with
  | some (some (D.cell n)) => match cs[n]? with
    | some (C.obj x _) => if x ∈ xs then (ga env cs).bind fun ds cs => (F (.cell n :: ds) cs).bind fun _ cs => g env cs else .bad
    | _ => .bad
  | _ => .bad := by
  unfold sSeq sSup
  cases env[0]? with
  | none => rfl
  | some o =>
    cases o with
    | none => rfl
    | some d =>
      cases d with
      | cell n =>
        simp only
        cases cs[n]? with
        | none => rfl
        | some c =>
          cases c with
          | obj x fs =>
            simp only
            by_cases h : x ∈ xs
            · rw [if_pos h, if_pos h]
              cases ga env cs with
              | ok ds cs =>
                simp only [Out.bind]
                cases F (.cell n :: ds) cs <;> rfl
              | exc _ _ _ => rfl
              | bad => rfl
            · rw [if_neg h, if_neg h]
          | _ => rfl
      | _ => rfl
theorem pass_sup {N : List Str} {F : NdefX.NF} {f : Addr} {A : Around} {outer : List Env} {s : Shared} {H : Hp} {E : XK} : Passes (L2.CX P w) (supCx P w K mg base N F f A outer s H E) E :=
  passes_call (X := supCx P w K mg base N F f A outer s H E) (takes_of rfl rfl rfl rfl) fun _ _ _ _ h => h
theorem startF_eq {N : List Str} {vs : List V} (h : vs.length + 1 ≤ N.length) : NdefX.startF N vs [none] = start N vs := by
  unfold NdefX.startF L2.start
  congr 1
  rw [show N.length - vs.length = (N.length - vs.length - 1) + 1 by omega, List.replicate_succ]
  rfl
theorem fnd_sup {k : Nat} {f f2 cc cda D : Addr} {x qual slf m : Str} {st : Stmt} {fd fd2 : FuncData} {N ps ps2 xs : List Str} {g : Gs} {F2 : Fd} {ga : Ga} {p0 p1 apos pos pos' : Pos} {e : Expr} {es : List Expr} {rest : List Stmt}
    (Fn : FunS K x qual st f fd cc cda) (S : NdefX.NScope N ps ["__class__"] (defScope st)) (hcell : ∃ oc od osl, K.lookup cc = some ⟨oc, od, .cell (some (.ref D)), osl⟩)
    (so : ∀ (A : Around) (outer : List Env) (s : Shared) (H : Hp) (E : XK), SupOk (supCx P w K mg base N (nfOf x qual st cc cda) f A outer s H E) f f2 cc D m slf) (hmn : (m == ("__class__" : Str)) = false)
    (ab : ∀ y ∈ xs, ∃ C, mg y = some (.ref C) ∧ Above K C D f2 m)
    (G : FnD P w K mg base k f2 fd2 ps2 F2) (hb : Binds K fd2 ps2 [])
    (hbody : defBody st = .Expr (.Call (.Attribute (.Call (.Name "super" p0) [] [] p1) m apos) (e :: es) [] pos) pos' :: rest)
    (body : ∀ (A : Around) (outer : List Env) (s : Shared) (H : Hp) (E : XK), Room k (A.deeper (NdefX.envF (nfOf x qual st cc cda) f s.heap.objs.size)) → Quiet A →
      DA (supCx P w K mg base N (nfOf x qual st cc cda) f A outer s H E) E (e :: es) ga ∧ DSs (supCx P w K mg base N (nfOf x qual st cc cda) f A outer s H E) E rest g ∧
      (interactive (NdefX.envF (nfOf x qual st cc cda) f s.heap.objs.size) = false ∧ swapsWith (.Call (.Attribute (.Call (.Name "super" p0) [] [] p1) m apos) (e :: es) [] pos) none pos'.line (NdefX.envF (nfOf x qual st cc cda) f s.heap.objs.size) = pure false ∧
      (∃ pl : Sem Bool, eval (.Call (.Attribute (.Call (.Name "super" p0) [] [] p1) m apos) (e :: es) [] pos) (NdefX.envF (nfOf x qual st cc cda) f s.heap.objs.size) = (do
        let ov ← attributeBase (.Call (.Name "super" p0) [] [] p1) m (NdefX.envF (nfOf x qual st cc cda) f s.heap.objs.size) (eval (.Call (.Name "super" p0) [] [] p1) (NdefX.envF (nfOf x qual st cc cda) f s.heap.objs.size))
        standAt apos.atName
        let (g0, first) ← holding [ov] (getMethod ov m pl)
        callWith pos g0 first (backTo pos (starEach (e :: es) (NdefX.envF (nfOf x qual st cc cda) f s.heap.objs.size))) [])) ∧
      starEach (e :: es) (NdefX.envF (nfOf x qual st cc cda) f s.heap.objs.size) = (false, eval e (NdefX.envF (nfOf x qual st cc cda) f s.heap.objs.size)) :: starEach es (NdefX.envF (nfOf x qual st cc cda) f s.heap.objs.size) ∧
      (backTo pos (starEach es (NdefX.envF (nfOf x qual st cc cda) f s.heap.objs.size))).any (·.1) = false)) :
    FnD P w K mg base (k + 1) f fd ps (runB N.length (sSeq (sSup xs (argN ps2.length F2) ga) g)) := by
  obtain ⟨c0, d0, dV, kV, doc, pm, an, ct0, s0, efd, look, code⟩ := Fn.ex
  subst efd
  refine ⟨spG.len, fun A outer s H args us vs Q E room quiet env0 binds vals want => ?_⟩
  have there : ∀ b o, base.get? b = some o → s.heap.get? b = some o := fun b o e => (env0.bs b o e).1
  have inK : K.In s.heap := env0.mod.kin.keeps there
  have hl : vs.length = ps.length := spG.len _ _ _ _ want
  have hpN : ps.length + 1 ≤ N.length := by
    have q := congrArg List.length S.pre
    rw [List.length_take, List.length_append, List.length_singleton] at q
    omega
  refine codeAny_call_function room.depth (inK _ _ look) rfl S.co S.gen rfl (PySem.W.codeRec_of inK code) (binds _ _ _ _ ?_)
  refine wpAny_newFunctionEnv S.nocell (fun ⟨n, _⟩ hy => S.par n (List.of_mem_zip hy).1) (fun h₁ hns hsb => ⟨((env0.mod.nolimit).keeps there).fresh _ hsb, ?_⟩) S.kind
  have kp : ∀ b o, s.heap.get? b = some o → h₁.get? b = some o := fun b o e => hsb.extBut b o (Nat.ne_of_lt (Heap.lt_size e)) (Heap.get?_push_of_some _ e)
  have Cl : NdefX.CellsAt (nfOf x qual st cc cda).cl ["__class__"] [none] s.heap H := by
    obtain ⟨oc, od, osl, hc⟩ := hcell
    have hc2 : base.get? cc = some ⟨oc, od, .cell (some (.ref D)), osl⟩ := env0.mod.kin _ _ hc
    have one : ∀ y c, (nfOf x qual st cc cda).cl.lookup y = some c → y = "__class__" ∧ c = cc := fun y c z => by
      show y = _ ∧ _
      have z : List.lookup y [(("__class__" : Str), cc)] = some c := z
      rw [List.lookup_cons] at z
      by_cases q : (y == ("__class__" : Str)) = true
      · rw [q] at z
        exact ⟨eq_of_beq q, (Option.some.inj z).symm⟩
      · rw [Bool.not_eq_true] at q
        rw [q] at z
        simp at z
    refine ⟨rfl, fun y c z => ?_, fun y z c h1 h2 => (one y c h1).1.trans (one z c h2).1.symm, fun i y hy => ?_⟩
    · obtain ⟨_, rfl⟩ := one y c z
      exact ⟨(env0.bs _ _ hc2).2, _, _, there _ _ hc2, rfl⟩
    · match i, hy with
      | 0, hy =>
        cases hy
        exact ⟨cc, List.lookup_cons_self, fun v hv => by cases hv⟩
  have I : Inv (supCx P w K mg base N (nfOf x qual st cc cda) f A outer s H E) [] (NdefX.startF N vs [none]) H { s with heap := h₁, toks := s.toks + (ps.zip us).length } := NdefX.inv_startN S room.hd env0 hl vals Cl hns kp
  rw [startF_eq (by omega)] at I
  obtain ⟨av, mm, ds, cs, c, l, hdl, p⟩ := want
  have p := p.run
  obtain ⟨b1, b2, b3, b4, ⟨pl, b5⟩, b6, b7⟩ := body A outer s H E (room.deeper _) quiet
  obtain ⟨ta, a1, a2⟩ := b1
  obtain ⟨tr, r1, r2⟩ := b2
  have rs := RS.start (N := N) l
  obtain ⟨env, hev⟩ : ∃ env, ds.map some ++ List.replicate (N.length - ds.length) none = env := ⟨_, rfl⟩
  rw [hev] at p rs
  rw [sup_seq] at p
  cases h0 : env[0]? with
  | none => rw [h0] at p; exact p.elim
  | some o0 =>
    rw [h0] at p
    cases o0 with
    | none => exact p.elim
    | some d0 =>
      cases d0 with
      | cell n =>
        cases hcn : cs[n]? with
        | none => simp only [hcn] at p; exact p.elim
        | some co =>
          cases co with
          | obj y fs0 =>
            simp only [hcn] at p
            by_cases hy : y ∈ xs
            · rw [if_pos hy] at p
              obtain ⟨v, hv1, hv2⟩ := rs.2 0 _ h0
              cases hv2 with
              | cell ha =>
                rename_i a
                obtain ⟨Cb, dx, fsv, g0, g1, g2⟩ := c.ok _ _ _ ha hcn
                obtain ⟨C, hC, Ab⟩ := ab y hy
                rw [hC] at g0
                cases g0
                refine ks_codeAny_funcAt ?_
                show PySem.wpAt _ _ _ (execs (defBody st) _) _ _ _
                rw [hbody]
                refine ks_wpAt_execs_cons ?_
                have run := super_run (body := .Expr (.Call (.Attribute (.Call (.Name "super" p0) [] [] p1) m apos) (e :: es) [] pos) pos' :: rest) (Dn := { nx := fun σ' H' => tr { nx := fun _ H' => Q .non H', rt := Q } σ' H', rt := fun _ _ => False }) (pl := pl)
                  (so A outer s H E) Ab hmn I hv1 g1 G (room.deeper _) quiet hb pass_sup a1 ?_ b3 b4 b5 b6 b7
                · refine ks_wpAt_mono run (fun fl s2 hsp => ?_) fun e s2 z => z
                  cases fl with
                  | next =>
                    obtain ⟨σ', H', J, q⟩ := hsp
                    refine wpAt_of_wpAny (wpAny_mono (r1.run [] s2 σ' H' _ J q) (fun fl2 s3 h2 => ?_) fun e s2 z => z)
                    have h3 := end_of (X := supCx P w K mg base N (nfOf x qual st cc cda) f A outer s H E) (E := E) rfl rfl rfl rfl h2
                    cases fl2 <;> exact h3
                  | ret u => obtain ⟨_, _, _, _, _, q⟩ := hsp; exact q.elim
                  | brk => obtain ⟨_, _, _, q⟩ := hsp; exact q.elim
                  | cont => obtain ⟨_, _, _, q⟩ := hsp; exact q.elim
                · refine a2 av mm H _ env cs _ c rs (PostA.bindS p fun ds1 cs1 av1 m1 H1 vs1 e1 c1 l1 p1 => ?_)
                  refine sp_K _ _ _ _ _ _ _ c1 (.cons (.cell (e1.at ha)) l1) (PostE.bindS p1 fun d cs2 av2 m2 H2 v e2 c2 l2 p2 => ?_)
                  exact r2 av2 m2 H2 _ env cs2 _ c2 ((rs.mono c.sub e1).mono c1.sub e2) p2
            · rw [if_neg hy] at p; exact p.elim
          | _ => simp only [hcn] at p; exact p.elim
      | _ => exact p.elim
end
end Dm
set_option linter.all false
set_option maxRecDepth 100000
set_option maxHeartbeats 2000000
/-! Dm: o.m() without arguments; o.f += e. -/
namespace Dm
open PySem PySem.Spec L2
section
variable {X : Cx} {EX : XK} {pos tpos apos : Pos} {k : Nat} {f Ca : Addr} {fd : FuncData} {ps : List Str} {F : Fd} {x mt : Str} {e o : Expr} {es : List Expr} {a : Ga}
theorem pe_mtG0 {sp : Sp} {ta : TE} {pl : Sem Bool} (ho : PE X o ta) (c : Cls X.K Ca) (hm : Meth X.K Ca mt f) (G : FnG X.prog X.w X.K X.mg X.base k f fd ps sp) (hr : Room k X.A) (hq : Quiet X.A) (hb : Binds X.K fd ps []) (hx : Passes (L2.CX X.prog X.w) X EX)
    (ht : eval (.Call (.Attribute o mt apos) [] [] pos) X.env = (do
      let ov ← eval o X.env
      standAt apos.atName
      let (f, first) ← holding [ov] (getMethod ov mt pl)
      callWith pos f first (backTo pos (starEach [] X.env)) (backToKw pos (keywordEach [] X.env))) := by rfl) : PE X (.Call (.Attribute o mt apos) [] [] pos) (tMtG Ca mt sp EX ta tNil) := by
  refine ⟨fun pins s σ H Q I h => PySem.W.methodCall_KW (pl := pl) (thn (ho.run pins s σ H _ I h) fun u s1 ⟨x, H1, I1, rx, b, dx, fs, ex, eb, nl, q⟩ => ?_) ht⟩
  subst ex
  cases (show u = Value.ref b from rx)
  refine getmeth_ok I1 eb c hm nl (PySem.W.callWith_K0 (first := [.ref b]) I1.kIn hm.kp ?_)
  have bb := hb s1 [Value.ref b] I1.kIn (by rw [List.append_nil]; exact G.len _ _ _ _ q)
  rw [List.append_nil] at bb
  exact run_fng (us := [.ref b]) (vs := [V.ref b]) G hr hq bb hx I1 (.cons rfl .nil) q
theorem de_mth0 {go : Gx} {pl : Sem Bool} (c : Mth X.prog X.w X.K X.mg X.base k x mt ps F) (hr : Room k X.A) (hq : Quiet X.A) (hx : Passes (L2.CX X.prog X.w) X EX) (ho : DE X EX o go)
    (ht : eval (.Call (.Attribute o mt apos) [] [] pos) X.env = (do
      let ov ← eval o X.env
      standAt apos.atName
      let (f, first) ← holding [ov] (getMethod ov mt pl)
      callWith pos f first (backTo pos (starEach [] X.env)) (backToKw pos (keywordEach [] X.env))) := by rfl) : DE X EX (.Call (.Attribute o mt apos) [] [] pos) (gMth x mt (argN ps.length F) go aNil) := by
  obtain ⟨Ca, f, fd, hm, cl, me, G, hb⟩ := c.ex
  obtain ⟨to, h, kk⟩ := ho
  refine ⟨_, pe_mtG0 (pl := pl) h cl me G hr hq hb hx ht, fun av m H σ env cs Q rc s p => ?_⟩
  unfold gMth at p
  refine kk av m H σ env cs _ rc s (PostE.bind p fun d cs1 av1 m1 H1 v e1 c1 r1 p1 => ?_)
  split at p1
  · rename_i n
    split at p1
    · rename_i y fs hn
      split at p1
      · rename_i hy
        obtain ⟨rfl, hl⟩ := hy
        cases r1 with
        | cell hat =>
          obtain ⟨Cb, dx, vs, h0, h1, h2⟩ := c1.ok _ _ _ hat hn
          rw [hm] at h0
          cases h0
          exact ⟨_, dx, vs, rfl, h1, h2.none hl, sp_K _ _ _ _ _ _ _ c1 (.cons (.cell hat) .nil) p1⟩
      · exact p1.elim
    · exact p1.elim
  · exact p1.elim
/-- o.f += e, numbers -/
def sFldAugD (xs : List Str) (f : Str) (go ge : Gx) : Gs := fun env cs => (go env cs).bind fun o cs => match o with
  | .cell n => match cs[n]? with
    | some (.obj x fs) => if x ∈ xs ∧ fs.length < 1000 then (match fs.lookup f with
      | some (.int i) => (ge env cs).bind fun y cs => match y, cs[n]? with
        | .int j, some (.obj x' fs') => if x' = x ∧ fs'.length < 1000 then .ok ⟨.nx, env⟩ (cs.set n (.obj x' (putFD f (.int (i + j)) fs'))) else .bad
        | _, _ => .bad
      | _ => .bad) else .bad
    | _ => .bad
  | _ => .bad
theorem ds_fldaug {xs : List Str} {f : Str} {go ge : Gx} (kf : Fre X.K X.mg xs f) (ho : DE X EX o go) (he : DE X EX e ge) : DS X EX (.AugAssign (.Attribute o f tpos) .Add e pos) (sFldAugD xs f go ge) := by
  obtain ⟨t, h, k⟩ := ho
  obtain ⟨u, h', k'⟩ := he
  refine ⟨_, ps_fldaug h h' in_add, fun av m H σ env cs Dn c s p => k av m H σ env cs _ c s (PostE.bindS p fun d cs1 av1 m1 H1 v e1 c1 r1 p1 => ?_)⟩
  split at p1
  · rename_i n
    split at p1
    · rename_i x fs hn
      split at p1
      · rename_i hx
        split at p1
        · rename_i i hd
          cases r1 with
          | cell ha =>
            rename_i a
            obtain ⟨Ca, dx, vs, h0, h1, h2⟩ := c1.ok _ _ _ ha hn
            obtain ⟨v, h3, r3⟩ := h2.some hd
            cases r3
            have q := kf.at hx.1 h0
            refine ⟨a, Ca, dx, vs, _, rfl, h1, q.1, q.2, h3, k' av1 m1 H1 σ env cs1 _ c1 (s.mono c.sub e1) (PostE.bindS p1 fun d2 cs2 av2 m2 H2 v2 e2 c2 r2 p2 => ?_)⟩
            split at p2
            · rename_i j x' fs' hn'
              split at p2
              · rename_i hx2
                obtain ⟨rfl, hl⟩ := hx2
                cases r2
                have ha2 := e2.at ha
                obtain ⟨Cb, dx', vs', h0', h1', h2'⟩ := c2.ok _ _ _ ha2 hn'
                rw [h0] at h0'
                cases h0'
                refine ⟨i, j, rfl, rfl, dx', vs', h1', by rw [h2'.len]; exact hl, ?_⟩
                have e3 : Ext av2 m2 H2 av2 m2 (upd H2 a (.ins Ca dx' (putF f (.int (i + j)) vs'))) := Ext.put (List.mem_of_getElem? ha2)
                obtain ⟨e4, c4⟩ := c2.put (d := .obj x' (putFD f (.int (i + j)) fs')) ha2 ⟨Ca, dx', _, h0, upd_same, (h2'.put (.int _)).mono c2.sub e3⟩
                exact p2 av2 m2 _ σ e4 c4 (((s.mono c.sub e1).mono c1.sub e2).mono c2.sub e4)
              · exact p2.elim
            · exact p2.elim
        · exact p1.elim
      · exact p1.elim
    · exact p1.elim
  · exact p1.elim
end
end Dm
namespace Dm
open PySem PySem.Spec L2
section
variable {P : Program} {w : World} {K : PySem.W.Frag} {mg : Str → Option Value} {base : Heap}
/-- what of the text super() wants, apart from the surroundings of a call -/
structure SupF (P : Program) (K : PySem.W.Frag) (mg : Str → Option Value) (N : List Str) (sc : Scope) (f f2 cc cda D : Addr) (slf : Str) : Prop where
  ks : sc.names.lookup ("super" : Str) = some .globalImplicit
  kc : sc.names.lookup ("__class__" : Str) = some .free
  kl : sc.names.lookup slf = some .local
  n0 : N[0]? = some slf
  fn : ∃ oc od fd osl ar, K.lookup f = some ⟨oc, od, .func fd, osl⟩ ∧ (fd.params.posonlyargs ++ fd.params.args).head? = some ar ∧ ar.arg = slf
  co : ∃ oc od vs osl file tf, K.lookup cda = some ⟨oc, od, .fields vs, osl⟩ ∧ vs[2]? = some (.str file tf) ∧ ((P.main.file : Str) == file) = true
  top : (P.main.scope.names.lookup ("super" : Str)).isSome = false
  cc : ∃ oc od osl, K.lookup cc = some ⟨oc, od, .cell (some (.ref D)), osl⟩
  cls : ∃ cd, PySem.W.clsIn K D = some cd
  mg : mg "super" = none
  op : PySem.W.nsIn K cStatics "thirdparty.any" = some none
  fn2 : PySem.W.fnIn K f2 = true
  ty2 : PySem.W.typeIn K (.ref f2) = some (.type "function")
theorem SupF.ok {x qual slf m : Str} {st : Stmt} {N : List Str} {f f2 cc cda D : Addr} (S : SupF P K mg N (defScope st) f f2 cc cda D slf) (A : Around) (outer : List Env) (s : Shared) (H : Hp) (E : XK) :
    SupOk (supCx P w K mg base N (nfOf x qual st cc cda) f A outer s H E) f f2 cc D m slf := by
  obtain ⟨oc, od, vs, osl, file, tf, h1, h2, h3⟩ := S.co
  exact ⟨S.ks, S.kc, rfl, S.fn, ⟨cda, oc, od, vs, osl, file, tf, rfl, h1, h2, h3⟩, S.top, List.lookup_cons_self, S.cc, S.cls, S.mg, S.op, S.kl, S.n0, S.fn2, S.ty2⟩
theorem funs_binds {x qual : Str} {st : Stmt} {cc : Addr} {kV doc pm : Value} {an : Option Addr} {cdv ct : Value} {ps : List Str}
    (h : ∀ us : List Value, us.length = ps.length → bindArgs (PySem.W.fnX x qual (defArgs st) (defBody st) (defScope st) [("__class__", cc)] .none kV doc pm an cdv ct) ⟨us, []⟩ = pure (ps.zip us)) :
    Binds K (PySem.W.fnX x qual (defArgs st) (defBody st) (defScope st) [("__class__", cc)] .none kV doc pm an cdv ct) ps [] := .all h
end
end Dm
set_option linter.all false
set_option maxRecDepth 100000
set_option maxHeartbeats 2000000
/-! Dm: a display of a dict, pop and insert of lists, sorted as a cell, methods by the class of the object. -/
namespace Dm
open PySem PySem.Spec L2
section
variable {X : Cx} {EX : XK} {pos apos cpos : Pos} {K : PySem.W.Frag} {mg : Str → Option Value}
/-! ### {k: v, ..} -/
def mergeD (a b : List (Key × D)) : List (Key × D) := b.foldl (fun acc kv => putKD acc kv.1 kv.2) a
theorem RK.merge {av m : List Addr} {H : Hp} : ∀ {b : List (Key × V)} {bd : List (Key × D)} {a : List (Key × V)} {ad : List (Key × D)}, RK K av m H b bd → RK K av m H a ad → RK K av m H (mergeK a b) (mergeD ad bd)
  | _, _, _, _, .nil, r => r
  | _, _, _, _, .cons (k := k) h t, r => by
    have q := RK.merge t (RK.put (k := k) h r)
    exact q
def dispD : List (Gx × Gx) → List (Option D) → List C → Out (List (Key × D))
  | [], _, cs => .ok [] cs
  | (gk, gv) :: r, env, cs => (gk env cs).bind fun k cs => (gv env cs).bind fun v cs => (dispD r env cs).bind fun ps cs => match keyD k with
    | some k => .ok ((k, v) :: ps) cs
    | none => .bad
def dispE (n : Nat) (ps : List (Key × D)) (cs : List C) : Out D := match cs[n]? with
  | some (.dct []) => if ps.length ≤ 15 then .ok (.cell n) (cs.set n (.dct (mergeD [] ps))) else .bad
  | _ => .bad
def gDisp (l : List (Gx × Gx)) : Gx := fun env cs => (dispD l env (cs ++ [.dct []])).bind (dispE cs.length)
def PostP (K : PySem.W.Frag) (mg : Str → Option Value) (av m : List Addr) (H : Hp) (EX : XK) (Q : List (V × V) → Hp → Prop) : Out (List (Key × D)) → Prop
  | .ok ps cs => ∀ (av' m' : List Addr) (H' : Hp) (kvs : List (Key × V)), Ext av m H av' m' H' → RC K mg av' m' H' cs → RK K av' m' H' kvs ps → Q (kvs.map fun kv => (kV kv.1, kv.2)) H'
  | .exc x fs cs => PostX K mg av m H EX x fs cs
  | .bad => False
theorem PostP.ext {av m av' m' : List Addr} {H H' : Hp} {EX : XK} {Q : List (V × V) → Hp → Prop} {o : Out (List (Key × D))} (e : Ext av m H av' m' H') (p : PostP K mg av m H EX Q o) : PostP K mg av' m' H' EX Q o := by
  cases o with
  | ok d cs => exact fun a2 m2 H2 v e2 r q => p a2 m2 H2 v (e.trans e2) r q
  | exc x fs cs => exact PostX.ext e p
  | bad => exact p
theorem PostE.bindP {av m : List Addr} {H : Hp} {EX : XK} {Q : List (V × V) → Hp → Prop} {Q2 : VK} {o : Out D} {f : D → List C → Out (List (Key × D))} (p : PostP K mg av m H EX Q (o.bind f))
    (h : ∀ d cs' av' m' H' v, Ext av m H av' m' H' → RC K mg av' m' H' cs' → R K av' m' H' v d → PostP K mg av' m' H' EX Q (f d cs') → Q2 v H') : PostE K mg av m H EX Q2 o := by
  cases o with
  | ok d cs => exact fun a2 m2 H2 v e2 r q => h d cs a2 m2 H2 v e2 r q (PostP.ext e2 p)
  | exc x fs cs => exact p
  | bad => exact p
theorem PostP.bindP {av m : List Addr} {H : Hp} {EX : XK} {Q Q2 : List (V × V) → Hp → Prop} {o : Out (List (Key × D))} {f : List (Key × D) → List C → Out (List (Key × D))} (p : PostP K mg av m H EX Q (o.bind f))
    (h : ∀ ps cs' av' m' H' kvs, Ext av m H av' m' H' → RC K mg av' m' H' cs' → RK K av' m' H' kvs ps → PostP K mg av' m' H' EX Q (f ps cs') → Q2 (kvs.map fun kv => (kV kv.1, kv.2)) H') : PostP K mg av m H EX Q2 o := by
  cases o with
  | ok d cs => exact fun a2 m2 H2 v e2 r q => h d cs a2 m2 H2 v e2 r q (PostP.ext e2 p)
  | exc x fs cs => exact p
  | bad => exact p
theorem PostP.bindE {av m : List Addr} {H : Hp} {EX : XK} {Q : VK} {Q2 : List (V × V) → Hp → Prop} {o : Out (List (Key × D))} {f : List (Key × D) → List C → Out D} (p : PostE K mg av m H EX Q (o.bind f))
    (h : ∀ ps cs' av' m' H' kvs, Ext av m H av' m' H' → RC K mg av' m' H' cs' → RK K av' m' H' kvs ps → PostE K mg av' m' H' EX Q (f ps cs') → Q2 (kvs.map fun kv => (kV kv.1, kv.2)) H') : PostP K mg av m H EX Q2 o := by
  cases o with
  | ok d cs => exact fun a2 m2 H2 v e2 r q => h d cs a2 m2 H2 v e2 r q (PostE.ext e2 p)
  | exc x fs cs => exact p
  | bad => exact p
structure DPs (X : Cx) (EX : XK) (pos : Pos) (keys : List (Option Expr)) (values : List Expr) (l : List (Gx × Gx)) : Prop where
  ex : ∃ trs, PPs X pos keys values trs ∧ ∀ (av m : List Addr) (H : Hp) (σ : L2.St) (env : List (Option D)) (cs : List C) (Q : List (V × V) → Hp → Prop), RC X.K X.mg av m H cs → RS X.K av m H σ env → PostP X.K X.mg av m H EX Q (dispD l env cs) → tPairs trs σ H Q
theorem dps_nil : DPs X EX pos [] [] [] := ⟨_, pps_nil, fun av m H σ env cs Q c s p => p av m H [] (Ext.refl ..) c .nil⟩
theorem dps_cons {k v : Expr} {ks : List (Option Expr)} {vs : List Expr} {gk gv : Gx} {l : List (Gx × Gx)} (hk : DE X EX k gk) (hv : DE X EX v gv) (hr : DPs X EX pos ks vs l) : DPs X EX pos (some k :: ks) (v :: vs) ((gk, gv) :: l) := by
  obtain ⟨t1, h1, k1⟩ := hk
  obtain ⟨t2, h2, k2⟩ := hv
  obtain ⟨t3, h3, k3⟩ := hr
  refine ⟨_, pps_cons h1 h2 h3, fun av m H σ env cs Q c s p => ?_⟩
  refine k1 av m H σ env cs _ c s (PostE.bindP p fun dk cs1 av1 m1 H1 vk e1 c1 r1 p1 => ?_)
  refine k2 av1 m1 H1 σ env cs1 _ c1 (s.mono c.sub e1) (PostE.bindP p1 fun dv cs2 av2 m2 H2 vv e2 c2 r2 p2 => ?_)
  refine k3 av2 m2 H2 σ env cs2 _ c2 ((s.mono c.sub e1).mono c1.sub e2) (PostP.bindP p2 fun ps cs3 av3 m3 H3 kvs e3 c3 r3 p3 => ?_)
  cases hkd : keyD dk with
  | none => rw [hkd] at p3; exact p3.elim
  | some kk =>
    rw [hkd] at p3
    have ey := keyD_ok ((r1.mono c1.sub e2).mono c2.sub e3) hkd
    subst ey
    exact p3 av3 m3 H3 ((kk, vv) :: kvs) (Ext.refl ..) c3 (.cons (r2.mono c2.sub e3) r3)
theorem pairs_inj : ∀ {a b : List (Key × V)}, a.map (fun kv => (kV kv.1, kv.2)) = b.map (fun kv => (kV kv.1, kv.2)) → a = b
  | [], [], _ => rfl
  | [], _ :: _, h => by simp at h
  | _ :: _, [], h => by simp at h
  | (k, v) :: a, (j, u) :: b, h => by
    simp only [List.map_cons, List.cons.injEq, Prod.mk.injEq] at h
    obtain ⟨⟨h1, rfl⟩, h2⟩ := h
    have : k = j := by
      cases k <;> cases j <;> simp only [kV, V.int.injEq, V.str.injEq, reduceCtorEq] at h1 <;> rw [h1]
    rw [this, pairs_inj h2]
theorem de_disp {keys : List (Option Expr)} {values : List Expr} {l : List (Gx × Gx)} (h : DPs X EX pos keys values l) (hall : keys.all (·.isSome) = true := by rfl) (hl : keys.length = values.length := by rfl) (h0 : keys ≠ [] := by exact fun z => by cases z)
    (h15 : keys.length ≤ 15 := by decide) : DE X EX (.Dict keys values pos) (gDisp l) := by
  obtain ⟨trs, h1, k1⟩ := h
  refine ⟨_, pe_disp h1 hall hl h0 h15, fun av m H σ env cs Q c s p d hd => ?_⟩
  have e : Ext av m H (av ++ [d]) (m ++ [d]) (upd H d (.dK [])) := ⟨⟨[d], rfl, rfl, fun a h => by rw [List.mem_singleton.mp h]; exact hd⟩, (Ext.fresh (av := av) (m := m) hd).keep, (Ext.fresh (av := av) (m := m) hd).there, (Ext.fresh (av := av) (m := m) hd).fz⟩
  obtain ⟨e2, c2⟩ := c.cell hd (d := .dct []) ⟨[], upd_same, .nil⟩
  have hat : (m ++ [d])[cs.length]? = some d := by rw [← c.len]; simp
  refine k1 _ _ _ σ env _ _ c2 (s.mono c.sub e2) (PostP.bindE (PostE.ext e2 p) fun ps cs3 av3 m3 H3 kvs e3 c3 r3 p3 => ?_)
  unfold dispE at p3
  split at p3
  · rename_i hc
    split at p3
    · rename_i h15
      have hat3 := e3.at hat
      obtain ⟨xs, q1, q2⟩ := c3.ok _ _ _ hat3 hc
      cases q2
      refine ⟨q1, kvs, rfl, by rw [r3.len]; exact h15, ?_⟩
      have e4 : Ext av3 m3 H3 av3 m3 (upd H3 d (.dK (mergeK [] kvs))) := Ext.put (List.mem_of_getElem? hat3)
      obtain ⟨e5, c5⟩ := c3.put (d := .dct (mergeD [] ps)) hat3 ⟨_, upd_same, (RK.merge (r3.mono c3.sub e4) .nil)⟩
      exact p3 _ _ _ _ e5 c5 (.cell (e5.at hat3))
    · exact p3.elim
  · exact p3.elim
/-! ### xs.pop(i), xs.insert(i, y) -/
def popD (n : Nat) : D → List C → Out D := fun d cs => match d with
  | .int i => match cs[n]? with
    | some (.lst xs) => if 0 ≤ i ∧ i < 1000000 then (match xs[i.toNat]? with
      | some y => .ok y (cs.set n (.lst (xs.eraseIdx i.toNat)))
      | none => .bad) else .bad
    | _ => .bad
  | _ => .bad
def gPop (go gi : Gx) : Gx := fun env cs => (go env cs).bind fun o cs => match o with
  | .cell n => if isLc n cs then (gi env cs).bind (popD n) else .bad
  | _ => .bad
theorem RL.erase {av m : List Addr} {H : Hp} : ∀ {vs : List V} {ds : List D} (i : Nat), RL K av m H vs ds → RL K av m H (vs.eraseIdx i) (ds.eraseIdx i)
  | _, _, _, .nil => .nil
  | _, _, 0, .cons _ t => t
  | _, _, i + 1, .cons h t => .cons h (RL.erase i t)
theorem de_pop {o e : Expr} {go ge : Gx} (ho : DE X EX o go) (he : DE X EX e ge)
    (hbase : attributeBase o "pop" X.env (eval o X.env) = eval o X.env := by rfl)
    (hfew : ((backTo cpos (starEach [e] X.env)).all (fun x => !x.1) && (backToKw cpos (keywordEach [] X.env)).all (fun x => x.1.isSome)
      && decide ([e].length + ([] : List Keyword).length + (if ([] : List Keyword).isEmpty then 0 else 1) < 30)) = true := by rfl)
    (hline : (apos.endLine == cpos.line) = true := by rfl) (hs : starEach [e] X.env = (false, eval e X.env) :: starEach [] X.env := by rfl) (hplain : (backTo cpos (starEach [] X.env)).any (·.1) = false := by rfl) :
    DE X EX (.Call (.Attribute o "pop" apos) [e] [] cpos) (gPop go ge) := by
  obtain ⟨t, h, k⟩ := ho
  obtain ⟨u, h', k'⟩ := he
  refine ⟨_, pe_bm PySem.F.plainAttrs_list PySem.F.slot_list_pop PySem.F.type_list_pop mt_popAt h (pa_cons h' pa_nil hs) hbase hfew hline hs hplain,
    fun av m H σ env cs Q c s p => k av m H σ env cs _ c s (PostE.bind p fun d cs1 av1 m1 H1 v e1 c1 r1 p1 => ?_)⟩
  split at p1
  · rename_i n
    cases r1 with
    | @cell _ a hn =>
      split at p1
      · rename_i hl
        unfold isLc at hl
        split at hl
        · rename_i xs hx
          obtain ⟨ys, q, l⟩ := c1.ok n a _ hn hx
          refine ⟨.inl ⟨rfl, _, SqL.of q⟩, ?_⟩
          refine k' av1 m1 H1 σ env cs1 _ c1 (s.mono c.sub e1) (PostE.bind p1 fun d2 cs2 av2 m2 H2 v2 e2 c2 r2 p2 => ?_)
          unfold popD at p2
          split at p2
          · rename_i i
            cases r2
            split at p2
            · rename_i zs hz
              split at p2
              · rename_i hi
                split at p2
                · rename_i y hy
                  have hn2 := e2.at hn
                  obtain ⟨ws, q2, l2⟩ := c2.ok n a _ hn2 hz
                  obtain ⟨vy, hv1, hv2⟩ := l2.get hy
                  have hlen : i.toNat < zs.length := (List.getElem?_eq_some_iff.mp hy).1
                  have p63 : (1000000 : Int) < 2 ^ 63 := by decide
                  have hsi : seqIndex? i ws.length = some i.toNat := by
                    unfold seqIndex?
                    rw [l2.length]
                    simp only [if_neg (show ¬ i < 0 by omega), Bool.and_eq_true, decide_eq_true_eq]
                    rw [if_pos ⟨hi.1, by omega⟩]
                  refine ⟨a, ws, i, i.toNat, vy, rfl, rfl, q2, by omega, by omega, hsi, hv1, ?_⟩
                  have e3 : Ext av2 m2 H2 av2 m2 (upd H2 a (.lst (ws.eraseIdx i.toNat))) := Ext.put (List.mem_of_getElem? hn2)
                  obtain ⟨e4, c4⟩ := c2.put (d := .lst (zs.eraseIdx i.toNat)) hn2 ⟨_, upd_same, (l2.erase i.toNat).mono c2.sub e3⟩
                  exact p2 av2 m2 _ vy e4 c4 (hv2.mono c2.sub e3)
                · exact p2.elim
              · exact p2.elim
            · exact p2.elim
          · exact p2.elim
        · cases hl
      · exact p1.elim
  · exact p1.elim
def insD (n : Nat) (i y : D) : List C → Out D := fun cs => match i with
  | .int i => match cs[n]? with
    | some (.lst xs) => if 0 ≤ i ∧ i < 1000000 ∧ xs.length < sizeLine then .ok .non (cs.set n (.lst (xs.take i.toNat ++ [y] ++ xs.drop i.toNat))) else .bad
    | _ => .bad
  | _ => .bad
def gIns (go gi ge : Gx) : Gx := fun env cs => (go env cs).bind fun o cs => match o with
  | .cell n => if isLc n cs then (gi env cs).bind fun i cs => (ge env cs).bind fun y cs => insD n i y cs else .bad
  | _ => .bad
theorem de_insert {o e f : Expr} {go ge gf : Gx} (ho : DE X EX o go) (he : DE X EX e ge) (hf : DE X EX f gf)
    (hbase : attributeBase o "insert" X.env (eval o X.env) = eval o X.env := by rfl)
    (hfew : ((backTo cpos (starEach [e, f] X.env)).all (fun x => !x.1) && (backToKw cpos (keywordEach [] X.env)).all (fun x => x.1.isSome)
      && decide ([e, f].length + ([] : List Keyword).length + (if ([] : List Keyword).isEmpty then 0 else 1) < 30)) = true := by rfl)
    (hline : (apos.endLine == cpos.line) = true := by rfl) (hs : starEach [e, f] X.env = (false, eval e X.env) :: starEach [f] X.env := by rfl) (hs2 : starEach [f] X.env = (false, eval f X.env) :: starEach [] X.env := by rfl) (hplain : (backTo cpos (starEach [f] X.env)).any (·.1) = false := by rfl) :
    DE X EX (.Call (.Attribute o "insert" apos) [e, f] [] cpos) (gIns go ge gf) := by
  obtain ⟨t, h, k⟩ := ho
  obtain ⟨u, h', k'⟩ := he
  obtain ⟨w, h'', k''⟩ := hf
  refine ⟨_, pe_bm PySem.F.plainAttrs_list PySem.F.slot_list_insert PySem.F.type_list_insert mt_insert h (pa_cons h' (pa_cons h'' pa_nil hs2) hs) hbase hfew hline hs hplain,
    fun av m H σ env cs Q c s p => k av m H σ env cs _ c s (PostE.bind p fun d cs1 av1 m1 H1 v e1 c1 r1 p1 => ?_)⟩
  split at p1
  · rename_i n
    cases r1 with
    | @cell _ a hn =>
      split at p1
      · rename_i hl
        unfold isLc at hl
        split at hl
        · rename_i xs hx
          obtain ⟨ys, q, l⟩ := c1.ok n a _ hn hx
          refine ⟨.inl ⟨rfl, _, SqL.of q⟩, ?_⟩
          refine k' av1 m1 H1 σ env cs1 _ c1 (s.mono c.sub e1) (PostE.bind p1 fun d2 cs2 av2 m2 H2 v2 e2 c2 r2 p2 => ?_)
          refine k'' av2 m2 H2 σ env cs2 _ c2 ((s.mono c.sub e1).mono c1.sub e2) (PostE.bind p2 fun d3 cs3 av3 m3 H3 v3 e3 c3 r3 p3 => ?_)
          unfold insD at p3
          split at p3
          · rename_i i
            cases r2
            split at p3
            · rename_i zs hz
              split at p3
              · rename_i hi
                have hn3 := (e2.trans e3).at hn
                obtain ⟨ws, q3, l3⟩ := c3.ok n a _ hn3 hz
                have p63 : (1000000 : Int) < 2 ^ 63 := by decide
                refine ⟨a, ws, i, v3, rfl, rfl, q3, by rw [l3.length]; exact hi.2.2, hi.1, by omega, ?_⟩
                have e4 : Ext av3 m3 H3 av3 m3 (upd H3 a (.lst (ws.take i.toNat ++ [v3] ++ ws.drop i.toNat))) := Ext.put (List.mem_of_getElem? hn3)
                obtain ⟨e5, c5⟩ := c3.put (d := .lst (zs.take i.toNat ++ [d3] ++ zs.drop i.toNat)) hn3 ⟨_, upd_same, ((((l3.take _).append (.cons r3 .nil)).append (l3.drop _))).mono c3.sub e4⟩
                exact p3 av3 m3 _ .non e5 c5 .non
              · exact p3.elim
            · exact p3.elim
          · exact p3.elim
        · cases hl
      · exact p1.elim
  · exact p1.elim
/-! ### sorted(xs), sorted(xs, reverse=True) as cells -/
def sortR (ns : List Int) : List Int := ns.mergeSort fun a b => decide (b ≤ a)
theorem sortR_perm (ns : List Int) : (sortR ns).Perm ns := List.mergeSort_perm _ _
theorem sortR_ge (ns : List Int) : (sortR ns).Pairwise (· ≥ ·) := by
  have h := List.pairwise_mergeSort (le := fun a b : Int => decide (b ≤ a)) (fun a b c h1 h2 => by simp only [decide_eq_true_eq] at *; omega) (fun a b => by simp only [Bool.or_eq_true, decide_eq_true_eq]; omega) ns
  exact h.imp fun h => by simpa using h
theorem sortR_one {a b : List Int} (h : a.Perm b) (ha : a.Pairwise (· ≥ ·)) (hb : b.Pairwise (· ≥ ·)) : a = b := List.Perm.eq_of_pairwise (fun x y _ _ h1 h2 => by omega) ha hb h
def sortedCD : List D → List C → Out D
  | [d], cs => match asL cs d with
    | some xs => match intsOf xs with
      | some ns => .ok (.cell cs.length) (cs ++ [.lst ((sortI ns).map D.int)])
      | none => .bad
    | none => .bad
  | _, _ => .bad
theorem newC {av m : List Addr} {H : Hp} {cs : List C} {Q : VK} {ns : List Int} {p : Addr} (c : RC K mg av m H cs) (q : PostE K mg av m H EX Q (.ok (.cell cs.length) (cs ++ [.lst (ns.map D.int)]))) (h0 : H p = none) : Q (.ref p) (upd H p (.lst (ns.map V.int))) := by
  obtain ⟨e2, c2⟩ := c.cell (o := .lst (ns.map V.int)) (d := .lst (ns.map D.int)) h0 ⟨_, upd_same, intsRL ns⟩
  refine q _ _ _ _ e2 c2 (.cell ?_)
  rw [← c.len]; simp
theorem cd_sortedC : CallD K mg EX (rSortedI K) sortedCD := by
  intro av m H cs xs ds Q c r q
  unfold sortedCD at q
  split at q
  · cases r with
    | cons r t =>
      cases t
      split at q
      · rename_i ys hy
        split at q
        · rename_i ns hn
          obtain ⟨b, vs, rfl, hs, l⟩ := asL_ok c r hy
          refine ⟨b, ns, rfl, by rw [← intsOf_ok l hn]; exact hs, fun ns' p hp hw h0 => ?_⟩
          have : ns' = sortI ns := sort_one (hp.trans (sortI_perm ns).symm) hw (sortI_le ns)
          subst this
          exact newC c q h0
        · exact q.elim
      · exact q.elim
  · exact q.elim
theorem de_sortedC {p : Pos} {e : Expr} {a : Ga} (ha : DA X EX [e] a) (hm : X.mg "sorted" = none) (hg : Gl X "sorted" := by rfl) (he : starEach [e] X.env = (false, eval e X.env) :: starEach [] X.env := by rfl) (hpl : (backTo pos (starEach [] X.env)).any (·.1) = false := by rfl) : DE X EX (.Call (.Name "sorted" p) [e] [] pos) (gA sortedCD a) :=
  de_callB cr_sortedI cd_sortedC hg hm (by decide +kernel) ha (by decide) (by decide) he hpl
def sortedRD (cell : Bool) : D → List C → Out D := fun d cs => match asL cs d with
  | some xs => match intsOf xs with
    | some ns => if cell then .ok (.cell cs.length) (cs ++ [.lst ((sortR ns).map D.int)]) else .ok (.lst ((sortR ns).map D.int)) cs
    | none => .bad
  | none => .bad
def gRev (cell : Bool) (g : Gx) : Gx := fun env cs => (g env cs).bind (sortedRD cell)
theorem de_sortedR {p kpos bpos : Pos} {j} {e : Expr} {g : Gx} (cell : Bool) (ha : DE X EX e g) (hm : X.mg "sorted" = none) (hg : Gl X "sorted" := by rfl) (hs : starEach [e] X.env = (false, eval e X.env) :: starEach [] X.env := by rfl)
    (he : backTo pos (starEach [e] X.env) = (false, eval e X.env) :: backTo pos (starEach [] X.env) := by rfl) (hpl : (backTo pos (starEach [e] X.env)).any (·.1) = false := by rfl)
    (hall : (backToKw pos (keywordEach [⟨some (Str.ofString "reverse"), .Constant (.bool true) j bpos, kpos⟩] X.env)).all (·.1.isSome) = true := by rfl) (hnone : (backToKw pos (keywordEach [⟨some (Str.ofString "reverse"), .Constant (.bool true) j bpos, kpos⟩] X.env)).any (·.1.isNone) = false := by rfl) (hks : (backToKw pos (keywordEach [⟨some (Str.ofString "reverse"), .Constant (.bool true) j bpos, kpos⟩] X.env)).filterMap (·.1) = [Str.ofString "reverse"] := by rfl) :
    DE X EX (.Call (.Name "sorted" p) [e] [⟨some (Str.ofString "reverse"), .Constant (.bool true) j bpos, kpos⟩] pos) (gRev cell g) := by
  obtain ⟨t, h, k⟩ := ha
  refine ⟨_, pe_callBK (cr_sortedRev (b := true)) hg hm (by decide +kernel) (pa_cons h pa_nil hs) (pk_cons pe_bl pk_nil) (by decide) (by decide) he hpl hall hnone hks, fun av m H σ env cs Q c s p => ?_⟩
  refine k av m H σ env cs _ c s (PostE.bind p fun d cs1 av1 m1 H1 v e1 c1 r1 p1 => ?_)
  show ∃ (a : Addr) (ns : List Int), _
  unfold sortedRD at p1
  split at p1
  · rename_i ys hy
    split at p1
    · rename_i ns hn
      obtain ⟨b, xs, rfl, hs, l⟩ := asL_ok c1 r1 hy
      refine ⟨b, ns, rfl, rfl, by rw [← intsOf_ok l hn]; exact hs, fun ns' q hp hw h0 => ?_⟩
      have : ns' = sortR ns := sortR_one (hp.trans (sortR_perm ns).symm) hw (sortR_ge ns)
      subst this
      cases cell with
      | true => exact newC c1 p1 h0
      | false => exact p1.newL c1 h0 (intsRL _)
    · exact p1.elim
  · exact p1.elim
/-! ### o.m(..), by the class of o -/
def tMtT (alts : Addr → Sp → Prop) (mt : Str) (E : XK) (ta : TE) (t : TA) : TE := fun σ H Q => ta σ H fun x H1 => ∃ Ca sp, alts Ca sp ∧ ∃ b dx fs, x = .ref b ∧ H1 b = some (.ins Ca dx fs) ∧ fs.lookup mt = none ∧ t σ H1 fun vs H2 => sp (x :: vs) H2 Q E
structure AltOk (X : Cx) (k : Nat) (mt : Str) (Ca : Addr) (sp : Sp) : Prop where
  ex : ∃ f fd ps, Cls X.K Ca ∧ Meth X.K Ca mt f ∧ FnG X.prog X.w X.K X.mg X.base k f fd ps sp ∧ Binds X.K fd ps []
theorem pe_mtT {k : Nat} {mt : Str} {o e : Expr} {es : List Expr} {alts : Addr → Sp → Prop} {ta : TE} {t : TA} {pl : Sem Bool} (ho : PE X o ta) (ok : ∀ Ca sp, alts Ca sp → AltOk X k mt Ca sp) (hr : Room k X.A) (hq : Quiet X.A) (hx : Passes (L2.CX X.prog X.w) X EX) (ha : PA X (e :: es) t)
    (hst : starEach (e :: es) X.env = (false, eval e X.env) :: starEach es X.env := by rfl) (hpl : (backTo pos (starEach es X.env)).any (·.1) = false := by rfl)
    (ht : eval (.Call (.Attribute o mt apos) (e :: es) [] pos) X.env = (do
      let ov ← eval o X.env
      standAt apos.atName
      let (f, first) ← holding [ov] (getMethod ov mt pl)
      callWith pos f first (backTo pos (starEach (e :: es) X.env)) (backToKw pos (keywordEach [] X.env))) := by rfl) : PE X (.Call (.Attribute o mt apos) (e :: es) [] pos) (tMtT alts mt EX ta t) := by
  refine ⟨fun pins s σ H Q I h => PySem.W.methodCall_KW (pl := pl) (thn (ho.run pins s σ H _ I h) fun u s1 ⟨x, H1, I1, rx, Ca, sp, hin, b, dx, fs, ex, eb, nl, q⟩ => ?_) ht⟩
  obtain ⟨f, fd, ps, c, hm, G, hb⟩ := (ok _ _ hin).ex
  subst ex
  cases (show u = Value.ref b from rx)
  refine getmeth_ok I1 eb c hm nl (PySem.W.callWith_K (first := [.ref b]) (h₀ := X.base) I.ok.mod.kin hm.kp (thn (ha.run pos pins s1 σ H1 _ I1 q) fun us s2 ⟨vs, H2, J, r, q2⟩ => ⟨J.kIn, ?_⟩) hst hpl)
  have r2 : Vals (V.ref b :: vs) (Value.ref b :: us) := .cons rfl r
  have bb := hb s2 (Value.ref b :: us) J.kIn (by rw [List.append_nil, ← r2.length]; exact G.len _ _ _ _ q2)
  rw [List.append_nil] at bb
  exact run_fng G hr hq bb hx J r2 q2
theorem pe_mtT0 {k : Nat} {mt : Str} {o : Expr} {alts : Addr → Sp → Prop} {ta : TE} {pl : Sem Bool} (ho : PE X o ta) (ok : ∀ Ca sp, alts Ca sp → AltOk X k mt Ca sp) (hr : Room k X.A) (hq : Quiet X.A) (hx : Passes (L2.CX X.prog X.w) X EX)
    (ht : eval (.Call (.Attribute o mt apos) [] [] pos) X.env = (do
      let ov ← eval o X.env
      standAt apos.atName
      let (f, first) ← holding [ov] (getMethod ov mt pl)
      callWith pos f first (backTo pos (starEach [] X.env)) (backToKw pos (keywordEach [] X.env))) := by rfl) : PE X (.Call (.Attribute o mt apos) [] [] pos) (tMtT alts mt EX ta tNil) := by
  refine ⟨fun pins s σ H Q I h => PySem.W.methodCall_KW (pl := pl) (thn (ho.run pins s σ H _ I h) fun u s1 ⟨x, H1, I1, rx, Ca, sp, hin, b, dx, fs, ex, eb, nl, q⟩ => ?_) ht⟩
  obtain ⟨f, fd, ps, c, hm, G, hb⟩ := (ok _ _ hin).ex
  subst ex
  cases (show u = Value.ref b from rx)
  refine getmeth_ok I1 eb c hm nl (PySem.W.callWith_K0 (first := [.ref b]) I1.kIn hm.kp ?_)
  have bb := hb s1 [Value.ref b] I1.kIn (by rw [List.append_nil]; exact G.len _ _ _ _ q)
  rw [List.append_nil] at bb
  exact run_fng (us := [.ref b]) (vs := [V.ref b]) G hr hq bb hx I1 (.cons rfl .nil) q
/-- a method of some classes, each with its own text -/
structure Mts (P : Program) (w : World) (K : PySem.W.Frag) (mg : Str → Option Value) (base : Heap) (k : Nat) (mt : Str) (tb : List (Str × Fd)) : Prop where
  ex : ∀ x F, tb.lookup x = some F → ∃ ps F0, F = argN ps.length F0 ∧ Mth P w K mg base k x mt ps F0
theorem Mts.nil {P : Program} {w : World} {K : PySem.W.Frag} {mg : Str → Option Value} {base : Heap} {k : Nat} {mt : Str} : Mts P w K mg base k mt [] := ⟨fun x F h => by simp at h⟩
theorem Mts.cons {P : Program} {w : World} {K : PySem.W.Frag} {mg : Str → Option Value} {base : Heap} {j k : Nat} {mt x : Str} {ps : List Str} {F : Fd} {tb : List (Str × Fd)} (c : Mth P w K mg base j x mt ps F) (r : Mts P w K mg base k mt tb) (h : j ≤ k := by decide) : Mts P w K mg base k mt ((x, argN ps.length F) :: tb) := ⟨fun y G e => by
  rw [List.lookup_cons] at e
  split at e
  · rename_i q
    cases e
    rw [beq_iff_eq.mp q]
    exact ⟨ps, F, rfl, c.up h⟩
  · exact r.ex y G e⟩
def gMtT (mt : Str) (tb : List (Str × Fd)) (go : Gx) (ga : Ga) : Gx := fun env cs => (go env cs).bind fun ob cs => match ob with
  | .cell n => match cs[n]? with
    | some (.obj y fs) => match tb.lookup y with
      | some F => if fs.lookup mt = none then (ga env cs).bind fun ds cs => F (.cell n :: ds) cs else .bad
      | none => .bad
    | _ => .bad
  | _ => .bad
def altsOf (X : Cx) (k : Nat) (mt : Str) (tb : List (Str × Fd)) : Addr → Sp → Prop := fun Ca sp => ∃ x F ps F0 f fd, tb.lookup x = some F ∧ F = argN ps.length F0 ∧ X.mg x = some (.ref Ca) ∧ Cls X.K Ca ∧ Meth X.K Ca mt f ∧ FnD X.prog X.w X.K X.mg X.base k f fd ps F0 ∧ Binds X.K fd ps [] ∧ sp = spG X.K X.mg ps.length F0
theorem altsOf_ok {k : Nat} {mt : Str} {tb : List (Str × Fd)} : ∀ Ca sp, altsOf X k mt tb Ca sp → AltOk X k mt Ca sp := fun Ca sp ⟨x, F, ps, F0, f, fd, h1, h2, h3, h4, h5, h6, h7, h8⟩ => by
  subst h8
  exact ⟨f, fd, ps, h4, h5, h6, h7⟩
theorem de_mthT {k : Nat} {mt : Str} {tb : List (Str × Fd)} {o e : Expr} {es : List Expr} {go : Gx} {a : Ga} {pl : Sem Bool} (c : Mts X.prog X.w X.K X.mg X.base k mt tb) (hr : Room k X.A) (hq : Quiet X.A) (hx : Passes (L2.CX X.prog X.w) X EX) (ho : DE X EX o go) (ha : DA X EX (e :: es) a)
    (hst : starEach (e :: es) X.env = (false, eval e X.env) :: starEach es X.env := by rfl) (hpl : (backTo pos (starEach es X.env)).any (·.1) = false := by rfl)
    (ht : eval (.Call (.Attribute o mt apos) (e :: es) [] pos) X.env = (do
      let ov ← eval o X.env
      standAt apos.atName
      let (f, first) ← holding [ov] (getMethod ov mt pl)
      callWith pos f first (backTo pos (starEach (e :: es) X.env)) (backToKw pos (keywordEach [] X.env))) := by rfl) : DE X EX (.Call (.Attribute o mt apos) (e :: es) [] pos) (gMtT mt tb go a) := by
  obtain ⟨to, h, kk⟩ := ho
  obtain ⟨t, h', k'⟩ := ha
  refine ⟨_, pe_mtT (pl := pl) h (altsOf_ok (k := k) (mt := mt) (tb := tb)) hr hq hx h' hst hpl ht, fun av m H σ env cs Q rc s p => ?_⟩
  unfold gMtT at p
  refine kk av m H σ env cs _ rc s (PostE.bind p fun d cs1 av1 m1 H1 v e1 c1 r1 p1 => ?_)
  split at p1
  · rename_i n
    split at p1
    · rename_i y fs hn
      split at p1
      · rename_i F hF
        split at p1
        · rename_i hl
          cases r1 with
          | cell hat =>
            obtain ⟨Cb, dx, vs, h0, h1, h2⟩ := c1.ok _ _ _ hat hn
            obtain ⟨ps, F0, rfl, M⟩ := c.ex y F hF
            obtain ⟨Ca, f, fd, hm, cl, me, G, hb⟩ := M.ex
            rw [hm] at h0
            cases h0
            refine ⟨_, _, ⟨y, _, ps, F0, f, fd, hF, rfl, hm, cl, me, G, hb, rfl⟩, _, dx, vs, rfl, h1, h2.none hl, k' av1 m1 H1 σ env cs1 _ c1 (s.mono rc.sub e1) (PostA.bindE p1 fun ds cs2 av2 m2 H2 ws e2 c2 r2 p2 => ?_)⟩
            exact sp_K _ _ _ _ _ _ _ c2 (.cons (.cell (e2.at hat)) r2) p2
        · exact p1.elim
      · exact p1.elim
    · exact p1.elim
  · exact p1.elim
theorem de_mthT0 {k : Nat} {mt : Str} {tb : List (Str × Fd)} {o : Expr} {go : Gx} {pl : Sem Bool} (c : Mts X.prog X.w X.K X.mg X.base k mt tb) (hr : Room k X.A) (hq : Quiet X.A) (hx : Passes (L2.CX X.prog X.w) X EX) (ho : DE X EX o go)
    (ht : eval (.Call (.Attribute o mt apos) [] [] pos) X.env = (do
      let ov ← eval o X.env
      standAt apos.atName
      let (f, first) ← holding [ov] (getMethod ov mt pl)
      callWith pos f first (backTo pos (starEach [] X.env)) (backToKw pos (keywordEach [] X.env))) := by rfl) : DE X EX (.Call (.Attribute o mt apos) [] [] pos) (gMtT mt tb go aNil) := by
  obtain ⟨to, h, kk⟩ := ho
  refine ⟨_, pe_mtT0 (pl := pl) h (altsOf_ok (k := k) (mt := mt) (tb := tb)) hr hq hx ht, fun av m H σ env cs Q rc s p => ?_⟩
  unfold gMtT at p
  refine kk av m H σ env cs _ rc s (PostE.bind p fun d cs1 av1 m1 H1 v e1 c1 r1 p1 => ?_)
  split at p1
  · rename_i n
    split at p1
    · rename_i y fs hn
      split at p1
      · rename_i F hF
        split at p1
        · rename_i hl
          cases r1 with
          | cell hat =>
            obtain ⟨Cb, dx, vs, h0, h1, h2⟩ := c1.ok _ _ _ hat hn
            obtain ⟨ps, F0, rfl, M⟩ := c.ex y F hF
            obtain ⟨Ca, f, fd, hm, cl, me, G, hb⟩ := M.ex
            rw [hm] at h0
            cases h0
            exact ⟨_, _, ⟨y, _, ps, F0, f, fd, hF, rfl, hm, cl, me, G, hb, rfl⟩, _, dx, vs, rfl, h1, h2.none hl, sp_K _ _ _ _ _ _ _ c1 (.cons (.cell hat) .nil) p1⟩
        · exact p1.elim
      · exact p1.elim
    · exact p1.elim
  · exact p1.elim
/-- no name f in some classes, together -/
theorem Fre.cons {x : Str} {xs : List Str} {f : Str} (a : Fre K mg [x] f) (b : Fre K mg xs f) : Fre K mg (x :: xs) f := ⟨fun y hy => by
  rcases List.mem_cons.mp hy with rfl | hy
  · exact a.ex y (by simp)
  · exact b.ex y hy⟩
end
end Dm
set_option linter.all false
set_option maxRecDepth 100000
set_option maxHeartbeats 2000000
/-! Dm: new lists as cells: list(x), a comprehension over a cell. -/
namespace Dm
open PySem PySem.Spec L2
section
variable {X : Cx} {EX : XK} {pos apos cpos : Pos} {K : PySem.W.Frag} {mg : Str → Option Value}
def listCD : List D → List C → Out D
  | [d], cs => match asS cs d with
    | some xs => .ok (.cell cs.length) (cs ++ [.lst xs])
    | none => .bad
  | _, _ => .bad
theorem newCd {av m : List Addr} {H : Hp} {cs : List C} {Q : VK} {xs : List V} {ds : List D} {p : Addr} (c : RC K mg av m H cs) (l : RL K av m H xs ds) (q : PostE K mg av m H EX Q (.ok (.cell cs.length) (cs ++ [.lst ds]))) (h0 : H p = none) : Q (.ref p) (upd H p (.lst xs)) := by
  have e : Ext av m H (av ++ [p]) (m ++ [p]) (upd H p (.lst xs)) := ⟨⟨[p], rfl, rfl, fun a h => by rw [List.mem_singleton.mp h]; exact h0⟩, (Ext.fresh (av := av) (m := m) h0).keep, (Ext.fresh (av := av) (m := m) h0).there, (Ext.fresh (av := av) (m := m) h0).fz⟩
  obtain ⟨e2, c2⟩ := c.cell (o := .lst xs) (d := .lst ds) h0 ⟨_, upd_same, l.mono c.sub e⟩
  refine q _ _ _ _ e2 c2 (.cell ?_)
  rw [← c.len]; simp
theorem cd_listC : CallD K mg EX (fun xs H Q => ∃ p ys, xs = [.ref p] ∧ (SqL K H p ys ∨ SqT K H p ys) ∧ ∀ l, H l = none → Q (.ref l) (upd H l (.lst ys))) listCD := by
  intro av m H cs xs ds Q c r q
  unfold listCD at q
  split at q
  · cases r with
    | cons r t =>
      cases t
      split at q
      · rename_i ys hy
        obtain ⟨a, vs, rfl, hs, l⟩ := asS_ok c r hy
        exact ⟨a, vs, rfl, hs, fun p hp => newCd c l q hp⟩
      · exact q.elim
  · exact q.elim
theorem de_listcC {p : Pos} {e : Expr} {a : Ga} (ha : DA X EX [e] a) (hm : X.mg "list" = none) (hg : Gl X "list" := by rfl) (he : starEach [e] X.env = (false, eval e X.env) :: starEach [] X.env := by rfl) (hpl : (backTo pos (starEach [] X.env)).any (·.1) = false := by rfl) : DE X EX (.Call (.Name "list" p) [e] [] pos) (gA listCD a) :=
  de_callTy call_list_of cd_listC hg hm (by decide +kernel) ha (by decide) (by decide) he hpl
end
section
variable {X : Cx} {EX : XK}
noncomputable def gCompKC (vs : List Nat) (g : Gx) (gt : D → Env' → Option Env') (tt : Gt) (ge : Gx) : Gx := fun env cs => (g env cs).bind fun d cs => match d with
  | .cell n0 => match cs[n0]? with
    | some (.lst ds) => asCell (compBC n0 ds vs gt tt (bodyE ge) ds env cs [])
    | _ => .bad
  | _ => .bad
theorem de_compKC {elt tg iter : Expr} {ifs : List Expr} {scope : Scope} {own : List (Str × Nat)} {pos : Pos} {g : Gx} {gt : D → Env' → Option Env'} {gtt : Gt} {ge : Gx} (hc : X.calm = true) (hN : X.N.Nodup) (hi : DE X EX iter g) (ok : BlkOk X.N X.env.scope scope own)
    (hg : ∀ (s : Shared) (H : Hp) (Ca : Addr) (cl : List (Str × Addr)) (fp : List Addr), DGc (X.blk s H scope (compEnvC scope cl Ca X.env) fp) (own.map (·.2)) tg gt)
    (ht : ∀ (s : Shared) (H : Hp) (Ca : Addr) (cl : List (Str × Addr)) (fp : List Addr), DTs (X.blk s H scope (compEnvC scope cl Ca X.env) fp) E0 ifs gtt)
    (he : ∀ (s : Shared) (H : Hp) (Ca : Addr) (cl : List (Str × Addr)) (fp : List Addr), DE (X.blk s H scope (compEnvC scope cl Ca X.env) fp) E0 elt ge)
    (hs : ∀ x, foldedSetIterable iter X.env x = pure x := by intro _; rfl) : DE X EX (.ListComp elt [⟨tg, iter, ifs, 0⟩] scope pos) (gCompKC (own.map (·.2)) g gt gtt ge) := by
  obtain ⟨t, h, k⟩ := hi
  refine ⟨_, pe_lc (g := canG X.K X.mg (own.map (·.2)) gt) (tt := canT X.K X.mg E0 gtt) (te := canE X.K X.mg E0 ge) hc hN (pi_list h) ok (fun s H Ca cl fp => (hg s H Ca cl fp).can) (fun s H Ca cl fp => (ht s H Ca cl fp).can) (fun s H Ca cl fp => (he s H Ca cl fp).can) hs, ?_⟩
  intro av m H σ env cs Q c s p
  unfold gCompKC at p
  refine k av m H σ env cs _ c s (PostE.bind p fun d cs1 av1 m1 H1 v e1 c1 r1 p1 => ?_)
  split at p1
  · rename_i n0
    split at p1
    · rename_i ds hds
      cases r1 with
      | cell ha =>
        obtain ⟨xs, q, l⟩ := c1.ok _ _ _ ha hds
        refine ⟨_, rfl, ⟨xs, SqL.of q⟩, ?_⟩
        intro Da hD
        have s1 := s.mono c.sub e1
        rcases bad_cell (compBC n0 ds (own.map (·.2)) gt gtt (bodyE ge) ds env cs1 []) with ⟨accF, csF, hF⟩ | hb
        · rw [hF] at p1
          have A0 := Ac.start c1 hD
          exact loop_coreC (canG_ok (vs := own.map (·.2)) (g := gt)) (canT_ok (EX := E0) (g := gtt)) (body_one (canE_ok (EX := E0) (g := ge))) (walk_cell ha) A0 (A0.wk1 c1.sub) (s1.monoW c1.sub (A0.wk1 c1.sub)) hF fun av2 m2 H2 A w => hand_cell c1.sub p1 A
        · rw [hb] at p1; exact p1.elim
    · exact p1.elim
  · exact p1.elim
end
end Dm
set_option linter.all false
set_option maxRecDepth 100000
set_option maxHeartbeats 2000000
/-! Dm: sorted of pairs of any length; a list by a comprehension over a cell, as a statement. -/
namespace Dm
open PySem PySem.Spec L2 PyProof.Rows
section
variable {X : Cx} {EX : XK} {pos apos cpos : Pos} {K : PySem.W.Frag} {mg : Str → Option Value}
def rSortPA (K : PySem.W.Frag) : List V → Hp → VK → Prop := fun vs H Q => ∃ (a : Addr) (xs : List V), vs = [V.ref a] ∧ SqL K H a xs ∧ (∀ x ∈ xs, ∃ q : Int × Int, TupI K H x [q.1, q.2]) ∧
  ∀ ys p (k : V → Int × Int), (∀ x (q : Int × Int), TupI K H x [q.1, q.2] → k x = q) → SrtO.Srtd (ltP k) ys → ys.Perm xs → H p = none → Q (.ref p) (upd H p (.lst ys))
open Classical in
theorem cr_sortPA : CallR X (.builtin "sorted") (rSortPA X.K) := by
  intro pins s σ H vs us Q I r h
  obtain ⟨a, xs, rfl, hs, hx, q⟩ := h
  let k : V → Int × Int := fun x => if h : ∃ q : Int × Int, TupI X.K H x [q.1, q.2] then Classical.choose h else (0, 0)
  have kk : ∀ x (q : Int × Int), TupI X.K H x [q.1, q.2] → k x = q := fun x q h => by
    have ex : ∃ q : Int × Int, TupI X.K H x [q.1, q.2] := ⟨q, h⟩
    have e : k x = Classical.choose ex := dif_pos ex
    have c := Classical.choose_spec ex
    rw [← e] at c
    obtain ⟨t, rfl, h1⟩ := h
    obtain ⟨t', e', h2⟩ := c
    cases e'
    have z := I.tuple_inj h1 h2
    simp only [List.map_cons, List.map_nil, List.cons.injEq, V.int.injEq, and_true] at z
    exact (Prod.ext z.1 z.2).symm
  obtain ⟨its, rv, hl, hz⟩ := I.list hs
  obtain ⟨u, rfl, ru⟩ := vals1 r
  obtain rfl : u = Value.ref a := ru
  obtain ⟨e1, e2⟩ := refs_back rv fun x m => by
    obtain ⟨q, t, e, _⟩ := hx x m
    exact ⟨t, e⟩
  refine SrtO.sorted_pairsO (k := fun u => k (backV u)) hl.isList (by rw [← rv.length]; exact hz) (fun v hv => ?_) fun h' d out h1 h2 kp hd hn => ?_
  · obtain ⟨t, rfl⟩ := e2 v hv
    have hm : V.ref t ∈ xs := by rw [e1]; exact List.mem_map.mpr ⟨_, hv, rfl⟩
    obtain ⟨q, tq⟩ := hx _ hm
    have ek : k (backV (.ref t)) = q := kk _ q tq
    obtain ⟨t', e, ht⟩ := tq
    cases e
    obtain ⟨its2, r2, ⟨o, ho, hc, n, hd⟩, _⟩ := I.tuple ht
    obtain ⟨u1, u2, rfl, ri, rj⟩ := vals2 r2
    obtain ⟨t1, rfl⟩ := ri
    obtain ⟨t2, rfl⟩ := rj
    have e1 : q.1 = (k (backV (.ref t))).1 := by rw [ek]
    have e2 : q.2 = (k (backV (.ref t))).2 := by rw [ek]
    exact ⟨t, o, t1, t2, n, rfl, ho, hc, by rw [hd, e1, e2]⟩
  · have h3 : ∀ u ∈ out, ∃ a, u = Value.ref a := fun u hu => e2 u (h2.perm.mem_iff.mp hu)
    obtain ⟨n, hn⟩ := hn
    have hb : SrtO.Stb (ltP k) (out.map backV) xs := by
      rw [e1]
      exact SrtO.Stb.map (ltP_swo k) backV h2
    refine ⟨.ref d, upd H d (.lst (out.map backV)), I.laid (t' := s.toks) kp hd ⟨?_, out, n, vals_back h3, hn⟩, rfl, q _ d k kk (SrtO.srtd_map h1) hb.perm (I.hok.fresh hd)⟩
    rw [hb.len]
    exact hz
def pairsZ : List D → Option (List (Int × Int))
  | [] => some []
  | .tup [.int i, .int j] :: r => (pairsZ r).map ((i, j) :: ·)
  | _ => none
theorem pairsZ_ok : ∀ {ds : List D} {ps : List (Int × Int)}, pairsZ ds = some ps → ds = ps.map pD
  | [], ps, h => by cases h; rfl
  | d :: r, ps, h => by
    unfold pairsZ at h
    split at h
    · cases ‹_ :: _ = []›
    · rename_i i j r' e
      cases e
      obtain ⟨l, h1, rfl⟩ := Option.map_eq_some_iff.mp h
      rw [List.map_cons, ← pairsZ_ok h1]
      rfl
    · cases h
theorem pairsZ_D : ∀ ps : List (Int × Int), pairsZ (ps.map pD) = some ps
  | [] => rfl
  | p :: ps => by
    show (pairsZ (ps.map pD)).map ((p.1, p.2) :: ·) = _
    rw [pairsZ_D ps]
    rfl
theorem keyed {av m : List Addr} {H : Hp} {k : V → Int × Int} (kk : ∀ x (q : Int × Int), TupI K H x [q.1, q.2] → k x = q) : ∀ {ys : List V} {qs : List (Int × Int)}, RL K av m H ys (qs.map pD) → SrtO.Srtd (ltP k) ys → qs.Pairwise fun p q => leP p q = true
  | [], [], _, _ => .nil
  | y :: ys, q :: qs, .cons r l, h => by
    obtain ⟨h1, h2⟩ := List.pairwise_cons.mp h
    refine List.pairwise_cons.mpr ⟨fun p hp => ?_, keyed kk l h2⟩
    obtain ⟨i, hi⟩ := List.getElem?_of_mem hp
    obtain ⟨v, v1, v2⟩ := l.get (i := i) (d := pD p) (by rw [List.getElem?_map, hi]; rfl)
    have z := h1 v (List.mem_of_getElem? v1)
    have z : SrtO.lexB (k v) (k y) = false := z
    rw [kk _ _ (tupI_of r), kk _ _ (tupI_of v2)] at z
    have z := SrtO.lexB_no.mp z
    simp only [leP, decide_eq_true_eq]
    omega
def sortedZD : List D → List C → Out D
  | [d], cs => match asL cs d with
    | some xs => match pairsZ xs with
      | some ps => .ok (.lst ((sortP ps).map pD)) cs
      | none => .bad
    | none => .bad
  | _, _ => .bad
theorem cd_sortedZ : CallD K mg EX (rSortPA K) sortedZD := by
  intro av m H cs xs ds Q c r q
  unfold sortedZD at q
  split at q
  · cases r with
    | cons r t =>
      cases t
      split at q
      · rename_i ys hy
        split at q
        · rename_i ps hn
          obtain ⟨b, vs, rfl, hs, l⟩ := asL_ok c r hy
          have e1 := pairsZ_ok hn
          subst e1
          refine ⟨b, vs, rfl, hs, fun x hx => ?_, fun ys2 p k kk hw hp h0 => ?_⟩
          · obtain ⟨i, hi⟩ := List.getElem?_of_mem hx
            have hl : i < ps.length := by
              have := (List.getElem?_eq_some_iff.mp hi).1
              rwa [l.length, List.length_map] at this
            obtain ⟨v, v1, v2⟩ := l.get (i := i) (d := pD ps[i]) (by rw [List.getElem?_map, List.getElem?_eq_getElem hl]; rfl)
            rw [hi] at v1
            cases v1
            exact ⟨_, tupI_of v2⟩
          · obtain ⟨qs, q1, q2⟩ := perm_pairs hp l
            have e : qs = sortP ps := sortP_one (q1.trans (sortP_perm ps).symm) (keyed kk q2 hw) (sortP_le ps)
            subst e
            exact q.newL c h0 q2
        · exact q.elim
      · exact q.elim
  · exact q.elim
theorem de_sortedZ {p : Pos} {e : Expr} {a : Ga} (ha : DA X EX [e] a) (hm : X.mg "sorted" = none) (hg : Gl X "sorted" := by rfl) (he : starEach [e] X.env = (false, eval e X.env) :: starEach [] X.env := by rfl) (hpl : (backTo pos (starEach [] X.env)).any (·.1) = false := by rfl) : DE X EX (.Call (.Name "sorted" p) [e] [] pos) (gA sortedZD a) :=
  de_callB cr_sortPA cd_sortedZ hg hm (by decide +kernel) ha (by decide) (by decide) he hpl
end
section
variable {X : Cx} {EX : XK}
theorem te_compK {tg iter : Expr} {t : TE} {vs : List Nat} {g : Gx} {gt : D → Env' → Option Env'} {gtt : Gt} {ge : Gx} (k : TeOk X.K X.mg EX t g) : TeOk X.K X.mg EX (tLc (iList X.K t) (canG X.K X.mg vs gt) (canT X.K X.mg E0 gtt) (canE X.K X.mg E0 ge) vs) (gCompK vs g gt gtt ge) := by
  intro av m H σ env cs Q c s p
  unfold gCompK at p
  refine k av m H σ env cs _ c s (PostE.bind p fun d cs1 av1 m1 H1 v e1 c1 r1 p1 => ?_)
  split at p1
  · rename_i n0
    split at p1
    · rename_i ds hds
      cases r1 with
      | cell ha =>
        obtain ⟨xs, q, l⟩ := c1.ok _ _ _ ha hds
        refine ⟨_, rfl, ⟨xs, SqL.of q⟩, ?_⟩
        intro Da hD
        have s1 := s.mono c.sub e1
        rcases bad_val (compBC n0 ds vs gt gtt (bodyE ge) ds env cs1 []) with ⟨accF, csF, hF⟩ | hb
        · rw [hF] at p1
          have A0 := Ac.start c1 hD
          exact loop_coreC (canG_ok (vs := vs) (g := gt)) (canT_ok (EX := E0) (g := gtt)) (body_one (canE_ok (EX := E0) (g := ge))) (walk_cell ha) A0 (A0.wk1 c1.sub) (s1.monoW c1.sub (A0.wk1 c1.sub)) hF fun av2 m2 H2 A w => hand_val c1.sub p1 A
        · rw [hb] at p1; exact p1.elim
    · exact p1.elim
  · exact p1.elim
theorem ds_compK {elt tg iter : Expr} {ifs : List Expr} {scope : Scope} {own : List (Str × Nat)} {pos : Pos} {g : Gx} {gt : D → Env' → Option Env'} {gtt : Gt} {ge : Gx} (i : Nat) {y : Str} {py spos : Pos} (hc : X.calm = true) (hN : X.N.Nodup) (hi : DE X EX iter g) (ok : BlkOk X.N X.env.scope scope own)
    (hg : ∀ (s : Shared) (H : Hp) (Ca : Addr) (cl : List (Str × Addr)) (fp : List Addr), DGc (X.blk s H scope (compEnvC scope cl Ca X.env) fp) (own.map (·.2)) tg gt)
    (ht : ∀ (s : Shared) (H : Hp) (Ca : Addr) (cl : List (Str × Addr)) (fp : List Addr), DTs (X.blk s H scope (compEnvC scope cl Ca X.env) fp) E0 ifs gtt)
    (he : ∀ (s : Shared) (H : Hp) (Ca : Addr) (cl : List (Str × Addr)) (fp : List Addr), DE (X.blk s H scope (compEnvC scope cl Ca X.env) fp) E0 elt ge)
    (hsw : swapsWith (.ListComp elt [⟨tg, iter, ifs, 0⟩] scope pos) (some (.Name y py)) spos.line X.env = pure true) (hy : X.N[i]? = some y := by rfl) (hyl : X.env.scope.names.lookup y = some .local := by rfl)
    (hs : ∀ x, foldedSetIterable iter X.env x = pure x := by intro _; rfl) : DS X EX (.Assign [.Name y py] (.ListComp elt [⟨tg, iter, ifs, 0⟩] scope pos) spos) (sAsg (gCompK (own.map (·.2)) g gt gtt ge) (tgName i)) := by
  obtain ⟨t, h, k⟩ := hi
  have kc := te_compK (tg := tg) (iter := iter) (vs := own.map (·.2)) (gt := gt) (gtt := gtt) (ge := ge) k
  refine ⟨_, ps_setLc (g := canG X.K X.mg (own.map (·.2)) gt) (tt := canT X.K X.mg E0 gtt) (te := canE X.K X.mg E0 ge) hc hN hy hyl hsw (pi_list h) ok (fun s H Ca cl fp => (hg s H Ca cl fp).can) (fun s H Ca cl fp => (ht s H Ca cl fp).can) (fun s H Ca cl fp => (he s H Ca cl fp).can) hs, fun av m H σ env cs Dn c s p => ?_⟩
  exact kc av m H σ env cs _ c s (PostE.bindS p fun d cs1 av1 m1 H1 v e1 c1 r1 p1 => p1 av1 m1 H1 _ (Ext.refl ..) c1 ((s.mono c.sub e1).set r1))
theorem te_compKC {tg iter : Expr} {t : TE} {vs : List Nat} {g : Gx} {gt : D → Env' → Option Env'} {gtt : Gt} {ge : Gx} (k : TeOk X.K X.mg EX t g) : TeOk X.K X.mg EX (tLc (iList X.K t) (canG X.K X.mg vs gt) (canT X.K X.mg E0 gtt) (canE X.K X.mg E0 ge) vs) (gCompKC vs g gt gtt ge) := by
  intro av m H σ env cs Q c s p
  unfold gCompKC at p
  refine k av m H σ env cs _ c s (PostE.bind p fun d cs1 av1 m1 H1 v e1 c1 r1 p1 => ?_)
  split at p1
  · rename_i n0
    split at p1
    · rename_i ds hds
      cases r1 with
      | cell ha =>
        obtain ⟨xs, q, l⟩ := c1.ok _ _ _ ha hds
        refine ⟨_, rfl, ⟨xs, SqL.of q⟩, ?_⟩
        intro Da hD
        have s1 := s.mono c.sub e1
        rcases bad_cell (compBC n0 ds vs gt gtt (bodyE ge) ds env cs1 []) with ⟨accF, csF, hF⟩ | hb
        · rw [hF] at p1
          have A0 := Ac.start c1 hD
          exact loop_coreC (canG_ok (vs := vs) (g := gt)) (canT_ok (EX := E0) (g := gtt)) (body_one (canE_ok (EX := E0) (g := ge))) (walk_cell ha) A0 (A0.wk1 c1.sub) (s1.monoW c1.sub (A0.wk1 c1.sub)) hF fun av2 m2 H2 A w => hand_cell c1.sub p1 A
        · rw [hb] at p1; exact p1.elim
    · exact p1.elim
  · exact p1.elim
theorem ds_compKC {elt tg iter : Expr} {ifs : List Expr} {scope : Scope} {own : List (Str × Nat)} {pos : Pos} {g : Gx} {gt : D → Env' → Option Env'} {gtt : Gt} {ge : Gx} (i : Nat) {y : Str} {py spos : Pos} (hc : X.calm = true) (hN : X.N.Nodup) (hi : DE X EX iter g) (ok : BlkOk X.N X.env.scope scope own)
    (hg : ∀ (s : Shared) (H : Hp) (Ca : Addr) (cl : List (Str × Addr)) (fp : List Addr), DGc (X.blk s H scope (compEnvC scope cl Ca X.env) fp) (own.map (·.2)) tg gt)
    (ht : ∀ (s : Shared) (H : Hp) (Ca : Addr) (cl : List (Str × Addr)) (fp : List Addr), DTs (X.blk s H scope (compEnvC scope cl Ca X.env) fp) E0 ifs gtt)
    (he : ∀ (s : Shared) (H : Hp) (Ca : Addr) (cl : List (Str × Addr)) (fp : List Addr), DE (X.blk s H scope (compEnvC scope cl Ca X.env) fp) E0 elt ge)
    (hsw : swapsWith (.ListComp elt [⟨tg, iter, ifs, 0⟩] scope pos) (some (.Name y py)) spos.line X.env = pure true) (hy : X.N[i]? = some y := by rfl) (hyl : X.env.scope.names.lookup y = some .local := by rfl)
    (hs : ∀ x, foldedSetIterable iter X.env x = pure x := by intro _; rfl) : DS X EX (.Assign [.Name y py] (.ListComp elt [⟨tg, iter, ifs, 0⟩] scope pos) spos) (sAsg (gCompKC (own.map (·.2)) g gt gtt ge) (tgName i)) := by
  obtain ⟨t, h, k⟩ := hi
  have kc := te_compKC (tg := tg) (iter := iter) (vs := own.map (·.2)) (gt := gt) (gtt := gtt) (ge := ge) k
  refine ⟨_, ps_setLc (g := canG X.K X.mg (own.map (·.2)) gt) (tt := canT X.K X.mg E0 gtt) (te := canE X.K X.mg E0 ge) hc hN hy hyl hsw (pi_list h) ok (fun s H Ca cl fp => (hg s H Ca cl fp).can) (fun s H Ca cl fp => (ht s H Ca cl fp).can) (fun s H Ca cl fp => (he s H Ca cl fp).can) hs, fun av m H σ env cs Dn c s p => ?_⟩
  exact kc av m H σ env cs _ c s (PostE.bindS p fun d cs1 av1 m1 H1 v e1 c1 r1 p1 => p1 av1 m1 H1 _ (Ext.refl ..) c1 ((s.mono c.sub e1).set r1))
end
end Dm
set_option linter.all false
set_option maxRecDepth 100000
set_option maxHeartbeats 2000000
/-! Dm: list(range(n)). -/
namespace Dm
open PySem PySem.Spec L2 PyProof.Rows
section
variable {X : Cx} {EX : XK} {pos cpos : Pos} {K : PySem.W.Frag} {mg : Str → Option Value}
theorem rgV_RL {av m : List Addr} {H : Hp} : ∀ l : List Nat, RL K av m H (l.map fun i => V.int (0 + (i : Nat))) (l.map fun i => D.int (0 + (i : Nat)))
  | [] => .nil
  | _ :: l => .cons (.int _) (rgV_RL l)
def listRD : D → List C → Out D := fun d cs => match d with
  | .int n => if 0 ≤ n ∧ n ≤ 16777216 then .ok (.lst (rngD 0 n.toNat)) cs else .bad
  | _ => .bad
def gListR (g : Gx) : Gx := fun env cs => (g env cs).bind listRD
theorem de_listR {p q : Pos} {e : Expr} {g : Gx} (hc : X.calm = true) (h : DE X EX e g) (hm : X.mg "list" = none) (hm2 : X.mg "range" = none) (hg : Gl X "list" := by rfl) (hg2 : Gl X "range" := by rfl)
    (he : starEach [e] X.env = (false, eval e X.env) :: starEach [] X.env := by rfl) (hl : starEach [.Call (.Name "range" q) [e] [] cpos] X.env = (false, eval (.Call (.Name "range" q) [e] [] cpos) X.env) :: starEach [] X.env := by rfl) :
    DE X EX (.Call (.Name "list" p) [.Call (.Name "range" q) [e] [] cpos] [] pos) (gListR g) := by
  obtain ⟨t, h, k⟩ := h
  refine ⟨_, pe_listRg hc hg hm (prg_1 hg2 hm2 h he) hl, fun av m H σ env cs Q c s p => ?_⟩
  refine k av m H σ env cs _ c s (PostE.bind p fun d cs1 av1 m1 H1 v e1 c1 r1 p1 => ?_)
  unfold listRD at p1
  split at p1
  · rename_i n
    cases r1
    split at p1
    · rename_i hn
      refine ⟨n, rfl, RgOk.of_le (by omega) hn.2 (by omega) hn.1, fun b hb => ?_⟩
      refine PostE.newL c1 p1 hb ?_
      rw [show rgV 0 n = (List.range n.toNat).map fun i => V.int (0 + (i : Nat)) by unfold rgV; rw [Int.sub_zero]]
      exact rgV_RL _
    · exact p1.elim
  · exact p1.elim
end
end Dm
set_option linter.all false
set_option maxRecDepth 100000
set_option maxHeartbeats 2000000
/-! Dm: list(range(n)) as a cell. -/
namespace Dm
open PySem PySem.Spec L2 PyProof.Rows
section
variable {X : Cx} {EX : XK} {pos cpos : Pos} {K : PySem.W.Frag} {mg : Str → Option Value}
def listRC : D → List C → Out D := fun d cs => match d with
  | .int n => if 0 ≤ n ∧ n ≤ 16777216 then .ok (.cell cs.length) (cs ++ [.lst (rngD 0 n.toNat)]) else .bad
  | _ => .bad
def gListRC (g : Gx) : Gx := fun env cs => (g env cs).bind listRC
theorem de_listRC {p q : Pos} {e : Expr} {g : Gx} (hc : X.calm = true) (h : DE X EX e g) (hm : X.mg "list" = none) (hm2 : X.mg "range" = none) (hg : Gl X "list" := by rfl) (hg2 : Gl X "range" := by rfl)
    (he : starEach [e] X.env = (false, eval e X.env) :: starEach [] X.env := by rfl) (hl : starEach [.Call (.Name "range" q) [e] [] cpos] X.env = (false, eval (.Call (.Name "range" q) [e] [] cpos) X.env) :: starEach [] X.env := by rfl) :
    DE X EX (.Call (.Name "list" p) [.Call (.Name "range" q) [e] [] cpos] [] pos) (gListRC g) := by
  obtain ⟨t, h, k⟩ := h
  refine ⟨_, pe_listRg hc hg hm (prg_1 hg2 hm2 h he) hl, fun av m H σ env cs Q c s p => ?_⟩
  refine k av m H σ env cs _ c s (PostE.bind p fun d cs1 av1 m1 H1 v e1 c1 r1 p1 => ?_)
  unfold listRC at p1
  split at p1
  · rename_i n
    cases r1
    split at p1
    · rename_i hn
      refine ⟨n, rfl, RgOk.of_le (by omega) hn.2 (by omega) hn.1, fun b hb => ?_⟩
      refine newCd c1 ?_ p1 hb
      rw [show rgV 0 n = (List.range n.toNat).map fun i => V.int (0 + (i : Nat)) by unfold rgV; rw [Int.sub_zero]]
      exact rgV_RL _
    · exact p1.elim
  · exact p1.elim
end
end Dm
set_option linter.all false
set_option maxRecDepth 100000
set_option maxHeartbeats 2000000
/-! Dm: `x is False`, `x is not True`: of two truth values. -/
namespace Dm
open PySem PySem.Spec L2
section
variable {X : Cx} {EX : XK} {K : PySem.W.Frag} {mg : Str → Option Value} {pos : Pos}
def isBD (neg : Bool) : D → D → List C → Out D := fun dx dy cs => match dx, dy with
  | .bl a, .bl b => .ok (.bl (if neg then !decide (a = b) else decide (a = b))) cs
  | _, _ => .bad
theorem de_isB {a b : Expr} {ga gb : Gx} (ha : DE X EX a ga) (hb : DE X EX b gb) : DE X EX (.Compare a [.Is] [b] pos) (g2 (isBD false) ga gb) :=
  de_cmp op_isBl (fun av m H cs x y dx dy Q c rx ry q => by
    unfold isBD at q
    split at q
    · cases rx; cases ry
      exact ⟨_, _, rfl, rfl, q.here c (.bl _)⟩
    · exact q.elim) ha hb (nomark _)
theorem de_isnotB {a b : Expr} {ga gb : Gx} (ha : DE X EX a ga) (hb : DE X EX b gb) : DE X EX (.Compare a [.IsNot] [b] pos) (g2 (isBD true) ga gb) :=
  de_cmp op_notBl (fun av m H cs x y dx dy Q c rx ry q => by
    unfold isBD at q
    split at q
    · cases rx; cases ry
      exact ⟨_, _, rfl, rfl, q.here c (.bl _)⟩
    · exact q.elim) ha hb (nomark _)
theorem dt_isB {a b : Expr} {ga gb : Gx} (ha : DE X EX a ga) (hb : DE X EX b gb) : DT X EX (.Compare a [.Is] [b] pos) (tE (g2 (isBD false) ga gb)) :=
  dt_cmp op_isBl (fun av m H cs x y dx dy Q c rx ry q => by
    unfold isBD at q
    split at q
    · cases rx; cases ry
      exact ⟨_, _, rfl, rfl, q.here c (.bl _)⟩
    · exact q.elim) ha hb (nomark _)
theorem dt_isnotB {a b : Expr} {ga gb : Gx} (ha : DE X EX a ga) (hb : DE X EX b gb) : DT X EX (.Compare a [.IsNot] [b] pos) (tE (g2 (isBD true) ga gb)) :=
  dt_cmp op_notBl (fun av m H cs x y dx dy Q c rx ry q => by
    unfold isBD at q
    split at q
    · cases rx; cases ry
      exact ⟨_, _, rfl, rfl, q.here c (.bl _)⟩
    · exact q.elim) ha hb (nomark _)
end
end Dm
set_option linter.all false
set_option maxRecDepth 100000
set_option maxHeartbeats 2000000
/-! Dm: min(xs, default=n). -/
namespace Dm
open PySem PySem.Spec L2 PyProof.Rows
section
variable {X : Cx} {EX : XK} {pos cpos : Pos} {K : PySem.W.Frag} {mg : Str → Option Value}
def rMinDf (K : PySem.W.Frag) : List V → List V → Hp → VK → Prop := fun vs zs H Q => ∃ (a : Addr) (ns : List Int) (d : Int), vs = [V.ref a] ∧ zs = [V.int d] ∧ SqL K H a (ns.map V.int) ∧ (ns = [] → Q (.int d) H) ∧ ∀ n r, ns = n :: r → Q (.int (r.foldl min n)) H
theorem alike_ints (ns : List Int) : PySem.W.AlikeAll (ns.map PyData.int) := by
  refine ⟨fun x hx y hy => ?_, fun x hx => ?_⟩
  · obtain ⟨i, _, rfl⟩ := List.mem_map.mp hx
    obtain ⟨j, _, rfl⟩ := List.mem_map.mp hy
    rfl
  · obtain ⟨i, _, rfl⟩ := List.mem_map.mp hx
    simp
theorem depth_ints : ∀ ns : List Int, PyData.depthAll (ns.map PyData.int) ≤ 1
  | [] => by simp [PyData.depthAll]
  | n :: ns => by
    have := depth_ints ns
    simp only [List.map_cons, PyData.depthAll, PyData.depth]
    omega
theorem cr_minDf {k : Nat} (hr : Room k X.A) : CallRK X (.builtin "min") [Str.ofString "default"] (rMinDf X.K) := by
  intro pins s σ H vs zs us ws Q I r rz h
  obtain ⟨a, ns, d, rfl, rfl, hs, q0, q1⟩ := h
  obtain ⟨its, rv, hl, _⟩ := I.list hs
  obtain rfl := Vals.ref1 r
  obtain ⟨w1, rfl, e1⟩ := vals1 rz
  obtain ⟨t, rfl⟩ := e1
  have un := hr.un
  have dp := depth_ints ns
  refine PySem.W.min_list_default (xs := ns.map PyData.int) (as := []) hr.hd hl.isList (by simpa using ints_readAll s.heap rv.ints) (alike_ints ns) (by omega) (fun e h' tk hk => ?_) fun y ys i v h' tk bs e hv rd hk => ?_
  · exact ⟨.int d, H, I.kept hk, ⟨t, rfl⟩, q0 (by simpa using e)⟩
  · cases ns with
    | nil => cases e
    | cons n r =>
      cases e
      rw [PySem.W.minD_ints] at rd
      cases rd
      exact ⟨.int _, H, I.kept hk, ⟨_, rfl⟩, q1 n r rfl⟩
def minKD : D → D → List C → Out D := fun d k cs => match asL cs d, k with
  | some xs, .int m => match intsOf xs with
    | some [] => .ok (.int m) cs
    | some (n :: r) => .ok (.int (r.foldl min n)) cs
    | none => .bad
  | _, _ => .bad
def gMinK (ge gf : Gx) : Gx := fun env cs => (ge env cs).bind fun d cs => (gf env cs).bind fun k cs => minKD d k cs
theorem de_minK {k : Nat} {p kpos : Pos} {e f : Expr} {ge gf : Gx} (hr : Room k X.A) (he : DE X EX e ge) (hf : DE X EX f gf) (hm : X.mg "min" = none) (hg : Gl X "min" := by rfl) (hs : starEach [e] X.env = (false, eval e X.env) :: starEach [] X.env := by rfl)
    (hb : backTo pos (starEach [e] X.env) = (false, eval e X.env) :: backTo pos (starEach [] X.env) := by rfl) (hpl : (backTo pos (starEach [e] X.env)).any (·.1) = false := by rfl)
    (hall : (backToKw pos (keywordEach [⟨some (Str.ofString "default"), f, kpos⟩] X.env)).all (·.1.isSome) = true := by rfl) (hnone : (backToKw pos (keywordEach [⟨some (Str.ofString "default"), f, kpos⟩] X.env)).any (·.1.isNone) = false := by rfl) (hks : (backToKw pos (keywordEach [⟨some (Str.ofString "default"), f, kpos⟩] X.env)).filterMap (·.1) = [Str.ofString "default"] := by rfl) :
    DE X EX (.Call (.Name "min" p) [e] [⟨some (Str.ofString "default"), f, kpos⟩] pos) (gMinK ge gf) := by
  obtain ⟨t, h, k1⟩ := he
  obtain ⟨t2, h2, k2⟩ := hf
  refine ⟨_, pe_callBK (cr_minDf hr) hg hm (by decide +kernel) (pa_cons h pa_nil hs) (pk_cons h2 pk_nil) (by decide) (by decide) hb hpl hall hnone hks, fun av m H σ env cs Q c s p => ?_⟩
  refine k1 av m H σ env cs _ c s (PostE.bind p fun d cs1 av1 m1 H1 v e1 c1 r1 p1 => ?_)
  refine k2 av1 m1 H1 σ env cs1 _ c1 (s.mono c.sub e1) (PostE.bind p1 fun d2 cs2 av2 m2 H2 v2 e2 c2 r2 p2 => ?_)
  have r1 := r1.mono c1.sub e2
  show ∃ (a : Addr) (ns : List Int) (d : Int), _
  unfold minKD at p2
  split at p2
  · rename_i xs mm hxs
    obtain ⟨b, us, rfl, hq, l⟩ := asL_ok c2 r1 hxs
    cases r2
    split at p2
    · rename_i hn
      refine ⟨b, [], mm, rfl, rfl, by rw [← intsOf_ok l hn]; exact hq, fun _ => p2.here c2 (.int _), fun n r z => by cases z⟩
    · rename_i n r hn
      refine ⟨b, n :: r, mm, rfl, rfl, by rw [← intsOf_ok l hn]; exact hq, fun z => (by cases z), fun n' r' z => ?_⟩
      cases z
      exact p2.here c2 (.int _)
    · exact p2.elim
  · exact p2.elim
end
end Dm
set_option linter.all false
set_option maxRecDepth 100000
set_option maxHeartbeats 2000000
/-! Dm: max(xs, default=n). -/
namespace Dm
open PySem PySem.Spec L2 PyProof.Rows
section
variable {X : Cx} {EX : XK} {pos cpos : Pos} {K : PySem.W.Frag} {mg : Str → Option Value}
def rMaxDf (K : PySem.W.Frag) : List V → List V → Hp → VK → Prop := fun vs zs H Q => ∃ (a : Addr) (ns : List Int) (d : Int), vs = [V.ref a] ∧ zs = [V.int d] ∧ SqL K H a (ns.map V.int) ∧ (ns = [] → Q (.int d) H) ∧ ∀ n r, ns = n :: r → Q (.int (r.foldl max n)) H
theorem cr_maxDf {k : Nat} (hr : Room k X.A) : CallRK X (.builtin "max") [Str.ofString "default"] (rMaxDf X.K) := by
  intro pins s σ H vs zs us ws Q I r rz h
  obtain ⟨a, ns, d, rfl, rfl, hs, q0, q1⟩ := h
  obtain ⟨its, rv, hl, _⟩ := I.list hs
  obtain rfl := Vals.ref1 r
  obtain ⟨w1, rfl, e1⟩ := vals1 rz
  obtain ⟨t, rfl⟩ := e1
  have un := hr.un
  have dp := depth_ints ns
  refine PySem.W.max_list_default (xs := ns.map PyData.int) (as := []) hr.hd hl.isList (by simpa using ints_readAll s.heap rv.ints) (alike_ints ns) (by omega) (fun e h' tk hk => ?_) fun y ys i v h' tk bs e hv rd hk => ?_
  · exact ⟨.int d, H, I.kept hk, ⟨t, rfl⟩, q0 (by simpa using e)⟩
  · cases ns with
    | nil => cases e
    | cons n r =>
      cases e
      rw [PySem.W.maxD_ints] at rd
      cases rd
      exact ⟨.int _, H, I.kept hk, ⟨_, rfl⟩, q1 n r rfl⟩
def maxKD : D → D → List C → Out D := fun d k cs => match asL cs d, k with
  | some xs, .int m => match intsOf xs with
    | some [] => .ok (.int m) cs
    | some (n :: r) => .ok (.int (r.foldl max n)) cs
    | none => .bad
  | _, _ => .bad
def gMaxK (ge gf : Gx) : Gx := fun env cs => (ge env cs).bind fun d cs => (gf env cs).bind fun k cs => maxKD d k cs
theorem de_maxK {k : Nat} {p kpos : Pos} {e f : Expr} {ge gf : Gx} (hr : Room k X.A) (he : DE X EX e ge) (hf : DE X EX f gf) (hm : X.mg "max" = none) (hg : Gl X "max" := by rfl) (hs : starEach [e] X.env = (false, eval e X.env) :: starEach [] X.env := by rfl)
    (hb : backTo pos (starEach [e] X.env) = (false, eval e X.env) :: backTo pos (starEach [] X.env) := by rfl) (hpl : (backTo pos (starEach [e] X.env)).any (·.1) = false := by rfl)
    (hall : (backToKw pos (keywordEach [⟨some (Str.ofString "default"), f, kpos⟩] X.env)).all (·.1.isSome) = true := by rfl) (hnone : (backToKw pos (keywordEach [⟨some (Str.ofString "default"), f, kpos⟩] X.env)).any (·.1.isNone) = false := by rfl) (hks : (backToKw pos (keywordEach [⟨some (Str.ofString "default"), f, kpos⟩] X.env)).filterMap (·.1) = [Str.ofString "default"] := by rfl) :
    DE X EX (.Call (.Name "max" p) [e] [⟨some (Str.ofString "default"), f, kpos⟩] pos) (gMaxK ge gf) := by
  obtain ⟨t, h, k1⟩ := he
  obtain ⟨t2, h2, k2⟩ := hf
  refine ⟨_, pe_callBK (cr_maxDf hr) hg hm (by decide +kernel) (pa_cons h pa_nil hs) (pk_cons h2 pk_nil) (by decide) (by decide) hb hpl hall hnone hks, fun av m H σ env cs Q c s p => ?_⟩
  refine k1 av m H σ env cs _ c s (PostE.bind p fun d cs1 av1 m1 H1 v e1 c1 r1 p1 => ?_)
  refine k2 av1 m1 H1 σ env cs1 _ c1 (s.mono c.sub e1) (PostE.bind p1 fun d2 cs2 av2 m2 H2 v2 e2 c2 r2 p2 => ?_)
  have r1 := r1.mono c1.sub e2
  show ∃ (a : Addr) (ns : List Int) (d : Int), _
  unfold maxKD at p2
  split at p2
  · rename_i xs mm hxs
    obtain ⟨b, us, rfl, hq, l⟩ := asL_ok c2 r1 hxs
    cases r2
    split at p2
    · rename_i hn
      refine ⟨b, [], mm, rfl, rfl, by rw [← intsOf_ok l hn]; exact hq, fun _ => p2.here c2 (.int _), fun n r z => by cases z⟩
    · rename_i n r hn
      refine ⟨b, n :: r, mm, rfl, rfl, by rw [← intsOf_ok l hn]; exact hq, fun z => (by cases z), fun n' r' z => ?_⟩
      cases z
      exact p2.here c2 (.int _)
    · exact p2.elim
  · exact p2.elim
end
end Dm
set_option linter.all false
set_option maxRecDepth 100000
set_option maxHeartbeats 2000000
/-! Dm: len(set(xs)), xs a list of numbers, with repeats. -/
namespace Dm
open PySem PySem.Spec L2 PyProof.Rows
section
variable {X : Cx} {EX : XK} {pos : Pos} {K : PySem.W.Frag} {mg : Str → Option Value}
/-- how many different ones -/
def manyOf (ns : List Int) : Nat := (firstMet (fun i => ns.getD i 0) ns.length).length
theorem firstMet_nd (f : Nat → Int) : ∀ n, (firstMet f n).Nodup
  | 0 => List.nodup_nil
  | n + 1 => by
    have ih := firstMet_nd f n
    rw [firstMet_succ]
    unfold step_dedup
    split
    · exact ih
    · rename_i h
      refine List.nodup_append.mpr ⟨ih, by simp, fun a ha b hb e => h ?_⟩
      have hb := List.mem_singleton.mp hb
      exact List.any_eq_true.mpr ⟨a, ha, by rw [e, hb]; simp⟩
theorem firstMet_mem (f : Nat → Int) (n : Nat) (x : Int) : x ∈ firstMet f n ↔ ∃ i, i < n ∧ f i = x := by
  have h := firstMet_any f n x
  rw [Bool.eq_iff_iff, List.any_eq_true, List.any_eq_true] at h
  constructor
  · intro hx
    obtain ⟨y, hy, e⟩ := h.mp ⟨x, hx, by simp⟩
    obtain ⟨i, hi, rfl⟩ := List.mem_map.mp hy
    exact ⟨i, List.mem_range.mp hi, by simpa using e⟩
  · rintro ⟨i, hi, rfl⟩
    obtain ⟨y, hy, e⟩ := h.mpr ⟨f i, List.mem_map.mpr ⟨i, List.mem_range.mpr hi, rfl⟩, by simp⟩
    have : y = f i := by simpa using e
    rw [← this]; exact hy
/-- a list without repeats of the same numbers has as many -/
theorem manyOf_eq {ns ms : List Int} (h : ms.Nodup) (e : ∀ x, x ∈ ms ↔ x ∈ ns) : manyOf ns = ms.length := by
  have p : (firstMet (fun i => ns.getD i 0) ns.length).Perm ms := by
    refine (List.perm_ext_iff_of_nodup (firstMet_nd _ _) h).mpr fun x => ?_
    rw [firstMet_mem, e]
    constructor
    · rintro ⟨i, hi, rfl⟩
      rw [List.getD_eq_getElem?_getD, List.getElem?_eq_getElem hi]
      exact List.getElem_mem hi
    · intro hx
      obtain ⟨i, hi⟩ := List.getElem?_of_mem hx
      exact ⟨i, (List.getElem?_eq_some_iff.mp hi).1, by rw [List.getD_eq_getElem?_getD, hi]; rfl⟩
  exact p.length_eq
def tLenSetR (K : PySem.W.Frag) (ta : TE) : TE := fun σ H Q => ta σ H fun x H1 => ∃ (l : Addr) (ns : List Int), x = .ref l ∧ SqL K H1 l (ns.map V.int) ∧ ns.length ≤ 4000 ∧ Q (.int (manyOf ns : Nat)) H1
theorem pe_lenSetR {a : Expr} {ta : TE} {p p2 q pos : Pos} (hc : X.calm = true) (hg : Gl X "len") (hm : X.mg "len" = none) (hg2 : Gl X "set") (hm2 : X.mg "set" = none) (ha : PE X a ta)
    (na : starEach [a] X.env = (false, eval a X.env) :: starEach [] X.env := by rfl) : PE X (.Call (.Name "len" p) [.Call (.Name "set" p2) [a] [] q] [] pos) (tLenSetR X.K ta) := by
  refine ⟨fun pins s σ H Q I h => ?_⟩
  refine Call_ (ld_blt I hg hm PySem.boot_len (callWith_builtin1 (args_cons ?_ rfl) rfl rfl))
  refine Call_ (ld_blt I hg2 hm2 boot_set (callWith_type1 (args_cons (thn (ha.run pins s σ H _ I h) fun v s1 ⟨x, H1, I1, r1, q1⟩ => args_nil ?_) na) na rfl))
  obtain ⟨l, ns, rfl, hq, hl, q1⟩ := q1
  cases r1
  obtain ⟨its, r, pl, hz⟩ := I1.list hq
  have hlen : its.toArray.size = ns.length := by rw [List.size_toArray, ← r.length, List.length_map]
  have ml : manyOf ns ≤ ns.length := firstMet_length_le _ _
  refine call_set_list (I1.ok.hd hc) pl.isList (by simpa using r.ints) (by rw [hlen]; unfold scanBound; omega) fun h' tk hS hk => args_nil ?_
  rw [hlen] at hS
  obtain ⟨o, es, ep, t, ho, hex, hd, _, _, _, hf, hn⟩ := hS
  have I2 : Inv X pins σ H1 { s1 with heap := h', toks := tk } := I1.kept fun b o e => hk b o (Heap.lt_size e) e
  have hn : es.size = manyOf ns := hn
  exact call_len_set ho hex hd hf (by rw [hn]; omega) ⟨.int (manyOf ns : Nat), H1, I2.tok _, ⟨_, by rw [hn]⟩, q1⟩
def lenSetD : D → List C → Out D := fun d cs => match asL cs d with
  | some xs => match intsOf xs with
    | some ns => if ns.length ≤ 4000 then .ok (.int (manyOf ns : Nat)) cs else .bad
    | none => .bad
  | none => .bad
def gLenL (g : Gx) : Gx := fun env cs => (g env cs).bind lenSetD
theorem de_lenSetL {p p2 q pos : Pos} {e : Expr} {g : Gx} (hc : X.calm = true) (h : DE X EX e g) (hm : X.mg "len" = none) (hm2 : X.mg "set" = none) (hg : Gl X "len" := by rfl) (hg2 : Gl X "set" := by rfl)
    (na : starEach [e] X.env = (false, eval e X.env) :: starEach [] X.env := by rfl) : DE X EX (.Call (.Name "len" p) [.Call (.Name "set" p2) [e] [] q] [] pos) (gLenL g) := by
  obtain ⟨t, h, k⟩ := h
  refine ⟨_, pe_lenSetR hc hg hm hg2 hm2 h na, fun av m H σ env cs Q c s p => ?_⟩
  refine k av m H σ env cs _ c s (PostE.bind p fun d cs1 av1 m1 H1 v e1 c1 r1 p1 => ?_)
  unfold lenSetD at p1
  split at p1
  · rename_i xs hxs
    split at p1
    · rename_i ns hn
      split at p1
      · rename_i hl
        obtain ⟨b, us, rfl, hq, l⟩ := asL_ok c1 r1 hxs
        exact ⟨b, ns, rfl, by rw [← intsOf_ok l hn]; exact hq, hl, p1.here c1 (.int _)⟩
      · exact p1.elim
    · exact p1.elim
  · exact p1.elim
end
end Dm
set_option linter.all false
set_option maxRecDepth 100000
set_option maxHeartbeats 2000000
/-! Dm: how often a truth value stands in a list of truth values. -/
namespace Dm
open PySem PySem.Spec L2 PyProof.Rows
def blsOf : List D → Option (List Bool)
  | [] => some []
  | .bl b :: r => (blsOf r).map (b :: ·)
  | _ :: _ => none
theorem blsOf_ok {K : PySem.W.Frag} {av m : List Addr} {H : Hp} : ∀ {vs : List V} {ds : List D} {bs : List Bool}, RL K av m H vs ds → blsOf ds = some bs → vs = bs.map V.bl
  | _, _, bs, .nil, h => by cases h; rfl
  | _, _, bs, .cons r t, h => by
    cases r with
    | bl b =>
      simp only [blsOf, Option.map_eq_some_iff] at h
      obtain ⟨cs, h1, rfl⟩ := h
      rw [blsOf_ok t h1]
      rfl
    | _ => simp [blsOf] at h
theorem vals_bls : ∀ {bs : List Bool} {us : List Value}, Vals (bs.map V.bl) us → us = bs.map Value.bool
  | [], us, r => by cases r; rfl
  | b :: bs, us, r => by
    rw [List.map_cons] at r
    cases r with
    | cons r1 r2 =>
      rw [vals_bls r2]
      cases (show _ = Value.bool b from r1)
      rfl
theorem countP_bls (k : Bool) : ∀ bs : List Bool, (bs.map Value.bool).countP (isBoolOf k) = bs.count k
  | [] => rfl
  | b :: bs => by
    rw [List.map_cons, List.countP_cons, List.count_cons, countP_bls k bs]
    rfl
def rCntB (K : PySem.W.Frag) : V → List V → Hp → VK → Prop := fun x xs H Q => ∃ (a : Addr) (bs : List Bool) (k : Bool), x = V.ref a ∧ xs = [.bl k] ∧ SqL K H a (bs.map V.bl) ∧ Q (.int ((bs.count k : Nat) : Int)) H
theorem mt_cntB {X : Cx} : MtR X "list.count" (rCntB X.K) := by
  intro pins s σ H x xs v us Q I rx rxs h
  obtain ⟨a, bs, k, rfl, rfl, hs, q⟩ := h
  cases rx
  cases rxs with
  | cons ry rt =>
    cases rt
    obtain ⟨its, rv, hl, hlen⟩ := I.list hs
    have e := vals_bls rv
    subst e
    cases (show _ = Value.bool k from ry)
    obtain ⟨⟨cls, dd, data, sl⟩, ho, hc, n, hd⟩ := id hl.isList
    simp only at hc hd
    subst hc hd
    refine call_meets PySem.F.slot_list_count ⟨_, ho, rfl⟩ PySem.F.entry_list_count (PySem.F.args_list_count_2 _ _) (PySem.SeqAt.list_countAt a (bs.map Value.bool).toArray n dd sl (.bool k) (isBoolOf k)) ⟨ho, fun y hy => ?_, ?_⟩
    · obtain ⟨b, _, rfl⟩ := List.mem_map.mp (by simpa using hy : y ∈ bs.map Value.bool)
      exact PySem.SeqAt.EqAt.bool_bool b k
    · rw [show (bs.map Value.bool).toArray.toList = bs.map Value.bool from rfl, countP_bls]
      exact ⟨.int ((bs.count k : Nat) : Int), H, I.tok _, ⟨_, rfl⟩, q⟩
/-- o.count(e) -/
def gCntB (go ge : Gx) : Gx := fun env cs => (go env cs).bind fun o cs => if (asL cs o).isSome then (ge env cs).bind fun d cs => match asL cs o, d with
  | some xs, .bl k => match blsOf xs with
    | some bs => .ok (.int ((bs.count k : Nat) : Int)) cs
    | none => .bad
  | _, _ => .bad else .bad
section
variable {X : Cx} {EX : XK}
theorem de_countB {o e : Expr} {go ge : Gx} {apos cpos : Pos} (ho : DE X EX o go) (he : DE X EX e ge)
    (hbase : attributeBase o "count" X.env (eval o X.env) = eval o X.env := by rfl)
    (hfew : ((backTo cpos (starEach [e] X.env)).all (fun x => !x.1) && (backToKw cpos (keywordEach [] X.env)).all (fun x => x.1.isSome)
      && decide ([e].length + ([] : List Keyword).length + (if ([] : List Keyword).isEmpty then 0 else 1) < 30)) = true := by rfl)
    (hline : (apos.endLine == cpos.line) = true := by rfl) (hs : starEach [e] X.env = (false, eval e X.env) :: starEach [] X.env := by rfl) (hplain : (backTo cpos (starEach [] X.env)).any (·.1) = false := by rfl) :
    DE X EX (.Call (.Attribute o "count" apos) [e] [] cpos) (gCntB go ge) := by
  obtain ⟨t, h, k⟩ := ho
  obtain ⟨u, h', k'⟩ := he
  refine ⟨_, pe_bm PySem.F.plainAttrs_list PySem.F.slot_list_count PySem.F.type_list_count mt_cntB h (pa_cons h' pa_nil hs) hbase hfew hline hs hplain,
    fun av m H σ env cs Q c s p => k av m H σ env cs _ c s (PostE.bind p fun d cs1 av1 m1 H1 v e1 c1 r1 p1 => ?_)⟩
  split at p1
  · rename_i hi
    obtain ⟨xs, hx⟩ := Option.isSome_iff_exists.mp hi
    obtain ⟨a, vs, rfl, hq, l⟩ := asL_ok c1 r1 hx
    refine ⟨.inl ⟨rfl, _, hq⟩, ?_⟩
    refine k' av1 m1 H1 σ env cs1 _ c1 (s.mono c.sub e1) (PostE.bind p1 fun d2 cs2 av2 m2 H2 v2 e2 c2 r2 p2 => ?_)
    split at p2
    · rename_i ys j hy
      split at p2
      · rename_i ns hn
        obtain ⟨b, ws, hb, hq2, l2⟩ := asL_ok c2 (r1.mono c1.sub e2) hy
        cases hb
        cases r2
        refine ⟨_, ns, j, rfl, rfl, by rw [← blsOf_ok l2 hn]; exact hq2, p2.here c2 (.int _)⟩
      · exact p2.elim
    · exact p2.elim
  · exact p1.elim
end
end Dm
set_option linter.all false
set_option maxRecDepth 100000
set_option maxHeartbeats 2000000
/-! Dm: the words of an error; raise X(words). -/
namespace Dm
open PySem PySem.Spec L2
section
variable {X : Cx} {EX : XK}
/-- {x}: None or a whole number -/
theorem pe_fmtN {e : Expr} {te : TE} {pos : Pos} (he : PE X e te) :
    PE X (.FormattedValue e (-1) none pos) (fun σ H Q => te σ H fun x H1 => (x = .non ∧ Q (.str "None") H1) ∨ ∃ i : Int, x = .int i ∧ i.natAbs.log2 < 1920 ∧ Q (.str (toString i)) H1) := by
  constructor
  intro pins s σ H Q I h
  refine wpAny_FormattedValue_plain (thn (he.run pins s σ H _ I h) ?_)
  rintro u s2 ⟨x, H2, J, rx, q⟩
  rcases q with ⟨rfl, q⟩ | ⟨i, rfl, hz, q⟩
  · cases (show u = Value.none from rx)
    exact wpAny_formatField_none ⟨.str "None", H2, J.tok _, ⟨_, rfl⟩, q⟩
  · obtain ⟨tk, rfl⟩ := rx
    exact wpAny_formatField_int hz ⟨.str (toString i), H2, J.tok _, ⟨_, rfl⟩, q⟩
def okM : D → Bool
  | .non => true
  | .int i => decide (i.natAbs.log2 < 1920)
  | _ => false
/-- the parts of a text -/
inductive Jn (X : Cx) (EX : XK) : List Expr → List (Option Gx) → Prop
  | nil : Jn X EX [] []
  | lit {w : Str} {j : _} {p : Pos} {es : List Expr} {gs : List (Option Gx)} (hz : w.length ≤ 2000) (r : Jn X EX es gs) : Jn X EX (.Constant (.str w) j p :: es) (none :: gs)
  | val {e : Expr} {g : Gx} {p : Pos} {es : List Expr} {gs : List (Option Gx)} (h : DE X EX e g) (r : Jn X EX es gs) : Jn X EX (.FormattedValue e (-1) none p :: es) (some g :: gs)
def jnD : List (Option Gx) → Gx
  | [] => fun _ cs => .ok .non cs
  | none :: r => jnD r
  | some g :: r => fun env cs => (g env cs).bind fun d cs => if okM d then jnD r env cs else .bad
theorem jn_ok {es : List Expr} {gs : List (Option Gx)} (h : Jn X EX es gs) : ∃ ts, PJ X es ts ∧ ∀ (acc : Str) (av m : List Addr) (H : Hp) (σ : L2.St) (env : List (Option D)) (cs : List C) (Q : Str → Hp → Prop), acc.length + 2000 * es.length ≤ sizeLine → RC X.K X.mg av m H cs → RS X.K av m H σ env →
    PostE X.K X.mg av m H EX (fun _ H' => ∀ out, Q out H') (jnD gs env cs) → tJs ts acc σ H Q := by
  induction h with
  | nil => exact ⟨[], .nil, fun acc av m H σ env cs Q hz c s p => p.here c .non acc⟩
  | @lit w j p es gs hz r ih =>
    obtain ⟨ts, h1, h2⟩ := ih
    refine ⟨_, .cons pe_str h1, fun acc av m H σ env cs Q hl c s p => ?_⟩
    rw [List.length_cons] at hl
    have e : (acc ++ w).length = acc.length + w.length := strLen_append _ _
    exact ⟨w, rfl, by omega, h2 _ av m H σ env cs Q (by omega) c s p⟩
  | @val e g p es gs h r ih =>
    obtain ⟨ts, h1, h2⟩ := ih
    obtain ⟨t, h3, k⟩ := h
    refine ⟨_, .cons (pe_fmtN h3) h1, fun acc av m H σ env cs Q hl c s p => ?_⟩
    rw [List.length_cons] at hl
    refine k av m H σ env cs _ c s (PostE.bind p fun d cs1 av1 m1 H1 v e1 c1 r1 p1 => ?_)
    split at p1
    · rename_i ho
      cases r1 with
      | non =>
        refine .inl ⟨rfl, "None", rfl, ?_, ?_⟩
        · have e2 : (acc ++ ("None" : String)).length = acc.length + (("None" : String) : Str).length := strLen_append _ _
          have : (("None" : String) : Str).length = 4 := by decide
          omega
        · refine h2 _ av1 m1 H1 σ env cs1 Q ?_ c1 (s.mono c.sub e1) p1
          have e2 : (acc ++ ("None" : String)).length = acc.length + (("None" : String) : Str).length := strLen_append _ _
          have : (("None" : String) : Str).length = 4 := by decide
          omega
      | int i =>
        have hi : i.natAbs.log2 < 1920 := by simpa [okM] using ho
        have e3 : (Str.ofString (toString i)).length ≤ 1921 := by
          have := int_text_length_le (a := i) (k := 1920) (by decide) hi
          rw [ofString_length]; omega
        have e2 : (acc ++ Str.ofString (toString i)).length = acc.length + (Str.ofString (toString i)).length := strLen_append _ _
        exact .inr ⟨i, rfl, hi, _, rfl, by omega, h2 _ av1 m1 H1 σ env cs1 Q (by omega) c1 (s.mono c.sub e1) p1⟩
      | _ => simp [okM] at ho
    · exact p1.elim
/-- an argument whose value is not told -/
structure DMs (X : Cx) (EX : XK) (e : Expr) (g : Gx) : Prop where
  ex : ∃ t, PE X e t ∧ ∀ (av m : List Addr) (H : Hp) (σ : L2.St) (env : List (Option D)) (cs : List C) (Q : Hp → Prop), RC X.K X.mg av m H cs → RS X.K av m H σ env → PostE X.K X.mg av m H EX (fun _ H' => Q H') (g env cs) → t σ H fun _ H' => Q H'
theorem dm_str {w : Str} {j : _} {p : Pos} : DMs X EX (.Constant (.str w) j p) (gC .non) := ⟨_, pe_str, fun av m H σ env cs Q c s p => p.here c .non⟩
theorem dm_join {a b : Expr} {es : List Expr} {gs : List (Option Gx)} {pos : Pos} (h : Jn X EX (a :: b :: es) gs) (hz : es.length ≤ 100 := by decide) : DMs X EX (.JoinedStr (a :: b :: es) pos) (jnD gs) := by
  obtain ⟨ts, h1, h2⟩ := jn_ok h
  refine ⟨_, pe_joined h1, fun av m H σ env cs Q c s p => h2 Str.empty av m H σ env cs _ ?_ c s ?_⟩
  · have : (Str.empty).length = 0 := rfl
    rw [sizeLine_eq, List.length_cons, List.length_cons]
    omega
  · cases ho : jnD gs env cs with
    | ok d cs1 => rw [ho] at p; exact fun a1 b1 c1 v e1 r1 q1 _ => p a1 b1 c1 v e1 r1 q1
    | exc x fs cs1 => rw [ho] at p; exact p
    | bad => rw [ho] at p; exact p

/-- a class of errors without an own __init__ -/
structure ExPl (K : PySem.W.Frag) (mg : Str → Option Value) (x : Str) : Prop where
  ex : ∃ C : Addr, mg x = some (.ref C) ∧ PySem.W.excIn K C [.type "ValueError", .type "Exception", .type "BaseException", .type "object"] "ValueError.__new__" = true ∧ PySem.W.keepIn K (.ref C) = true ∧ PySem.W.subIn K (.ref C) (.type "BaseException") = some true ∧ PySem.W.typeIn K (.ref C) = some (.type "type")
def sRaiseM (x : Str) (g : Gx) : Gs := fun env cs => (g env cs).bind fun _ cs => .exc x none cs
theorem ds_raiseM {x : Str} {e : Expr} {g : Gx} {p pos pos' : Pos} (hc : X.calm = true) (tk : Takes X (fun cls d _ H => EX cls d H)) (E : ExPl X.K X.mg x) (he : DMs X EX e g) (hg : Gl X x := by rfl) (hdb : (x == ("__debug__" : Str)) = false := by decide)
    (hs : starEach [e] X.env = (false, eval e X.env) :: starEach [] X.env := by rfl) (hpl : (backTo pos (starEach [] X.env)).any (·.1) = false := by rfl) :
    DS X EX (.Raise (some (.Call (.Name x p) [e] [] pos)) none pos') (sRaiseM x g) := by
  obtain ⟨C, gC, q, kC, sC, tC⟩ := E.ex
  obtain ⟨t, h, k⟩ := he
  refine ⟨_, ps_raise hc tk (pmk_ownA PySem.F.excBase_ValueError q gC kC (raises_own sC tC) hg (pa_cons h pa_nil hs) hdb hs hpl), fun av m H σ env cs Dn c s p => ?_⟩
  refine k av m H σ env cs (fun H' => ([V.non] : List V).length ≤ sizeLine ∧ EX (.ref C) none H') c s ?_
  unfold sRaiseM at p
  cases ho : g env cs with
  | ok d cs1 =>
    rw [ho] at p
    exact fun av1 m1 H1 v e1 c1 r1 => ⟨by rw [sizeLine_eq]; decide, p av1 m1 H1 C none e1 c1 gC True.intro⟩
  | exc y fs cs1 => rw [ho] at p; exact p
  | bad => rw [ho] at p; exact p
end
end Dm
set_option linter.all false
set_option maxRecDepth 100000
set_option maxHeartbeats 2000000
/-! Dm: an error class whose __init__ hands words to super().__init__ and keeps one field. -/
namespace Dm
open PySem PySem.Spec L2
open PyProof.Rows (envOfC)
section
variable {X : Cx} {pins : List (Addr × Obj)} {σ : L2.St} {H : Hp} {s : Shared}
theorem call_mw {u e C : Addr} {us : List Value} {A : Around} {Q : Value → Shared → Prop} {E : Value → Shared → Prop} (T : OexC X.K C) (I : Inv X pins σ H s) (he : H e = some (exo e C none)) (hu : s.heap.get? u = some (PySem.W.kxs_mw "ValueError.__init__" e)) (hl : us.length ≤ sizeLine)
    (h : ∀ s', Inv X pins σ H s' → Q .none s') : wpAny (model X.prog X.w) A (call (.ref u) us) Q E s := by
  obtain ⟨w1, w2, w3, w4, w5, w6, w7, w8, w9, u1, u2, u3, u4, u5, u6, lk, tl⟩ := T.cls
  obtain ⟨t1, ho⟩ := exo_at I.hok he
  obtain ⟨hp, gs, dr, tk, os⟩ := s
  refine wpAny_call (codeAny_of_tree ?_)
  show wpAny _ A.in1 (callAny (.ref u) ⟨us, []⟩) _ _ _
  simp only [callAny]
  refine wpAny_bind (wpAny_load hu ?_)
  have b1 : (Value.type "method-wrapper" == Value.type "method") = false := by decide
  have b2 : (Value.type "method-wrapper" == Value.type "builtin_function_or_method") = false := by decide
  have b3 : (Value.type "method-wrapper" == Value.type "method-wrapper") = true := by decide
  simp only [PySem.W.kxs_mw, b1, b2, b3, Bool.or_true, Bool.or_self, if_true]
  refine PySem.W.KFB.if_so (by decide) ?_
  refine wpAny_bind (PySem.ESX.check_bound F.excBase_ValueError (I.kIn _ _ lk) ho rfl ?_)
  refine wpAny_bind (wpAny_pure (wpAny_pure ?_))
  refine ⟨Code.quiet_builtin _ (by decide +kernel), codeAny_builtin F.excBase_ValueError.initEntry ?_⟩
  rw [Around.under_plainId F.excBase_ValueError.init.plain _]
  have fin : ∀ h' : Heap, (∀ b o, b ≠ e → hp.get? b = some o → h'.get? b = some o) → (∃ t2 : Addr, h'.get? e = some ({ cls := .ref C, dict := none, data := .fields #[.ref t2, .none, .none, .none, .bool false, .none] } : Obj)) → Q .none ⟨h', gs, dr, tk, os⟩ := by
    rintro h' kp ⟨t2, hx⟩
    have J := I.write (t' := tk) (x := e) (e := e) (o := exo e C none) (by rw [he]; exact True.intro) (.inl rfl) kp ⟨_, hx⟩ (exo_ok hx)
    have same : upd H e (exo e C none) = H := by
      funext b
      by_cases hb : b = e
      · subst hb; rw [upd_same, he]
      · rw [upd_ne hb]
    rw [same] at J
    exact h _ J
  wp_walk
  refine fin _ (fun b o hb hbo => ?_) ⟨hp.objs.size, ?_⟩
  · rw [Heap.get?_update_other _ _ (Ne.symm hb)]
    exact Heap.get?_push_of_some _ hbo
  · rw [Heap.get?_update_self _ (Heap.get?_push_of_some _ ho) rfl]
    rfl
end
/-! ### super().__init__(words) -/
section
variable {X : Cx} {EX : XK}
/-- what of the text the call of the built-in __init__ above wants -/
structure SupX (X : Cx) (f cc D : Addr) (slf : Str) : Prop where
  ks : X.env.kindOf "super" = some .globalImplicit
  kc : X.env.kindOf "__class__" = some .free
  fu : X.env.func = some f
  fn : ∃ oc od fd osl ar, X.K.lookup f = some ⟨oc, od, .func fd, osl⟩ ∧ (fd.params.posonlyargs ++ fd.params.args).head? = some ar ∧ ar.arg = slf
  co : ∃ cda oc od vs osl file tf, X.env.code = .ref cda ∧ X.K.lookup cda = some ⟨oc, od, .fields vs, osl⟩ ∧ vs[2]? = some (.str file tf) ∧ ((X.prog.main.file : Str) == file) = true
  top : (X.prog.main.scope.names.lookup ("super" : Str)).isSome = false
  cell : X.env.cells.lookup ("__class__" : Str) = some cc
  cc : ∃ oc od osl, X.K.lookup cc = some ⟨oc, od, .cell (some (.ref D)), osl⟩
  cls : ∃ cd, PySem.W.clsIn X.K D = some cd
  mg : X.mg "super" = none
  op : PySem.W.nsIn X.K cStatics "thirdparty.any" = some none
  kl : X.env.kindOf slf = some .local
  n0 : X.N[0]? = some slf
/-- the class C of errors has the built-in __init__ above D -/
structure AboveX (K : PySem.W.Frag) (C D : Addr) : Prop where
  sub : PySem.W.mroIn K C (.ref D) = some true
  at_ : PySem.W.ks_superIn K C D "__init__" = some (some (.builtin "ValueError.__init__"))
  ve : PySem.W.subIn K (.ref C) (.type "ValueError") = some true
theorem supX_run {body : List Stmt} {p0 p1 apos pos pos' : Pos} {slf : Str} {e : Expr} {f cc D C a : Addr} {te : TE} {s : Shared} {σ : L2.St} {H : Hp} {Dn : Ends}
    (S : SupX X f cc D slf) (T : OexC X.K C) (Ab : AboveX X.K C D) (I : Inv X [] σ H s) (h0 : σ[0]? = some (some (.ref a))) (hH : H a = some (exo a C none)) (ha : PE X e te)
    (h : te σ H fun _ H1 => (1 : Nat) = 1 ∧ H1 a = some (exo a C none) ∧ Dn.nx σ H1)
    (hi : interactive X.env = false) (hs : swapsWith (.Call (.Attribute (.Call (.Name "super" p0) [] [] p1) "__init__" apos) [e] [] pos) none pos'.line X.env = pure false)
    {pl : Sem Bool} (he : eval (.Call (.Attribute (.Call (.Name "super" p0) [] [] p1) "__init__" apos) [e] [] pos) X.env = (do
      let ov ← attributeBase (.Call (.Name "super" p0) [] [] p1) "__init__" X.env (eval (.Call (.Name "super" p0) [] [] p1) X.env)
      standAt apos.atName
      let (f, first) ← holding [ov] (getMethod ov "__init__" pl)
      callWith pos f first (backTo pos (starEach [e] X.env)) []))
    (hst : starEach [e] X.env = (false, eval e X.env) :: starEach [] X.env) (hpl : (backTo pos (starEach [] X.env)).any (·.1) = false) :
    PySem.wpAt (model X.prog X.w) X.A (.func body X.env) (exec (.Expr (.Call (.Attribute (.Call (.Name "super" p0) [] [] p1) "__init__" apos) [e] [] pos) pos') X.env) (SP X [] Dn) X.xe s := by
  obtain ⟨oc, od, fd, osl, ar, hf, hp, hsl⟩ := S.fn
  obtain ⟨cda, oc2, od2, vs2, osl2, file, tf, hco, hcode, hvs, hfile⟩ := S.co
  obtain ⟨oc3, od3, osl3, hcc⟩ := S.cc
  obtain ⟨cd, hcd⟩ := S.cls
  obtain ⟨oD, hD1, hD2⟩ := cls_at hcd
  obtain ⟨t1, hoe⟩ := exo_at I.hok hH
  obtain ⟨mL, hn, hl⟩ := I.loc
  obtain ⟨u, ru, lk⟩ := hl 0 slf _ S.n0 h0 (.inl S.kl)
  cases (show u = Value.ref a from ru)
  have hv : mL slf = some (.ref a) := by
    rcases lk with ⟨_, z⟩ | ⟨z, _⟩
    · exact z
    · rw [S.kl] at z; rcases z with z | z <;> cases z
  have kIn := I.kIn
  subst hsl
  refine ks_wpAt_Expr_any ?_ hi hs
  refine ks_wpAt_MethodCall (pl := pl) ?_ he
  refine ks_wpAt_super_base (env := X.env) S.ks S.kc (by decide) S.fu (kIn _ _ hf) rfl hp hco (kIn _ _ hcode) rfl hvs hfile S.top ?_
  obtain ⟨mb, b1, b2⟩ := I.mod.blt
  refine PySem.W.ks_loadName_global I.ok.kind S.ks (PySem.Calls.loadGlobal_builtin (by rw [I.ok.glob]; exact I.mod.glob.keeps I.bk) S.mg (by rw [I.ok.blt]; exact b1.keeps I.bk) ((b2 "super" (by decide)).trans (by decide +kernel : bootBuiltins "super" = some (.type "super"))) ⟨rfl, ?_⟩)
  refine wpAny_loadName_free I.ok.kind S.kc S.cell ⟨_, kIn _ _ hcc, rfl⟩ ?_
  refine wpAny_loadName_local I.ok.kind S.kl hn hv ?_
  refine ks_wpAny_isType_cls (kIn _ _ hD1) hD2 ⟨rfl, ?_⟩
  obtain ⟨hp0, g, d, t, os⟩ := s
  refine ks_wpAny_call_super (C := C) (kIn _ _ hD1) hD2 hoe rfl (fun c z => by cases z) (PySem.W.looks_mroIn kIn Ab.sub) fun h' e1 k1 => ?_
  have I1 : Inv X [] σ H ⟨h', g, d, t, os⟩ := I.kept (t' := t) k1
  have kIn1 : X.K.In h' := fun b o e => k1 b o (kIn b o e)
  have hx1 := k1 _ _ hoe
  have hsi := Ab.at_
  unfold PySem.W.ks_superIn at hsi
  cases hcC : PySem.W.clsIn X.K C with
  | none => rw [hcC] at hsi; cases hsi
  | some cdC =>
    rw [hcC] at hsi
    have hne : a ≠ C := by
      rintro rfl
      obtain ⟨oC, c1, c2⟩ := cls_at hcC
      have := kIn1 _ _ c1
      rw [hx1] at this
      cases this
      cases c2
    have LT : PySem.W.Looks (model X.prog X.w) h' (typeOf (.ref a)) (.ref C) := fun A Q E s k q => wpAny_typeOf_ref (k _ _ hx1) q
    have LV : PySem.W.Looks (model X.prog X.w) h' (isInstance (.ref a) (.type "ValueError")) true := LT.andThen (PySem.W.looks_subIn kIn1 Ab.ve)
    refine PySem.W.kxs_getMethod PySem.W.kxs_ValueError e1 (PySem.W.looks_opaque kIn1 S.op) (l₀ := cdC.mro) (fun A Q E s k q => wpAny_bind ((PySem.W.looks_clsIn kIn1 hcC) A _ E s k (wpAny_pure q))) rfl kIn1 hsi LV hne (by decide) ?_
    have I2 : Inv X [] σ H ⟨h'.push (PySem.W.kxs_mw "ValueError.__init__" a), g, d, t + 1, os⟩ := I1.kept (t' := t + 1) fun b o e => Heap.get?_push_of_some _ e
    have fr : H h'.objs.size = none := I1.hok.fresh (Nat.le_refl _)
    have I3 : Inv X [(h'.objs.size, PySem.W.kxs_mw "ValueError.__init__" a)] σ H ⟨h'.push (PySem.W.kxs_mw "ValueError.__init__" a), g, d, t + 1, os⟩ := by
      refine ⟨I2.ok, I2.os, I2.bare, I2.base, I2.loc, I2.cell, I2.free, I2.freeC, fun q hq => ?_, I2.hok, I2.len⟩
      rcases List.mem_append.mp hq with hq | hq
      · exact I2.pin q (List.mem_append_left _ hq)
      · cases List.mem_singleton.mp hq
        exact ⟨Heap.get?_push_at rfl rfl, fr, Nat.ne_of_gt I1.lt, I1.nofs (Nat.le_refl _), fun v z => nomatch z⟩
    rw [hst]
    refine PySem.W.kxs_callWith (i := "ValueError.__init__") (x := a) (by show (false || (backTo pos (starEach [] X.env)).any (·.1)) = false; rw [hpl]; rfl) (PySem.Calls.evalArgs_plain ?_)
    have sp1 := (pa_cons ha pa_nil hst).run pos [(h'.objs.size, PySem.W.kxs_mw "ValueError.__init__" a)] _ σ H (fun vs H1 => vs.length = 1 ∧ H1 a = some (exo a C none) ∧ Dn.nx σ H1) I3 h
    rw [hst] at sp1
    refine thn sp1 fun us s3 ⟨vs, H1, J, r, hlen, hea, q⟩ => ?_
    have pin := J.pin _ (List.mem_append_right _ List.mem_cons_self)
    refine ⟨pin.1, ?_⟩
    have J0 : Inv X [] σ H1 s3 := ⟨J.ok, J.os, J.bare, J.base, J.loc, J.cell, J.free, J.freeC, fun q hq => J.pin q (by rcases List.mem_append.mp hq with hq | hq; exact List.mem_append_left _ hq; cases hq), J.hok, J.len⟩
    exact call_mw T J0 hea pin.1 (by show us.length ≤ sizeLine; rw [← r.length, hlen, sizeLine_eq]; decide) fun s' J4 => ⟨σ, H1, J4, q⟩
end
/-! ### the def -/
def msgV (v : V) : Prop := v = .non ∨ ∃ i : Int, v = .int i ∧ i.natAbs.log2 < 1920
def spI (C : Addr) (f : Str) : Sp := fun vs H Q _ => ∃ a v, vs = [.ref a, v] ∧ H a = some (exo a C none) ∧ msgV v ∧ ∀ H' : Hp, (∀ b o, H b = some o → H' b = some o) → ∀ d, H' d = none → d ≠ a → Q .non (upd (upd H' d (exd d [(f, v)])) a (exo a C (some d)))
section
variable {P : Program} {w : World} {K : PySem.W.Frag} {mg : Str → Option Value} {base : Heap}
theorem init_fn {f cc cda D C : Addr} {qual fld : Str} {st : Stmt} {fd : FuncData} {N : List Str} {p0 p1 apos pos pos' pa pb pc pd : Pos} {e : Expr} {gs : Gx}
    (Fn : FunS K "__init__" qual st f fd cc cda) (S : NdefX.NScope N ["self", fld] ["__class__"] (defScope st)) (hcell : ∃ oc od osl, K.lookup cc = some ⟨oc, od, .cell (some (.ref D)), osl⟩)
    (so : ∀ (A : Around) (outer : List Env) (s : Shared) (H : Hp) (E : XK), SupX (supCx P w K mg base N (nfOf "__init__" qual st cc cda) f A outer s H E) f cc D "self")
    (T : OexC K C) (Ab : AboveX K C D) (hno : PySem.W.findIn K (.ref C) fld = some none)
    (hbody : defBody st = [.Expr (.Call (.Attribute (.Call (.Name "super" p0) [] [] p1) "__init__" apos) [e] [] pos) pos', .Assign [.Attribute (.Name "self" pa) fld pb] (.Name fld pc) pd])
    (hgs : ∀ env cs dv, env[1]? = some (some dv) → okM dv = true → gs env cs = .ok .non cs)
    (body : ∀ (A : Around) (outer : List Env) (s : Shared) (H : Hp) (E : XK),
      DMs (supCx P w K mg base N (nfOf "__init__" qual st cc cda) f A outer s H E) E e gs ∧
      PSs (supCx P w K mg base N (nfOf "__init__" qual st cc cda) f A outer s H E) [.Assign [.Attribute (.Name "self" pa) fld pb] (.Name fld pc) pd] (fun Dn σ H => ∃ a v, σ[0]? = some (some (.ref a)) ∧ σ[1]? = some (some v) ∧ H a = some (exo a C none) ∧ ∀ d, H d = none → d ≠ a → Dn.nx σ (upd (upd H d (exd d [(fld, v)])) a (exo a C (some d)))) ∧
      (interactive (NdefX.envF (nfOf "__init__" qual st cc cda) f s.heap.objs.size) = false ∧ swapsWith (.Call (.Attribute (.Call (.Name "super" p0) [] [] p1) "__init__" apos) [e] [] pos) none pos'.line (NdefX.envF (nfOf "__init__" qual st cc cda) f s.heap.objs.size) = pure false ∧
      (∃ pl : Sem Bool, eval (.Call (.Attribute (.Call (.Name "super" p0) [] [] p1) "__init__" apos) [e] [] pos) (NdefX.envF (nfOf "__init__" qual st cc cda) f s.heap.objs.size) = (do
        let ov ← attributeBase (.Call (.Name "super" p0) [] [] p1) "__init__" (NdefX.envF (nfOf "__init__" qual st cc cda) f s.heap.objs.size) (eval (.Call (.Name "super" p0) [] [] p1) (NdefX.envF (nfOf "__init__" qual st cc cda) f s.heap.objs.size))
        standAt apos.atName
        let (g0, first) ← holding [ov] (getMethod ov "__init__" pl)
        callWith pos g0 first (backTo pos (starEach [e] (NdefX.envF (nfOf "__init__" qual st cc cda) f s.heap.objs.size))) [])) ∧
      starEach [e] (NdefX.envF (nfOf "__init__" qual st cc cda) f s.heap.objs.size) = (false, eval e (NdefX.envF (nfOf "__init__" qual st cc cda) f s.heap.objs.size)) :: starEach [] (NdefX.envF (nfOf "__init__" qual st cc cda) f s.heap.objs.size) ∧
      (backTo pos (starEach [] (NdefX.envF (nfOf "__init__" qual st cc cda) f s.heap.objs.size))).any (·.1) = false)) :
    FnOk P w K mg base (L2.CX P w) 1 f fd ["self", fld] (spI C fld) := by
  obtain ⟨c0, d0, dV, kV, doc, pm, an, ct0, s0, efd, look, code⟩ := Fn.ex
  subst efd
  have len : ∀ vs H Q E, spI C fld vs H Q E → vs.length = (["self", fld] : List Str).length := fun vs H Q E h => by obtain ⟨a, v, rfl, _⟩ := h; rfl
  refine ⟨len, fun A outer s H args us vs Q E room env0 binds vals want => ?_⟩
  have there : ∀ b o, base.get? b = some o → s.heap.get? b = some o := fun b o e => (env0.bs b o e).1
  have inK : K.In s.heap := env0.mod.kin.keeps there
  have hl : vs.length = (["self", fld] : List Str).length := len _ _ _ _ want
  have hpN : 2 + 1 ≤ N.length := by
    have q := congrArg List.length S.pre
    simp only [List.length_take, List.length_append, List.length_cons, List.length_nil] at q
    omega
  refine codeAny_call_function room.depth (inK _ _ look) rfl S.co S.gen rfl (PySem.W.codeRec_of inK code) (binds _ _ _ _ ?_)
  refine wpAny_newFunctionEnv S.nocell (fun ⟨n, _⟩ hy => S.par n (List.of_mem_zip hy).1) (fun h₁ hns hsb => ⟨((env0.mod.nolimit).keeps there).fresh _ hsb, ?_⟩) S.kind
  have kp : ∀ b o, s.heap.get? b = some o → h₁.get? b = some o := fun b o e => hsb.extBut b o (Nat.ne_of_lt (Heap.lt_size e)) (Heap.get?_push_of_some _ e)
  have Cl : NdefX.CellsAt (nfOf "__init__" qual st cc cda).cl ["__class__"] [none] s.heap H := by
    obtain ⟨oc, od, osl, hc⟩ := hcell
    have hc2 : base.get? cc = some ⟨oc, od, .cell (some (.ref D)), osl⟩ := env0.mod.kin _ _ hc
    have one : ∀ y c, (nfOf "__init__" qual st cc cda).cl.lookup y = some c → y = "__class__" ∧ c = cc := fun y c z => by
      show y = _ ∧ _
      have z : List.lookup y [(("__class__" : Str), cc)] = some c := z
      rw [List.lookup_cons] at z
      by_cases q : (y == ("__class__" : Str)) = true
      · rw [q] at z
        exact ⟨eq_of_beq q, (Option.some.inj z).symm⟩
      · rw [Bool.not_eq_true] at q
        rw [q] at z
        simp at z
    refine ⟨rfl, fun y c z => ?_, fun y z c h1 h2 => (one y c h1).1.trans (one z c h2).1.symm, fun i y hy => ?_⟩
    · obtain ⟨_, rfl⟩ := one y c z
      exact ⟨(env0.bs _ _ hc2).2, _, _, there _ _ hc2, rfl⟩
    · match i, hy with
      | 0, hy =>
        cases hy
        exact ⟨cc, List.lookup_cons_self, fun v hv => by cases hv⟩
  have I : Inv (supCx P w K mg base N (nfOf "__init__" qual st cc cda) f A outer s H E) [] (NdefX.startF N vs [none]) H { s with heap := h₁, toks := s.toks + ((["self", fld] : List Str).zip us).length } := NdefX.inv_startN S room.hd env0 hl vals Cl hns kp
  rw [startF_eq (by rw [hl]; exact hpN)] at I
  obtain ⟨a, v, rfl, hea, hv, hq⟩ := want
  obtain ⟨b1, r1, b3, b4, ⟨pl, b5⟩, b6, b7⟩ := body A outer s H E
  obtain ⟨te, a1, a2⟩ := b1
  obtain ⟨dv, hdv, hok⟩ : ∃ dv : Dm.D, (∀ H, R K [] [] H v dv) ∧ okM dv = true := by
    rcases hv with rfl | ⟨i, rfl, hi⟩
    · exact ⟨Dm.D.non, fun _ => .non, rfl⟩
    · exact ⟨Dm.D.int i, fun _ => .int i, by simp [okM, hi]⟩
  have s0 : (L2.start N [V.ref a, v])[0]? = some (some (.ref a)) := rfl
  have s1 : (L2.start N [V.ref a, v])[1]? = some (some v) := rfl
  have rs : RS K [] [] H (L2.start N [V.ref a, v]) ([none, some dv] ++ List.replicate (N.length - 2) none) := by
    refine ⟨by simp [L2.start], fun i d h => ?_⟩
    match i, h with
    | 0, h => cases h
    | 1, h => cases h; exact ⟨v, rfl, hdv H⟩
    | i + 2, h =>
      rw [List.getElem?_append_right (by simp), List.getElem?_replicate] at h
      split at h <;> cases h
  have rc : RC K mg [] [] H [] := ⟨(fun _ h => nomatch h), (fun _ h => nomatch h), rfl, List.nodup_nil, (fun n a d h => by simp at h)⟩
  refine ks_codeAny_funcAt ?_
  show PySem.wpAt _ _ _ (execs (defBody st) _) _ _ _
  rw [hbody]
  refine ks_wpAt_execs_cons ?_
  have run := supX_run (body := [.Expr (.Call (.Attribute (.Call (.Name "super" p0) [] [] p1) "__init__" apos) [e] [] pos) pos', .Assign [.Attribute (.Name "self" pa) fld pb] (.Name fld pc) pd])
    (Dn := { nx := fun σ' H' => ∃ a v, σ'[0]? = some (some (.ref a)) ∧ σ'[1]? = some (some v) ∧ H' a = some (exo a C none) ∧ ∀ d, H' d = none → d ≠ a → Q .non (upd (upd H' d (exd d [(fld, v)])) a (exo a C (some d))), rt := fun _ _ => False }) (pl := pl)
    (so A outer s H E) T Ab I s0 hea a1 (a2 [] [] H _ _ [] (fun H1 => (1 : Nat) = 1 ∧ H1 a = some (exo a C none) ∧ ∃ a' v', (L2.start N [V.ref a, v])[0]? = some (some (.ref a')) ∧ (L2.start N [V.ref a, v])[1]? = some (some v') ∧ H1 a' = some (exo a' C none) ∧ ∀ d, H1 d = none → d ≠ a' → Q .non (upd (upd H1 d (exd d [(fld, v')])) a' (exo a' C (some d)))) rc rs (by
      rw [hgs _ [] dv rfl hok]
      intro av' m' H' _ e1 _ _
      have kp' : ∀ b o, H b = some o → H' b = some o := fun b o h => e1.keep b o h (by simp)
      exact ⟨rfl, kp' _ _ hea, a, v, s0, s1, kp' _ _ hea, hq H' kp'⟩)) b3 b4 b5 b6 b7
  refine ks_wpAt_mono run (fun fl s2 hsp => ?_) fun e s2 z => z
  cases fl with
  | next =>
    obtain ⟨σ', H', J, q⟩ := hsp
    refine wpAt_of_wpAny (wpAny_mono (r1.run [] s2 σ' H' { nx := fun _ H' => Q .non H', rt := Q } J q) (fun fl2 s3 h2 => ?_) fun e s2 z => z)
    have h3 := end_of (X := supCx P w K mg base N (nfOf "__init__" qual st cc cda) f A outer s H E) (E := E) rfl rfl rfl rfl h2
    cases fl2 <;> exact h3
  | ret u => obtain ⟨_, _, _, _, _, q⟩ := hsp; exact q.elim
  | brk => obtain ⟨_, _, _, q⟩ := hsp; exact q.elim
  | cont => obtain ⟨_, _, _, q⟩ := hsp; exact q.elim
end
/-! ### raise X(value) -/
/-- a class of errors with one field -/
structure ExFl (P : Program) (w : World) (K : PySem.W.Frag) (mg : Str → Option Value) (base : Heap) (x fld : Str) : Prop where
  ex : ∃ (C fI : Addr) (fd : FuncData), mg x = some (.ref C) ∧ OexC K C ∧ PySem.W.findIn K (.ref C) "__init__" = some (some (.ref fI)) ∧ PySem.W.typeIn K (.ref fI) = some (.type "function") ∧ FnOk P w K mg base (L2.CX P w) 1 fI fd ["self", fld] (spI C fld) ∧ Binds K fd ["self", fld] []
def sRaiseV (x fld : Str) (g : Gx) : Gs := fun env cs => (g env cs).bind fun d cs => if okM d then .exc x (some [(fld, d)]) cs else .bad
section
variable {X : Cx} {EX : XK}
theorem upd_keep {H : Hp} {a b : Addr} {o u : HO} (ha : H a = none) (h : H b = some o) : upd H a u b = some o := by
  rw [upd_ne (ne_of_none h ha)]; exact h
theorem ds_raiseV {x fld : Str} {e : Expr} {g : Gx} {p pos pos' : Pos} {k : Nat} (hc : X.calm = true) (tk : Takes X (fun cls d _ H => EX cls d H)) (E : ExFl X.prog X.w X.K X.mg X.base x fld) (hr : Room (k + 2) X.A) (he : DE X EX e g) (hg : Gl X x := by rfl) (hdb : (x == ("__debug__" : Str)) = false := by decide)
    (hs : starEach [e] X.env = (false, eval e X.env) :: starEach [] X.env := by rfl) (hpl : (backTo pos (starEach [] X.env)).any (·.1) = false := by rfl) :
    DS X EX (.Raise (some (.Call (.Name x p) [e] [] pos)) none pos') (sRaiseV x fld g) := by
  obtain ⟨C, fI, fd, gC, T, iC, tI, F1, hb⟩ := E.ex
  obtain ⟨t, h, kk⟩ := he
  refine ⟨_, ps_raise hc tk (pmk_oex T iC tI F1 (hr.mono (by omega)) hb .nil passL hg gC (pa_cons h pa_nil hs) hdb hs hpl), fun av m H σ env cs Dn c s p => ?_⟩
  refine kk av m H σ env cs _ c s (PostE.bindS p fun d cs1 av1 m1 H1 v e1 c1 r1 p1 => ?_)
  refine ⟨by simp, fun a ha => ?_⟩
  split at p1
  · rename_i ho
    have hv : msgV v := by
      cases r1 with
      | non => exact .inl rfl
      | int i => exact .inr ⟨i, rfl, by simpa [okM] using ho⟩
      | _ => simp [okM] at ho
    refine ⟨a, v, rfl, upd_same, hv, fun H' hk dd hdd hda => ⟨rfl, dd, [(fld, v)], upd_same, ?_, ?_, ?_⟩⟩
    · rw [upd_ne hda, upd_same]
    · cases q : H1 dd with
      | none => rfl
      | some o => rw [hk dd o (upd_keep ha q)] at hdd; cases hdd
    · have h1d : H1 dd = none := by
        cases q : H1 dd with
        | none => rfl
        | some o => rw [hk dd o (upd_keep ha q)] at hdd; cases hdd
      obtain ⟨H3, hH3⟩ : ∃ H3, upd (L2.del (upd (upd H' dd (exd dd [(fld, v)])) a (exo a C (some dd))) a) dd (.xd [(fld, v)]) = H3 := ⟨_, rfl⟩
      rw [hH3]
      have at3 : ∀ b o, H1 b = some o → H3 b = some o := fun b o q => by
        rw [← hH3, upd_ne (ne_of_none q h1d), del_ne (ne_of_none q ha), upd_ne (ne_of_none q ha), upd_ne (ne_of_none q h1d)]
        exact hk b o (upd_keep ha q)
      have e3 : Ext av1 m1 H1 av1 m1 H3 := ⟨⟨[], by simp, by simp, fun _ h => nomatch h⟩, fun b o q _ => at3 b o q, fun b q => by
        cases z : H1 b with
        | none => exact absurd z q
        | some o => rw [at3 b o z]; simp, fun b o u q => at3 b _ q⟩
      have c3 := c1.ext e3 fun b hb => by
        cases z : H1 b with
        | none => exact absurd z (c1.trk b (c1.sub b hb))
        | some o => rw [at3 b o z]
      refine p1 av1 m1 H3 C (some dd) e3 c3 gC ⟨[(fld, v)], ?_, fun z => c1.trk dd z h1d, .cons (r1.mono c1.sub e3) .nil⟩
      rw [← hH3, upd_same]
  · exact p1.elim
theorem st_ini {C : Addr} {fld : Str} {pa pb pc pd : Pos} (T : OexC X.K C) (hno : PySem.W.findIn X.K (.ref C) fld = some none) (h0 : X.N[0]? = some ("self" : Str)) (h1 : X.N[1]? = some fld) (v0 : Vis X.env.scope "self") (v1 : Vis X.env.scope fld) (d1 : (fld == ("__debug__" : Str)) = false) (d2 : (fld == ("__classdict__" : Str)) = false)
    (hs : swapsWith (.Name fld pc) (some (.Attribute (.Name "self" pa) fld pb)) pd.line X.env = pure false) :
    PSs X [.Assign [.Attribute (.Name "self" pa) fld pb] (.Name fld pc) pd] (fun Dn σ H => ∃ a v, σ[0]? = some (some (.ref a)) ∧ σ[1]? = some (some v) ∧ H a = some (exo a C none) ∧ ∀ d, H d = none → d ≠ a → Dn.nx σ (upd (upd H d (exd d [(fld, v)])) a (exo a C (some d)))) := by
  refine ⟨fun pins s σ H Dn I h => ?_⟩
  obtain ⟨a, v, e0, e1, eh, q⟩ := h
  exact (pss_one (ps_ost (pe_var (i := 0) h0 v0) (pe_var (i := 1) h1 v1 d1 d2) hs)).run pins s σ H Dn I ⟨v, e1, .ref a, e0, a, C, rfl, T, hno, .inl ⟨eh, q⟩⟩
end
/-- the facts about an __init__ that hands words on -/
structure IniF (P : Program) (K : PySem.W.Frag) (mg : Str → Option Value) (N : List Str) (sc : Scope) (f cc cda D : Addr) : Prop where
  ks : sc.names.lookup ("super" : Str) = some .globalImplicit
  kc : sc.names.lookup ("__class__" : Str) = some .free
  kl : sc.names.lookup ("self" : Str) = some .local
  n0 : N[0]? = some ("self" : Str)
  fn : ∃ oc od fd osl ar, K.lookup f = some ⟨oc, od, .func fd, osl⟩ ∧ (fd.params.posonlyargs ++ fd.params.args).head? = some ar ∧ ar.arg = "self"
  co : ∃ oc od vs osl file tf, K.lookup cda = some ⟨oc, od, .fields vs, osl⟩ ∧ vs[2]? = some (.str file tf) ∧ ((P.main.file : Str) == file) = true
  top : (P.main.scope.names.lookup ("super" : Str)).isSome = false
  cc : ∃ oc od osl, K.lookup cc = some ⟨oc, od, .cell (some (.ref D)), osl⟩
  cls : ∃ cd, PySem.W.clsIn K D = some cd
  mg : mg "super" = none
  op : PySem.W.nsIn K cStatics "thirdparty.any" = some none
theorem IniF.ok {P : Program} {w : World} {K : PySem.W.Frag} {mg : Str → Option Value} {base : Heap} {x qual : Str} {st : Stmt} {N : List Str} {f cc cda D : Addr} (S : IniF P K mg N (defScope st) f cc cda D) (A : Around) (outer : List Env) (s : Shared) (H : Hp) (E : XK) :
    SupX (supCx P w K mg base N (nfOf x qual st cc cda) f A outer s H E) f cc D "self" := by
  obtain ⟨oc, od, vs, osl, file, tf, h1, h2, h3⟩ := S.co
  exact ⟨S.ks, S.kc, rfl, S.fn, ⟨cda, oc, od, vs, osl, file, tf, rfl, h1, h2, h3⟩, S.top, List.lookup_cons_self, S.cc, S.cls, S.mg, S.op, S.kl, S.n0⟩
end Dm
set_option linter.all false
set_option maxRecDepth 100000
set_option maxHeartbeats 2000000
/-! Dm: try, with several clauses, each with a name or without. -/
namespace Dm
open PySem PySem.Spec L2
section
variable {X : Cx}
/-! ### what a state allows -/
def semE (X : Cx) (e : Expr) : TE := fun σ H Q => ∀ pins s, Inv X pins σ H s → wpAny (model X.prog X.w) X.A (eval e X.env) (EP X pins σ Q) X.xe s
theorem pe_sem {e : Expr} : PE X e (semE X e) := ⟨fun pins s σ H Q I h => h pins s I⟩
def semS (X : Cx) (st : Stmt) : TS := fun Dn σ H => ∀ pins s, Inv X pins σ H s → wpAny (model X.prog X.w) X.A (exec st X.env) (SP X pins Dn) X.xe s
theorem ps_sem {st : Stmt} : PS X st (semS X st) := ⟨fun pins s σ H Q I h => h pins s I⟩
def semB (X : Cx) (ss : List Stmt) : TS := fun Dn σ H => ∀ pins s, Inv X pins σ H s → wpAny (model X.prog X.w) X.A (execs ss X.env) (SP X pins Dn) X.xe s
theorem pb_sem {ss : List Stmt} : PSs X ss (semB X ss) := ⟨fun pins s σ H Q I h => h pins s I⟩

/-! ### a try's body: no name is set -/
abbrev stay (Dn : Ends) (σ : L2.St) : Ends := { Dn with nx := fun σ' H' => σ' = σ → Dn.nx σ' H' }
abbrev Trx (X : Cx) (W : WX) (pn : List (Addr × Obj)) (xe : Value → Shared → Prop) : Prop := L2.Takes (X.tr pn xe) W
structure DYE (X : Cx) (e : Expr) (g : Gx) : Prop where
  run : ∀ (W : WX) (pn : List (Addr × Obj)) (xe : Value → Shared → Prop), Trx X W pn xe → ∀ (av m : List Addr) (H : Hp) (σ : L2.St) (env : Env') (cs : List C) (Q : VK), RC X.K X.mg av m H cs → RS X.K av m H σ env → PostE X.K X.mg av m H (fun cls d H' => W cls d σ H') Q (g env cs) → semE (X.tr pn xe) e σ H Q
structure DY1 (X : Cx) (st : Stmt) (g : Gs) : Prop where
  run : ∀ (W : WX) (pn : List (Addr × Obj)) (xe : Value → Shared → Prop), Trx X W pn xe → ∀ (av m : List Addr) (H : Hp) (σ : L2.St) (env : Env') (cs : List C) (Dn : Ends), RC X.K X.mg av m H cs → RS X.K av m H σ env → PostS X.K X.mg av m H (fun cls d H' => W cls d σ H') (stay Dn σ) (g env cs) → semS (X.tr pn xe) st Dn σ H
structure DY (X : Cx) (ss : List Stmt) (g : Gs) : Prop where
  run : ∀ (W : WX) (pn : List (Addr × Obj)) (xe : Value → Shared → Prop), Trx X W pn xe → ∀ (av m : List Addr) (H : Hp) (σ : L2.St) (env : Env') (cs : List C) (Dn : Ends), RC X.K X.mg av m H cs → RS X.K av m H σ env → PostS X.K X.mg av m H (fun cls d H' => W cls d σ H') (stay Dn σ) (g env cs) → semB (X.tr pn xe) ss Dn σ H
def noX {α : Type} (g : Env' → List C → Out α) : Env' → List C → Out α := fun env cs => match g env cs with
  | .exc _ _ _ => .bad
  | o => o
theorem noX_ok {α : Type} {g : Env' → List C → Out α} {env : Env'} {cs cs' : List C} {x : α} (h : g env cs = .ok x cs') : noX g env cs = .ok x cs' := by unfold noX; rw [h]
theorem postE_noX {K : PySem.W.Frag} {mg : Str → Option Value} {av m : List Addr} {H : Hp} {E1 E2 : XK} {Q : VK} {g : Gx} {env : Env'} {cs : List C} (p : PostE K mg av m H E1 Q (noX g env cs)) : PostE K mg av m H E2 Q (g env cs) := by
  unfold noX at p
  cases ho : g env cs with
  | ok d cs1 => rw [ho] at p; exact p
  | exc x fs cs1 => rw [ho] at p; exact p.elim
  | bad => rw [ho] at p; exact p
theorem dye_of {e : Expr} {g : Gx} (h : ∀ pn xe, DE (X.tr pn xe) E0 e g) : DYE X e (noX g) := ⟨fun W pn xe tk av m H σ env cs Q c s p pins sh I => by
  obtain ⟨t, h1, k⟩ := h pn xe
  exact h1.run pins sh σ H Q I (k av m H σ env cs Q c s (postE_noX p))⟩
theorem run_at {Y : Cx} {k : Nat} {f : Addr} {fd : FuncData} {ps : List Str} {sp : Sp} {W : WX} {pins : List (Addr × Obj)} {σ : L2.St} {H : Hp} {s : Shared} {Q : VK} {us : List Value} {vs : List V} (F : FnG Y.prog Y.w Y.K Y.mg Y.base k f fd ps sp) (hr : Room k Y.A) (hq : Quiet Y.A)
    (hb : BindsTo s fd ⟨us, []⟩ (ps.zip us)) (tk : L2.Takes Y W) (I : Inv Y pins σ H s) (r : Vals vs us) (h : sp vs H Q (fun cls d H' => W cls d σ H')) : wpAny (model Y.prog Y.w) Y.A (call (.ref f) us []) (EP Y pins σ Q) Y.xe s := by
  have run := F.run Y.A Y.stack s H ⟨us, []⟩ us vs Q (fun cls d H' => W cls d σ H') hr hq I.env0 hb r h
  refine wpAny_call (codeAny_mono run fun o s1 h1 => ?_)
  match o, h1 with
  | .error u, h1 => exact L2.passAt tk σ pins H s u s1 I h1
  | .ok (.ret u), h1 => exact I.after h1
theorem dye_call {k : Nat} {f : Addr} {fd : FuncData} {ps : List Str} {F F2 : Fd} {x : Str} {p pos : Pos} {e : Expr} {es : List Expr} {a : Ga} (G : FnD X.prog X.w X.K X.mg X.base k f fd ps F) (hr : Room k X.A) (hq : Quiet X.A) (hm : X.mg x = some (.ref f)) (hk : PySem.W.keepIn X.K (.ref f) = true)
    (hF : ∀ (EX : XK) av m H cs vs ds Q, RC X.K X.mg av m H cs → RL X.K av m H vs ds → PostE X.K X.mg av m H EX Q (F2 ds cs) → spG X.K X.mg ps.length F vs H Q EX) (hb : Binds X.K fd ps []) (ha : ∀ pn xe, DA (X.tr pn xe) E0 (e :: es) a) (hg : Gl X x) (hdb : (x == ("__debug__" : Str)) = false)
    (he : starEach (e :: es) X.env = (false, eval e X.env) :: starEach es X.env) (hpl : (backTo pos (starEach es X.env)).any (·.1) = false) : DYE X (.Call (.Name x p) (e :: es) [] pos) (gA F2 (noX a)) := by
  constructor
  intro W pn xe tk av m H σ env cs Q c s p0 pins sh I
  obtain ⟨ta, h1, k1⟩ := ha pn xe
  have st : ta σ H fun vs H1 => spG X.K X.mg ps.length F vs H1 Q (fun cls d H' => W cls d σ H') := by
    refine k1 av m H σ env cs _ c s ?_
    unfold gA noX at p0
    cases ho : a env cs with
    | ok ds cs1 =>
      rw [ho] at p0
      intro av1 m1 H1 vs e1 c1 l1
      exact hF _ av1 m1 H1 cs1 vs ds Q c1 l1 (PostE.ext e1 p0)
    | exc _ _ _ => rw [ho] at p0; exact p0.elim
    | bad => rw [ho] at p0; exact p0
  refine wpAny_Call_Name_kw (ld_glob (X := X.tr pn xe) I hg hm (PySem.W.callWith_K (h₀ := X.base) I.ok.mod.kin hk ?_ he hpl) hdb)
  refine thn (h1.run pos pins sh σ H _ I st) fun us s1 ha1 => ?_
  obtain ⟨vs, H1, J, r, q⟩ := ha1
  have hl : (us ++ []).length = ps.length := by rw [List.append_nil, ← r.length]; exact G.len _ _ _ _ q
  have b := hb s1 us J.kIn hl
  rw [List.append_nil] at b
  exact ⟨J.kIn, run_at (Y := X.tr pn xe) G hr hq b tk J r q⟩
section
variable {k : Nat} {x qual : Str} {st : Stmt} {ps : List Str} {F : Fd} {p pos : Pos} {e : Expr} {es : List Expr} {a : Ga}
theorem dye_calK (c : Cal X.prog X.w X.K X.mg X.base k x qual st ps F) (hr : Room k X.A) (hq : Quiet X.A) (ha : ∀ pn xe, DA (X.tr pn xe) E0 (e :: es) a) (hg : Gl X x := by rfl) (hdb : (x == ("__debug__" : Str)) = false := by decide)
    (he : starEach (e :: es) X.env = (false, eval e X.env) :: starEach es X.env := by rfl) (hpl : (backTo pos (starEach es X.env)).any (·.1) = false := by rfl) : DYE X (.Call (.Name x p) (e :: es) [] pos) (gA (argN ps.length F) (noX a)) :=
  let ⟨_, _, G, hm, fn, hb⟩ := c.ex; dye_call G hr hq hm fn.kp (fun _ => sp_K) hb ha hg hdb he hpl
theorem dye_calS (c : Cal X.prog X.w X.K X.mg X.base k x qual st ps F) (hr : Room k X.A) (hq : Quiet X.A) (ha : ∀ pn xe, DA (X.tr pn xe) E0 (e :: es) a) (hg : Gl X x := by rfl) (hdb : (x == ("__debug__" : Str)) = false := by decide)
    (he : starEach (e :: es) X.env = (false, eval e X.env) :: starEach es X.env := by rfl) (hpl : (backTo pos (starEach es X.env)).any (·.1) = false := by rfl) : DYE X (.Call (.Name x p) (e :: es) [] pos) (gA (argN ps.length (callS F)) (noX a)) :=
  let ⟨_, _, G, hm, fn, hb⟩ := c.ex; dye_call G hr hq hm fn.kp (fun _ => sp_S) hb ha hg hdb he hpl
theorem dye_calP (c : Cal X.prog X.w X.K X.mg X.base k x qual st ps F) (hr : Room k X.A) (hq : Quiet X.A) (ha : ∀ pn xe, DA (X.tr pn xe) E0 (e :: es) a) (hg : Gl X x := by rfl) (hdb : (x == ("__debug__" : Str)) = false := by decide)
    (he : starEach (e :: es) X.env = (false, eval e X.env) :: starEach es X.env := by rfl) (hpl : (backTo pos (starEach es X.env)).any (·.1) = false := by rfl) : DYE X (.Call (.Name x p) (e :: es) [] pos) (gA (argN ps.length (callP F)) (noX a)) :=
  let ⟨_, _, G, hm, fn, hb⟩ := c.ex; dye_call G hr hq hm fn.kp (fun _ => sp_P) hb ha hg hdb he hpl
end
section
variable {pos : Pos} {e c : Expr} {g : Gx} {st : Stmt} {a b rest : List Stmt} {ga gb : Gs} {gt : Gt}
theorem dy_expr (he : DYE X e g) (hs : swapsWith e none pos.line X.env = pure false := by rfl) : DY1 X (.Expr e pos) (sExpr g) := ⟨fun W pn xe tk av m H σ env cs Dn rc rs p pins sh I =>
  (ps_expr (X := X.tr pn xe) pe_sem hs).run pins sh σ H Dn I (he.run W pn xe tk av m H σ env cs _ rc rs (PostE.bindS p fun d cs1 av1 m1 H1 v e1 c1 r1 p1 => p1 av1 m1 H1 σ (Ext.refl ..) c1 (rs.mono rc.sub e1) rfl))⟩
theorem dy_ret (he : DYE X e g) : DY1 X (.Return (some e) pos) (sRet g) := ⟨fun W pn xe tk av m H σ env cs Dn rc rs p pins sh I =>
  (ps_ret (X := X.tr pn xe) pe_sem).run pins sh σ H Dn I (he.run W pn xe tk av m H σ env cs _ rc rs (PostE.bindS p fun d cs1 av1 m1 H1 v e1 c1 r1 p1 => p1 av1 m1 H1 v (Ext.refl ..) c1 r1))⟩
theorem dy_one (h : DY1 X st ga) : DY X [st] ga := ⟨fun W pn xe tk av m H σ env cs Dn rc rs p => (fun pins sh I => (pss_one (X := X.tr pn xe) ps_sem).run pins sh σ H Dn I (h.run W pn xe tk av m H σ env cs Dn rc rs p))⟩
theorem dy_nil : DY X [] sNext := ⟨fun W pn xe tk av m H σ env cs Dn rc rs p pins sh I => (pss_nil (X := X.tr pn xe)).run pins sh σ H Dn I (p av m H σ (Ext.refl ..) rc rs rfl)⟩
theorem dy_cons (h1 : DY1 X st ga) (h2 : DY X rest gb) : DY X (st :: rest) (sSeq ga gb) := ⟨fun W pn xe tk av m H σ env cs Dn rc rs p pins sh I => by
  refine (pss_cons (X := X.tr pn xe) ps_sem pb_sem).run pins sh σ H Dn I (h1.run W pn xe tk av m H σ env cs _ rc rs ?_)
  unfold sSeq at p
  split at p
  · rename_i e
    rw [e]
    intro av2 m2 H2 σ2 e2 c2 s2 hσ
    subst hσ
    exact h2.run W pn xe tk av2 m2 H2 _ _ _ Dn c2 s2 (PostS.ext e2 p)
  · rename_i e; rw [e]; exact p
  · rename_i e; rw [e]; exact p
  · rename_i e; rw [e]; exact p
  · rename_i e; rw [e]; exact p
  · exact p.elim⟩
theorem dy_if (hc : ∀ pn xe, DT (X.tr pn xe) E0 c gt) (ha : DY X a ga) (hb : DY X b gb) : DY1 X (.If c a b pos) (sIf (noX gt) ga gb) := ⟨fun W pn xe tk av m H σ env cs Dn rc rs p pins sh I => by
  obtain ⟨t, h, k⟩ := hc pn xe
  refine (ps_if (X := X.tr pn xe) h pb_sem pb_sem).run pins sh σ H Dn I (k av m H σ env cs _ rc rs ?_)
  unfold sIf noX at p
  cases ho : gt env cs with
  | ok d cs1 =>
    rw [ho] at p
    intro av1 m1 H1 e1 c1
    have p1 := PostS.ext e1 p
    cases d with
    | true => exact iteT (ha.run W pn xe tk av1 m1 H1 σ env cs1 Dn c1 (rs.mono rc.sub e1) p1)
    | false => exact iteF (hb.run W pn xe tk av1 m1 H1 σ env cs1 Dn c1 (rs.mono rc.sub e1) p1)
  | exc x fs cs1 => rw [ho] at p; exact p.elim
  | bad => rw [ho] at p; exact p⟩
end
end
end Dm
set_option linter.all false
set_option maxRecDepth 100000
set_option maxHeartbeats 2000000
/-! Dm: the clauses of a try. -/
namespace Dm
open PySem PySem.Spec L2
/-- where a clause's suite ends: its name goes -/
def endsAt : Option Nat → Ends → Ends
  | none, Dn => Dn
  | some i, Dn => { nx := fun σ' H' => Dn.nx (σ'.set i none) H', rt := Dn.rt, bk := fun σ' H' => Dn.bk (σ'.set i none) H', ct := fun σ' H' => Dn.ct (σ'.set i none) H' }
def putAt : Option Nat → L2.St → Addr → L2.St
  | none, σ, _ => σ
  | some i, σ, a => σ.set i (some (.ref a))
abbrev Suite := Addr → Value → Option Addr → TS
def wishH (K : PySem.W.Frag) (Wout : WX) (Dn : Ends) : List (Value × Option Nat × Suite) → WX
  | [] => Wout
  | (c, oi, ts) :: r => fun cls d σ H => ∃ b, PySem.W.exmOne K cls c = some b ∧ (b = true → ∀ a, H a = none → ts a cls d (endsAt oi Dn) (putAt oi σ a) H) ∧ (b = false → wishH K Wout Dn r cls d σ H)
inductive NmOk (X : Cx) : Option Str → Option Nat → Prop
  | no : NmOk X none none
  | at (n : Str) (i : Nat) (hi : X.N[i]? = some n) (hl : X.env.kindOf n = some .local) : NmOk X (some n) (some i)
inductive HsOk (X : Cx) : List ExceptHandler → List (Value × Option Nat × Suite) → Prop
  | nil : HsOk X [] []
  | cons {x : Str} {c : Value} {on : Option Str} {oi : Option Nat} {ts : Suite} {b₀ : Stmt} {su : List Stmt} {np hpos : Pos} {hds : List ExceptHandler} {l : List (Value × Option Nat × Suite)} (hc : Names X x c) (hn : NmOk X on oi)
      (hsu : ∀ (a : Addr) (oe : Obj) (cls : Value) (d : Option Addr) (pn : List (Addr × Obj)), Zc cls d oe → (∃ vs, oe.data = .fields vs) → PSs (X.suite a ((a, oe) :: pn)) (b₀ :: su) (ts a cls d)) (r : HsOk X hds l) :
      HsOk X (.ExceptHandler (some (.Name x np)) on (b₀ :: su) hpos :: hds) ((c, oi, ts) :: l)
section
variable {X : Cx} {body : List Stmt} {h₀ : ExceptHandler} {hds : List ExceptHandler} {l : List (Value × Option Nat × Suite)} {pos : Pos} {tb : WX → TS} {Wout : WX}
theorem ps_try_hs (hs : X.stack = X.env :: X.outer) (hf : X.env.frame = some X.env.locals) (hN : X.N.Nodup) (tk : L2.Takes X Wout)
    (hb : ∀ (W : WX) (pn : List (Addr × Obj)) (xe : Value → Shared → Prop), L2.Takes (X.tr pn xe) W → PSs (X.tr pn xe) body (tb W))
    (hh : HsOk X (h₀ :: hds) l) : PS X (.Try body (h₀ :: hds) [] [] pos) (fun Dn σ H => tb (wishH X.K Wout Dn l) Dn σ H) := by
  constructor
  intro pins s σ H Dn I h
  have ok := I.ok
  have hfr : X.A.frames = some (X.env :: X.outer) := by rw [ok.frames, hs]
  refine wpAny_Try_except (wpAny_mono ((hb (wishH X.K Wout Dn l) (X.pn ++ pins) (fun e s₁ => wpAny (model X.prog X.w) X.A (noteFrame e X.env) (fun _ s₂ => wpAny (model X.prog X.w) X.A (setFlight e none) (fun _ s₃ =>
    wpAny (model X.prog X.w) X.A (handleBy e X.env (h₀ :: hds)) (SP X pins Dn) X.xe s₃) X.xe s₂) X.xe s₁) (fun u s' air => ?_)).run [] s σ H Dn (I.toTry _) h) (fun fl s1 sp => ?_) (fun e s1 he => he))
  · obtain ⟨a, B, sI, pins', σ', H', cls, d, rfl, J', nb, up, sky, na, os, ag, wsh⟩ := air
    have J : Inv X pins σ' H' sI := J'.ofTry ok
    have sky1 : Sky B (X.env :: X.outer) a (Zc cls d) X.env.locals s'.heap := by rw [← hs]; exact sky
    show wpAny (model X.prog X.w) X.A (noteFrame (.ref a) X.env) _ _ _
    refine Sky.land Zc.steady hfr hf sky1 fun g3 fly3 up3 => ?_
    have J3 : Inv X pins σ' H' { s' with heap := g3 } := J.landed nb fly3.1 (up.trans up3) os ag
    obtain ⟨ob3, ar3, at3, zc3, dt3⟩ := fly3.there
    have apart : ∀ {h : Heap} {o : Obj} {vs : Array Value}, h.FunFrames B (X.env :: X.outer) → h.get? a = some o → o.data = .fields vs → a ∉ frs (X.env :: X.outer) := by
      intro h o vs ff e dd hm
      obtain ⟨_, o', e', nofields⟩ := ff.mem hm
      rw [e] at e'
      cases e'
      exact nofields _ dd
    have off := apart fly3.2.2.1 at3 dt3
    have offL : a ≠ X.env.locals := fun z => off (List.mem_filterMap.mpr ⟨X.env, List.mem_cons_self, by rw [hf, z]⟩)
    have offF : a ∉ X.fs := fun hm => by
      obtain ⟨en, hen, q⟩ := List.mem_filterMap.mp hm
      exact off (List.mem_filterMap.mpr ⟨en, List.mem_cons_of_mem _ hen, q⟩)
    have S3 := J3.suite at3 dt3 na offL offF
    have go : ∀ {hds' : List ExceptHandler} {l' : List (Value × Option Nat × Suite)}, HsOk X hds' l' → wishH X.K Wout Dn l' cls d σ' H' →
        wpAny (model X.prog X.w) X.A (handleBy (.ref a) X.env hds') (SP X pins Dn) X.xe { s' with heap := g3 } := by
      intro hds' l' hk
      induction hk with
      | nil =>
        intro wsh
        refine wpAny_handleBy_nil ?_
        obtain ⟨k1, k2, k3, ob, ar, T, oT, ts', e1, e2, e3, e4, e5⟩ := id fly3
        unfold PySem.passOn
        refine wpAny_bind (wpAny_field e1 e3 e4 ?_)
        rw [if_neg (show ¬ ((Value.ref T == Value.none) = true) from by simp)]
        have fin : wpAny (model X.prog X.w) X.A (setFlight (.ref a) X.env.frame) (fun _ s4 => wpAny (model X.prog X.w) X.A (throw (.ref a) : Sem Flow) (SP X pins Dn) X.xe s4) X.xe { s' with heap := g3 } := by
          rw [hf]
          refine HandSPX.setFlight_upZ fly3 fun g4 held4 up4 => wpAny_throw (tk _ _ ?_)
          exact ⟨a, B, sI, pins, σ', H', cls, d, rfl, J, nb, (up.trans up3).trans up4, .inr (.inr (by rw [hs]; exact held4)), na, os, ag, wsh⟩
        first
          | exact wpAny_bind (wpAny_pure (wpAny_bind fin))
          | exact wpAny_bind fin
      | @cons x c on oi ts b₀ su np hpos hds2 l2 hc hn hsu r ih =>
        intro wsh
        obtain ⟨b, hb1, hyes, hno⟩ := wsh
        refine wpAny_handleBy_cons (codeAny_handlers_test ?_) (by intro q; cases q)
        have LT : PySem.W.Looks (model X.prog X.w) g3 (typeOf (.ref a)) cls := fun A Q E s k q => wpAny_typeOf_ref (k _ _ at3) (by rw [zc3.1]; exact q)
        have LM := PySem.W.exm_one (M := model X.prog X.w) (J3.kIn) LT hb1
        have test : ∀ {Q : Value → Shared → Prop} {E : Value → Shared → Prop}, Q c { s' with heap := g3 } → wpAny (model X.prog X.w) (X.A.mark (some (.ref a))) (eval (.Name x np) X.env) Q E { s' with heap := g3 } := by
          intro Q E q
          obtain ⟨hg, hdbg, hm | ⟨hm, hv, hnn⟩⟩ := hc
          · exact ld_glob (X := X.suite a ((a, ob3) :: (X.pn ++ pins))) S3 hg hm q hdbg
          · exact ld_blt (X := X.suite a ((a, ob3) :: (X.pn ++ pins))) S3 hg hm hv q hnn hdbg
        refine test (LM.here ?_)
        cases b with
        | false => exact ih (hno rfl)
        | true =>
          have W := hyes rfl a na
          cases hn with
          | no =>
            refine codeAny_handlers_suite ?_
            refine HandSPX.lands_againZ fly3 fun g4 fly4 up4 => ?_
            have J4 : Inv X pins σ' H' { s' with heap := g4 } := J.landed nb fly4.1 ((up.trans up3).trans up4) os ag
            obtain ⟨ob4, ar4, at4, zc4, dt4⟩ := fly4.there
            have S4 := J4.suite at4 dt4 na offL offF
            refine wpAny_mono ((hsu a ob4 cls d (X.pn ++ pins) zc4 ⟨_, dt4⟩).run [] _ _ H' _ S4 W) (fun fl s6 sp => ?_) (fun _ _ z => False.elim z)
            cases fl with
            | next => obtain ⟨σ6, H6, S6, q6⟩ := sp; exact ⟨_, _, S6.unsuite ok, q6⟩
            | brk => obtain ⟨σ6, H6, S6, q6⟩ := sp; exact ⟨_, _, S6.unsuite ok, q6⟩
            | cont => obtain ⟨σ6, H6, S6, q6⟩ := sp; exact ⟨_, _, S6.unsuite ok, q6⟩
            | ret u => obtain ⟨v6, σ6, H6, S6, r6, q6⟩ := sp; exact ⟨_, _, _, S6.unsuite ok, r6, q6⟩
          | «at» n i hi hl =>
            refine codeAny_handlers_suite_as ?_
            refine HandSPX.lands_againZ fly3 fun g4 fly4 up4 => ?_
            have J4 : Inv X pins σ' H' { s' with heap := g4 } := J.landed nb fly4.1 ((up.trans up3).trans up4) os ag
            obtain ⟨ob4, ar4, at4, zc4, dt4⟩ := fly4.there
            have S4 := J4.suite at4 dt4 na offL offF
            refine store_ok (X := X.suite a ((a, ob4) :: (X.pn ++ pins))) (v := .ref a) S4 hN hi (.inl hl) rfl (fun s5 S5 => ?_) (.inr hl)
            refine wpAny_mono ((hsu a ob4 cls d (X.pn ++ pins) zc4 ⟨_, dt4⟩).run [] s5 _ H' _ S5 W) (fun fl s6 sp => ?_) (fun _ _ z => False.elim z)
            have gone : ∀ {σ6 : L2.St} {H6 : Hp} {Q : Shared → Prop}, Inv (X.suite a ((a, ob4) :: (X.pn ++ pins))) [] σ6 H6 s6 → (∀ s7, Inv X pins (σ6.set i none) H6 s7 → Q s7) →
                wpAny (model X.prog X.w) X.A (do bindName X.env n .none; unbindBehindTheSuite X.env n hpos) (fun _ s7 => Q s7) X.xe s6 := fun {σ6 H6 Q} S6 hq => gone_ok (S6.unsuite ok) hN hi hl hq
            cases fl with
            | next => obtain ⟨σ6, H6, S6, q6⟩ := sp; exact gone S6 fun s7 J7 => ⟨_, _, J7, q6⟩
            | brk => obtain ⟨σ6, H6, S6, q6⟩ := sp; exact gone S6 fun s7 J7 => ⟨_, _, J7, q6⟩
            | cont => obtain ⟨σ6, H6, S6, q6⟩ := sp; exact gone S6 fun s7 J7 => ⟨_, _, J7, q6⟩
            | ret u => obtain ⟨v6, σ6, H6, S6, r6, q6⟩ := sp; exact gone S6 fun s7 J7 => ⟨_, _, _, J7, r6, q6⟩
    exact go hh wsh
  · cases fl with
    | next => obtain ⟨σ', H', J', q⟩ := sp; exact wpAny_execs_nil ⟨σ', H', J'.ofTry ok, q⟩
    | brk => obtain ⟨σ', H', J', q⟩ := sp; exact ⟨σ', H', J'.ofTry ok, q⟩
    | cont => obtain ⟨σ', H', J', q⟩ := sp; exact ⟨σ', H', J'.ofTry ok, q⟩
    | ret u => obtain ⟨v, σ', H', J', r, q⟩ := sp; exact ⟨v, σ', H', J'.ofTry ok, r, q⟩
end
end Dm
set_option linter.all false
set_option maxRecDepth 100000
set_option maxHeartbeats 2000000
/-! Dm: what a suite reads of the error; the rule for try. -/
namespace Dm
open PySem PySem.Spec L2
/-! ### the error in a suite -/
def atomV : D → V
  | .int i => .int i
  | _ => .non
def atomD : V → Option D
  | .non => some .non
  | .int i => some (.int i)
  | _ => none
abbrev Fx := Option (List (Str × D))
def okF : Fx → Bool
  | none => true
  | some l => l.all fun p => okM p.2
def exq (fs : Fx) (d : Addr) : Option (Addr × List (Str × V)) := fs.map fun l => (d, l.map fun p => (p.1, atomV p.2))
theorem okM_atom {K : PySem.W.Frag} {av m : List Addr} {H : Hp} {v : V} {d : D} (r : R K av m H v d) (h : okM d = true) : v = atomV d := by
  cases r with
  | non => rfl
  | int i => rfl
  | _ => simp [okM] at h
theorem rf_atom {K : PySem.W.Frag} {av m : List Addr} {H : Hp} : ∀ {vs : List (Str × V)} {fs : List (Str × D)}, RF K av m H vs fs → (fs.all fun p => okM p.2) = true → vs = fs.map fun p => (p.1, atomV p.2)
  | _, _, .nil, _ => rfl
  | _, _, .cons r t, h => by
    simp only [List.all_cons, Bool.and_eq_true] at h
    rw [List.map_cons, ← rf_atom t h.2, okM_atom r h.1]
/-- e.f -/
def gExf (i : Nat) (a : Addr) (d : Option Addr) (f : Str) : Gx := fun env cs => match env[i]? with
  | some (some (.ptr a' (some (dd, fs)))) => if a' = a ∧ d = some dd then (match fs.lookup f with
    | some v => (match atomD v with
      | some x => .ok x cs
      | none => .bad)
    | none => .bad) else .bad
  | _ => .bad
/-- isinstance(e, ..), which is b -/
def gIsE (i : Nat) (a : Addr) (d : Option Addr) (b : Bool) : Gx := fun env cs => match env[i]? with
  | some (some (.ptr a' q)) => if a' = a ∧ q.map (·.1) = d then .ok (.bl b) cs else .bad
  | _ => .bad
theorem atomD_ok {K : PySem.W.Frag} {av m : List Addr} {H : Hp} {v : V} {x : D} (h : atomD v = some x) : R K av m H v x := by
  cases v with
  | non => cases h; exact .non
  | int i => cases h; exact .int i
  | _ => cases h
section
variable {X : Cx} {EX : XK} {a C : Addr} {oe : Obj} {cls : Value} {d : Option Addr} {pn : List (Addr × Obj)}
theorem de_exf (i : Nat) {x n : Str} {p pos : Pos} (T : XfC X.K C) (hno : PySem.W.findIn X.K (.ref C) n = some none) (hz : Zc (.ref C) d oe) (hf : ∃ vs, oe.data = .fields vs)
    (hN : X.N[i]? = some x := by rfl) (hv : Vis X.env.scope x := by first | exact Or.inl rfl | exact Or.inr (Or.inl rfl) | exact Or.inr (Or.inr rfl)) (hd : (x == ("__debug__" : Str)) = false := by decide)
    (hcd : (x == ("__classdict__" : Str)) = false := by decide) (hb : attributeBase (.Name x p) n X.env (eval (.Name x p) X.env) = eval (.Name x p) X.env := by rfl) : DE (X.suite a ((a, oe) :: pn)) EX (.Attribute (.Name x p) n pos) (gExf i a d n) := by
  refine ⟨_, pe_xf (X := X) T hno hz hf (pe_var (X := X.suite a ((a, oe) :: pn)) (i := i) hN hv hd hcd) hb, fun av m H σ env cs Q c s q => ?_⟩
  unfold gExf at q
  split at q
  · rename_i a' dd fs he
    split at q
    · rename_i hh
      obtain ⟨rfl, rfl⟩ := hh
      obtain ⟨v, h1, h2⟩ := s.2 i _ he
      cases h2 with
      | ptr hq =>
        obtain ⟨q1, q2⟩ := hq dd fs rfl
        split at q
        · rename_i w hw
          split at q
          · rename_i x0 hx0
            exact ⟨_, h1, rfl, rfl, dd, fs, w, rfl, q1, hw, q.here c (atomD_ok hx0)⟩
          · exact q.elim
        · exact q.elim
    · exact q.elim
  · exact q.elim
/-- what a class of errors must say, so that isinstance asks its instances rightly -/
structure ExcI (K : PySem.W.Frag) (C : Addr) : Prop where
  hc : (PySem.W.clsIn K C).isSome = true
  ga : PySem.W.findIn K (.ref C) "__getattribute__" = some (some (.builtin "BaseException.__getattribute__"))
  gg : PySem.W.findIn K (.ref C) "__getattr__" = some none
  sb : PySem.W.subIn K (.ref C) (.type "BaseException") = some true
  ca : PySem.W.findIn K (.ref C) "__class__" = some (some (.builtin "object.__class__"))
  gd : PySem.W.specialIn K (.builtin "object.__class__") "__get__" = some (some (.builtin "getset_descriptor.__get__"))
  tk : PySem.W.takesIn K (.builtin "object.__class__") = some true
  ob : PySem.W.mroIn K C (.type "object") = some true
def dictAt (d : Option Addr) (H : Hp) : Prop := ∀ dd, d = some dd → ∃ fs, H dd = some (.xd fs)
theorem inst_of {pins : List (Addr × Obj)} {σ : L2.St} {H : Hp} {s : Shared} (I : Inv (X.suite a ((a, oe) :: pn)) pins σ H s) (hz : Zc (.ref C) d oe) (hf : ∃ vs, oe.data = .fields vs) (hd : dictAt d H) : ∃ od, PySem.W.InstAt s.heap a oe C od := by
  obtain ⟨hget, _⟩ := I.pin (a, oe) (List.mem_append.mpr (.inl List.mem_cons_self))
  obtain ⟨vs, hv⟩ := hf
  have hn : PySem.W.notCls oe = true := by unfold PySem.W.notCls; rw [hv] <;> rfl
  cases d with
  | none => exact ⟨none, hget, hz.1, hn, by rw [hz.2]; exact True.intro⟩
  | some dd =>
    obtain ⟨fs, hx⟩ := hd dd rfl
    obtain ⟨mA, hns, _⟩ := (show ObjOk X.prog X.w H s.heap dd (.xd fs) from I.hok dd _ hx)
    obtain ⟨o, ho, _⟩ := lookIn_ns hns
    exact ⟨some o, hget, hz.1, hn, by rw [hz.2]; exact ho⟩
theorem kitx_of_exc {od : Option Obj} {x : Addr} (T : ExcI X.K C) : PySem.W.KitX X.K (.ref x) (.ref C) (fun h => PySem.W.InstAt h x oe C od) := PySem.W.kitx_exc T.hc T.ga T.gg T.sb T.ca T.gd T.tk T.ob
theorem call_isX (T : ExcI X.K C) (hz : Zc (.ref C) d oe) (hf : ∃ vs, oe.data = .fields vs) : CallR (X.suite a ((a, oe) :: pn)) (.builtin "isinstance")
    (fun xs H Q => ∃ (c : V) (u : Value) (b : Bool), xs = [.ref a, c] ∧ ClsV c u ∧ PySem.W.kitOne X.K (.ref C) u = some b ∧ dictAt d H ∧ Q (.bl b) H) := by
  intro pins s σ H xs us Q I r h
  obtain ⟨c, u, b, rfl, k, e, hd, q⟩ := h
  obtain ⟨u1, u2, rfl, r1, r2⟩ := vals2 r
  cases (show u1 = Value.ref a from r1)
  have e2 := k.eq r2
  subst e2
  obtain ⟨od, J⟩ := inst_of I hz hf hd
  exact PySem.W.kia_one (kitx_of_exc T) I.kIn J e (fun z => nomatch z) fun tk => ⟨.bl b, H, I.tok tk, rfl, q⟩
theorem call_isXT (T : ExcI X.K C) (hz : Zc (.ref C) d oe) (hf : ∃ vs, oe.data = .fields vs) : CallR (X.suite a ((a, oe) :: pn)) (.builtin "isinstance")
    (fun xs H Q => ∃ (tp : Addr) (cs : List V) (us : List Value) (b : Bool), xs = [.ref a, .ref tp] ∧ H tp = some (.tup cs) ∧ Paired ClsV cs us ∧ PySem.W.kitAny X.K (.ref C) us = some b ∧ dictAt d H ∧ Q (.bl b) H) := by
  intro pins s σ H xs us Q I r h
  obtain ⟨tp, cs, ws, b, rfl, hT, k, e, hd, q⟩ := h
  obtain ⟨u1, u2, rfl, r1, r2⟩ := vals2 r
  cases (show u1 = Value.ref a from r1)
  cases (show u2 = Value.ref tp from r2)
  obtain ⟨od, J⟩ := inst_of I hz hf hd
  obtain ⟨_, its, rv, o, h1, h2, n, h3⟩ := (show ObjOk X.prog X.w H s.heap tp (.tup cs) from I.hok tp _ hT)
  have e3 := ClsV.all k rv
  subst e3
  obtain ⟨oc, od1, oda, osl⟩ := o
  dsimp only at h2 h3
  subst h2 h3
  exact PySem.W.kia_tup (kitx_of_exc T) I.kIn J h1 e (fun z => nomatch z) fun tk => ⟨.bl b, H, I.tok tk, rfl, q⟩
end
/-! ### isinstance(e, C), isinstance(e, (C, ..)) -/
/-- a name that means a class -/
structure ClsN (K : PySem.W.Frag) (mg : Str → Option Value) (c : Str) (u : Value) : Prop where
  ex : (∃ C : Addr, u = .ref C ∧ mg c = some (.ref C)) ∨ (∃ n : String, u = .type n ∧ mg c = none ∧ bootBuiltins c = some (.type n) ∧ c ≠ "__name__")
theorem pe_cls {X : Cx} {c : Str} {u : Value} {p : Pos} (h : ClsN X.K X.mg c u) (hg : Gl X c) (hdb : (c == ("__debug__" : Str)) = false) : ∃ v, PE X (.Name c p) (tC v) ∧ ClsV v u := by
  rcases h.ex with ⟨C, rfl, hm⟩ | ⟨n, rfl, hm, hv, hn⟩
  · exact ⟨.ref C, pe_glob hg hm rfl hdb, .own C⟩
  · exact ⟨.ty n, pe_bltn hg hm hv rfl hn hdb, .ty n⟩
/-- the error's class against a class -/
structure IsaT (K : PySem.W.Frag) (mg : Str → Option Value) (C : Addr) (c1 c2 : Str) (b : Bool) : Prop where
  ex : ∃ u1 u2, ClsN K mg c1 u1 ∧ ClsN K mg c2 u2 ∧ PySem.W.kitAny K (.ref C) [u1, u2] = some b
structure Isa (K : PySem.W.Frag) (mg : Str → Option Value) (C : Addr) (c : Str) (b : Bool) : Prop where
  ex : ∃ u, ClsN K mg c u ∧ PySem.W.kitOne K (.ref C) u = some b
section
variable {X : Cx} {EX : XK} {a C : Addr} {oe : Obj} {d : Option Addr} {pn : List (Addr × Obj)}
theorem dict_of {av m : List Addr} {H : Hp} {a' : Addr} {v : V} {q : Option (Addr × List (Str × V))} (r : R X.K av m H v (.ptr a' q)) (hq : q.map (·.1) = d) : v = .ref a' ∧ dictAt d H := by
  cases r with
  | ptr h =>
    refine ⟨rfl, fun dd hd => ?_⟩
    subst hd
    cases q with
    | none => cases hq
    | some p => cases hq; exact ⟨_, (h _ _ rfl).1⟩
theorem de_isE (i : Nat) {x c : Str} {b : Bool} {p0 p1 p2 pos : Pos} (T : ExcI X.K C) (hz : Zc (.ref C) d oe) (hf : ∃ vs, oe.data = .fields vs) (hk : Isa X.K X.mg C c b) (hm : X.mg "isinstance" = none) (hi : Gl X "isinstance" := by rfl)
    (hg : Gl X c := by rfl) (hdb : (c == ("__debug__" : Str)) = false := by decide)
    (hN : X.N[i]? = some x := by rfl) (hv : Vis X.env.scope x := by first | exact Or.inl rfl | exact Or.inr (Or.inl rfl) | exact Or.inr (Or.inr rfl)) (hd : (x == ("__debug__" : Str)) = false := by decide)
    (hcd : (x == ("__classdict__" : Str)) = false := by decide)
    (he : starEach [.Name x p1, .Name c p2] X.env = (false, eval (.Name x p1) X.env) :: starEach [.Name c p2] X.env := by rfl) (he2 : starEach [.Name c p2] X.env = (false, eval (.Name c p2) X.env) :: starEach [] X.env := by rfl)
    (hpl : (backTo pos (starEach [.Name c p2] X.env)).any (·.1) = false := by rfl) :
    DE (X.suite a ((a, oe) :: pn)) EX (.Call (.Name "isinstance" p0) [.Name x p1, .Name c p2] [] pos) (gIsE i a d b) := by
  obtain ⟨u, hc, hk⟩ := hk.ex
  obtain ⟨w, h1, h2⟩ := pe_cls (X := X.suite a ((a, oe) :: pn)) (p := p2) hc hg hdb
  refine ⟨_, pe_callB (X := X.suite a ((a, oe) :: pn)) (call_isX T hz hf) hi hm (by decide +kernel) (pa_cons (pe_var (X := X.suite a ((a, oe) :: pn)) (i := i) hN hv hd hcd) (pa_cons h1 pa_nil he2) he) (by decide) (by decide) he hpl, fun av m H σ env cs Q rc s q => ?_⟩
  unfold gIsE at q
  split at q
  · rename_i a' qq hh
    split at q
    · rename_i h3
      obtain ⟨rfl, h4⟩ := h3
      obtain ⟨v, h5, h6⟩ := s.2 i _ hh
      obtain ⟨rfl, h7⟩ := dict_of h6 h4
      exact ⟨_, h5, _, _, b, rfl, h2, hk, h7, q.here rc (.bl b)⟩
    · exact q.elim
  · exact q.elim
theorem de_isET (i : Nat) {x : Str} {c1 c2 : Str} {b : Bool} {p0 p1 p2 p3 tp pos : Pos} {kk : _} (T : ExcI X.K C) (hz : Zc (.ref C) d oe) (hf : ∃ vs, oe.data = .fields vs) (hk : IsaT X.K X.mg C c1 c2 b) (hm : X.mg "isinstance" = none) (hi : Gl X "isinstance" := by rfl)
    (hg1 : Gl X c1 := by rfl) (hg2 : Gl X c2 := by rfl) (hdb1 : (c1 == ("__debug__" : Str)) = false := by decide) (hdb2 : (c2 == ("__debug__" : Str)) = false := by decide)
    (hN : X.N[i]? = some x := by rfl) (hv : Vis X.env.scope x := by first | exact Or.inl rfl | exact Or.inr (Or.inl rfl) | exact Or.inr (Or.inr rfl)) (hd : (x == ("__debug__" : Str)) = false := by decide)
    (hcd : (x == ("__classdict__" : Str)) = false := by decide)
    (e1 : starEach [.Name c1 p2, .Name c2 p3] X.env = (false, eval (.Name c1 p2) X.env) :: starEach [.Name c2 p3] X.env := by rfl) (e2 : starEach [.Name c2 p3] X.env = (false, eval (.Name c2 p3) X.env) :: starEach [] X.env := by rfl)
    (he : starEach [.Name x p1, .Tuple [.Name c1 p2, .Name c2 p3] kk tp] X.env = (false, eval (.Name x p1) X.env) :: starEach [.Tuple [.Name c1 p2, .Name c2 p3] kk tp] X.env := by rfl)
    (he2 : starEach [.Tuple [.Name c1 p2, .Name c2 p3] kk tp] X.env = (false, eval (.Tuple [.Name c1 p2, .Name c2 p3] kk tp) X.env) :: starEach [] X.env := by rfl)
    (hpl : (backTo pos (starEach [.Tuple [.Name c1 p2, .Name c2 p3] kk tp] X.env)).any (·.1) = false := by rfl) :
    DE (X.suite a ((a, oe) :: pn)) EX (.Call (.Name "isinstance" p0) [.Name x p1, .Tuple [.Name c1 p2, .Name c2 p3] kk tp] [] pos) (gIsE i a d b) := by
  obtain ⟨u1, u2, hc1, hc2, hk⟩ := hk.ex
  obtain ⟨w1, h1, h2⟩ := pe_cls (X := X.suite a ((a, oe) :: pn)) (p := p2) hc1 hg1 hdb1
  obtain ⟨w2, h3, h4⟩ := pe_cls (X := X.suite a ((a, oe) :: pn)) (p := p3) hc2 hg2 hdb2
  refine ⟨_, pe_callB (X := X.suite a ((a, oe) :: pn)) (call_isXT T hz hf) hi hm (by decide +kernel) (pa_cons (pe_var (X := X.suite a ((a, oe) :: pn)) (i := i) hN hv hd hcd) (pa_cons (pe_tup (pa_cons h1 (pa_cons h3 pa_nil e2) e1)) pa_nil he2) he) (by decide) (by decide) he hpl, fun av m H σ env cs Q rc s q => ?_⟩
  unfold gIsE at q
  split at q
  · rename_i a' qq hh
    split at q
    · rename_i h5
      obtain ⟨rfl, h6⟩ := h5
      obtain ⟨v, h7, h8⟩ := s.2 i _ hh
      obtain ⟨rfl, h9⟩ := dict_of h8 h6
      refine ⟨_, h7, by show 2 ≤ sizeLine; rw [sizeLine_eq]; decide, fun l hl => ⟨l, [w1, w2], _, b, rfl, upd_same, .cons h2 (.cons h4 .nil), hk, fun dd hdd => ?_, ?_⟩⟩
      · obtain ⟨fs, hx⟩ := h9 dd hdd
        exact ⟨fs, by rw [upd_ne (ne_of_none hx hl)]; exact hx⟩
      · exact q av m _ (.bl b) (Ext.fresh hl) (rc.fresh hl) (.bl b)
    · exact q.elim
  · exact q.elim
end
section
variable {X : Cx} {EX : XK} {a b : Expr} {pos : Pos} {ga gb : Gx}
theorem dt_eqU (hu : X.A.units + 64 < cLine) (ha : DE X EX a ga) (hb : DE X EX b gb) : DT X EX (.Compare a [.Eq] [b] pos) (tE (g2 (eqD false) ga gb)) := dt_cmp (OpR.or op_eq (op_eqD hu)) od_eq ha hb (nomark _)
theorem dt_neU (hu : X.A.units + 64 < cLine) (ha : DE X EX a ga) (hb : DE X EX b gb) : DT X EX (.Compare a [.NotEq] [b] pos) (tE (g2 (eqD true) ga gb)) := dt_cmp (OpR.or op_ne (op_neD hu)) od_ne ha hb (nomark _)
end
section
variable {X : Cx} {a : Addr} {pn : List (Addr × Obj)} {k : Nat}
theorem unitsU (r : Room k X.A) : (X.suite a pn).A.units + 64 < cLine := by
  have := r.un
  show X.A.units + 64 < cLine
  omega
theorem unitsV (r : Room k X.A) : (X.suite a pn).A.units + 200 < cLine := by
  have := r.un
  show X.A.units + 200 < cLine
  omega
end
end Dm
set_option linter.all false
set_option maxRecDepth 100000
set_option maxHeartbeats 2000000
/-! Dm: try as a function of the state. -/
namespace Dm
open PySem PySem.Spec L2
def clrO (i : Nat) : Out Sg → Out Sg
  | .ok ⟨fl, env⟩ cs => .ok ⟨fl, env.set i none⟩ cs
  | o => o
def noS : Out Sg → Out Sg
  | .exc _ _ _ => .bad
  | o => o
structure Hd where
  sel : Str → Option Bool
  slot : Option Nat
  g : Str → Addr → Option Addr → Gs
open Classical in
noncomputable def suiteD (h : Hd) (x : Str) (fs : Fx) : Gs := fun env cs => match h.slot with
  | none => if (∀ a d, h.g x a (fs.map fun _ => d) env cs = h.g x 0 (fs.map fun _ => 0) env cs) then noS (h.g x 0 (fs.map fun _ => 0) env cs) else .bad
  | some i => if okF fs = true ∧ ∀ a d, clrO i (h.g x a (fs.map fun _ => d) (env.set i (some (.ptr a (exq fs d)))) cs) = clrO i (h.g x 0 (fs.map fun _ => 0) (env.set i (some (.ptr 0 (exq fs 0)))) cs)
      then noS (clrO i (h.g x 0 (fs.map fun _ => 0) (env.set i (some (.ptr 0 (exq fs 0)))) cs)) else .bad
noncomputable def handD : List Hd → Str → Fx → Gs
  | [], x, fs => fun _ cs => .exc x fs cs
  | h :: r, x, fs => fun env cs => match h.sel x with
    | some true => suiteD h x fs env cs
    | some false => handD r x fs env cs
    | none => .bad
noncomputable def sTry (gb : Gs) (hs : List Hd) : Gs := fun env cs => match gb env cs with
  | .exc x fs cs' => handD hs x fs env cs'
  | o => o
theorem sTry_ok {gb : Gs} {hs : List Hd} {env : Env'} {cs cs' : List C} {sg : Sg} (h : gb env cs = .ok sg cs') : sTry gb hs env cs = .ok sg cs' := by unfold sTry; rw [h]
theorem sTry_exc {gb : Gs} {hs : List Hd} {env : Env'} {cs cs' : List C} {x : Str} {fs : Fx} (h : gb env cs = .exc x fs cs') : sTry gb hs env cs = handD hs x fs env cs' := by unfold sTry; rw [h]
theorem handD_yes {h : Hd} {r : List Hd} {x : Str} {fs : Fx} {env : Env'} {cs : List C} (e : h.sel x = some true) : handD (h :: r) x fs env cs = suiteD h x fs env cs := by simp only [handD, e]
theorem handD_no {h : Hd} {r : List Hd} {x : Str} {fs : Fx} {env : Env'} {cs : List C} (e : h.sel x = some false) : handD (h :: r) x fs env cs = handD r x fs env cs := by simp only [handD, e]
theorem suiteD_some {sel : Str → Option Bool} {g : Str → Addr → Option Addr → Gs} {i : Nat} {x : Str} {fs : Fx} {env : Env'} {cs : List C} {o : Out Sg} (hf : okF fs = true) (h : ∀ a d, clrO i (g x a (fs.map fun _ => d) (env.set i (some (.ptr a (exq fs d)))) cs) = o) : suiteD ⟨sel, some i, g⟩ x fs env cs = noS o := by
  unfold suiteD
  simp only
  rw [if_pos ⟨hf, fun a d => (h a d).trans (h 0 0).symm⟩, h 0 0]
theorem suiteD_none {sel : Str → Option Bool} {g : Str → Addr → Option Addr → Gs} {x : Str} {fs : Fx} {env : Env'} {cs : List C} {o : Out Sg} (h : ∀ a d, g x a (fs.map fun _ => d) env cs = o) : suiteD ⟨sel, none, g⟩ x fs env cs = noS o := by
  unfold suiteD
  simp only
  rw [if_pos fun a d => (h a d).trans (h 0 0).symm, h 0 0]

/-- the clauses -/
inductive HJ (X : Cx) : List ExceptHandler → List Hd → Prop
  | nil : HJ X [] []
  | cons {x : Str} {c : Value} {on : Option Str} {h : Hd} {b₀ : Stmt} {su : List Stmt} {np hpos : Pos} {hds : List ExceptHandler} {l : List Hd} (hc : Names X x c) (hn : NmOk X on h.slot)
      (hsel : ∀ y b, h.sel y = some b → ∃ C : Addr, X.mg y = some (.ref C) ∧ PySem.W.exmOne X.K (.ref C) c = some b)
      (hsu : ∀ (y : Str) (C a : Addr) (oe : Obj) (d : Option Addr) (pn : List (Addr × Obj)), h.sel y = some true → X.mg y = some (.ref C) → Zc (.ref C) d oe → (∃ vs, oe.data = .fields vs) → DSs (X.suite a ((a, oe) :: pn)) E0 (b₀ :: su) (h.g y a d))
      (r : HJ X hds l) : HJ X (.ExceptHandler (some (.Name x np)) on (b₀ :: su) hpos :: hds) (h :: l)
section
variable {X : Cx} {EX : XK}
/-- a clause's suite, whatever it holds -/
def tsOf (X : Cx) (b₀ : Stmt) (su : List Stmt) : Suite := fun a cls d Dn σ H => ∀ (oe : Obj) (pn : List (Addr × Obj)), Zc cls d oe → (∃ vs, oe.data = .fields vs) → semB (X.suite a ((a, oe) :: pn)) (b₀ :: su) Dn σ H
def lsOf (X : Cx) : List ExceptHandler → List Hd → List (Value × Option Nat × Suite) → Prop
  | [], [], [] => True
  | .ExceptHandler (some (.Name x _)) _ (b₀ :: su) _ :: hds, h :: l, (c, oi, ts) :: r => Names X x c ∧ oi = h.slot ∧ ts = tsOf X b₀ su ∧ (∀ y b, h.sel y = some b → ∃ C : Addr, X.mg y = some (.ref C) ∧ PySem.W.exmOne X.K (.ref C) c = some b) ∧
      (∀ (y : Str) (C a : Addr) (oe : Obj) (d : Option Addr) (pn : List (Addr × Obj)), h.sel y = some true → X.mg y = some (.ref C) → Zc (.ref C) d oe → (∃ vs, oe.data = .fields vs) → DSs (X.suite a ((a, oe) :: pn)) E0 (b₀ :: su) (h.g y a d)) ∧ lsOf X hds l r
  | _, _, _ => False
theorem hs_of {hds : List ExceptHandler} {l : List Hd} (h : HJ X hds l) : ∃ r, HsOk X hds r ∧ lsOf X hds l r := by
  induction h with
  | nil => exact ⟨[], .nil, True.intro⟩
  | cons hc hn hsel hsu r ih =>
    obtain ⟨rs, h1, h2⟩ := ih
    exact ⟨_, .cons hc hn (ts := tsOf X _ _) (fun a oe cls d pn hz hf => ⟨fun pins s σ H Dn I h => h oe pn hz hf pins s I⟩) h1, hc, rfl, rfl, hsel, hsu, h2⟩
/-- what follows a suite, the name gone -/
theorem post_clr {K : PySem.W.Frag} {mg : Str → Option Value} {av m : List Addr} {H : Hp} {Dn : Ends} {E1 : XK} {i : Nat} {o : Out Sg} (p : PostS K mg av m H E1 Dn (noS (clrO i o))) : PostS K mg av m H E0 (endsAt (some i) Dn) o := by
  have rs : ∀ {av' m' : List Addr} {H' : Hp} {σ' : L2.St} {env : Env'}, RS K av' m' H' σ' env → RS K av' m' H' (σ'.set i none) (env.set i none) := by
    intro av' m' H' σ' env r
    refine ⟨by simp [r.1], fun j d h => ?_⟩
    by_cases hj : i = j
    · subst hj
      have : i < env.length := by
        have := (List.getElem?_eq_some_iff.mp h).1
        simpa using this
      rw [List.getElem?_set_self this] at h
      cases h
    · rw [List.getElem?_set_ne hj] at h ⊢
      exact r.2 j d h
  match o, p with
  | .ok ⟨.nx, env⟩ cs, p => exact fun a2 m2 H2 σ2 e2 c2 s2 => p a2 m2 H2 _ e2 c2 (rs s2)
  | .ok ⟨.bk, env⟩ cs, p => exact fun a2 m2 H2 σ2 e2 c2 s2 => p a2 m2 H2 _ e2 c2 (rs s2)
  | .ok ⟨.ct, env⟩ cs, p => exact fun a2 m2 H2 σ2 e2 c2 s2 => p a2 m2 H2 _ e2 c2 (rs s2)
  | .ok ⟨.rt d, env⟩ cs, p => exact p
  | .exc x fs cs, p => exact p.elim
  | .bad, p => exact p.elim
theorem post_noS {K : PySem.W.Frag} {mg : Str → Option Value} {av m : List Addr} {H : Hp} {Dn : Ends} {E1 : XK} {o : Out Sg} (p : PostS K mg av m H E1 Dn (noS o)) : PostS K mg av m H E0 Dn o := by
  match o, p with
  | .ok ⟨.nx, env⟩ cs, p => exact p
  | .ok ⟨.bk, env⟩ cs, p => exact p
  | .ok ⟨.ct, env⟩ cs, p => exact p
  | .ok ⟨.rt d, env⟩ cs, p => exact p
  | .exc x fs cs, p => exact p.elim
  | .bad, p => exact p.elim
theorem hand_ok {Dn : Ends} {x : Str} {fs : Fx} {C : Addr} {dd : Option Addr} {σ : L2.St} {env : Env'} (gC : X.mg x = some (.ref C)) : ∀ {hds : List ExceptHandler} {l : List Hd} {r : List (Value × Option Nat × Suite)}, lsOf X hds l r → ∀ {av m : List Addr} {H : Hp} {cs : List Dm.C}, RC X.K X.mg av m H cs → RS X.K av m H σ env →
    XF X.K av m H dd fs → PostS X.K X.mg av m H EX Dn (handD l x fs env cs) → wishH X.K (fun cls d _ H => EX cls d H) Dn r (.ref C) dd σ H
  | [], [], [], _, av, m, H, cs, c, s, xf, p => by
    show EX (.ref C) dd H
    exact p av m H C dd (Ext.refl ..) c gC xf
  | .ExceptHandler (some (.Name y np)) on (b₀ :: su) hpos :: hds, h :: l, (cv, oi, ts) :: r, hh, av, m, H, cs, c, s, xf, p => by
    obtain ⟨hc, rfl, rfl, hsel, hsu, hr⟩ := hh
    simp only [handD] at p
    cases hx : h.sel x with
    | none => rw [hx] at p; exact p.elim
    | some b =>
      rw [hx] at p
      obtain ⟨C', g1, g2⟩ := hsel x b hx
      rw [gC] at g1
      cases g1
      cases b with
      | false => exact ⟨false, g2, (fun z => nomatch z), fun _ => hand_ok gC hr c s xf p⟩
      | true =>
        refine ⟨true, g2, fun _ a ha => ?_, (fun z => nomatch z)⟩
        intro oe pn hz hf pins sh I
        have J := hsu x C a oe dd pn hx gC hz hf
        obtain ⟨t, h1, h2⟩ := J
        refine h1.run pins sh _ H _ I ?_
        simp only [suiteD] at p
        have hdd : ∀ z : Addr, dd = none ∧ fs = none ∨ ∃ d l, dd = some d ∧ fs = some l := fun _ => by
          cases dd <;> cases fs
          · exact .inl ⟨rfl, rfl⟩
          · exact xf.elim
          · exact xf.elim
          · exact .inr ⟨_, _, rfl, rfl⟩
        cases hs : h.slot with
        | none =>
          rw [hs] at p I
          simp only at p
          split at p
          · rename_i hall
            refine h2 av m H σ env cs Dn c s ?_
            rcases hdd 0 with ⟨rfl, rfl⟩ | ⟨d, l, rfl, rfl⟩
            · rw [← hall a 0] at p
              exact post_noS p
            · rw [← hall a d] at p
              exact post_noS p
          · exact p.elim
        | some i =>
          rw [hs] at p I
          simp only at p
          split at p
          · rename_i hall
            obtain ⟨hok, hall⟩ := hall
            rcases hdd 0 with ⟨rfl, rfl⟩ | ⟨d, l, rfl, rfl⟩
            · rw [← hall a 0] at p
              exact h2 av m H _ _ cs _ c (s.set (i := i) (v := .ref a) (d := .ptr a none) (.ptr fun d fs z => nomatch z)) (post_clr p)
            · rw [← hall a d] at p
              obtain ⟨vs, x1, x2, x3⟩ := xf
              have hv := rf_atom x3 hok
              exact h2 av m H _ _ cs _ c (s.set (i := i) (v := .ref a) (d := .ptr a (exq (some l) d)) (.ptr fun d' fs' z => by cases z; rw [← hv]; exact ⟨x1, x2⟩)) (post_clr p)
          · exact p.elim
theorem ds_try {body : List Stmt} {h₀ : ExceptHandler} {hds : List ExceptHandler} {l : List Hd} {gb : Gs} {pos : Pos} (hs : X.stack = X.env :: X.outer) (hf : X.env.frame = some X.env.locals) (hN : X.N.Nodup) (tk : L2.Takes X (fun cls d _ H => EX cls d H)) (hb : DY X body gb) (hh : HJ X (h₀ :: hds) l) :
    DS X EX (.Try body (h₀ :: hds) [] [] pos) (sTry gb l) := by
  obtain ⟨r, h1, h2⟩ := hs_of hh
  refine ⟨_, ps_try_hs hs hf hN tk (tb := fun W Dn σ H => ∀ pn xe, Trx X W pn xe → semB (X.tr pn xe) body Dn σ H) (fun W pn xe t => ⟨fun pins s σ H Dn I h => h pn xe t pins s I⟩) h1, fun av m H σ env cs Dn c s p => ?_⟩
  intro pn xe t
  refine hb.run _ pn xe t av m H σ env cs Dn c s ?_
  unfold sTry at p
  split at p
  · rename_i x fs cs' e
    rw [e]
    intro av' m' H' C dd e2 c2 gC xf
    exact hand_ok (EX := EX) gC h2 c2 (s.mono c.sub e2) xf (PostS.ext e2 p)
  · rename_i o hne
    generalize gb env cs = o at p hne
    match o, p with
    | .ok ⟨.nx, env⟩ cs, p => exact fun a2 m2 H2 σ2 e2 c2 s2 _ => p a2 m2 H2 σ2 e2 c2 s2
    | .ok ⟨.bk, env⟩ cs, p => exact p
    | .ok ⟨.ct, env⟩ cs, p => exact p
    | .ok ⟨.rt d, env⟩ cs, p => exact p
    | .exc x fs cs, p => exact absurd rfl (hne x fs cs)
    | .bad, p => exact p.elim
end
/-! ### the clauses as a program writes them down: for each class of errors, a suite or none -/
abbrev Ent := Str × Option (Addr → Option Addr → Gs)
def Hd.of (slot : Option Nat) (L : List Ent) : Hd := ⟨fun y => (L.lookup y).map (·.isSome), slot, fun y => match L.lookup y with
  | some (some g) => g
  | _ => fun _ _ _ _ => .bad⟩
structure Exm (K : PySem.W.Frag) (mg : Str → Option Value) (y x : Str) (b : Bool) : Prop where
  ex : ∃ Cy Cx : Addr, mg y = some (.ref Cy) ∧ mg x = some (.ref Cx) ∧ PySem.W.exmOne K (.ref Cy) (.ref Cx) = some b
inductive HL (X : Cx) (x : Str) (ss : List Stmt) : List Ent → Prop
  | nil : HL X x ss []
  | no {y : Str} {L : List Ent} (h : Exm X.K X.mg y x false) (r : HL X x ss L) : HL X x ss ((y, none) :: L)
  | yes {y : Str} {g : Addr → Option Addr → Gs} {L : List Ent} (h : Exm X.K X.mg y x true)
      (hs : ∀ (C a : Addr) (oe : Obj) (d : Option Addr) (pn : List (Addr × Obj)), X.mg y = some (.ref C) → Zc (.ref C) d oe → (∃ vs, oe.data = .fields vs) → DSs (X.suite a ((a, oe) :: pn)) E0 ss (g a d)) (r : HL X x ss L) : HL X x ss ((y, some g) :: L)
section
variable {X : Cx}
theorem HL.sel {x : Str} {ss : List Stmt} {L : List Ent} (h : HL X x ss L) : ∀ (y : Str) (o : Option (Addr → Option Addr → Gs)), L.lookup y = some o → Exm X.K X.mg y x o.isSome ∧ ∀ g, o = some g → ∀ (C a : Addr) (oe : Obj) (d : Option Addr) (pn : List (Addr × Obj)), X.mg y = some (.ref C) → Zc (.ref C) d oe → (∃ vs, oe.data = .fields vs) → DSs (X.suite a ((a, oe) :: pn)) E0 ss (g a d) := by
  induction h with
  | nil => intro y o e; cases e
  | @no z L h r ih =>
    intro y o e
    rw [List.lookup_cons] at e
    by_cases q : (y == z) = true
    · rw [q] at e
      cases e
      rw [eq_of_beq q]
      exact ⟨h, fun g z => nomatch z⟩
    · rw [Bool.not_eq_true] at q
      rw [q] at e
      exact ih y o e
  | @yes z g L h hs r ih =>
    intro y o e
    rw [List.lookup_cons] at e
    by_cases q : (y == z) = true
    · rw [q] at e
      cases e
      rw [eq_of_beq q]
      exact ⟨h, fun g e => by cases e; exact hs⟩
    · rw [Bool.not_eq_true] at q
      rw [q] at e
      exact ih y o e
theorem hj_cons {x : Str} {on : Option Str} {slot : Option Nat} {b₀ : Stmt} {su : List Stmt} {np hpos : Pos} {hds : List ExceptHandler} {l : List Hd} {L : List Ent} (hx : ∃ C : Addr, X.mg x = some (.ref C)) (hn : NmOk X on slot) (h : HL X x (b₀ :: su) L) (r : HJ X hds l)
    (hg : Gl X x := by rfl) (hdb : (x == ("__debug__" : Str)) = false := by decide) : HJ X (.ExceptHandler (some (.Name x np)) on (b₀ :: su) hpos :: hds) (Hd.of slot L :: l) := by
  obtain ⟨C, hC⟩ := hx
  refine .cons (c := .ref C) ⟨hg, hdb, .inl hC⟩ hn (fun y b e => ?_) (fun y Cy a oe d pn e gC hz hf => ?_) r
  · obtain ⟨o, e1, e2⟩ := Option.map_eq_some_iff.mp (show (L.lookup y).map (·.isSome) = some b from e)
    obtain ⟨Cy, Cx, h1, h2, h3⟩ := (h.sel y o e1).1.ex
    rw [hC] at h2
    cases h2
    rw [← e2]
    exact ⟨Cy, h1, h3⟩
  · obtain ⟨o, e1, e2⟩ := Option.map_eq_some_iff.mp (show (L.lookup y).map (·.isSome) = some true from e)
    cases o with
    | none => cases e2
    | some g =>
      have := (h.sel y _ e1).2 g rfl Cy a oe d pn gC hz hf
      have e3 : (Hd.of slot L).g y a d = g a d := by
        show (match L.lookup y with | some (some g) => g | _ => fun _ _ _ _ => .bad) a d = _
        rw [e1]
      rw [e3]
      exact this
end
end Dm
set_option linter.all false
set_option maxRecDepth 100000
set_option maxHeartbeats 1000000
/-! Dm: a call of one of several defs, named in a list and picked by a number: [f, g, h][i](..). -/
namespace Dm
open PySem PySem.Spec L2
open PyProof.Rows (envOfC)
/-- the defs' values -/
def tRefs (fs : List Addr) : TA := fun _ H Q => Q (fs.map V.ref) H
/-- what a def at an address promises -/
def HeldG (X : Cx) (f : Addr) (sp : Sp) : Prop := ∃ (k : Nat) (fd : FuncData) (ps : List Str), FnG X.prog X.w X.K X.mg X.base k f fd ps sp ∧ Room k X.A ∧ PySem.W.keepIn X.K (.ref f) = true ∧ Binds X.K fd ps []
section
variable {X : Cx} {EX : XK} {e : Expr} {es : List Expr} {fe : Expr} {pos : Pos}
/-- a call of what an expression says -/
theorem pe_callX {tf : TE} {ta : TA} (hf : PE X fe tf) (ha : PA X (e :: es) ta) (hq : Quiet X.A) (hx : Passes (L2.CX X.prog X.w) X EX)
    (harm : eval (.Call fe (e :: es) [] pos) X.env = (do callWith pos (← eval fe X.env) [] (backTo pos (starEach (e :: es) X.env)) (backToKw pos (keywordEach [] X.env))))
    (he : starEach (e :: es) X.env = (false, eval e X.env) :: starEach es X.env) (hpl : (backTo pos (starEach es X.env)).any (·.1) = false) :
    PE X (.Call fe (e :: es) [] pos) (fun σ H Q => tf σ H fun v H1 => ∃ f sp, v = .ref f ∧ HeldG X f sp ∧ ta σ H1 fun vs H2 => sp vs H2 Q EX) := by
  constructor
  intro pins s σ H Q I h
  rw [harm]
  refine wpAny_bind (thn (hf.run pins s σ H _ I h) fun u s1 ⟨v, H1, I1, r1, q1⟩ => ?_)
  obtain ⟨f, sp, rfl, ⟨k, fd, ps, G, hr, hk, hb⟩, q1⟩ := q1
  cases r1
  refine PySem.W.callWith_K (h₀ := X.base) I1.ok.mod.kin hk ?_ he hpl
  refine thn (ha.run pos pins s1 σ H1 _ I1 q1) fun us s2 ha1 => ?_
  obtain ⟨vs, H2, J, r, q⟩ := ha1
  have hl : (us ++ []).length = ps.length := by rw [List.append_nil, ← r.length]; exact G.len _ _ _ _ q
  have b := hb s2 us J.kIn hl
  rw [List.append_nil] at b
  exact ⟨J.kIn, run_fng G hr hq b hx J r q⟩
/-- the names of a list, the defs behind them -/
inductive FnHs (X : Cx) (n : Nat) : List Expr → List Addr → List Fd → Prop
  | nil : FnHs X n [] [] []
  | cons {x : Str} {p : Pos} {f : Addr} {F : Fd} {es : List Expr} {fs : List Addr} {Fs : List Fd} (hg : Gl X x) (hd : (x == ("__debug__" : Str)) = false) (hs : starEach (.Name x p :: es) X.env = (false, eval (.Name x p) X.env) :: starEach es X.env) (hm : X.mg x = some (.ref f))
      (h : HeldG X f (spG X.K X.mg n F)) (r : FnHs X n es fs Fs) : FnHs X n (.Name x p :: es) (f :: fs) (F :: Fs)
theorem fnh_cal {k n : Nat} {x qual : Str} {st : Stmt} {ps : List Str} {F : Fd} {p : Pos} {es : List Expr} {Fs : List Fd} (c : Cal X.prog X.w X.K X.mg X.base k x qual st ps F) (hr : Room k X.A) (hn : ps.length = n) (r : ∃ fs, FnHs X n es fs Fs)
    (hg : Gl X x := by rfl) (hd : (x == ("__debug__" : Str)) = false := by decide) (hs : starEach (.Name x p :: es) X.env = (false, eval (.Name x p) X.env) :: starEach es X.env := by rfl) : ∃ fs, FnHs X n (.Name x p :: es) fs (F :: Fs) := by
  obtain ⟨fs, r⟩ := r
  obtain ⟨f, fd, G, hm, fn, hb⟩ := c.ex
  subst hn
  exact ⟨f :: fs, .cons hg hd hs hm ⟨k, fd, ps, G, hr, fn.kp, hb⟩ r⟩
theorem fnh_nil {n : Nat} : ∃ fs, FnHs X n [] fs [] := ⟨[], .nil⟩
theorem FnHs.pa {n : Nat} : ∀ {es : List Expr} {fs : List Addr} {Fs : List Fd}, FnHs X n es fs Fs → PA X es (tRefs fs)
  | _, _, _, .nil => pa_nil
  | _, _, _, .cons hg hd hs hm h r => pa_cons (pe_glob hg hm (v := .ref _) rfl hd) r.pa hs
theorem FnHs.at {n : Nat} : ∀ {es : List Expr} {fs : List Addr} {Fs : List Fd} {j : Nat} {F : Fd}, FnHs X n es fs Fs → Fs[j]? = some F → ∃ f, fs[j]? = some f ∧ HeldG X f (spG X.K X.mg n F)
  | _, _, _, _, _, .nil, h => by simp at h
  | _, _, _, 0, _, .cons hg hd hs hm h r, q => by simp at q; subst q; exact ⟨_, rfl, h⟩
  | _, _, _, j + 1, _, .cons hg hd hs hm h r, q => by
    obtain ⟨f, h1, h2⟩ := r.at (j := j) (by simpa using q)
    exact ⟨f, by simpa using h1, h2⟩
theorem FnHs.len {n : Nat} : ∀ {es : List Expr} {fs : List Addr} {Fs : List Fd}, FnHs X n es fs Fs → fs.length = Fs.length
  | _, _, _, .nil => rfl
  | _, _, _, .cons _ _ _ _ _ r => by simp [r.len]
theorem FnHs.atI {n : Nat} {es : List Expr} {fs : List Addr} {Fs : List Fd} {i : Int} {F : Fd} (N : FnHs X n es fs Fs) (h : L2.atI Fs i = some F) : ∃ f, L2.atI (fs.map V.ref) i = some (.ref f) ∧ HeldG X f (spG X.K X.mg n F) := by
  unfold L2.atI at h ⊢
  rw [List.length_map, N.len]
  cases z : ixN Fs.length i with
  | none => rw [z] at h; simp at h
  | some j =>
    rw [z] at h
    obtain ⟨f, h1, h2⟩ := N.at (j := j) (by simpa using h)
    exact ⟨f, by simp [h1], h2⟩
/-- one of the defs Fs, by number -/
def gCallL (n : Nat) (M : Fd → Fd) (Fs : List Fd) (gi : Gx) (a : Ga) : Gx := fun env cs => (gi env cs).bind fun d cs => match d with
  | .int i => match L2.atI Fs i with
    | some F => (a env cs).bind (argN n (M F))
    | none => .bad
  | _ => .bad
/-- a way to call a def -/
def Way (M : Fd → Fd) : Prop := ∀ {EX : XK} {K : PySem.W.Frag} {mg : Str → Option Value} {n : Nat} {F : Fd} av m H cs vs ds Q, RC K mg av m H cs → RL K av m H vs ds → PostE K mg av m H EX Q (argN n (M F) ds cs) → spG K mg n F vs H Q EX
theorem way_K : Way fun F => F := sp_K
theorem way_S : Way callS := sp_S
theorem way_P : Way callP := sp_P
theorem de_callL {n : Nat} {M : Fd → Fd} {fes : List Expr} {Fs : List Fd} {ie : Expr} {gi : Gx} {a : Ga} {lp sp : Pos} (hM : Way M) (N : ∃ fs, FnHs X n fes fs Fs) (hl : Fs.length ≤ 1000) (hi : DE X EX ie gi) (ha : DA X EX (e :: es) a) (hq : Quiet X.A) (hx : Passes (L2.CX X.prog X.w) X EX)
    (hs : PlainIx ie := by intro _ _; rfl)
    (harm : eval (.Call (.Subscript (.List fes lp) ie sp) (e :: es) [] pos) X.env = (do callWith pos (← eval (.Subscript (.List fes lp) ie sp) X.env) [] (backTo pos (starEach (e :: es) X.env)) (backToKw pos (keywordEach [] X.env))) := by rfl)
    (he : starEach (e :: es) X.env = (false, eval e X.env) :: starEach es X.env := by rfl) (hpl : (backTo pos (starEach es X.env)).any (·.1) = false := by rfl) :
    DE X EX (.Call (.Subscript (.List fes lp) ie sp) (e :: es) [] pos) (gCallL n M Fs gi a) := by
  obtain ⟨fs, N⟩ := N
  obtain ⟨ti, h1, k1⟩ := hi
  obtain ⟨ta, h2, k2⟩ := ha
  refine ⟨_, pe_callX (pe_ix ix_list (pe_lst N.pa) h1 hs) h2 hq hx harm he hpl, fun av m H σ env cs Q c s p => ?_⟩
  unfold gCallL at p
  refine ⟨by rw [List.length_map, N.len]; exact le_line hl, fun q hq0 => ?_⟩
  have e0 : Ext av m H av m (upd H q (.lst (fs.map V.ref))) := Ext.fresh hq0
  have c0 : RC X.K X.mg av m (upd H q (.lst (fs.map V.ref))) cs := c.fresh hq0
  refine k1 av m _ σ env cs _ c0 (s.mono c.sub e0) (PostE.bind (p.ext e0) fun d cs1 av1 m1 H1 v e1 c1 r1 p1 => ?_)
  split at p1
  · rename_i i
    split at p1
    · rename_i F hF
      cases r1
      obtain ⟨f, hf, hh⟩ := N.atI hF
      have hq1 : H1 q = some (.lst (fs.map V.ref)) := e1.keep q _ upd_same fun z => c.trk q (c.sub q z) hq0
      refine ⟨q, _, i, .ref f, rfl, rfl, .inl (.of hq1), hf, f, _, rfl, hh, ?_⟩
      exact k2 av1 m1 H1 σ env cs1 _ c1 ((s.mono c.sub e0).mono c0.sub e1) (PostA.bindE p1 fun ds cs2 av2 m2 H2 vs e2 c2 r2 p2 => hM av2 m2 H2 cs2 vs ds Q c2 r2 p2)
    · exact p1.elim
  · exact p1.elim
end
end Dm
set_option linter.all false
set_option maxRecDepth 100000
set_option maxHeartbeats 1000000
/-! Dm: [.., *xs, ..]; any(xs) of truth values; for .. in zip(xs, ys). -/
namespace Dm
open PySem PySem.Spec L2
section
variable {X : Cx} {EX : XK} {e : Expr} {es : List Expr} {a : Ga} {pos : Pos}
/-- *e ahead of the rest -/
def aStar (g : Gx) (r : Ga) : Ga := fun env cs => (g env cs).bind fun d cs => match asS cs d with
  | some xs => (r env cs).bind fun ys cs => .ok (xs ++ ys) cs
  | none => .bad
theorem da_star {g : Gx} {r : Ga} {p : Pos} (he : DE X EX e g) (hr : DA X EX es r) (hs : starEach (.Starred e p :: es) X.env = (true, eval e X.env) :: starEach es X.env := by rfl) : DA X EX (.Starred e p :: es) (aStar g r) := by
  obtain ⟨t, h, k⟩ := he
  obtain ⟨u, h', k'⟩ := hr
  refine ⟨_, StX.pa_star h h' hs, fun av m H σ env cs Q c s p => k av m H σ env cs _ c s (PostE.bindA p fun d cs1 av1 m1 H1 v e1 c1 r1 p1 => ?_)⟩
  split at p1
  · rename_i ds hd
    obtain ⟨a, xs, rfl, hx, l⟩ := asS_ok c1 r1 hd
    refine ⟨a, xs, rfl, hx.symm, ?_⟩
    refine k' av1 m1 H1 σ env cs1 _ c1 (s.mono c.sub e1) (PostA.bindA p1 fun fs cs2 av2 m2 H2 vs e2 c2 r2 p2 => ?_)
    exact p2 av2 m2 H2 (xs ++ vs) (Ext.refl ..) c2 ((l.mono c1.sub e2).append r2)
  · exact p1.elim
/-! any, all -/
def anyD : List D → List C → Out D
  | [d], cs => match asL cs d with
    | some xs => match blsOf xs with
      | some bs => .ok (.bl (bs.any id)) cs
      | none => .bad
    | none => .bad
  | _, _ => .bad
theorem cd_any {K : PySem.W.Frag} {mg : Str → Option Value} : CallD K mg EX (rAny K) anyD := by
  intro av m H cs xs ds Q c r q
  unfold anyD at q
  split at q
  · cases r with
    | cons r t =>
      cases t
      split at q
      · rename_i ys hy
        split at q
        · rename_i bs hn
          obtain ⟨b, vs, rfl, hs, l⟩ := asL_ok c r hy
          exact ⟨b, bs, rfl, by rw [← blsOf_ok l hn]; exact hs, q.here c (.bl _)⟩
        · exact q.elim
      · exact q.elim
  · exact q.elim
theorem de_any {p : Pos} (hc : X.calm = true) (ha : DA X EX [e] a) (hm : X.mg "any" = none) (hg : Gl X "any" := by rfl) (he : starEach [e] X.env = (false, eval e X.env) :: starEach [] X.env := by rfl) (hpl : (backTo pos (starEach [] X.env)).any (·.1) = false := by rfl) : DE X EX (.Call (.Name "any" p) [e] [] pos) (gA anyD a) :=
  de_callB (cr_any hc) cd_any hg hm (by decide +kernel) ha (by decide) (by decide) he hpl
/-! zip of two lists -/
def zipD : List D → List D → List D
  | x :: xs, y :: ys => .tup [x, y] :: zipD xs ys
  | _, _ => []
theorem zipD_get : ∀ (xs ys : List D) (i : Nat), (zipD xs ys)[i]? = (xs[i]?.bind fun x => ys[i]?.map fun y => D.tup [x, y])
  | [], _, i => by simp [zipD]
  | x :: xs, [], i => by cases h : (x :: xs)[i]? <;> simp [zipD]
  | x :: xs, y :: ys, 0 => by simp [zipD]
  | x :: xs, y :: ys, i + 1 => by simp only [zipD, List.getElem?_cons_succ]; exact zipD_get xs ys i
theorem zipD_len : ∀ (xs ys : List D), (zipD xs ys).length = min xs.length ys.length
  | [], _ => by simp [zipD]
  | x :: xs, [] => by simp [zipD]
  | x :: xs, y :: ys => by simp only [zipD, List.length_cons, zipD_len xs ys]; omega
theorem walk_zipD {K : PySem.W.Frag} {mg : Str → Option Value} {av m : List Addr} {H : Hp} {a b : Addr} {xs ys : List V} {ds fs : List D} (sub : ∀ b ∈ m, b ∈ av) (l : RL K av m H xs ds) (l2 : RL K av m H ys fs) (h : ∀ av' m' H', Wk av m H av' m' H' → SqL K H' a xs) (h2 : ∀ av' m' H', Wk av m H av' m' H' → SqL K H' b ys) : WalkD K mg av m H (Itz K a b) (zipD ds fs) where
  go := fun i d av' m' H' hd e => by
    rw [zipD_get] at hd
    obtain ⟨d1, g1, hd⟩ := Option.bind_eq_some_iff.mp hd
    obtain ⟨d2, g2, _⟩ := Option.map_eq_some_iff.mp hd
    obtain ⟨v, q1, _⟩ := l.get g1
    obtain ⟨w, q2, _⟩ := l2.get g2
    exact ⟨xs, ys, v, w, h _ _ _ e, h2 _ _ _ e, q1, q2⟩
  yld := fun i d av' m' H' x H'' cs hd e c y => by
    obtain ⟨T, z, w, rfl, hT, rfl, hy, hz⟩ := y
    rw [zipD_get] at hd
    obtain ⟨d1, g1, hd⟩ := Option.bind_eq_some_iff.mp hd
    obtain ⟨d2, g2, rfl⟩ := Option.map_eq_some_iff.mp hd
    obtain ⟨v, q1, r⟩ := l.get g1
    obtain ⟨u, q2, r2⟩ := l2.get g2
    obtain rfl : v = z := Option.some.inj (q1.symm.trans (hy xs (h _ _ _ e)))
    obtain rfl : u = w := Option.some.inj (q2.symm.trans (hz ys (h2 _ _ _ e)))
    have r1 : RL K av' m' H' [v, u] [d1, d2] := .cons (r.monoW sub e) (.cons (r2.monoW sub e) .nil)
    exact ⟨Ext.fresh hT, c.fresh hT, .tup upd_same (c.notin hT) (r1.fresh c hT)⟩
  stop := fun i av' m' H' hi e => by
    rw [zipD_len] at hi
    refine ⟨xs, ys, h _ _ _ e, h2 _ _ _ e, ?_⟩
    rw [l.length, l2.length]
    omega
/-- for .. in zip(xs, ys), both values -/
def iZ (a : Ga) : Ga := fun env cs => (a env cs).bind fun ds cs => match ds with
  | [d, f] => match asV d, asV f with
    | some xs, some ys => .ok (zipD xs ys) cs
    | _, _ => .bad
  | _ => .bad
theorem di_zip {e2 : Expr} {p tpos : Pos} {elts : List Expr} {kk : Nat} (hg : Gl X "zip") (hm : X.mg "zip" = none) (ha : DA X EX [e, e2] a) (hs : starEach [e, e2] X.env = (false, eval e X.env) :: starEach [e2] X.env := by rfl) (hpl : (backTo pos (starEach [e2] X.env)).any (·.1) = false := by rfl) :
    DI X EX (.Tuple elts kk tpos) (.Call (.Name "zip" p) [e, e2] [] pos) (iZ a) := by
  obtain ⟨t, h, k⟩ := ha
  refine ⟨_, pi_zip hg hm h hs hpl, fun av m H σ env cs Q c s p => k av m H σ env cs _ c s (PostA.bindI p fun ds cs1 av1 m1 H1 vs e1 c1 r1 p1 => ?_)⟩
  split at p1
  · cases r1 with
    | cons r t =>
      cases t with
      | cons r2 t =>
        cases t
        split at p1
        · rename_i xs ys hx hy
          obtain ⟨a, us, rfl, l, hs⟩ := asV_ok c1 r hx
          obtain ⟨b, ws, rfl, l2, hs2⟩ := asV_ok c1 r2 hy
          exact ⟨a, b, us, ws, rfl, (hs _ _ _ ((Ext.refl ..).wk c1.sub)).1, (hs2 _ _ _ ((Ext.refl ..).wk c1.sub)).1, p1 av1 m1 H1 _ (Ext.refl ..) c1 (walk_zipD c1.sub l l2 (fun _ _ _ e => (hs _ _ _ e).1) fun _ _ _ e => (hs2 _ _ _ e).1)⟩
        · exact p1.elim
  · exact p1.elim
end
end Dm
set_option linter.all false
set_option maxRecDepth 100000
set_option maxHeartbeats 1000000
/-! Dm: list(range(a, b)). -/
namespace Dm
open PySem PySem.Spec L2 PyProof.Rows
section
variable {X : Cx} {EX : XK} {pos cpos : Pos}
theorem rgV_RL2 {K : PySem.W.Frag} {av m : List Addr} {H : Hp} (lo : Int) : ∀ l : List Nat, RL K av m H (l.map fun i => V.int (lo + (i : Nat))) (l.map fun i => D.int (lo + (i : Nat)))
  | [] => .nil
  | _ :: l => .cons (.int _) (rgV_RL2 lo l)
def listR2D : D → D → List C → Out D := fun d f cs => match d, f with
  | .int i, .int j => if 0 ≤ i ∧ i ≤ 16777216 ∧ 0 ≤ j ∧ j ≤ 16777216 then .ok (.lst (rngD i (j - i).toNat)) cs else .bad
  | _, _ => .bad
def gListR2 (g h : Gx) : Gx := fun env cs => (g env cs).bind fun d cs => (h env cs).bind fun f cs => listR2D d f cs
theorem de_listR2 {p q : Pos} {e f : Expr} {g h : Gx} (hc : X.calm = true) (he : DE X EX e g) (hf : DE X EX f h) (hm : X.mg "list" = none) (hm2 : X.mg "range" = none) (hg : Gl X "list" := by rfl) (hg2 : Gl X "range" := by rfl)
    (na : starEach [e, f] X.env = (false, eval e X.env) :: starEach [f] X.env := by rfl) (nb : starEach [f] X.env = (false, eval f X.env) :: starEach [] X.env := by rfl) (hp : (backTo cpos (starEach [f] X.env)).any (·.1) = false := by rfl)
    (hl : starEach [.Call (.Name "range" q) [e, f] [] cpos] X.env = (false, eval (.Call (.Name "range" q) [e, f] [] cpos) X.env) :: starEach [] X.env := by rfl) :
    DE X EX (.Call (.Name "list" p) [.Call (.Name "range" q) [e, f] [] cpos] [] pos) (gListR2 g h) := by
  obtain ⟨t, h1, k1⟩ := he
  obtain ⟨t2, h2, k2⟩ := hf
  refine ⟨_, pe_listRg hc hg hm (prg_2 hg2 hm2 h1 h2 na nb hp) hl, fun av m H σ env cs Q c s p => ?_⟩
  refine k1 av m H σ env cs _ c s (PostE.bind p fun d cs1 av1 m1 H1 v e1 c1 r1 p1 => ?_)
  refine k2 av1 m1 H1 σ env cs1 _ c1 (s.mono c.sub e1) (PostE.bind p1 fun d2 cs2 av2 m2 H2 v2 e2 c2 r2 p2 => ?_)
  have r3 := r1.mono c1.sub e2
  clear r1
  unfold listR2D at p2
  split at p2
  · rename_i i j
    cases r3
    cases r2
    split at p2
    · rename_i hn
      refine ⟨i, j, rfl, rfl, RgOk.of_le hn.1 hn.2.2.2 hn.2.1 hn.2.2.1, fun b hb => ?_⟩
      refine PostE.newL c2 p2 hb ?_
      exact rgV_RL2 i _
    · exact p2.elim
  · exact p2.elim
end
end Dm
set_option linter.all false
set_option maxRecDepth 100000
set_option maxHeartbeats 4000000
/-! Dm: set(xs) for keys of any kind, with repeats: the filling loop. -/
namespace Dm
open PySem PySem.Spec L2
section
variable {K : Type} [DecidableEq K]
/-- the different ones among the first i, in the order of their meeting -/
def met (val : Nat → K) : Nat → List K
  | 0 => []
  | i + 1 => if val i ∈ met val i then met val i else met val i ++ [val i]
theorem met_mem (val : Nat → K) (i : Nat) (k : K) : k ∈ met val (i + 1) ↔ k ∈ met val i ∨ k = val i := by
  rw [met]
  split
  · rename_i h
    exact ⟨.inl, fun z => z.elim id fun e => e ▸ h⟩
  · simp
theorem met_len (val : Nat → K) (i : Nat) : (met val (i + 1)).length = if decide (val i ∈ met val i) then (met val i).length else (met val i).length + 1 := by
  rw [met]
  by_cases h : val i ∈ met val i
  · simp [h]
  · simp [h]
theorem met_le (val : Nat → K) : ∀ i, (met val i).length ≤ i
  | 0 => by simp [met]
  | i + 1 => by
    have := met_le val i
    rw [met_len]
    split <;> omega
theorem met_nd (val : Nat → K) : ∀ i, (met val i).Nodup
  | 0 => List.nodup_nil
  | i + 1 => by
    have ih := met_nd val i
    rw [met]
    split
    · exact ih
    · rename_i h
      exact List.nodup_append.mpr ⟨ih, by simp, fun a ha b hb e => h (by rw [List.mem_singleton.mp hb] at e; exact e ▸ ha)⟩
theorem met_all (val : Nat → K) : ∀ i k, k ∈ met val i ↔ ∃ j, j < i ∧ val j = k
  | 0, k => by simp [met]
  | i + 1, k => by
    rw [met_mem, met_all val i k]
    constructor
    · rintro (⟨j, h, e⟩ | rfl)
      · exact ⟨j, by omega, e⟩
      · exact ⟨i, by omega, rfl⟩
    · rintro ⟨j, h, e⟩
      by_cases hj : j = i
      · exact .inr (by rw [← e, hj])
      · exact .inl ⟨j, by omega, e⟩
variable {prog : Program} {w : World} {A : Around} {knd : KeyKind prog w K} {fin : Result → Shared → Prop} {it : Addr} {fp wr : List Addr} {gg : Array GenState → Array GenState → Prop} {n : Nat} {Pv : Nat → Value → Prop} {St : Nat → Shared → Prop}
def Filled (knd : KeyKind prog w K) (a : Addr) (l : List K) (h : Heap) : Prop := h.SetOf knd a (fun k => decide (k ∈ l)) l.length
theorem Filled.keep {a : Addr} {l : List K} {h h' : Heap} (F : Filled knd a l h) (k : ∀ o, h.get? a = some o → h'.get? a = some o) : Filled knd a l h' := by
  obtain ⟨o, es, ep, t, z, r⟩ := F
  exact ⟨o, es, ep, t, k o z, r⟩
theorem fill_K (W : WalksS prog w A.in1 it fp wr gg n Pv St) (a : Addr) (na : a ∉ fp) (val : Nat → K) (hv : ∀ i v, Pv i v → knd.is (val i) v = true ∧ v.scannable = true) (small : n + 1 < scanBound)
    : ∀ (d i : Nat) (s : Shared), i + d = n → St i s → Filled knd a (met val i) s.heap →
      (∀ s', Moved (a :: wr) gg s s' → Filled knd a (met val n) s'.heap → fin (.ok (.ret .none)) s') →
      codeAny (model prog w) A (.builtin "set.update.loop" ⟨[.ref a, .ref it], []⟩) fin s := by
  have naw : a ∉ wr := fun z => na (W.sub _ z)
  have more : ∀ b, b ∈ wr → b ∈ a :: wr := fun b z => .tail _ z
  intro d
  induction d with
  | zero =>
    intro i s e st F q
    obtain rfl : i = n := e
    refine codeAny_builtin PyProof.Rows.F.entry_set_update_loop ?_
    rw [Around.under_plainId PyProof.Rows.F.plain_set_update_loop]
    show wpAny _ A.in1 (bind (pyNext (.ref it)) _) _ _ s
    refine wpAny_bind (W.done s _ _ st fun s1 mv => ?_)
    show wpAny _ A.in1 (ret .none) _ _ s1
    exact wpAny_pure (q s1 (mv.mono more) (F.keep fun o z => mv.heap a _ naw z))
  | succ d ih =>
    intro i s e st F q
    refine codeAny_builtin PyProof.Rows.F.entry_set_update_loop ?_
    rw [Around.under_plainId PyProof.Rows.F.plain_set_update_loop]
    show wpAny _ A.in1 (bind (pyNext (.ref it)) _) _ _ s
    refine wpAny_bind (W.item i s _ _ (by omega) st fun v s1 pv st1 mv => ?_)
    obtain ⟨is, sc⟩ := hv i v pv
    have F1 : Filled knd a (met val i) s1.heap := F.keep fun o z => mv.heap a _ naw z
    show wpAny _ A.in1 (bind (holding [v] (setAdd a v)) _) _ _ s1
    refine wpAny_bind (wpAny_holding ?_)
    unfold setAdd
    refine wpAny_holding (wpAny_bind (knd.pyHash is ?_))
    have room := met_le val i
    refine wpAny_setAddHashed_of (s := { s1 with toks := s1.toks + 1 }) is sc F1 (by omega) fun h2 sb F2 => ?_
    have F3 : Filled knd a (met val (i + 1)) h2 := by
      have e1 : (fun k => decide (k ∈ met val (i + 1))) = fun k => decide (k ∈ met val i) || decide (k = val i) := funext fun k => by
        rw [Bool.eq_iff_iff]
        simp [met_mem]
      unfold Filled
      rw [e1, met_len]
      exact F2
    refine wpAny_pure ⟨plainId_quiet PyProof.Rows.F.plain_set_update_loop _, ih (i + 1) _ (by omega) (W.frame _ s1 _ _ st1 (Nat.le_succ _) fun b hb o z => ?_) F3 fun s3 mv3 F4 => ?_⟩
    · have : b ≠ a := fun x => na (x ▸ hb)
      rw [sb.2 b this]; exact z
    · refine q s3 (Moved.trans W.gtrans ((mv.mono more).then_heap (Nat.le_succ _) fun b o hb z => ?_) mv3) F4
      have : b ≠ a := fun x => hb (x ▸ .head _)
      rw [sb.2 b this]; exact z
variable {E : Value → Shared → Prop} {s : Shared}
abbrev mtSet (led : Bool) : Obj := { cls := .type "set", dict := none, data := .set #[] 0 (.fresh 0 0 led) }
/-- set(xs) of a list -/
theorem set_list_K {l : Addr} {us : Array Value} {Q : Value → Shared → Prop} (hh : A.handled = none) (hl : s.heap.IsList l us) (val : Nat → K) (hv : ∀ i v, us[i]? = some v → knd.is (val i) v = true ∧ v.scannable = true) (small : us.size + 1 < scanBound)
    (q : ∀ (h2 : Heap) (tk : Nat), Filled knd s.heap.objs.size (met val us.size) h2 → (∀ b o, b < s.heap.objs.size → s.heap.get? b = some o → h2.get? b = some o) → Q (.ref s.heap.objs.size) { s with heap := h2, toks := tk }) : wpAny (model prog w) A (call (.type "set") [.ref l]) Q E s := by
  have ⟨c, tl, r1⟩ := PySem.F.called_set.mro
  have r2 := PySem.F.called_set.made
  have r3 := PySem.F.called_set.sub
  have r4 := PySem.F.called_set.notType
  have r5 := PySem.F.called_set.canCreate
  have r6 := PySem.F.typeCall_set_1 (.ref l)
  refine (wpAny_call <| codeAny_of_tree ?_)
  show wpAny _ _ (callAny (.type "set") _) _ _ s
  refine wpAny_pure (And.intro (Code.quiet_builtin _ (by decide +kernel)) (codeAny_builtin F.entry_type_call ?_))
  rw [Around.under_plain (weight_type_call_type "set" [.ref l] []) (by rfl)]
  repeat any_goals first | assumption | wp_step
  let M (led : Bool) : Heap := s.heap.push (mtSet led)
  refine codeAny_mono (code_set_new_1 (.ref l) (E := E) (Q₁ := fun x s1 => ∃ led : Bool, x = .ref s.heap.objs.size ∧ s1 = { s with heap := M led }) fun led => ⟨led, rfl, rfl⟩) fun r s1 z => ?_
  match r, z with
  | .error _, z => exact z
  | .ok (.ret x), ⟨led, e1, e2⟩ =>
    subst e1 e2
    have at0 : (M led).get? s.heap.objs.size = some (mtSet led) := Heap.get?_push_size _ rfl
    have ty : Shared.TypeIs { s with heap := M led } (.ref s.heap.objs.size) "set" := ⟨_, at0, rfl⟩
    have r7 := PySem.F.called_set.init.lookup
    have r8 := PySem.F.called_set.init.bind (.ref s.heap.objs.size)
    repeat any_goals first | assumption | wp_step
    refine codeAny_mono (codeAny_call_builtin (R := wants (fun x s2 => x = .none ∧ ∃ h2 tk, s2 = { s with heap := h2, toks := tk } ∧ Filled knd s.heap.objs.size (met val us.size) h2 ∧ ∀ b o, b < s.heap.objs.size → s.heap.get? b = some o → h2.get? b = some o) E) PySem.F.called_set.init.plain PySem.F.entry_set_init (check_set_init_1 ty ?_)) fun r2 s2 z2 => ?_
    · have il : (M led).IsList l us := hl.push _
      have lt : l < s.heap.objs.size := by obtain ⟨o, z, _⟩ := hl; exact Heap.lt_size z
      obtain ⟨⟨cl, di, da, sl⟩, ol, oc, nl, od⟩ := id hl
      simp only at oc od
      subst oc od
      have ol2 : (M led).get? l = some { cls := .type "list", dict := di, data := .seq us nl, slots := sl } := Heap.get?_push_of_some _ ol
      have r9 := PySem.F.sub_list_set
      have r10 := PySem.F.sub_list_frozenset
      have r11 : (Value.type "list" == Value.type "dict") = false := by decide
      unfold Builtin.«set.__init__» noKeywords Builtin.Frozenset.updateFrom
      generalize ep : pyIter = PI
      wp_walk
      subst ep
      refine wpAny_pyIter_list il (wpAny_bind (wpAny_runValue ?_))
      have sz : (M led).objs.size = s.heap.objs.size + 1 := Heap.size_push ..
      have no : A.in1.in1.in1.handled = none := by simp [hh]
      have ne : l ≠ (M led).objs.size := by rw [sz]; exact Nat.ne_of_lt (Nat.lt_succ_of_lt lt)
      have nf : s.heap.objs.size ∉ [(M led).objs.size, l] := by
        rw [sz, List.mem_cons, List.mem_singleton, not_or]
        exact ⟨Nat.ne_of_lt (Nat.lt_succ_self _), Nat.ne_of_gt lt⟩
      refine fill_K ((Walks.list no _ l ne us).toS) s.heap.objs.size nf val hv small us.size 0 _ (by omega) ⟨⟨_, Heap.get?_push_size _ rfl, rfl, rfl⟩, il.push _⟩ ?_ ?_
      · exact PyProof.Rows.SetOf_congr ((PyProof.Rows.setObjOf_fresh (knd := knd) led).setOf (Heap.get?_push_of_some _ at0) (by unfold scanBound; omega)) (fun _ => by rfl) (by rfl)
      · rintro ⟨h2, g2, d2, tk, os⟩ mv F
        obtain rfl : g2 = s.gens := mv.gens
        obtain rfl : d2 = s.drawn := mv.drawn
        obtain rfl : os = s.os := mv.os
        refine wpAny_pure (wpAny_pure ⟨rfl, h2, tk, rfl, F, fun b o hb z => ?_⟩)
        refine mv.heap b o ?_ (Heap.get?_push_of_some _ (Heap.get?_push_of_some _ z))
        rw [sz, List.mem_cons, List.mem_singleton, not_or]
        exact ⟨Nat.ne_of_lt hb, Nat.ne_of_lt (Nat.lt_succ_of_lt hb)⟩
    · match r2, z2 with
      | .error _, z2 => exact z2
      | .ok (.ret x), ⟨e3, h2, tk, e4, F, k⟩ =>
        subst e3 e4
        repeat any_goals first | assumption | wp_step
        exact q _ _ F k
end
end Dm
set_option linter.all false
set_option maxRecDepth 100000
set_option maxHeartbeats 2000000
/-! Dm: len(set(xs)), xs a list of texts, with repeats. -/
namespace Dm
open PySem PySem.Spec L2
section
open PyProof.Rows
variable {X : Cx} {EX : XK} {pos : Pos} {K : PySem.W.Frag} {mg : Str → Option Value}
/-- how many different texts -/
def manyS (xs : List Str) : Nat := (met (fun i => xs.getD i Str.empty) xs.length).length
theorem manyS_le (xs : List Str) : manyS xs ≤ xs.length := met_le ..
/-- a list without repeats of the same texts has as many -/
theorem manyS_eq {xs ys : List Str} (h : ys.Nodup) (e : ∀ x, x ∈ ys ↔ x ∈ xs) : manyS xs = ys.length := by
  have p : (met (fun i => xs.getD i Str.empty) xs.length).Perm ys := by
    refine (List.perm_ext_iff_of_nodup (met_nd _ _) h).mpr fun x => ?_
    rw [met_all, e]
    constructor
    · rintro ⟨i, hi, rfl⟩
      show xs.getD i Str.empty ∈ xs
      rw [List.getD_eq_getElem?_getD, List.getElem?_eq_getElem hi]
      exact List.getElem_mem hi
    · intro hx
      obtain ⟨i, hi⟩ := List.getElem?_of_mem hx
      refine ⟨i, (List.getElem?_eq_some_iff.mp hi).1, ?_⟩
      show xs.getD i Str.empty = x
      rw [List.getD_eq_getElem?_getD, hi]; rfl
  exact p.length_eq
def tLenSetK (K : PySem.W.Frag) (ta : TE) : TE := fun σ H Q => ta σ H fun x H1 => ∃ (l : Addr) (xs : List Str), x = .ref l ∧ SqL K H1 l (xs.map V.str) ∧ xs.length ≤ 4000 ∧ Q (.int (manyS xs : Nat)) H1
theorem pe_lenSetK {a : Expr} {ta : TE} {p p2 q pos : Pos} (hc : X.calm = true) (hg : Gl X "len") (hm : X.mg "len" = none) (hg2 : Gl X "set") (hm2 : X.mg "set" = none) (ha : PE X a ta)
    (na : starEach [a] X.env = (false, eval a X.env) :: starEach [] X.env := by rfl) : PE X (.Call (.Name "len" p) [.Call (.Name "set" p2) [a] [] q] [] pos) (tLenSetK X.K ta) := by
  refine ⟨fun pins s σ H Q I h => ?_⟩
  refine Call_ (ld_blt I hg hm PySem.boot_len (callWith_builtin1 (args_cons ?_ rfl) rfl rfl))
  refine Call_ (ld_blt I hg2 hm2 boot_set (callWith_type1 (args_cons (thn (ha.run pins s σ H _ I h) fun v s1 ⟨x, H1, I1, r1, q1⟩ => args_nil ?_) na) na rfl))
  obtain ⟨l, xs, rfl, hq, hl, q1⟩ := q1
  cases r1
  obtain ⟨its, r, pl, hz⟩ := I1.list hq
  have n1 : its.toArray.size = xs.length := by rw [List.size_toArray, ← r.length, List.length_map]
  have ml := manyS_le xs
  refine set_list_K (knd := PySem.strKind X.prog X.w) (I1.ok.hd hc) pl.isList (fun i => xs.getD i Str.empty) (fun i v hv => ?_) (by rw [n1]; unfold scanBound; omega) fun h2 tk F k => args_nil ?_
  · obtain ⟨t, rfl⟩ := SS.strs_at (strsAre_of r) i v (by simpa using hv)
    exact ⟨strKind_is _ _ _ _, rfl⟩
  · rw [n1] at F
    obtain ⟨o, es, ep, t, ho, hex, hd, _, _, _, hf, hn⟩ := F
    have I2 : Inv X pins σ H1 { s1 with heap := h2, toks := tk } := I1.kept fun b o e => k b o (Heap.lt_size e) e
    have hn : es.size = manyS xs := hn
    exact call_len_set ho hex hd hf (by rw [hn]; omega) ⟨.int (manyS xs : Nat), H1, I2.tok _, ⟨_, by rw [hn]⟩, q1⟩
def strsOf : List D → Option (List Str)
  | [] => some []
  | .str i :: r => (strsOf r).map (i :: ·)
  | _ => none
theorem strsOf_ok {av m : List Addr} {H : Hp} : ∀ {vs : List V} {ds : List D} {ns : List Str}, RL K av m H vs ds → strsOf ds = some ns → vs = ns.map V.str
  | _, _, _, .nil, h => by cases h; rfl
  | _, _, ns, .cons r t, h => by
    cases r with
    | str i =>
      unfold strsOf at h
      obtain ⟨l, h1, h2⟩ := Option.map_eq_some_iff.mp h
      subst h2
      rw [List.map_cons, strsOf_ok t h1]
    | _ => cases h
theorem strsOf_map : ∀ xs : List Str, strsOf (xs.map D.str) = some xs
  | [] => rfl
  | x :: xs => by
    show (strsOf (xs.map D.str)).map _ = _
    rw [strsOf_map xs]; rfl
def lenSetSD : D → List C → Out D := fun d cs => match asL cs d with
  | some xs => match strsOf xs with
    | some ns => if ns.length ≤ 4000 then .ok (.int (manyS ns : Nat)) cs else .bad
    | none => .bad
  | none => .bad
def gLenLS (g : Gx) : Gx := fun env cs => (g env cs).bind lenSetSD
theorem de_lenSetLS {p p2 q pos : Pos} {e : Expr} {g : Gx} (hc : X.calm = true) (h : DE X EX e g) (hm : X.mg "len" = none) (hm2 : X.mg "set" = none) (hg : Gl X "len" := by rfl) (hg2 : Gl X "set" := by rfl)
    (na : starEach [e] X.env = (false, eval e X.env) :: starEach [] X.env := by rfl) : DE X EX (.Call (.Name "len" p) [.Call (.Name "set" p2) [e] [] q] [] pos) (gLenLS g) := by
  obtain ⟨t, h, k⟩ := h
  refine ⟨_, pe_lenSetK hc hg hm hg2 hm2 h na, fun av m H σ env cs Q c s p => ?_⟩
  refine k av m H σ env cs _ c s (PostE.bind p fun d cs1 av1 m1 H1 v e1 c1 r1 p1 => ?_)
  unfold lenSetSD at p1
  split at p1
  · rename_i xs hxs
    split at p1
    · rename_i ns hn
      split at p1
      · rename_i hl
        obtain ⟨b, us, rfl, hq, l⟩ := asL_ok c1 r1 hxs
        exact ⟨b, ns, rfl, by rw [← strsOf_ok l hn]; exact hq, hl, p1.here c1 (.int _)⟩
      · exact p1.elim
    · exact p1.elim
  · exact p1.elim
end
end Dm
set_option linter.all false
set_option maxRecDepth 100000
set_option maxHeartbeats 2000000
/-! Dm: a dict that is read while it is walked: the cell is locked meanwhile. -/
namespace Dm
open PySem PySem.Spec L2
section
variable {K : PySem.W.Frag} {mg : Str → Option Value} {av m av' m' : List Addr} {H H' : Hp} {cs : List C}
theorem CellOk.mono0 (s : ∀ a ∈ m, a ∈ av) (e : Wk0 av m H av' m' H') {a : Addr} {c : C} (h : CellOk K mg av m H a c) (ha : H' a = H a) : CellOk K mg av' m' H' a c := by
  cases c with
  | lst ds => obtain ⟨xs, q, r⟩ := h; exact ⟨xs, ha.trans q, r.mono0 s e⟩
  | dct ds => obtain ⟨xs, q, r⟩ := h; exact ⟨xs, ha.trans q, r.mono0 s e⟩
  | obj x fs => obtain ⟨Ca, dx, vs, q0, q, r⟩ := h; exact ⟨Ca, dx, vs, q0, ha.trans q, r.mono0 s e⟩
  | set xs => obtain ⟨nd, S, q, r⟩ := h; exact ⟨nd, S, ha.trans q, r⟩
  | lck ds => obtain ⟨o, xs, q, r⟩ := h; exact ⟨o, xs, ha.trans q, r.mono0 s e⟩
theorem RS.mono0 {σ : L2.St} {env : Env'} (s : ∀ a ∈ m, a ∈ av) (e : Wk0 av m H av' m' H') (r : RS K av m H σ env) : RS K av' m' H' σ env :=
  ⟨r.1, fun i d h => let ⟨v, h1, h2⟩ := r.2 i d h; ⟨v, h1, h2.mono0 s e⟩⟩
theorem wk0_put {a : Addr} {o : HO} (ha : a ∈ av) : Wk0 av m H av m (upd H a o) := ⟨fun b u h n => (upd_ne fun z => n (by rw [z]; exact ha)).trans h, fun h _ => h, fun h => h⟩
theorem RC.put0 {n : Nat} {a : Addr} {o : HO} {d : C} (c : RC K mg av m H cs) (hn : m[n]? = some a) (hd : CellOk K mg av m (upd H a o) a d) : RC K mg av m (upd H a o) (cs.set n d) := by
  have ham : a ∈ m := List.mem_of_getElem? hn
  have e : Wk0 av m H av m (upd H a o) := wk0_put (c.sub a ham)
  refine ⟨c.sub, fun b h => ?_, by rw [List.length_set]; exact c.len, c.nd, fun k b u h1 h2 => ?_⟩
  · by_cases z : b = a
    · subst z; rw [upd_same]; simp
    · rw [upd_ne z]; exact c.trk b h
  by_cases hk : n = k
  · subst hk
    rw [hn] at h1; cases h1
    have hl : n < cs.length := by rw [← c.len]; exact (List.getElem?_eq_some_iff.mp hn).1
    rw [List.getElem?_set_self hl] at h2; cases h2
    exact hd
  · rw [List.getElem?_set_ne hk] at h2
    refine (c.ok k b u h1 h2).mono0 c.sub e (upd_ne fun z => hk ?_)
    have l1 := (List.getElem?_eq_some_iff.mp hn)
    have l2 := (List.getElem?_eq_some_iff.mp h1)
    obtain ⟨y1, y2⟩ := l1
    obtain ⟨y3, y4⟩ := l2
    exact (List.getElem_inj c.nd).mp (y2.trans (z.symm.trans y4.symm))
/-- behind the lock: the store as before, but for what the turns did -/
theorem unlock_ok {d : Addr} {xs : List (Key × V)} {kvs : List (Key × D)} {o : Obj} {n : Nat} {cs' : List C} (c : RC K mg av m H cs) (hn : m[n]? = some d) (hd : H d = some (.dK xs)) (r : RK K av m H xs kvs)
    (e : Ext av m (upd H d (.frz o (.dK xs))) av' m' H') (c' : RC K mg av' m' H' cs') : Ext av m H av' m' (upd H' d (.dK xs)) ∧ RC K mg av' m' (upd H' d (.dK xs)) (cs'.set n (.dct kvs)) ∧ Wk0 av' m' H' av' m' (upd H' d (.dK xs)) ∧ H' d = some (.frz o (.dK xs)) := by
  have dm : d ∈ m := List.mem_of_getElem? hn
  have hz : H' d = some (.frz o (.dK xs)) := e.fz _ _ _ upd_same
  have e1 : Ext av m H av' m' (upd H' d (.dK xs)) := by
    refine ⟨?_, fun b u h nm => ?_, fun b h => ?_, fun b o' u h => ?_⟩
    · obtain ⟨nw, e1, e2, f⟩ := e.new
      refine ⟨nw, e1, e2, fun a ha => ?_⟩
      have := f a ha
      by_cases z : a = d
      · rw [z, upd_same] at this; cases this
      · rwa [upd_ne z] at this
    · have z : b ≠ d := fun z => nm (by rw [z]; exact dm)
      rw [upd_ne z]
      exact e.keep b u (by rw [upd_ne z]; exact h) nm
    · by_cases z : b = d
      · rw [z, upd_same]; simp
      · rw [upd_ne z]
        exact e.there b (by rw [upd_ne z]; exact h)
    · have z : b ≠ d := fun z => by rw [z, hd] at h; cases h
      rw [upd_ne z]
      exact e.fz b o' u (by rw [upd_ne z]; exact h)
  have hn' : m'[n]? = some d := e.at hn
  refine ⟨e1, c'.put0 hn' ⟨xs, upd_same, r.mono c.sub e1⟩, wk0_put (c'.sub d (List.mem_of_getElem? hn')), hz⟩
open Classical in
noncomputable def unlkS (n : Nat) (kvs : List (Key × D)) : Out Sg → Out Sg
  | .ok sg cs' => if cs'[n]? = some (.lck kvs) then .ok sg (cs'.set n (.dct kvs)) else .bad
  | _ => .bad
open Classical in
noncomputable def unlkE (n : Nat) (kvs : List (Key × D)) : Out D → Out D
  | .ok d cs' => if cs'[n]? = some (.lck kvs) then .ok d (cs'.set n (.dct kvs)) else .bad
  | _ => .bad
/-- which cell is locked: a slot's -/
def lkVar (i : Nat) : Env' → Option Nat := fun env => match env[i]? with
  | some (some (.cell n)) => some n
  | _ => none
noncomputable def sLock (lk : Env' → Option Nat) (g : Gs) : Gs := fun env cs => match lk env with
  | some n => match cs[n]? with
    | some (.dct kvs) => unlkS n kvs (g env (cs.set n (.lck kvs)))
    | _ => .bad
  | none => .bad
noncomputable def eLock (lk : Env' → Option Nat) (g : Gx) : Gx := fun env cs => match lk env with
  | some n => match cs[n]? with
    | some (.dct kvs) => unlkE n kvs (g env (cs.set n (.lck kvs)))
    | _ => .bad
  | none => .bad
theorem lock_in (c : RC K mg av m H cs) {n : Nat} {kvs : List (Key × D)} (h : cs[n]? = some (.dct kvs)) : ∃ d xs, m[n]? = some d ∧ H d = some (.dK xs) ∧ RK K av m H xs kvs ∧ ∀ o, Ext av m H av m (upd H d (.frz o (.dK xs))) ∧ RC K mg av m (upd H d (.frz o (.dK xs))) (cs.set n (.lck kvs)) := by
  have hl : n < m.length := by rw [c.len]; exact (List.getElem?_eq_some_iff.mp h).1
  have hn : m[n]? = some m[n] := List.getElem?_eq_getElem hl
  obtain ⟨xs, q, r⟩ := c.ok n _ _ hn h
  refine ⟨m[n], xs, hn, q, r, fun o => ?_⟩
  have hz : ∀ o' u, H m[n] ≠ some (.frz o' u) := fun o' u z => by rw [q] at z; cases z
  have e : Ext av m H av m (upd H m[n] (.frz o (.dK xs))) := (c.put (d := .lck kvs) hn ⟨o, xs, upd_same, (r.mono0 c.sub (wk0_put (c.sub _ (List.mem_of_getElem? hn))))⟩ hz).1
  exact ⟨e, (c.put (d := .lck kvs) hn ⟨o, xs, upd_same, r.mono c.sub e⟩ hz).2⟩
end
section
variable {X : Cx} {EX : XK}
theorem ds_lock {st : Stmt} {g : Gs} (lk : Env' → Option Nat) (h : DS X EX st g) : DS X EX st (sLock lk g) := by
  obtain ⟨t, h, k⟩ := h
  refine ⟨tLock t, ps_lock h, fun av m H σ env cs Dn c s p => ?_⟩
  unfold sLock at p
  split at p
  case h_2 => exact p.elim
  rename_i n hlk
  split at p
  case h_2 => exact p.elim
  rename_i kvs hcs
  obtain ⟨d, xs, hn, q, r, lo⟩ := lock_in c hcs
  refine ⟨d, .dK xs, q, ?_, fun o => ?_⟩
  · exact trivial
  obtain ⟨e1, c1⟩ := lo o
  refine k av m _ σ env _ _ c1 (s.mono c.sub e1) ?_
  cases hg : g env (cs.set n (.lck kvs)) with
  | exc x fs cs' => rw [hg] at p; exact p.elim
  | bad => rw [hg] at p; exact p.elim
  | ok sg cs' =>
    rw [hg] at p
    simp only [unlkS] at p
    by_cases hc : cs'[n]? = some (.lck kvs)
    case neg => rw [if_neg hc] at p; exact p.elim
    rw [if_pos hc] at p
    obtain ⟨f, env'⟩ := sg
    cases f with
    | nx =>
      intro av' m' H' σ' e c' s'
      obtain ⟨f1, f2, f3, f4⟩ := unlock_ok c hn q r e c'
      exact ⟨f4, p av' m' _ σ' f1 f2 (s'.mono0 c'.sub f3)⟩
    | bk =>
      intro av' m' H' σ' e c' s'
      obtain ⟨f1, f2, f3, f4⟩ := unlock_ok c hn q r e c'
      exact ⟨f4, p av' m' _ σ' f1 f2 (s'.mono0 c'.sub f3)⟩
    | ct =>
      intro av' m' H' σ' e c' s'
      obtain ⟨f1, f2, f3, f4⟩ := unlock_ok c hn q r e c'
      exact ⟨f4, p av' m' _ σ' f1 f2 (s'.mono0 c'.sub f3)⟩
    | rt v =>
      intro av' m' H' v' e c' r'
      obtain ⟨f1, f2, f3, f4⟩ := unlock_ok c hn q r e c'
      exact ⟨f4, p av' m' _ v' f1 f2 (r'.mono0 c'.sub f3)⟩
theorem de_lock {e : Expr} {g : Gx} (lk : Env' → Option Nat) (h : DE X EX e g) : DE X EX e (eLock lk g) := by
  obtain ⟨t, h, k⟩ := h
  refine ⟨tLockE t, pe_lock h, fun av m H σ env cs Q c s p => ?_⟩
  unfold eLock at p
  split at p
  case h_2 => exact p.elim
  rename_i n hlk
  split at p
  case h_2 => exact p.elim
  rename_i kvs hcs
  obtain ⟨d, xs, hn, q, r, lo⟩ := lock_in c hcs
  refine ⟨d, .dK xs, q, ?_, fun o => ?_⟩
  · exact trivial
  obtain ⟨e1, c1⟩ := lo o
  refine k av m _ σ env _ _ c1 (s.mono c.sub e1) ?_
  cases hg : g env (cs.set n (.lck kvs)) with
  | exc x fs cs' => rw [hg] at p; exact p.elim
  | bad => rw [hg] at p; exact p.elim
  | ok sg cs' =>
    rw [hg] at p
    simp only [unlkE] at p
    by_cases hc : cs'[n]? = some (.lck kvs)
    case neg => rw [if_neg hc] at p; exact p.elim
    rw [if_pos hc] at p
    intro av' m' H' v' e c' r'
    obtain ⟨f1, f2, f3, f4⟩ := unlock_ok c hn q r e c'
    exact ⟨f4, p av' m' _ v' f1 f2 (r'.mono0 c'.sub f3)⟩
end
/-! ### walking a locked dict -/
def kD : Key → D
  | .inl i => .int i
  | .inr x => .str x
section
variable {K : PySem.W.Frag} {mg : Str → Option Value} {av m : List Addr} {H : Hp}
theorem kD_ok (k : Key) : R K av m H (kV k) (kD k) := by
  cases k with
  | inl i => exact .int i
  | inr x => exact .str x
theorem RK.get : ∀ {xs : List (Key × V)} {ds : List (Key × D)}, RK K av m H xs ds → ∀ {i : Nat} {k : Key} {v : V}, xs[i]? = some (k, v) → ∃ d, ds[i]? = some (k, d) ∧ R K av m H v d
  | _, _, .nil, i, k, v, h => by cases h
  | _, _, .cons (d := d) r t, 0, k, v, h => by
    simp only [List.getElem?_cons_zero, Option.some.injEq, Prod.mk.injEq] at h
    obtain ⟨rfl, rfl⟩ := h
    exact ⟨d, rfl, r⟩
  | _, _, .cons r t, i + 1, k, v, h => by
    rw [List.getElem?_cons_succ] at h ⊢
    exact RK.get t h
theorem walk_keys {d : Addr} {o : Obj} {xs : List (Key × V)} {kvs : List (Key × D)} (hd : H d = some (.frz o (.dK xs))) (r : RK K av m H xs kvs) : WalkD K mg av m H (Itk d o xs) (kvs.map fun p => kD p.1) where
  go := fun i dd av' m' H' h e => ⟨e.fz _ _ _ hd, by
    have := (List.getElem?_eq_some_iff.mp h).1
    rw [List.length_map] at this
    rw [r.len]; exact this⟩
  yld := fun i dd av' m' H' x H'' cs h e c y => by
    obtain ⟨rfl, k, v, h1, rfl⟩ := y
    obtain ⟨d1, h2, _⟩ := r.get h1
    rw [List.getElem?_map, h2] at h
    cases h
    exact ⟨Ext.refl .., c, kD_ok k⟩
  stop := fun i av' m' H' hi e => ⟨e.fz _ _ _ hd, by rw [r.len]; rw [List.length_map] at hi; exact hi⟩
theorem walk_vals {d : Addr} {o : Obj} {xs : List (Key × V)} {kvs : List (Key × D)} (sub : ∀ b ∈ m, b ∈ av) (hd : H d = some (.frz o (.dK xs))) (r : RK K av m H xs kvs) : WalkD K mg av m H (Itd d o xs) (kvs.map fun p => p.2) where
  go := fun i dd av' m' H' h e => ⟨e.fz _ _ _ hd, by
    have := (List.getElem?_eq_some_iff.mp h).1
    rw [List.length_map] at this
    rw [r.len]; exact this⟩
  yld := fun i dd av' m' H' x H'' cs h e c y => by
    obtain ⟨rfl, k, h1⟩ := y
    obtain ⟨d1, h2, r1⟩ := r.get h1
    rw [List.getElem?_map, h2] at h
    cases h
    exact ⟨Ext.refl .., c, r1.monoW sub e⟩
  stop := fun i av' m' H' hi e => ⟨e.fz _ _ _ hd, by rw [r.len]; rw [List.length_map] at hi; exact hi⟩
theorem walk_items {d : Addr} {o : Obj} {xs : List (Key × V)} {kvs : List (Key × D)} (sub : ∀ b ∈ m, b ∈ av) (hd : H d = some (.frz o (.dK xs))) (r : RK K av m H xs kvs) : WalkD K mg av m H (Iti d o xs) (kvs.map fun p => D.tup [kD p.1, p.2]) where
  go := fun i dd av' m' H' h e => ⟨e.fz _ _ _ hd, by
    have := (List.getElem?_eq_some_iff.mp h).1
    rw [List.length_map] at this
    rw [r.len]; exact this⟩
  yld := fun i dd av' m' H' x H'' cs h e c y => by
    obtain ⟨T, k, v, h1, rfl, hT, rfl⟩ := y
    obtain ⟨d1, h2, r1⟩ := r.get h1
    rw [List.getElem?_map, h2] at h
    cases h
    have l : RL K av' m' H' [kV k, v] [kD k, d1] := .cons (kD_ok k) (.cons (r1.monoW sub e) .nil)
    exact ⟨Ext.fresh hT, c.fresh hT, .tup upd_same (c.notin hT) (l.fresh c hT)⟩
  stop := fun i av' m' H' hi e => ⟨e.fz _ _ _ hd, by rw [r.len]; rw [List.length_map] at hi; exact hi⟩
end
/-- the locked dict of a cell -/
def asK (cs : List C) : D → Option (List (Key × D))
  | .cell n => match cs[n]? with
    | some (.lck kvs) => some kvs
    | _ => none
  | _ => none
theorem asK_ok {K : PySem.W.Frag} {mg : Str → Option Value} {av m : List Addr} {H : Hp} {cs : List C} {v : V} {d : D} {kvs : List (Key × D)} (c : RC K mg av m H cs) (r : R K av m H v d) (h : asK cs d = some kvs) :
    ∃ a o xs, v = .ref a ∧ H a = some (.frz o (.dK xs)) ∧ RK K av m H xs kvs := by
  cases r with
  | @cell n a hn =>
    simp only [asK] at h
    split at h
    · rename_i ks hx
      cases h
      obtain ⟨o, xs, q, r⟩ := c.ok _ _ _ hn hx
      exact ⟨a, o, xs, rfl, q, r⟩
    · cases h
  | _ => simp [asK] at h
def iKeysD (g : Gx) : Ga := fun env cs => (g env cs).bind fun o cs => match asK cs o with
  | some kvs => .ok (kvs.map fun p => kD p.1) cs
  | none => .bad
def iValsD (g : Gx) : Ga := fun env cs => (g env cs).bind fun o cs => match asK cs o with
  | some kvs => .ok (kvs.map fun p => p.2) cs
  | none => .bad
def iItemsD (g : Gx) : Ga := fun env cs => (g env cs).bind fun o cs => match asK cs o with
  | some kvs => .ok (kvs.map fun p => D.tup [kD p.1, p.2]) cs
  | none => .bad
section
variable {X : Cx} {EX : XK}
theorem di_keys {tg e : Expr} {g : Gx} (he : DE X EX e g) : DI X EX tg e (iKeysD g) := by
  obtain ⟨t, h, k⟩ := he
  refine ⟨_, pi_keys h, fun av m H σ env cs Q c s p => k av m H σ env cs _ c s (PostE.bindI p fun d cs1 av1 m1 H1 v e1 c1 r1 p1 => ?_)⟩
  split at p1
  · rename_i kvs hk
    obtain ⟨a, o, xs, rfl, q, r⟩ := asK_ok c1 r1 hk
    exact ⟨a, o, rfl, .inl ⟨xs, q, p1 av1 m1 H1 _ (Ext.refl ..) c1 (walk_keys q r)⟩⟩
  · exact p1.elim
theorem di_values {tg e : Expr} {g : Gx} {apos cpos : Pos} (he : DE X EX e g) (hbase : attributeBase e "values" X.env (eval e X.env) = eval e X.env := by rfl) (hline : (apos.endLine == cpos.line) = true := by rfl) : DI X EX tg (.Call (.Attribute e "values" apos) [] [] cpos) (iValsD g) := by
  obtain ⟨t, h, k⟩ := he
  refine ⟨_, pi_values h hbase hline, fun av m H σ env cs Q c s p => k av m H σ env cs _ c s (PostE.bindI p fun d cs1 av1 m1 H1 v e1 c1 r1 p1 => ?_)⟩
  split at p1
  · rename_i kvs hk
    obtain ⟨a, o, xs, rfl, q, r⟩ := asK_ok c1 r1 hk
    exact ⟨a, o, xs, rfl, q, p1 av1 m1 H1 _ (Ext.refl ..) c1 (walk_vals c1.sub q r)⟩
  · exact p1.elim
theorem di_items {elts : List Expr} {kk : Nat} {tpos : Pos} {e : Expr} {g : Gx} {apos cpos : Pos} (he : DE X EX e g) (hbase : attributeBase e "items" X.env (eval e X.env) = eval e X.env := by rfl) (hline : (apos.endLine == cpos.line) = true := by rfl) : DI X EX (.Tuple elts kk tpos) (.Call (.Attribute e "items" apos) [] [] cpos) (iItemsD g) := by
  obtain ⟨t, h, k⟩ := he
  refine ⟨_, pi_items h hbase hline, fun av m H σ env cs Q c s p => k av m H σ env cs _ c s (PostE.bindI p fun d cs1 av1 m1 H1 v e1 c1 r1 p1 => ?_)⟩
  split at p1
  · rename_i kvs hk
    obtain ⟨a, o, xs, rfl, q, r⟩ := asK_ok c1 r1 hk
    exact ⟨a, o, xs, rfl, q, p1 av1 m1 H1 _ (Ext.refl ..) c1 (walk_items c1.sub q r)⟩
  · exact p1.elim
/-- a dict, locked or not -/
def dictOf (cs : List C) : D → Option (List (Key × D))
  | .cell n => match cs[n]? with
    | some (.dct kvs) => some kvs
    | some (.lck kvs) => some kvs
    | _ => none
  | _ => none
theorem dictOf_ok {av m : List Addr} {H : Hp} {cs : List C} {v : V} {d : D} {kvs : List (Key × D)} (c : RC X.K X.mg av m H cs) (r : R X.K av m H v d) (h : dictOf cs d = some kvs) :
    ∃ a xs, v = .ref a ∧ Rd H a (.dK xs) ∧ RK X.K av m H xs kvs := by
  cases r with
  | @cell n a hn =>
    simp only [dictOf] at h
    split at h
    · rename_i ks hx
      cases h
      obtain ⟨xs, q, r⟩ := c.ok _ _ _ hn hx
      exact ⟨a, xs, rfl, .inl q, r⟩
    · rename_i ks hx
      cases h
      obtain ⟨o, xs, q, r⟩ := c.ok _ _ _ hn hx
      exact ⟨a, xs, rfl, .inr ⟨o, q⟩, r⟩
    · cases h
  | _ => simp [dictOf] at h
/-- d[k] -/
def gDIxL (go gk : Gx) : Gx := fun env cs => (go env cs).bind fun o cs => (gk env cs).bind fun y cs => match keyD y, dictOf cs o with
  | some k, some ds => match valD ds k with
    | some d => .ok d cs
    | none => .bad
  | _, _ => .bad
theorem de_dixL {o i : Expr} {go gk : Gx} {kr : Nat} {pos : Pos} (hr : Room kr X.A) (ho : DE X EX o go) (hk : DE X EX i gk) (hs : NoSl i := by intro _ _; rfl) : DE X EX (.Subscript o i pos) (gDIxL go gk) := by
  obtain ⟨t1, h1, k1⟩ := ho
  obtain ⟨t2, h2, k2⟩ := hk
  refine ⟨_, pe_dget (by have := hr.units; omega) h1 h2 hs, fun av m H σ env cs Q c s p => k1 av m H σ env cs _ c s (PostE.bind p fun d cs1 av1 m1 H1 v e1 c1 r1 p1 => ?_)⟩
  refine k2 av1 m1 H1 σ env cs1 _ c1 (s.mono c.sub e1) (PostE.bind p1 fun y cs2 av2 m2 H2 vy e2 c2 r2 p2 => ?_)
  split at p2
  · rename_i k ds hk hn
    split at p2
    · rename_i dd hv
      obtain ⟨a, xs, rfl, q, l⟩ := dictOf_ok c2 (r1.mono c1.sub e2) hn
      have ey := keyD_ok r2 hk
      obtain ⟨u, hu, ru⟩ := (RK.val k l).1 dd hv
      exact ⟨a, u, rfl, .inl ⟨xs, k, q, ey, hu.symm⟩, p2 av2 m2 H2 u (Ext.refl ..) c2 ru⟩
    · exact p2.elim
  · exact p2.elim
/-- d.get(k, e) -/
def gDGetL (go gk ge : Gx) : Gx := fun env cs => (go env cs).bind fun o cs => match dictOf cs o with
  | some _ => (gk env cs).bind fun y cs => (ge env cs).bind fun z cs => match keyD y, dictOf cs o with
    | some k, some ds => .ok ((valD ds k).getD z) cs
    | _, _ => .bad
  | none => .bad
theorem de_dgetL {o e f : Expr} {go gk ge : Gx} {kr : Nat} {apos cpos : Pos} (hr : Room kr X.A) (ho : DE X EX o go) (hk : DE X EX e gk) (hf : DE X EX f ge) (mm : M2 X o "get" apos e f cpos := by exact ⟨rfl, rfl, rfl, rfl⟩) : DE X EX (.Call (.Attribute o "get" apos) [e, f] [] cpos) (gDGetL go gk ge) := by
  obtain ⟨t1, h1, k1⟩ := ho
  obtain ⟨t2, h2, k2⟩ := hk
  obtain ⟨t3, h3, k3⟩ := hf
  refine ⟨_, pe_dget2 (by have := hr.units; omega) h1 h2 h3 mm, fun av m H σ env cs Q c s p => k1 av m H σ env cs _ c s (PostE.bind p fun d cs1 av1 m1 H1 v e1 c1 r1 p1 => ?_)⟩
  split at p1
  · rename_i ds0 hn
    obtain ⟨a, xs0, rfl, q0, _⟩ := dictOf_ok c1 r1 hn
    refine ⟨a, rfl, .inl ⟨xs0, q0⟩, k2 av1 m1 H1 σ env cs1 _ c1 (s.mono c.sub e1) (PostE.bind p1 fun y cs2 av2 m2 H2 vy e2 c2 r2 p2 => ?_)⟩
    refine k3 av2 m2 H2 σ env cs2 _ c2 ((s.mono c.sub e1).mono c1.sub e2) (PostE.bind p2 fun z cs3 av3 m3 H3 vz e3 c3 r3 p3 => ?_)
    split at p3
    · rename_i k ds hk hn3
      obtain ⟨a', xs, ea, q, l⟩ := dictOf_ok c3 (r1.mono c1.sub (e2.trans e3)) hn3
      cases ea
      have ey := keyD_ok (r2.mono c2.sub e3) hk
      obtain ⟨l1, l2⟩ := RK.val k l
      refine ⟨valV xs k, .inl ⟨xs, k, q, ey, rfl⟩, ?_⟩
      cases hv : valD ds k with
      | none =>
        rw [hv] at p3
        rw [l2 hv]
        exact p3 av3 m3 H3 vz (Ext.refl ..) c3 r3
      | some dd =>
        rw [hv] at p3
        obtain ⟨u, hu, ru⟩ := l1 dd hv
        rw [hu]
        exact p3 av3 m3 H3 u (Ext.refl ..) c3 ru
    · exact p3.elim
  · exact p1.elim
/-- k in d -/
def rInKD (neg : Bool) : R2 := fun x y H Q => ∃ a o, y = V.ref a ∧ DGet H a x o ∧ Q (.bl (if neg then !o.isSome else o.isSome)) H
theorem or_inK (hu : X.A.units + 1 < cLine) : OpR X (compareOp .In) (rInKD false) := by
  intro pins s σ H x y v u Q I rx ry h
  obtain ⟨a, o, rfl, g, q⟩ := h
  cases ry
  exact d_in hu I g rx fun s' I' => ⟨.bl _, H, I', rfl, q⟩
theorem or_notinK (hu : X.A.units + 1 < cLine) : OpR X (compareOp .NotIn) (rInKD true) := by
  intro pins s σ H x y v u Q I rx ry h
  obtain ⟨a, o, rfl, g, q⟩ := h
  cases ry
  exact d_notIn hu I g rx fun s' I' => ⟨.bl _, H, I', rfl, q⟩
def inKD (neg : Bool) : D → D → List C → Out D := fun dx dy cs => match keyD dx, dictOf cs dy with
  | some k, some ds => .ok (.bl (if neg then !(valD ds k).isSome else (valD ds k).isSome)) cs
  | _, _ => .bad
theorem od_inK (neg : Bool) : OpD X.K X.mg EX (rInKD neg) (inKD neg) := by
  intro av m H cs x y dx dy Q c rx ry q
  unfold inKD at q
  split at q
  · rename_i k ds hk hd
    obtain ⟨a, xs, rfl, q2, l⟩ := dictOf_ok c ry hd
    have ey := keyD_ok rx hk
    obtain ⟨l1, l2⟩ := RK.val k l
    refine ⟨a, valV xs k, rfl, .inl ⟨xs, k, q2, ey, rfl⟩, ?_⟩
    have e : (valV xs k).isSome = (valD ds k).isSome := by
      cases hv : valD ds k with
      | none => rw [l2 hv]; rfl
      | some dd => obtain ⟨u, hu, _⟩ := l1 dd hv; rw [hu]; rfl
    rw [e]
    exact q.here c (.bl _)
  · exact q.elim
theorem dt_inK {a b : Expr} {ga gb : Gx} {kr : Nat} {pos : Pos} (hr : Room kr X.A) (ha : DE X EX a ga) (hb : DE X EX b gb) (hm : behindInMarks .In b = false := by first | exact nomark _ | rfl) : DT X EX (.Compare a [.In] [b] pos) (tE (g2 (inKD false) ga gb)) := dt_cmp (or_inK (by have := hr.units; omega)) (od_inK false) ha hb hm
theorem dt_notinK {a b : Expr} {ga gb : Gx} {kr : Nat} {pos : Pos} (hr : Room kr X.A) (ha : DE X EX a ga) (hb : DE X EX b gb) (hm : behindInMarks .NotIn b = false := by first | exact nomark _ | rfl) : DT X EX (.Compare a [.NotIn] [b] pos) (tE (g2 (inKD true) ga gb)) := dt_cmp (or_notinK (by have := hr.units; omega)) (od_inK true) ha hb hm
theorem de_inK {a b : Expr} {ga gb : Gx} {kr : Nat} {pos : Pos} (hr : Room kr X.A) (ha : DE X EX a ga) (hb : DE X EX b gb) (hm : behindInMarks .In b = false := by first | exact nomark _ | rfl) : DE X EX (.Compare a [.In] [b] pos) (g2 (inKD false) ga gb) := de_cmp (or_inK (by have := hr.units; omega)) (od_inK false) ha hb hm
end
end Dm
set_option linter.all false
set_option maxRecDepth 100000
set_option maxHeartbeats 2000000
/-! Dm: >> and & of whole numbers. -/
namespace Dm
open PySem PySem.Spec L2 PyProof.Rows
section
variable {X : Cx} {EX : XK}
def shrOk (_ j : Int) : Bool := decide (0 ≤ j)
def shrD : D → D → List C → Out D := fI shrOk (fun i j => .int (i / 2 ^ j.toNat))
theorem de_shr {a b : Expr} {pos : Pos} {ga gb : Gx} (ha : DE X EX a ga) (hb : DE X EX b gb) : DE X EX (.BinOp a .RShift b pos) (g2 shrD ga gb) := de_op op_shr (od_I (fun _ _ h => of_decide_eq_true h) fun _ _ _ _ _ => .int _) ha hb
def bandD : D → D → List C → Out D := fI (fun _ _ => true) (fun i j => .int (Builtin.bitAnd i j))
theorem de_band {a b : Expr} {pos : Pos} {ga gb : Gx} (ha : DE X EX a ga) (hb : DE X EX b gb) : DE X EX (.BinOp a .BitAnd b pos) (g2 bandD ga gb) := de_op op_and (od_I0 fun _ _ _ _ _ => .int _) ha hb
end
end Dm
set_option linter.all false
set_option maxRecDepth 100000
set_option maxHeartbeats 4000000
namespace My
open PySem PySem.Spec L2 Dm
noncomputable section
def k_MOST_HOUSES : D := .int 20
def k_GREATEST_SIZE : D := .int 999999999999999999999999999999
def k_ORDERS : D := .tup [.str "least", .str "greatest", .str "oldest", .str "newest"]
def k_KINDS_WITH_BUDGET : D := .tup [.str "again", .str "pool"]
def k_WISHES : D := .tup [.str "early", .str "full", .str "rest", .str "ascending", .str "kept", .str "free"]
def k_IN_SEQUENCE : D := .tup [.str "full", .str "rest", .str "ascending"]
abbrev N__law_source : List Str := ["cell", "k", "far"]
def g__law_source : Gs := sSeq (sAsg (gA absD (aCons (gVar 0) (aNil))) (tgName 2))
  (sRet (gListC (aCons (gA max2D (aCons (gC (.int 0)) (aCons (g2 subD (gVar 2) (g2 powD (gC (.int 10)) (gC (.int 18)))) (aNil)))) (aCons (g2 addD (g2 addD (g2 mulD (g2 modD (gA intD (aCons (gVar 2) (aNil))) (g2 addD (g2 powD (gC (.int 10)) (gC (.int 39))) (gC (.int 3)))) (gC (.int 97))) (g2 mulD (gC (.int 2)) (gVar 1))) (gA intD (aCons (g2 ltD (gVar 0) (gC (.int 0))) (aNil)))) (aCons (gC (.int 0)) (aNil))))))
def F__law_source : Fd := runB 3 g__law_source
abbrev N__law_draw : List Str := ["source", "count", "digit", "mixed"]
def g__law_draw : Gs := sSeq (sIf (tE (g2 gtD (g2 ixD (gVar 0) (gC (.int 0))) (gC (.int 0)))) (sSeq (sAsg (g2 modD (gA intD (aCons (g2 ixD (gVar 0) (gC (.int 0))) (aNil))) (gVar 1)) (tgName 2))
  (sSeq (sAsg (g2 divD (g2 ixD (gVar 0) (gC (.int 0))) (gVar 1)) (tgSub (gVar 0) (gC (.int 0))))
  (sRet (gVar 2)))) (sNext))
  (sSeq (sAsg (g2 addD (g2 ixD (gVar 0) (gC (.int 2))) (gC (.int 1))) (tgSub (gVar 0) (gC (.int 2))))
  (sSeq (sAsg (g2 modD (gA intD (aCons (g2 powD (g2 addD (g2 ixD (gVar 0) (gC (.int 1))) (g2 mulD (gC (.int 600011)) (g2 ixD (gVar 0) (gC (.int 2))))) (gC (.int 3))) (aNil))) (g2 addD (g2 powD (gC (.int 10)) (gC (.int 36))) (gC (.int 67)))) (tgName 3))
  (sSeq (sAsg (g2 modD (gA intD (aCons (g2 powD (g2 addD (g2 mulD (gVar 3) (g2 ixD (gVar 0) (gC (.int 2)))) (gC (.int 77773))) (gC (.int 3))) (aNil))) (g2 addD (g2 powD (gC (.int 10)) (gC (.int 38))) (gC (.int 133)))) (tgName 3))
  (sRet (g2 modD (gA intD (aCons (g2 divD (gVar 3) (gC (.int 32749))) (aNil))) (gVar 1))))))
def F__law_draw : Fd := runB 4 g__law_draw
abbrev N__law_hopes : List Str := ["source", "mask", "some", "found", "left", "k", "hope"]
def g__law_hopes : Gs := sSeq (sPar 2 3 (gList (aCons (gC (.str "early")) (aCons (gC (.str "full")) (aCons (gC (.str "rest")) (aCons (gC (.str "ascending")) (aCons (gC (.str "kept")) (aCons (gC (.str "free")) (aNil)))))))) (gListC (aNil)))
  (sSeq (sAsg (gCompC [5, 6] (iE (aCons (gVar 2) (aNil))) (tcTup 2 (tcCons (tcName 5) (tcCons (tcName 6) (tcNil)))) (tE (g2 (eqD false) (g2 bandD (g2 shrD (gVar 1) (gVar 5)) (gC (.int 1))) (gC (.int 1)))) (gVar 6)) (tgName 4))
  (sSeq (whileD (tE (g2 (eqD true) (gVar 4) (gList (aNil)))) (sExpr (gApp (gVar 3) (gPop (gVar 4) (gA (argN 2 F__law_draw) (aCons (gVar 0) (aCons (gA lenD (aCons (gVar 4) (aNil))) (aNil))))))) 1000000)
  (sRet (gVar 3))))
def F__law_hopes : Fd := runB 7 g__law_hopes
abbrev N_is_integer : List Str := ["value"]
def g_is_integer : Gs := sRet (gAnd (gA isiD (aCons (gVar 0) (aCons (gC (.ty "int")) (aNil)))) (gNot (gA isiD (aCons (gVar 0) (aCons (gC (.ty "bool")) (aNil))))))
def F_is_integer : Fd := runB 1 g_is_integer
abbrev N_is_within : List Str := ["value", "least", "greatest"]
def g_is_within : Gs := sRet (gAnd (gA (argN 1 (callP F_is_integer)) (aCons (gVar 0) (aNil))) (gChain leD leD (gVar 1) (gVar 0) (gVar 2)))
def F_is_within : Fd := runB 3 g_is_within
abbrev N_check_houses : List Str := ["houses"]
def g_check_houses : Gs := sIf (tNotD (tE (gA (argN 3 (callP F_is_within)) (aCons (gVar 0) (aCons (gC (.int 1)) (aCons (gC k_MOST_HOUSES) (aNil))))))) (sDead) (sNext)
def F_check_houses : Fd := runB 1 g_check_houses
abbrev N__check_falls : List Str := ["falls"]
def g__check_falls : Gs := sIf (tNotD (tE (gA isiD (aCons (gVar 0) (aCons (gC (.ty "bool")) (aNil)))))) (sDead) (sNext)
def F__check_falls : Fd := runB 1 g__check_falls
abbrev N__is_wish : List Str := ["value"]
def g__is_wish : Gs := sRet (gAnd (gA isiD (aCons (gVar 0) (aCons (gC (.ty "str")) (aNil)))) (g2 (inD false) (gVar 0) (gC k_WISHES)))
def F__is_wish : Fd := runB 1 g__is_wish
abbrev N__check_wishes : List Str := ["wishes", "houses", "falls", "wish"]
def g__check_wishes : Gs := sSeq (sIf (tOrD (tNotD (tE (gA isiD (aCons (gVar 0) (aCons (gC (.ty "list")) (aNil)))))) (tNotD (tE (gA allD (aCons (gComp [3] (iL (gVar 0)) (tcName 3) (fun _ cs => .ok true cs) (gA (argN 1 (callP F__is_wish)) (aCons (gVar 3) (aNil)))) (aNil)))))) (sDead) (sNext))
  (sSeq (sIf (tE (g2 ltD (gLenLS (gVar 0)) (gA lenD (aCons (gVar 0) (aNil))))) (sDead) (sNext))
  (sSeq (sExpr (gA (argN 1 (callP F_check_houses)) (aCons (gVar 1) (aNil))))
  (sExpr (gA (argN 1 (callP F__check_falls)) (aCons (gVar 2) (aNil))))))
def F__check_wishes : Fd := runB 4 g__check_wishes
abbrev N__can_grant : List Str := ["wishes", "houses", "wish"]
def g__can_grant : Gs := sSeq (sIf (tOrD (tE (g2 (eqD false) (gVar 1) (gC (.int 1)))) (tOrD (tE (g2 (inD true) (gC (.str "early")) (gVar 0))) (tE (g2 (inD true) (gC (.str "free")) (gVar 0))))) (sRet (gC (.bl true))) (sNext))
  (sRet (gNot (gA anyD (aCons (gComp [2] (iT (gC k_IN_SEQUENCE)) (tcName 2) (fun _ cs => .ok true cs) (g2 (inD false) (gVar 2) (gVar 0))) (aNil)))))
def F__can_grant : Fd := runB 3 g__can_grant
abbrev N_rule_for : List Str := ["wishes", "houses", "falls"]
def g_rule_for : Gs := sSeq (sExpr (gA (argN 3 (callP F__check_wishes)) (aCons (gVar 0) (aCons (gVar 1) (aCons (gVar 2) (aNil))))))
  (sSeq (sIf (tNotD (tE (gA (argN 2 (callP F__can_grant)) (aCons (gVar 0) (aCons (gVar 1) (aNil)))))) (sRet (gC .non)) (sNext))
  (sSeq (sIf (tE (g2 (inD true) (gC (.str "early")) (gVar 0))) (sRet (Dm.gTup (aCons (Dm.gTup (aCons (gC (.str "late")) (aNil))) (aCons (gC .non) (aNil))))) (sNext))
  (sRet (Dm.gTup (aCons (Dm.gTup (aCons (gC (.str "pool")) (aCons (gC (.str "least")) (aNil)))) (aCons (gIf (tE (g2 (inD false) (gC (.str "free")) (gVar 0))) (gC .non) (gC (.int 0))) (aNil)))))))
def F_rule_for : Fd := runB 3 g_rule_for
abbrev N_can_have : List Str := ["wishes", "houses", "falls"]
def g_can_have : Gs := sSeq (sExpr (gA (argN 3 (callP F__check_wishes)) (aCons (gVar 0) (aCons (gVar 1) (aCons (gVar 2) (aNil))))))
  (sRet (gA (argN 2 (callP F__can_grant)) (aCons (gVar 0) (aCons (gVar 1) (aNil)))))
def F_can_have : Fd := runB 3 g_can_have
abbrev N_is_size : List Str := ["value"]
def g_is_size : Gs := sRet (gA (argN 3 (callP F_is_within)) (aCons (gVar 0) (aCons (gC (.int 1)) (aCons (gC k_GREATEST_SIZE) (aNil)))))
def F_is_size : Fd := runB 1 g_is_size
abbrev N_is_scheme : List Str := ["value", "kind"]
def g_is_scheme : Gs := sSeq (sIf (tOrD (tNotD (tE (gA isiD (aCons (gVar 0) (aCons (gC (.ty "tuple")) (aNil)))))) (tE (g2 (inD true) (gA lenD (aCons (gVar 0) (aNil))) (Dm.gTup (aCons (gC (.int 1)) (aCons (gC (.int 2)) (aNil))))))) (sRet (gC (.bl false))) (sNext))
  (sSeq (sAsg (g2 ixD (gVar 0) (gC (.int 0))) (tgName 1))
  (sSeq (sIf (tNotD (tE (gA isiD (aCons (gVar 1) (aCons (gC (.ty "str")) (aNil)))))) (sRet (gC (.bl false))) (sNext))
  (sSeq (sIf (tE (g2 (eqD false) (gA lenD (aCons (gVar 0) (aNil))) (gC (.int 1)))) (sRet (g2 (eqD false) (gVar 1) (gC (.str "late")))) (sNext))
  (sSeq (sIf (tE (g2 (eqD false) (gVar 1) (gC (.str "pool")))) (sRet (gAnd (gA isiD (aCons (g2 ixD (gVar 0) (gC (.int 1))) (aCons (gC (.ty "str")) (aNil)))) (g2 (inD false) (g2 ixD (gVar 0) (gC (.int 1))) (gC k_ORDERS)))) (sNext))
  (sRet (gAnd (g2 (inD false) (gVar 1) (Dm.gTup (aCons (gC (.str "lost")) (aCons (gC (.str "again")) (aNil))))) (gA (argN 1 (callP F_is_size)) (aCons (g2 ixD (gVar 0) (gC (.int 1))) (aNil)))))))))
def F_is_scheme : Fd := runB 2 g_is_scheme
abbrev N_is_natural : List Str := ["value"]
def g_is_natural : Gs := sRet (gAnd (gA (argN 1 (callP F_is_integer)) (aCons (gVar 0) (aNil))) (g2 geD (gVar 0) (gC (.int 0))))
def F_is_natural : Fd := runB 1 g_is_natural
abbrev N_is_scheme_with_budget : List Str := ["value", "scheme", "budget"]
def g_is_scheme_with_budget : Gs := sSeq (sIf (tOrD (tNotD (tE (gA isiD (aCons (gVar 0) (aCons (gC (.ty "tuple")) (aNil)))))) (tE (g2 (eqD true) (gA lenD (aCons (gVar 0) (aNil))) (gC (.int 2))))) (sRet (gC (.bl false))) (sNext))
  (sSeq (sAsg (gVar 0) (tgTup 2 (tgCons (tgName 1) (tgCons (tgName 2) (tgNil)))))
  (sSeq (sIf (tNotD (tE (gA (argN 1 (callP F_is_scheme)) (aCons (gVar 1) (aNil))))) (sRet (gC (.bl false))) (sNext))
  (sRet (gOr (g2 (isD false) (gVar 2) (gC .non)) (gAnd (g2 (inD false) (g2 ixD (gVar 1) (gC (.int 0))) (gC k_KINDS_WITH_BUDGET)) (gA (argN 1 (callP F_is_natural)) (aCons (gVar 2) (aNil))))))))
def F_is_scheme_with_budget : Fd := runB 3 g_is_scheme_with_budget
abbrev N_check_rule : List Str := ["rule"]
def g_check_rule : Gs := sIf (tNotD (tE (gA (argN 1 (callP F_is_scheme_with_budget)) (aCons (gVar 0) (aNil))))) (sDead) (sNext)
def F_check_rule : Fd := runB 1 g_check_rule
abbrev N__check_wish : List Str := ["rule", "houses", "falls", "wish"]
def g__check_wish : Gs := sSeq (sExpr (gA (argN 1 (callP F_check_rule)) (aCons (gVar 0) (aNil))))
  (sSeq (sExpr (gA (argN 1 (callP F_check_houses)) (aCons (gVar 1) (aNil))))
  (sSeq (sExpr (gA (argN 1 (callP F__check_falls)) (aCons (gVar 2) (aNil))))
  (sIf (tNotD (tE (gA (argN 1 (callP F__is_wish)) (aCons (gVar 3) (aNil))))) (sDead) (sNext))))
def F__check_wish : Fd := runB 4 g__check_wish
abbrev N_lot_size : List Str := ["scheme"]
def g_lot_size : Gs := sRet (gIf (tE (g2 (eqD false) (g2 ixD (gVar 0) (gC (.int 0))) (gC (.str "pool")))) (gC (.int 1)) (g2 ixD (gVar 0) (gC (.int 1))))
def F_lot_size : Fd := runB 1 g_lot_size
abbrev N__many_before_next_lot : List Str := ["rule", "scheme", "budget"]
def g__many_before_next_lot : Gs := sSeq (sAsg (gVar 0) (tgTup 2 (tgCons (tgName 1) (tgCons (tgName 2) (tgNil)))))
  (sRet (gIf (tE (g2 (isD false) (gVar 2) (gC .non))) (gC (.int 0)) (gA max2D (aCons (gC (.int 0)) (aCons (g2 subD (gA (argN 1 (callP F_lot_size)) (aCons (gVar 1) (aNil))) (gVar 2)) (aNil))))))
def F__many_before_next_lot : Fd := runB 3 g__many_before_next_lot
abbrev N__way_by_one : List Str := ["rule", "falls", "wish", "kind", "many", "losing"]
def g__way_by_one : Gs := sSeq (sAsg (g2 ixD (g2 ixD (gVar 0) (gC (.int 0))) (gC (.int 0))) (tgName 3))
  (sSeq (sIf (tOrD (tE (g2 (eqD false) (gVar 2) (gC (.str "ascending")))) (tOrD (tE (g2 (eqD false) (gVar 3) (gC (.str "pool")))) (tAndD (tE (g2 (eqD false) (gVar 3) (gC (.str "again")))) (tNotD (tE (gVar 1)))))) (sRet (gC .non)) (sNext))
  (sSeq (sAsg (gA (argN 1 (callP F__many_before_next_lot)) (aCons (gVar 0) (aNil))) (tgName 4))
  (sSeq (sAsg (gIf (tE (g2 gtD (gVar 4) (gC (.int 0)))) (gListC (aNil)) (gListC (aCons (Dm.gTup (aCons (gC (.str "take")) (aCons (gC (.int 0)) (aNil)))) (aNil)))) (tgName 5))
  (sSeq (sExpr (gApp (gVar 5) (Dm.gTup (aCons (gIf (tE (g2 (eqD false) (gVar 3) (gC (.str "lost")))) (gC (.str "fail")) (gC (.str "fall"))) (aCons (gC (.int 0)) (aNil))))))
  (sRet (Dm.gTup (aCons (gList (aCons (Dm.gTup (aCons (gC (.str "take")) (aCons (gC (.int 0)) (aNil)))) (aCons (Dm.gTup (aCons (gC (.str "end")) (aCons (gC (.int 0)) (aNil)))) (aNil)))) (aCons (gVar 4) (aCons (g2 addD (gVar 5) (gList (aCons (Dm.gTup (aCons (gC (.str "take")) (aCons (gC (.int 0)) (aNil)))) (aCons (Dm.gTup (aCons (gC (.str "end")) (aCons (gC (.int 0)) (aNil)))) (aNil))))) (aNil))))))))))
def F__way_by_one : Fd := runB 6 g__way_by_one
abbrev N__way_by_two : List Str := ["rule", "wish", "many", "ending"]
def g__way_by_two : Gs := sSeq (sAsg (gA (argN 1 (callP F__many_before_next_lot)) (aCons (gVar 0) (aNil))) (tgName 2))
  (sSeq (sAsg (gListC (aCons (Dm.gTup (aCons (gC (.str "take")) (aCons (gC (.int 1)) (aNil)))) (aCons (Dm.gTup (aCons (gC (.str "end")) (aCons (gC (.int 1)) (aNil)))) (aNil)))) (tgName 3))
  (sSeq (sIf (tE (g2 (eqD false) (gVar 2) (gC (.int 0)))) (sSeq (sAsg (gListC (aCons (Dm.gTup (aCons (gC (.str "take")) (aCons (gC (.int 0)) (aNil)))) (aStar (gVar 3) (aNil)))) (tgName 3))
  (sIf (tE (g2 (eqD false) (gVar 1) (gC (.str "rest")))) (sExpr (gApp (gVar 3) (Dm.gTup (aCons (gC (.str "fail")) (aCons (gC (.int 0)) (aNil)))))) (sNext))) (sIf (tE (g2 (eqD false) (gVar 1) (gC (.str "ascending")))) (sExpr (gApp (gVar 3) (Dm.gTup (aCons (gC (.str "take")) (aCons (gC (.int 0)) (aNil)))))) (sNext)))
  (sSeq (sIf (tE (g2 (eqD false) (gVar 1) (gC (.str "ascending")))) (sExpr (gApp (gVar 3) (Dm.gTup (aCons (gC (.str "end")) (aCons (gC (.int 0)) (aNil)))))) (sNext))
  (sRet (Dm.gTup (aCons (gList (aCons (Dm.gTup (aCons (gC (.str "take")) (aCons (gC (.int 0)) (aNil)))) (aCons (Dm.gTup (aCons (gC (.str "end")) (aCons (gC (.int 0)) (aNil)))) (aNil)))) (aCons (gVar 2) (aCons (gVar 3) (aNil)))))))))
def F__way_by_two : Fd := runB 4 g__way_by_two
abbrev N__way_to_refusal : List Str := ["rule", "houses", "falls", "scheme", "budget", "lots", "kept", "takes", "house"]
def g__way_to_refusal : Gs := sSeq (sAsg (gVar 0) (tgTup 2 (tgCons (tgName 3) (tgCons (tgName 4) (tgNil)))))
  (sSeq (sAsg (g2 addD (g2 divD (gVar 4) (gA (argN 1 (callP F_lot_size)) (aCons (gVar 3) (aNil)))) (gC (.int 1))) (tgName 5))
  (sSeq (sAsg (gA min2D (aCons (gVar 5) (aCons (g2 subD (gVar 1) (gC (.int 1))) (aNil)))) (tgName 6))
  (sSeq (sIf (tAndD (tE (g2 ltD (gVar 6) (gVar 5))) (tNotD (tAndD (tE (gVar 2)) (tE (g2 (eqD false) (g2 ixD (gVar 3) (gC (.int 0))) (gC (.str "again"))))))) (sRet (gC .non)) (sNext))
  (sSeq (sAsg (gComp [8] (iR2 (aCons (gC (.int 1)) (aCons (g2 addD (gVar 6) (gC (.int 1))) (aNil)))) (tcName 8) (fun _ cs => .ok true cs) (Dm.gTup (aCons (gC (.str "take")) (aCons (gVar 8) (aNil))))) (tgName 7))
  (sRet (Dm.gTup (aCons (gList (aCons (Dm.gTup (aCons (gC (.str "take")) (aCons (gC (.int 0)) (aNil)))) (aCons (Dm.gTup (aCons (gC (.str "fall")) (aCons (gC (.int 0)) (aNil)))) (aNil)))) (aCons (g2 subD (gVar 5) (gVar 6)) (aCons (g2 addD (gVar 7) (gList (aCons (Dm.gTup (aCons (gC (.str "take")) (aCons (gC (.int 0)) (aNil)))) (aNil)))) (aNil))))))))))
def F__way_to_refusal : Fd := runB 9 g__way_to_refusal
abbrev N__way_to_break : List Str := ["rule", "houses", "falls", "wish", "scheme", "budget", "kind"]
def g__way_to_break : Gs := sSeq (sAsg (gVar 0) (tgTup 2 (tgCons (tgName 4) (tgCons (tgName 5) (tgNil)))))
  (sSeq (sAsg (g2 ixD (gVar 4) (gC (.int 0))) (tgName 6))
  (sSeq (sIf (tE (g2 (eqD false) (gVar 3) (gC (.str "early")))) (sRet (gIf (tE (g2 (eqD false) (gVar 6) (gC (.str "late")))) (Dm.gTup (aCons (gList (aNil)) (aCons (gC (.int 0)) (aCons (gList (aCons (Dm.gTup (aCons (gC (.str "take")) (aCons (gC (.int 0)) (aNil)))) (aNil))) (aNil))))) (gC .non))) (sNext))
  (sSeq (sIf (tE (g2 (eqD false) (gVar 3) (gC (.str "free")))) (sRet (gIf (tE (g2 (isD false) (gVar 5) (gC .non))) (gC .non) (gA (argN 3 (callP F__way_to_refusal)) (aCons (gVar 0) (aCons (gVar 1) (aCons (gVar 2) (aNil))))))) (sNext))
  (sSeq (sIf (tE (g2 (eqD false) (gVar 3) (gC (.str "kept")))) (sSeq (sIf (tE (g2 (eqD false) (gVar 6) (gC (.str "lost")))) (sRet (Dm.gTup (aCons (gList (aNil)) (aCons (gC (.int 0)) (aCons (gList (aCons (Dm.gTup (aCons (gC (.str "take")) (aCons (gC (.int 0)) (aNil)))) (aCons (Dm.gTup (aCons (gC (.str "fail")) (aCons (gC (.int 0)) (aNil)))) (aNil)))) (aNil)))))) (sNext))
  (sRet (gIf (tAndD (tE (g2 (eqD false) (gVar 6) (gC (.str "again")))) (tE (gVar 2))) (Dm.gTup (aCons (gList (aNil)) (aCons (gC (.int 0)) (aCons (gList (aCons (Dm.gTup (aCons (gC (.str "take")) (aCons (gC (.int 0)) (aNil)))) (aCons (Dm.gTup (aCons (gC (.str "fall")) (aCons (gC (.int 0)) (aNil)))) (aNil)))) (aNil))))) (gC .non)))) (sNext))
  (sSeq (sIf (tOrD (tE (g2 (eqD false) (gVar 6) (gC (.str "late")))) (tE (g2 (eqD false) (gVar 5) (gC (.int 0))))) (sRet (gC .non)) (sNext))
  (sSeq (sIf (tE (g2 gtD (gVar 1) (gC (.int 1)))) (sRet (gA (argN 2 (callP F__way_by_two)) (aCons (gVar 0) (aCons (gVar 3) (aNil))))) (sNext))
  (sRet (gA (argN 3 (callP F__way_by_one)) (aCons (gVar 0) (aCons (gVar 2) (aCons (gVar 3) (aNil))))))))))))
def F__way_to_break : Fd := runB 7 g__way_to_break
abbrev N_grants : List Str := ["rule", "houses", "falls", "wish"]
def g_grants : Gs := sSeq (sExpr (gA (argN 4 (callP F__check_wish)) (aCons (gVar 0) (aCons (gVar 1) (aCons (gVar 2) (aCons (gVar 3) (aNil)))))))
  (sRet (g2 (isD false) (gA (argN 4 (callP F__way_to_break)) (aCons (gVar 0) (aCons (gVar 1) (aCons (gVar 2) (aCons (gVar 3) (aNil)))))) (gC .non)))
def F_grants : Fd := runB 4 g_grants
abbrev N_is_rule : List Str := ["value"]
def g_is_rule : Gs := sRet (gA (argN 1 (callP F_is_scheme_with_budget)) (aCons (gVar 0) (aNil)))
def F_is_rule : Fd := runB 1 g_is_rule
abbrev N__law_refusal : List Str := ["plan", "cap", "firms", "drops", "lots", "more"]
def g__law_refusal : Gs := sSeq (sIf (tE (g2 (isD false) (gVar 1) (gC .non))) (sRet (gC .non)) (sNext))
  (sSeq (sIf (tE (g2 (eqD false) (g2 ixD (gVar 0) (gC (.int 0))) (gC (.str "pool")))) (sRet (gIf (tE (g2 ltD (gVar 1) (g2 subD (gVar 2) (gC (.int 1))))) (g2 addD (gVar 1) (gC (.int 2))) (gC .non))) (sNext))
  (sSeq (sAsg (g2 addD (g2 divD (gVar 1) (g2 ixD (gVar 0) (gC (.int 1)))) (gC (.int 1))) (tgName 4))
  (sSeq (sAsg (gA max2D (aCons (gC (.int 0)) (aCons (g2 subD (g2 addD (gVar 4) (gC (.int 1))) (gVar 2)) (aNil)))) (tgName 5))
  (sSeq (sIf (tAndD (tE (g2 gtD (gVar 5) (gC (.int 0)))) (tNotD (tE (gVar 3)))) (sRet (gC .non)) (sNext))
  (sRet (g2 addD (g2 addD (gVar 4) (gVar 5)) (gC (.int 1))))))))
def F__law_refusal : Fd := runB 6 g__law_refusal
abbrev N__law_least : List Str := ["plan", "cap", "firms", "drops", "hope", "crossed_here", "first"]
def g__law_least : Gs := sSeq (sAsg (gDisp [(gC (.str "full"), gC (.int 3)), (gC (.str "rest"), gC (.int 4)), (gC (.str "ascending"), gC (.int 4))]) (tgName 5))
  (sSeq (sIf (tE (g2 (eqD false) (g2 ixD (gVar 0) (gC (.int 0))) (gC (.str "late")))) (sRet (gIf (tE (g2 (eqD false) (gVar 4) (gC (.str "early")))) (gC (.int 1)) (gC .non))) (sNext))
  (sSeq (sIf (tE (g2 (eqD false) (gVar 4) (gC (.str "free")))) (sRet (gA (argN 4 (callP F__law_refusal)) (aCons (gVar 0) (aCons (gVar 1) (aCons (gVar 2) (aCons (gVar 3) (aNil))))))) (sNext))
  (sSeq (sIf (tE (g2 (eqD false) (gVar 4) (gC (.str "kept")))) (sRet (gIf (tOrD (tE (g2 (eqD false) (g2 ixD (gVar 0) (gC (.int 0))) (gC (.str "lost")))) (tAndD (tE (g2 (eqD false) (g2 ixD (gVar 0) (gC (.int 0))) (gC (.str "again")))) (tE (gVar 3)))) (gC (.int 2)) (gC .non))) (sNext))
  (sSeq (sIf (tOrD (tE (g2 (eqD false) (gVar 4) (gC (.str "early")))) (tE (g2 (eqD false) (gVar 1) (gC (.int 0))))) (sRet (gC .non)) (sNext))
  (sSeq (sAsg (gC (.int 0)) (tgName 6))
  (sSeq (sIf (tAndD (tE (g2 (eqD false) (g2 ixD (gVar 0) (gC (.int 0))) (gC (.str "again")))) (tE (g2 (isD true) (gVar 1) (gC .non)))) (sAsg (gA max2D (aCons (gC (.int 0)) (aCons (g2 subD (g2 ixD (gVar 0) (gC (.int 1))) (gVar 1)) (aNil)))) (tgName 6)) (sNext))
  (sSeq (sIf (tAndD (tE (g2 gtD (gVar 2) (gC (.int 1)))) (tE (g2 (eqD false) (gVar 6) (gC (.int 0))))) (sRet (gDIx (gVar 5) (gVar 4))) (sNext))
  (sSeq (sIf (tE (g2 gtD (gVar 2) (gC (.int 1)))) (sRet (g2 addD (g2 addD (g2 mulD (gC (.int 2)) (gVar 6)) (gC (.int 2))) (g2 mulD (gC (.int 2)) (gA intD (aCons (g2 (eqD false) (gVar 4) (gC (.str "ascending"))) (aNil)))))) (sNext))
  (sSeq (sIf (tOrD (tE (g2 (eqD false) (gVar 4) (gC (.str "ascending")))) (tOrD (tE (g2 (eqD false) (g2 ixD (gVar 0) (gC (.int 0))) (gC (.str "pool")))) (tAndD (tE (g2 (eqD false) (g2 ixD (gVar 0) (gC (.int 0))) (gC (.str "again")))) (tNotD (tE (gVar 3)))))) (sRet (gC .non)) (sNext))
  (sRet (gIf (tE (g2 (eqD false) (gVar 6) (gC (.int 0)))) (gC (.int 4)) (g2 addD (g2 mulD (gC (.int 2)) (gVar 6)) (gC (.int 3))))))))))))))
def F__law_least : Fd := runB 7 g__law_least
abbrev N__law_right : List Str := ["hopes", "firms", "drops", "deal", "kept", "early_and_free", "holds", "told", "given", "some", "hope"]
def g__law_right : Gs := sSeq (sAsg (gA listD (aCons (gVar 0) (aNil))) (tgName 4))
  (sSeq (sAsg (gAnd (g2 (inD false) (gC (.str "early")) (gVar 0)) (g2 (inD false) (gC (.str "free")) (gVar 0))) (tgName 5))
  (sSeq (sAsg (gOr (g2 (eqD false) (gVar 1) (gC (.int 1))) (gNot (gVar 5))) (tgName 6))
  (sSeq (sIf (tAndD (tE (g2 (inD true) (gC (.str "full")) (gVar 0))) (tAndD (tE (g2 (inD true) (gC (.str "rest")) (gVar 0))) (tE (g2 (inD true) (gC (.str "ascending")) (gVar 0))))) (sAsg (gC (.bl true)) (tgName 6)) (sNext))
  (sSeq (sAsg (gList (aCons (gA (argN 3 (callP F_can_have)) (aCons (gVar 0) (aCons (gVar 1) (aCons (gVar 2) (aNil))))) (aCons (gKw0 3 (permG [2, 1, 0]) (argN 3 (callP F_can_have)) (aCons (gVar 2) (aCons (gVar 1) (aCons (gVar 0) (aNil))))) (aNil)))) (tgName 7))
  (sSeq (sIf (tE (g2 (eqD true) (gA reprD (aCons (gVar 7) (aNil))) (gA reprD (aCons (gList (aCons (gVar 6) (aCons (gVar 6) (aNil)))) (aNil))))) (sRet (gC (.bl false))) (sNext))
  (sSeq (sAsg (gA (argN 3 (callP F_rule_for)) (aCons (gVar 0) (aCons (gVar 1) (aCons (gVar 2) (aNil))))) (tgName 8))
  (sSeq (sIf (tOrD (tE (g2 (eqD true) (gKw0 3 (permG [2, 1, 0]) (argN 3 (callP F_rule_for)) (aCons (gVar 2) (aCons (gVar 1) (aCons (gVar 0) (aNil))))) (gVar 8))) (tE (g2 (eqD true) (gVar 0) (gVar 4)))) (sRet (gC (.bl false))) (sNext))
  (sSeq (sIf (tNotD (tE (gVar 6))) (sSeq (sIf (tE (g2 (isD true) (gVar 8) (gC .non))) (sRet (gC (.bl false))) (sNext))
  (sSeq (sAsg (gComp [10] (iL (gVar 0)) (tcName 10) (fun _ cs => .ok true cs) (gA (argN 4 (callP F_grants)) (aCons (gVar 3) (aCons (gVar 1) (aCons (gVar 2) (aCons (gVar 10) (aNil))))))) (tgName 9))
  (sRet (g2 (inD false) (gC (.bl false)) (gVar 9))))) (sNext))
  (sSeq (sIf (tOrD (tNotD (tE (gA isiD (aCons (gVar 8) (aCons (gC (.ty "tuple")) (aNil)))))) (tOrD (tE (g2 (eqD true) (gA lenD (aCons (gVar 8) (aNil))) (gC (.int 2)))) (tE (g2 (isBD true) (gA (argN 1 (callP F_is_rule)) (aCons (gVar 8) (aNil))) (gC (.bl true)))))) (sRet (gC (.bl false))) (sNext))
  (sRet (g2 (eqD false) (gComp [10] (iL (gVar 0)) (tcName 10) (tE (g2 (isD true) (gA (argN 5 (callP F__law_least)) (aCons (g2 ixD (gVar 8) (gC (.int 0))) (aCons (g2 ixD (gVar 8) (gC (.int 1))) (aCons (gVar 1) (aCons (gVar 2) (aCons (gVar 10) (aNil))))))) (gC .non))) (gVar 10)) (gList (aNil)))))))))))))
def F__law_right : Fd := runB 11 g__law_right
abbrev N__law_deal : List Str := ["source", "firms", "far", "order", "plan", "wide", "near", "some", "cap"]
def g__law_deal : Gs := sSeq (sAsg (gList (aCons (g2 addD (gC (.int 1)) (gA (argN 2 F__law_draw) (aCons (gVar 0) (aCons (gC (.int 4)) (aNil))))) (aCons (g2 addD (gC (.int 1)) (gA (argN 2 F__law_draw) (aCons (gVar 0) (aCons (gC (.int 450)) (aNil))))) (aCons (g2 addD (gC (.int 1)) (gA (argN 2 F__law_draw) (aCons (gVar 0) (aCons (g2 subD (g2 powD (gC (.int 10)) (gC (.int 30))) (gC (.int 1))) (aNil))))) (aNil))))) (tgName 2))
  (sSeq (sAsg (g2 ixD (gVar 2) (gA (argN 2 F__law_draw) (aCons (gVar 0) (aCons (gC (.int 3)) (aNil))))) (tgName 2))
  (sSeq (sAsg (g2 ixD (gList (aCons (gC (.str "least")) (aCons (gC (.str "greatest")) (aCons (gC (.str "oldest")) (aCons (gC (.str "newest")) (aNil)))))) (gA (argN 2 F__law_draw) (aCons (gVar 0) (aCons (gC (.int 4)) (aNil))))) (tgName 3))
  (sSeq (sAsg (gList (aCons (Dm.gTup (aCons (gC (.str "late")) (aNil))) (aCons (Dm.gTup (aCons (gC (.str "lost")) (aCons (gVar 2) (aNil)))) (aCons (Dm.gTup (aCons (gC (.str "again")) (aCons (gVar 2) (aNil)))) (aCons (Dm.gTup (aCons (gC (.str "again")) (aCons (gVar 2) (aNil)))) (aCons (Dm.gTup (aCons (gC (.str "again")) (aCons (gVar 2) (aNil)))) (aCons (Dm.gTup (aCons (gC (.str "pool")) (aCons (gVar 3) (aNil)))) (aNil)))))))) (tgName 4))
  (sSeq (sAsg (g2 ixD (gVar 4) (gA (argN 2 F__law_draw) (aCons (gVar 0) (aCons (gC (.int 6)) (aNil))))) (tgName 4))
  (sSeq (sAsg (gIf (tE (g2 (eqD false) (g2 ixD (gVar 4) (gC (.int 0))) (gC (.str "again")))) (gVar 2) (gC (.int 1))) (tgName 5))
  (sSeq (sAsg (g2 subD (g2 addD (g2 mulD (gVar 5) (gA (argN 2 F__law_draw) (aCons (gVar 0) (aCons (g2 addD (gVar 1) (gC (.int 1))) (aNil))))) (gA (argN 2 F__law_draw) (aCons (gVar 0) (aCons (gC (.int 3)) (aNil))))) (gC (.int 1))) (tgName 6))
  (sSeq (sAsg (gList (aCons (gC (.int 0)) (aCons (gVar 6) (aCons (gVar 6) (aCons (g2 subD (gVar 5) (gA (argN 2 F__law_draw) (aCons (gVar 0) (aCons (gC (.int 420)) (aNil))))) (aCons (g2 mulD (gVar 5) (gA (argN 2 F__law_draw) (aCons (gVar 0) (aCons (gC (.int 420)) (aNil))))) (aCons (gA (argN 2 F__law_draw) (aCons (gVar 0) (aCons (g2 powD (gC (.int 10)) (gC (.int 30))) (aNil)))) (aNil)))))))) (tgName 7))
  (sSeq (sAsg (gA max2D (aCons (gC (.int 0)) (aCons (gA min2D (aCons (g2 subD (g2 powD (gC (.int 10)) (gC (.int 30))) (gC (.int 1))) (aCons (g2 ixD (gVar 7) (gA (argN 2 F__law_draw) (aCons (gVar 0) (aCons (gC (.int 6)) (aNil))))) (aNil)))) (aNil)))) (tgName 8))
  (sSeq (sIf (tOrD (tE (g2 (inD false) (g2 ixD (gVar 4) (gC (.int 0))) (gList (aCons (gC (.str "late")) (aCons (gC (.str "lost")) (aNil)))))) (tE (g2 (eqD false) (gA (argN 2 F__law_draw) (aCons (gVar 0) (aCons (gC (.int 5)) (aNil)))) (gC (.int 0))))) (sAsg (gC .non) (tgName 8)) (sNext))
  (sRet (Dm.gTup (aCons (gVar 4) (aCons (gVar 8) (aNil))))))))))))))
def F__law_deal : Fd := runB 9 g__law_deal
abbrev N_law : List Str := ["script", "k", "cell", "source", "more", "drops", "mask", "hopes", "firms"]
def g_law : Gs := sSeq (sFor (iE (aCons (gSl (g2 addD (gVar 0) (gList (aCons (gC (.int 0)) (aNil)))) (oNone) (oSome (gA max2D (aCons (gC (.int 1)) (aCons (gA min2D (aCons (gA lenD (aCons (gVar 0) (aNil))) (aCons (gC (.int 8)) (aNil)))) (aNil)))))) (aNil))) (tgTup 2 (tgCons (tgName 1) (tgCons (tgName 2) (tgNil)))) (sScope (sSeq (sAsg (gA (argN 2 F__law_source) (aCons (gVar 2) (aCons (gVar 1) (aNil)))) (tgName 3))
  (sSeq (sAsg (g2 addD (gC (.int 2)) (gA (argN 2 F__law_draw) (aCons (gVar 3) (aCons (gC (.int 19)) (aNil))))) (tgName 4))
  (sSeq (sAsg (g2 (eqD false) (gA (argN 2 F__law_draw) (aCons (gVar 3) (aCons (gC (.int 2)) (aNil)))) (gC (.int 0))) (tgName 5))
  (sFor (iR1 (aCons (gC (.int 64)) (aNil))) (tgName 6) (sScope (sSeq (sAsg (gA (argN 2 (callS F__law_hopes)) (aCons (gVar 3) (aCons (gVar 6) (aNil)))) (tgName 7))
  (sFor (iL (gList (aCons (gC (.int 1)) (aCons (g2 ixD (gList (aCons (gC (.int 2)) (aCons (gC (.int 3)) (aCons (gVar 4) (aCons (gC (.int 20)) (aNil)))))) (gA (argN 2 F__law_draw) (aCons (gVar 3) (aCons (gC (.int 4)) (aNil))))) (aNil))))) (tgName 8) (sScope (sIf (tNotD (tE (gA (argN 4 (callP F__law_right)) (aCons (gVar 7) (aCons (gVar 8) (aCons (gVar 5) (aCons (gA (argN 2 F__law_deal) (aCons (gVar 3) (aCons (gVar 8) (aNil)))) (aNil)))))))) (sRet (gC (.bl false))) (sNext))))))))))))
  (sRet (gC (.bl true)))
def F_law : Fd := runB 9 g_law
abbrev N_check_scheme : List Str := ["value"]
def g_check_scheme : Gs := sIf (tNotD (tE (gA (argN 1 (callP F_is_scheme)) (aCons (gVar 0) (aNil))))) (sDead) (sNext)
def F_check_scheme : Fd := runB 1 g_check_scheme

end
end My
set_option linter.all false
set_option maxRecDepth 100000
set_option maxHeartbeats 4000000
namespace My
open PySem PySem.Spec L2 Dm
def top (i : Nat) : Stmt := PySem.Challenge.pw_holesleft_k53_wishes_together.main.body.getD i (.Pass ⟨0, 0, 0, 0⟩)
abbrev s__law_source : Stmt := top 42
abbrev s__law_draw : Stmt := top 43
abbrev s__law_hopes : Stmt := top 47
abbrev s_is_integer : Stmt := top 10
abbrev s_is_within : Stmt := top 11
abbrev s_check_houses : Stmt := top 14
abbrev s__check_falls : Stmt := top 29
abbrev s__is_wish : Stmt := top 28
abbrev s__check_wishes : Stmt := top 31
abbrev s__can_grant : Stmt := top 39
abbrev s_rule_for : Stmt := top 40
abbrev s_can_have : Stmt := top 38
abbrev s_is_size : Stmt := top 13
abbrev s_is_scheme : Stmt := top 19
abbrev s_is_natural : Stmt := top 12
abbrev s_is_scheme_with_budget : Stmt := top 22
abbrev s_check_rule : Stmt := top 23
abbrev s__check_wish : Stmt := top 30
abbrev s_lot_size : Stmt := top 16
abbrev s__many_before_next_lot : Stmt := top 35
abbrev s__way_by_one : Stmt := top 37
abbrev s__way_by_two : Stmt := top 36
abbrev s__way_to_refusal : Stmt := top 34
abbrev s__way_to_break : Stmt := top 33
abbrev s_grants : Stmt := top 32
abbrev s_is_rule : Stmt := top 27
abbrev s__law_refusal : Stmt := top 44
abbrev s__law_least : Stmt := top 45
abbrev s__law_right : Stmt := top 48
abbrev s__law_deal : Stmt := top 46
abbrev s_law : Stmt := top 49
/-- a module constant -/
structure Kon (K : PySem.W.Frag) (mg : Str → Option Value) (x : Str) (d : D) : Prop where
  ex : ∃ (u : Value) (v : V), mg x = some u ∧ RelV v u ∧ ∀ av m H, R K av m H v d
theorem Kon.de {X : Cx} {EX : XK} {x : Str} {pos : Pos} {d : D} (k : Kon X.K X.mg x d) (hg : Gl X x := by rfl) (hdb : (x == ("__debug__" : Str)) = false := by decide) : DE X EX (.Name x pos) (gC d) :=
  let ⟨_, _, hm, r, h⟩ := k.ex; de_glob hg hm r h hdb
structure Txt (K : PySem.W.Frag) (mg : Str → Option Value) : Prop where
  n_abs : mg "abs" = none
  n_all : mg "all" = none
  n_any : mg "any" = none
  n_bool : mg "bool" = none
  n_enumerate : mg "enumerate" = none
  n_int : mg "int" = none
  n_isinstance : mg "isinstance" = none
  n_len : mg "len" = none
  n_list : mg "list" = none
  n_max : mg "max" = none
  n_min : mg "min" = none
  n_range : mg "range" = none
  n_repr : mg "repr" = none
  n_set : mg "set" = none
  n_str : mg "str" = none
  n_tuple : mg "tuple" = none
  c_GREATEST_SIZE : Kon K mg "GREATEST_SIZE" k_GREATEST_SIZE
  c_IN_SEQUENCE : Kon K mg "IN_SEQUENCE" k_IN_SEQUENCE
  c_KINDS_WITH_BUDGET : Kon K mg "KINDS_WITH_BUDGET" k_KINDS_WITH_BUDGET
  c_MOST_HOUSES : Kon K mg "MOST_HOUSES" k_MOST_HOUSES
  c_ORDERS : Kon K mg "ORDERS" k_ORDERS
  c_WISHES : Kon K mg "WISHES" k_WISHES
section
variable {P : Program} {w : World} {K : PySem.W.Frag} {mg : Str → Option Value} {base : Heap}
theorem sc__law_source : FnScope N__law_source ["cell", "k"] (defScope s__law_source) := ⟨rfl, rfl, rfl, by decide +kernel, rfl, by decide +kernel, by decide +kernel⟩
theorem ok__law_source {f : Addr} {fd : FuncData} (Fn : Fun K "_law_source" "_law_source" s__law_source f fd) (T : Txt K mg) : FnD P w K mg base 1 f fd ["cell", "k"] F__law_source :=
  fnd_of Fn sc__law_source fun cdv A outer s H E room quiet => ((ds_cons (ds_set 2 sc__law_source.nd (de_abs (da_cons (de_var 0) da_nil) T.n_abs))
    (ds_one (ds_ret (de_listC (da_cons (de_max2 rfl (da_cons de_int (da_cons (de_sub (de_var 2) (de_pow de_int de_int)) da_nil)) T.n_max) (da_cons (de_add (de_add (de_mul (de_mod (de_intc (da_cons (de_var 2) da_nil) T.n_int) (de_add (de_pow de_int de_int) de_int)) de_int) (de_mul de_int (de_var 1))) (de_intc (da_cons (de_lt (de_var 0) de_int) da_nil) T.n_int)) (da_cons de_int da_nil))))))) : DSs (cxOf (L2.CX P w) P w K mg base N__law_source "_law_source" (defScope s__law_source) f cdv A outer s H E) E (defBody s__law_source) g__law_source)
theorem sc__law_draw : FnScope N__law_draw ["source", "count"] (defScope s__law_draw) := ⟨rfl, rfl, rfl, by decide +kernel, rfl, by decide +kernel, by decide +kernel⟩
theorem ok__law_draw {f : Addr} {fd : FuncData} (Fn : Fun K "_law_draw" "_law_draw" s__law_draw f fd) (T : Txt K mg) : FnD P w K mg base 1 f fd ["source", "count"] F__law_draw :=
  fnd_of Fn sc__law_draw fun cdv A outer s H E room quiet => ((ds_cons (ds_if (dt_gt (de_ix (de_var 0) de_int) de_int) (ds_cons (ds_set 2 sc__law_draw.nd (de_mod (de_intc (da_cons (de_ix (de_var 0) de_int) da_nil) T.n_int) (de_var 1)))
    (ds_cons (ds_asg (de_div (de_ix (de_var 0) de_int) (de_var 1)) (dg_sub (de_var 0) de_int))
    (ds_one (ds_ret (de_var 2))))) ds_nil)
    (ds_cons (ds_asg (de_add (de_ix (de_var 0) de_int) de_int) (dg_sub (de_var 0) de_int))
    (ds_cons (ds_set 3 sc__law_draw.nd (de_mod (de_intc (da_cons (de_pow (de_add (de_ix (de_var 0) de_int) (de_mul de_int (de_ix (de_var 0) de_int))) de_int) da_nil) T.n_int) (de_add (de_pow de_int de_int) de_int)))
    (ds_cons (ds_set 3 sc__law_draw.nd (de_mod (de_intc (da_cons (de_pow (de_add (de_mul (de_var 3) (de_ix (de_var 0) de_int)) de_int) de_int) da_nil) T.n_int) (de_add (de_pow de_int de_int) de_int)))
    (ds_one (ds_ret (de_mod (de_intc (da_cons (de_div (de_var 3) de_int) da_nil) T.n_int) (de_var 1)))))))) : DSs (cxOf (L2.CX P w) P w K mg base N__law_draw "_law_draw" (defScope s__law_draw) f cdv A outer s H E) E (defBody s__law_draw) g__law_draw)
theorem sc__law_hopes : FnScope N__law_hopes ["source", "mask"] (defScope s__law_hopes) := ⟨rfl, rfl, rfl, by decide +kernel, rfl, by decide +kernel, by decide +kernel⟩
theorem ok__law_hopes {f : Addr} {fd : FuncData} (Fn : Fun K "_law_hopes" "_law_hopes" s__law_hopes f fd) (T : Txt K mg) (c__law_draw : Cal P w K mg base 1 "_law_draw" "_law_draw" s__law_draw ["source", "count"] F__law_draw) : FnD P w K mg base 2 f fd ["source", "mask"] F__law_hopes :=
  fnd_of Fn sc__law_hopes fun cdv A outer s H E room quiet => ((ds_cons (ds_par 2 3 (x := "some") (y := "found") (hps := fun ha => ps_par rfl sc__law_hopes.nd rfl rfl (by decide) rfl rfl ha rfl) (de_list (da_cons de_str (da_cons de_str (da_cons de_str (da_cons de_str (da_cons de_str (da_cons de_str da_nil))))))) (de_listC da_nil))
    (ds_cons (ds_compC (own := [("k", 5), ("hope", 6)]) 4 rfl sc__law_hopes.nd (di_enum rfl T.n_enumerate (da_cons (de_var 2) da_nil)) (blkOk_by (own := [("k", 5), ("hope", 6)]) (N := N__law_hopes) (sc := defScope s__law_hopes) (by decide +kernel)) (fun _ _ _ _ _ => (dc_tup rfl (dcs_cons (dc_name 5 sc__law_hopes.nd) (dcs_cons (dc_name 6 sc__law_hopes.nd) dcs_nil)))) (fun _ _ _ _ _ => (dts_one (dt_eq room (de_band (de_shr (de_var 1) (de_var 5)) de_int) de_int))) (fun _ _ _ _ _ => de_var 6) (sw_true rfl rfl rfl (by decide +kernel)))
    (ds_cons (ds_while 1000000 own_body (dt_ne room (de_var 4) (de_list da_nil)) (ds_one (ds_expr (de_append (de_var 3) (de_pop (de_var 4) (de_calK (c__law_draw.up (by decide)) room quiet pass_body (da_cons (de_var 0) (da_cons (de_len (da_cons (de_var 4) da_nil) T.n_len) da_nil))))))))
    (ds_one (ds_ret (de_var 3)))))) : DSs (cxOf (L2.CX P w) P w K mg base N__law_hopes "_law_hopes" (defScope s__law_hopes) f cdv A outer s H E) E (defBody s__law_hopes) g__law_hopes)
theorem sc_is_integer : FnScope N_is_integer ["value"] (defScope s_is_integer) := ⟨rfl, rfl, rfl, by decide +kernel, rfl, by decide +kernel, by decide +kernel⟩
theorem ok_is_integer {f : Addr} {fd : FuncData} (Fn : Fun K "is_integer" "is_integer" s_is_integer f fd) (T : Txt K mg) : FnD P w K mg base 1 f fd ["value"] F_is_integer :=
  fnd_of Fn sc_is_integer fun cdv A outer s H E room quiet => ((ds_one (ds_ret (de_and (de_isi (da_cons (de_var 0) (da_cons (de_ty T.n_int (by decide +kernel)) da_nil)) T.n_isinstance) (de_one (de_not (de_isi (da_cons (de_var 0) (da_cons (de_ty T.n_bool (by decide +kernel)) da_nil)) T.n_isinstance)))))) : DSs (cxOf (L2.CX P w) P w K mg base N_is_integer "is_integer" (defScope s_is_integer) f cdv A outer s H E) E (defBody s_is_integer) g_is_integer)
theorem sc_is_within : FnScope N_is_within ["value", "least", "greatest"] (defScope s_is_within) := ⟨rfl, rfl, rfl, by decide +kernel, rfl, by decide +kernel, by decide +kernel⟩
theorem ok_is_within {f : Addr} {fd : FuncData} (Fn : Fun K "is_within" "is_within" s_is_within f fd) (T : Txt K mg) (c_is_integer : Cal P w K mg base 1 "is_integer" "is_integer" s_is_integer ["value"] F_is_integer) : FnD P w K mg base 2 f fd ["value", "least", "greatest"] F_is_within :=
  fnd_of Fn sc_is_within fun cdv A outer s H E room quiet => ((ds_one (ds_ret (de_and (de_calP (c_is_integer.up (by decide)) room quiet pass_body (da_cons (de_var 0) da_nil)) (de_one (de_chain op_le od_le op_le od_le (de_var 1) (de_var 0) (de_var 2)))))) : DSs (cxOf (L2.CX P w) P w K mg base N_is_within "is_within" (defScope s_is_within) f cdv A outer s H E) E (defBody s_is_within) g_is_within)
theorem sc_check_houses : FnScope N_check_houses ["houses"] (defScope s_check_houses) := ⟨rfl, rfl, rfl, by decide +kernel, rfl, by decide +kernel, by decide +kernel⟩
theorem ok_check_houses {f : Addr} {fd : FuncData} (Fn : Fun K "check_houses" "check_houses" s_check_houses f fd) (T : Txt K mg) (c_is_within : Cal P w K mg base 2 "is_within" "is_within" s_is_within ["value", "least", "greatest"] F_is_within) : FnD P w K mg base 3 f fd ["houses"] F_check_houses :=
  fnd_of Fn sc_check_houses fun cdv A outer s H E room quiet => ((ds_one (ds_if (dt_not (dt_val (de_calP (c_is_within.up (by decide)) room quiet pass_body (da_cons (de_var 0) (da_cons de_int (da_cons T.c_MOST_HOUSES.de da_nil)))))) (ds_one ds_dead) ds_nil)) : DSs (cxOf (L2.CX P w) P w K mg base N_check_houses "check_houses" (defScope s_check_houses) f cdv A outer s H E) E (defBody s_check_houses) g_check_houses)
theorem sc__check_falls : FnScope N__check_falls ["falls"] (defScope s__check_falls) := ⟨rfl, rfl, rfl, by decide +kernel, rfl, by decide +kernel, by decide +kernel⟩
theorem ok__check_falls {f : Addr} {fd : FuncData} (Fn : Fun K "_check_falls" "_check_falls" s__check_falls f fd) (T : Txt K mg) : FnD P w K mg base 1 f fd ["falls"] F__check_falls :=
  fnd_of Fn sc__check_falls fun cdv A outer s H E room quiet => ((ds_one (ds_if (dt_not (dt_val (de_isi (da_cons (de_var 0) (da_cons (de_ty T.n_bool (by decide +kernel)) da_nil)) T.n_isinstance))) (ds_one ds_dead) ds_nil)) : DSs (cxOf (L2.CX P w) P w K mg base N__check_falls "_check_falls" (defScope s__check_falls) f cdv A outer s H E) E (defBody s__check_falls) g__check_falls)
theorem sc__is_wish : FnScope N__is_wish ["value"] (defScope s__is_wish) := ⟨rfl, rfl, rfl, by decide +kernel, rfl, by decide +kernel, by decide +kernel⟩
theorem ok__is_wish {f : Addr} {fd : FuncData} (Fn : Fun K "_is_wish" "_is_wish" s__is_wish f fd) (T : Txt K mg) : FnD P w K mg base 1 f fd ["value"] F__is_wish :=
  fnd_of Fn sc__is_wish fun cdv A outer s H E room quiet => ((ds_one (ds_ret (de_and (de_isi (da_cons (de_var 0) (da_cons (de_ty T.n_str (by decide +kernel)) da_nil)) T.n_isinstance) (de_one (de_in (de_var 0) T.c_WISHES.de))))) : DSs (cxOf (L2.CX P w) P w K mg base N__is_wish "_is_wish" (defScope s__is_wish) f cdv A outer s H E) E (defBody s__is_wish) g__is_wish)
theorem sc__check_wishes : FnScope N__check_wishes ["wishes", "houses", "falls"] (defScope s__check_wishes) := ⟨rfl, rfl, rfl, by decide +kernel, rfl, by decide +kernel, by decide +kernel⟩
theorem ok__check_wishes {f : Addr} {fd : FuncData} (Fn : Fun K "_check_wishes" "_check_wishes" s__check_wishes f fd) (T : Txt K mg) (c_check_houses : Cal P w K mg base 3 "check_houses" "check_houses" s_check_houses ["houses"] F_check_houses) (c__check_falls : Cal P w K mg base 1 "_check_falls" "_check_falls" s__check_falls ["falls"] F__check_falls) (c__is_wish : Cal P w K mg base 1 "_is_wish" "_is_wish" s__is_wish ["value"] F__is_wish) : FnD P w K mg base 4 f fd ["wishes", "houses", "falls"] F__check_wishes :=
  fnd_of Fn sc__check_wishes fun cdv A outer s H E room quiet => ((ds_cons (ds_if (DW.dt (dw_or (dt_not (dt_val (de_isi (da_cons (de_var 0) (da_cons (de_ty T.n_list (by decide +kernel)) da_nil)) T.n_isinstance))) (dw_or1 (dt_not (dt_val (de_all rfl (da_cons (de_comp (own := [("wish", 3)]) rfl sc__check_wishes.nd (di_list (de_var 0)) (blkOk_by (own := [("wish", 3)]) (N := N__check_wishes) (sc := defScope s__check_wishes) (by decide +kernel)) (fun _ _ _ _ _ => (dc_name 3 sc__check_wishes.nd)) (fun _ _ _ _ _ => dts_nil) (fun _ _ _ _ _ => (dn_calP (c__is_wish.up (by decide)) room quiet pass_in_comp (da_cons (de_var 3) da_nil)))) da_nil) T.n_all)))))) (ds_one ds_dead) ds_nil)
    (ds_cons (ds_if (dt_lt (de_lenSetLS rfl (de_var 0) T.n_len T.n_set) (de_len (da_cons (de_var 0) da_nil) T.n_len)) (ds_one ds_dead) ds_nil)
    (ds_cons (ds_expr (de_calP (c_check_houses.up (by decide)) room quiet pass_body (da_cons (de_var 1) da_nil)))
    (ds_one (ds_expr (de_calP (c__check_falls.up (by decide)) room quiet pass_body (da_cons (de_var 2) da_nil))))))) : DSs (cxOf (L2.CX P w) P w K mg base N__check_wishes "_check_wishes" (defScope s__check_wishes) f cdv A outer s H E) E (defBody s__check_wishes) g__check_wishes)
theorem sc__can_grant : FnScope N__can_grant ["wishes", "houses"] (defScope s__can_grant) := ⟨rfl, rfl, rfl, by decide +kernel, rfl, by decide +kernel, by decide +kernel⟩
theorem ok__can_grant {f : Addr} {fd : FuncData} (Fn : Fun K "_can_grant" "_can_grant" s__can_grant f fd) (T : Txt K mg) : FnD P w K mg base 1 f fd ["wishes", "houses"] F__can_grant :=
  fnd_of Fn sc__can_grant fun cdv A outer s H E room quiet => ((ds_cons (ds_if (DW.dt (dw_or (dt_eq room (de_var 1) de_int) (dw_or (dt_notin de_str (de_var 0)) (dw_or1 (dt_notin de_str (de_var 0)))))) (ds_one (ds_ret de_bl)) ds_nil)
    (ds_one (ds_ret (de_not (de_any rfl (da_cons (de_comp (own := [("wish", 2)]) rfl sc__can_grant.nd (di_tup T.c_IN_SEQUENCE.de) (blkOk_by (own := [("wish", 2)]) (N := N__can_grant) (sc := defScope s__can_grant) (by decide +kernel)) (fun _ _ _ _ _ => (dc_name 2 sc__can_grant.nd)) (fun _ _ _ _ _ => dts_nil) (fun _ _ _ _ _ => (de_in (de_var 2) (de_var 0)))) da_nil) T.n_any))))) : DSs (cxOf (L2.CX P w) P w K mg base N__can_grant "_can_grant" (defScope s__can_grant) f cdv A outer s H E) E (defBody s__can_grant) g__can_grant)
theorem sc_rule_for : FnScope N_rule_for ["wishes", "houses", "falls"] (defScope s_rule_for) := ⟨rfl, rfl, rfl, by decide +kernel, rfl, by decide +kernel, by decide +kernel⟩
theorem ok_rule_for {f : Addr} {fd : FuncData} (Fn : Fun K "rule_for" "rule_for" s_rule_for f fd) (T : Txt K mg) (c__check_wishes : Cal P w K mg base 4 "_check_wishes" "_check_wishes" s__check_wishes ["wishes", "houses", "falls"] F__check_wishes) (c__can_grant : Cal P w K mg base 1 "_can_grant" "_can_grant" s__can_grant ["wishes", "houses"] F__can_grant) : FnD P w K mg base 5 f fd ["wishes", "houses", "falls"] F_rule_for :=
  fnd_of Fn sc_rule_for fun cdv A outer s H E room quiet => ((ds_cons (ds_expr (de_calP (c__check_wishes.up (by decide)) room quiet pass_body (da_cons (de_var 0) (da_cons (de_var 1) (da_cons (de_var 2) da_nil)))))
    (ds_cons (ds_if (dt_not (dt_val (de_calP (c__can_grant.up (by decide)) room quiet pass_body (da_cons (de_var 0) (da_cons (de_var 1) da_nil))))) (ds_one (ds_ret de_non)) ds_nil)
    (ds_cons (ds_if (dt_notin de_str (de_var 0)) (ds_one (ds_ret (de_tup (da_cons (de_tup (da_cons de_str da_nil)) (da_cons de_non da_nil))))) ds_nil)
    (ds_one (ds_ret (de_tup (da_cons (de_tup (da_cons de_str (da_cons de_str da_nil))) (da_cons (de_if (dt_in de_str (de_var 0)) de_non de_int) da_nil)))))))) : DSs (cxOf (L2.CX P w) P w K mg base N_rule_for "rule_for" (defScope s_rule_for) f cdv A outer s H E) E (defBody s_rule_for) g_rule_for)
theorem sc_can_have : FnScope N_can_have ["wishes", "houses", "falls"] (defScope s_can_have) := ⟨rfl, rfl, rfl, by decide +kernel, rfl, by decide +kernel, by decide +kernel⟩
theorem ok_can_have {f : Addr} {fd : FuncData} (Fn : Fun K "can_have" "can_have" s_can_have f fd) (T : Txt K mg) (c__check_wishes : Cal P w K mg base 4 "_check_wishes" "_check_wishes" s__check_wishes ["wishes", "houses", "falls"] F__check_wishes) (c__can_grant : Cal P w K mg base 1 "_can_grant" "_can_grant" s__can_grant ["wishes", "houses"] F__can_grant) : FnD P w K mg base 5 f fd ["wishes", "houses", "falls"] F_can_have :=
  fnd_of Fn sc_can_have fun cdv A outer s H E room quiet => ((ds_cons (ds_expr (de_calP (c__check_wishes.up (by decide)) room quiet pass_body (da_cons (de_var 0) (da_cons (de_var 1) (da_cons (de_var 2) da_nil)))))
    (ds_one (ds_ret (de_calP (c__can_grant.up (by decide)) room quiet pass_body (da_cons (de_var 0) (da_cons (de_var 1) da_nil)))))) : DSs (cxOf (L2.CX P w) P w K mg base N_can_have "can_have" (defScope s_can_have) f cdv A outer s H E) E (defBody s_can_have) g_can_have)
theorem sc_is_size : FnScope N_is_size ["value"] (defScope s_is_size) := ⟨rfl, rfl, rfl, by decide +kernel, rfl, by decide +kernel, by decide +kernel⟩
theorem ok_is_size {f : Addr} {fd : FuncData} (Fn : Fun K "is_size" "is_size" s_is_size f fd) (T : Txt K mg) (c_is_within : Cal P w K mg base 2 "is_within" "is_within" s_is_within ["value", "least", "greatest"] F_is_within) : FnD P w K mg base 3 f fd ["value"] F_is_size :=
  fnd_of Fn sc_is_size fun cdv A outer s H E room quiet => ((ds_one (ds_ret (de_calP (c_is_within.up (by decide)) room quiet pass_body (da_cons (de_var 0) (da_cons de_int (da_cons T.c_GREATEST_SIZE.de da_nil)))))) : DSs (cxOf (L2.CX P w) P w K mg base N_is_size "is_size" (defScope s_is_size) f cdv A outer s H E) E (defBody s_is_size) g_is_size)
theorem sc_is_scheme : FnScope N_is_scheme ["value"] (defScope s_is_scheme) := ⟨rfl, rfl, rfl, by decide +kernel, rfl, by decide +kernel, by decide +kernel⟩
theorem ok_is_scheme {f : Addr} {fd : FuncData} (Fn : Fun K "is_scheme" "is_scheme" s_is_scheme f fd) (T : Txt K mg) (c_is_size : Cal P w K mg base 3 "is_size" "is_size" s_is_size ["value"] F_is_size) : FnD P w K mg base 4 f fd ["value"] F_is_scheme :=
  fnd_of Fn sc_is_scheme fun cdv A outer s H E room quiet => ((ds_cons (ds_if (DW.dt (dw_or (dt_not (dt_val (de_isi (da_cons (de_var 0) (da_cons (de_ty T.n_tuple (by decide +kernel)) da_nil)) T.n_isinstance))) (dw_or1 (dt_notin (de_len (da_cons (de_var 0) da_nil) T.n_len) (de_tup (da_cons de_int (da_cons de_int da_nil))))))) (ds_one (ds_ret de_bl)) ds_nil)
    (ds_cons (ds_set 1 sc_is_scheme.nd (de_ix (de_var 0) de_int))
    (ds_cons (ds_if (dt_not (dt_val (de_isi (da_cons (de_var 1) (da_cons (de_ty T.n_str (by decide +kernel)) da_nil)) T.n_isinstance))) (ds_one (ds_ret de_bl)) ds_nil)
    (ds_cons (ds_if (dt_eq room (de_len (da_cons (de_var 0) da_nil) T.n_len) de_int) (ds_one (ds_ret (de_eq room (de_var 1) de_str))) ds_nil)
    (ds_cons (ds_if (dt_eq room (de_var 1) de_str) (ds_one (ds_ret (de_and (de_isi (da_cons (de_ix (de_var 0) de_int) (da_cons (de_ty T.n_str (by decide +kernel)) da_nil)) T.n_isinstance) (de_one (de_in (de_ix (de_var 0) de_int) T.c_ORDERS.de))))) ds_nil)
    (ds_one (ds_ret (de_and (de_in (de_var 1) (de_tup (da_cons de_str (da_cons de_str da_nil)))) (de_one (de_calP (c_is_size.up (by decide)) room quiet pass_body (da_cons (de_ix (de_var 0) de_int) da_nil))))))))))) : DSs (cxOf (L2.CX P w) P w K mg base N_is_scheme "is_scheme" (defScope s_is_scheme) f cdv A outer s H E) E (defBody s_is_scheme) g_is_scheme)
theorem sc_is_natural : FnScope N_is_natural ["value"] (defScope s_is_natural) := ⟨rfl, rfl, rfl, by decide +kernel, rfl, by decide +kernel, by decide +kernel⟩
theorem ok_is_natural {f : Addr} {fd : FuncData} (Fn : Fun K "is_natural" "is_natural" s_is_natural f fd) (T : Txt K mg) (c_is_integer : Cal P w K mg base 1 "is_integer" "is_integer" s_is_integer ["value"] F_is_integer) : FnD P w K mg base 2 f fd ["value"] F_is_natural :=
  fnd_of Fn sc_is_natural fun cdv A outer s H E room quiet => ((ds_one (ds_ret (de_and (de_calP (c_is_integer.up (by decide)) room quiet pass_body (da_cons (de_var 0) da_nil)) (de_one (de_ge (de_var 0) de_int))))) : DSs (cxOf (L2.CX P w) P w K mg base N_is_natural "is_natural" (defScope s_is_natural) f cdv A outer s H E) E (defBody s_is_natural) g_is_natural)
theorem sc_is_scheme_with_budget : FnScope N_is_scheme_with_budget ["value"] (defScope s_is_scheme_with_budget) := ⟨rfl, rfl, rfl, by decide +kernel, rfl, by decide +kernel, by decide +kernel⟩
theorem ok_is_scheme_with_budget {f : Addr} {fd : FuncData} (Fn : Fun K "is_scheme_with_budget" "is_scheme_with_budget" s_is_scheme_with_budget f fd) (T : Txt K mg) (c_is_scheme : Cal P w K mg base 4 "is_scheme" "is_scheme" s_is_scheme ["value"] F_is_scheme) (c_is_natural : Cal P w K mg base 2 "is_natural" "is_natural" s_is_natural ["value"] F_is_natural) : FnD P w K mg base 5 f fd ["value"] F_is_scheme_with_budget :=
  fnd_of Fn sc_is_scheme_with_budget fun cdv A outer s H E room quiet => ((ds_cons (ds_if (DW.dt (dw_or (dt_not (dt_val (de_isi (da_cons (de_var 0) (da_cons (de_ty T.n_tuple (by decide +kernel)) da_nil)) T.n_isinstance))) (dw_or1 (dt_ne room (de_len (da_cons (de_var 0) da_nil) T.n_len) de_int)))) (ds_one (ds_ret de_bl)) ds_nil)
    (ds_cons (ds_asg (de_var 0) (dg_tup rfl (dgs_cons (dg_name 1 sc_is_scheme_with_budget.nd) (dgs_cons (dg_name 2 sc_is_scheme_with_budget.nd) dgs_nil))))
    (ds_cons (ds_if (dt_not (dt_val (de_calP (c_is_scheme.up (by decide)) room quiet pass_body (da_cons (de_var 1) da_nil)))) (ds_one (ds_ret de_bl)) ds_nil)
    (ds_one (ds_ret (de_or (de_is (de_var 2) de_non) (de_one (de_and (de_in (de_ix (de_var 1) de_int) T.c_KINDS_WITH_BUDGET.de) (de_one (de_calP (c_is_natural.up (by decide)) room quiet pass_body (da_cons (de_var 2) da_nil))))))))))) : DSs (cxOf (L2.CX P w) P w K mg base N_is_scheme_with_budget "is_scheme_with_budget" (defScope s_is_scheme_with_budget) f cdv A outer s H E) E (defBody s_is_scheme_with_budget) g_is_scheme_with_budget)
theorem sc_check_rule : FnScope N_check_rule ["rule"] (defScope s_check_rule) := ⟨rfl, rfl, rfl, by decide +kernel, rfl, by decide +kernel, by decide +kernel⟩
theorem ok_check_rule {f : Addr} {fd : FuncData} (Fn : Fun K "check_rule" "check_rule" s_check_rule f fd) (T : Txt K mg) (c_is_scheme_with_budget : Cal P w K mg base 5 "is_scheme_with_budget" "is_scheme_with_budget" s_is_scheme_with_budget ["value"] F_is_scheme_with_budget) : FnD P w K mg base 6 f fd ["rule"] F_check_rule :=
  fnd_of Fn sc_check_rule fun cdv A outer s H E room quiet => ((ds_one (ds_if (dt_not (dt_val (de_calP (c_is_scheme_with_budget.up (by decide)) room quiet pass_body (da_cons (de_var 0) da_nil)))) (ds_one ds_dead) ds_nil)) : DSs (cxOf (L2.CX P w) P w K mg base N_check_rule "check_rule" (defScope s_check_rule) f cdv A outer s H E) E (defBody s_check_rule) g_check_rule)
theorem sc__check_wish : FnScope N__check_wish ["rule", "houses", "falls", "wish"] (defScope s__check_wish) := ⟨rfl, rfl, rfl, by decide +kernel, rfl, by decide +kernel, by decide +kernel⟩
theorem ok__check_wish {f : Addr} {fd : FuncData} (Fn : Fun K "_check_wish" "_check_wish" s__check_wish f fd) (T : Txt K mg) (c_check_houses : Cal P w K mg base 3 "check_houses" "check_houses" s_check_houses ["houses"] F_check_houses) (c__check_falls : Cal P w K mg base 1 "_check_falls" "_check_falls" s__check_falls ["falls"] F__check_falls) (c__is_wish : Cal P w K mg base 1 "_is_wish" "_is_wish" s__is_wish ["value"] F__is_wish) (c_check_rule : Cal P w K mg base 6 "check_rule" "check_rule" s_check_rule ["rule"] F_check_rule) : FnD P w K mg base 7 f fd ["rule", "houses", "falls", "wish"] F__check_wish :=
  fnd_of Fn sc__check_wish fun cdv A outer s H E room quiet => ((ds_cons (ds_expr (de_calP (c_check_rule.up (by decide)) room quiet pass_body (da_cons (de_var 0) da_nil)))
    (ds_cons (ds_expr (de_calP (c_check_houses.up (by decide)) room quiet pass_body (da_cons (de_var 1) da_nil)))
    (ds_cons (ds_expr (de_calP (c__check_falls.up (by decide)) room quiet pass_body (da_cons (de_var 2) da_nil)))
    (ds_one (ds_if (dt_not (dt_val (de_calP (c__is_wish.up (by decide)) room quiet pass_body (da_cons (de_var 3) da_nil)))) (ds_one ds_dead) ds_nil))))) : DSs (cxOf (L2.CX P w) P w K mg base N__check_wish "_check_wish" (defScope s__check_wish) f cdv A outer s H E) E (defBody s__check_wish) g__check_wish)
theorem sc_lot_size : FnScope N_lot_size ["scheme"] (defScope s_lot_size) := ⟨rfl, rfl, rfl, by decide +kernel, rfl, by decide +kernel, by decide +kernel⟩
theorem ok_lot_size {f : Addr} {fd : FuncData} (Fn : Fun K "lot_size" "lot_size" s_lot_size f fd) (T : Txt K mg) : FnD P w K mg base 1 f fd ["scheme"] F_lot_size :=
  fnd_of Fn sc_lot_size fun cdv A outer s H E room quiet => ((ds_one (ds_ret (de_if (dt_eq room (de_ix (de_var 0) de_int) de_str) de_int (de_ix (de_var 0) de_int)))) : DSs (cxOf (L2.CX P w) P w K mg base N_lot_size "lot_size" (defScope s_lot_size) f cdv A outer s H E) E (defBody s_lot_size) g_lot_size)
theorem sc__many_before_next_lot : FnScope N__many_before_next_lot ["rule"] (defScope s__many_before_next_lot) := ⟨rfl, rfl, rfl, by decide +kernel, rfl, by decide +kernel, by decide +kernel⟩
theorem ok__many_before_next_lot {f : Addr} {fd : FuncData} (Fn : Fun K "_many_before_next_lot" "_many_before_next_lot" s__many_before_next_lot f fd) (T : Txt K mg) (c_lot_size : Cal P w K mg base 1 "lot_size" "lot_size" s_lot_size ["scheme"] F_lot_size) : FnD P w K mg base 2 f fd ["rule"] F__many_before_next_lot :=
  fnd_of Fn sc__many_before_next_lot fun cdv A outer s H E room quiet => ((ds_cons (ds_asg (de_var 0) (dg_tup rfl (dgs_cons (dg_name 1 sc__many_before_next_lot.nd) (dgs_cons (dg_name 2 sc__many_before_next_lot.nd) dgs_nil))))
    (ds_one (ds_ret (de_if (dt_is (de_var 2) de_non) de_int (de_max2 rfl (da_cons de_int (da_cons (de_sub (de_calP (c_lot_size.up (by decide)) room quiet pass_body (da_cons (de_var 1) da_nil)) (de_var 2)) da_nil)) T.n_max))))) : DSs (cxOf (L2.CX P w) P w K mg base N__many_before_next_lot "_many_before_next_lot" (defScope s__many_before_next_lot) f cdv A outer s H E) E (defBody s__many_before_next_lot) g__many_before_next_lot)
theorem sc__way_by_one : FnScope N__way_by_one ["rule", "falls", "wish"] (defScope s__way_by_one) := ⟨rfl, rfl, rfl, by decide +kernel, rfl, by decide +kernel, by decide +kernel⟩
theorem ok__way_by_one {f : Addr} {fd : FuncData} (Fn : Fun K "_way_by_one" "_way_by_one" s__way_by_one f fd) (T : Txt K mg) (c__many_before_next_lot : Cal P w K mg base 2 "_many_before_next_lot" "_many_before_next_lot" s__many_before_next_lot ["rule"] F__many_before_next_lot) : FnD P w K mg base 3 f fd ["rule", "falls", "wish"] F__way_by_one :=
  fnd_of Fn sc__way_by_one fun cdv A outer s H E room quiet => ((ds_cons (ds_set 3 sc__way_by_one.nd (de_ix (de_ix (de_var 0) de_int) de_int))
    (ds_cons (ds_if (DW.dt (dw_or (dt_eq room (de_var 2) de_str) (dw_or (dt_eq room (de_var 3) de_str) (dw_or1 (DW.dt (dw_and (dt_eq room (de_var 3) de_str) (dw_and1 (dt_not (dt_val (de_var 1)))))))))) (ds_one (ds_ret de_non)) ds_nil)
    (ds_cons (ds_set 4 sc__way_by_one.nd (de_calP (c__many_before_next_lot.up (by decide)) room quiet pass_body (da_cons (de_var 0) da_nil)))
    (ds_cons (ds_set 5 sc__way_by_one.nd (de_if (dt_gt (de_var 4) de_int) (de_listC da_nil) (de_listC (da_cons (de_tup (da_cons de_str (da_cons de_int da_nil))) da_nil))))
    (ds_cons (ds_expr (de_append (de_var 5) (de_tup (da_cons (de_if (dt_eq room (de_var 3) de_str) de_str de_str) (da_cons de_int da_nil)))))
    (ds_one (ds_ret (de_tup (da_cons (de_list (da_cons (de_tup (da_cons de_str (da_cons de_int da_nil))) (da_cons (de_tup (da_cons de_str (da_cons de_int da_nil))) da_nil))) (da_cons (de_var 4) (da_cons (de_add (de_var 5) (de_list (da_cons (de_tup (da_cons de_str (da_cons de_int da_nil))) (da_cons (de_tup (da_cons de_str (da_cons de_int da_nil))) da_nil)))) da_nil))))))))))) : DSs (cxOf (L2.CX P w) P w K mg base N__way_by_one "_way_by_one" (defScope s__way_by_one) f cdv A outer s H E) E (defBody s__way_by_one) g__way_by_one)
theorem sc__way_by_two : FnScope N__way_by_two ["rule", "wish"] (defScope s__way_by_two) := ⟨rfl, rfl, rfl, by decide +kernel, rfl, by decide +kernel, by decide +kernel⟩
theorem ok__way_by_two {f : Addr} {fd : FuncData} (Fn : Fun K "_way_by_two" "_way_by_two" s__way_by_two f fd) (T : Txt K mg) (c__many_before_next_lot : Cal P w K mg base 2 "_many_before_next_lot" "_many_before_next_lot" s__many_before_next_lot ["rule"] F__many_before_next_lot) : FnD P w K mg base 3 f fd ["rule", "wish"] F__way_by_two :=
  fnd_of Fn sc__way_by_two fun cdv A outer s H E room quiet => ((ds_cons (ds_set 2 sc__way_by_two.nd (de_calP (c__many_before_next_lot.up (by decide)) room quiet pass_body (da_cons (de_var 0) da_nil)))
    (ds_cons (ds_set 3 sc__way_by_two.nd (de_listC (da_cons (de_tup (da_cons de_str (da_cons de_int da_nil))) (da_cons (de_tup (da_cons de_str (da_cons de_int da_nil))) da_nil))))
    (ds_cons (ds_if (dt_eq room (de_var 2) de_int) (ds_cons (ds_set 3 sc__way_by_two.nd (de_listC (da_cons (de_tup (da_cons de_str (da_cons de_int da_nil))) (da_star (de_var 3) da_nil))))
    (ds_one (ds_if (dt_eq room (de_var 1) de_str) (ds_one (ds_expr (de_append (de_var 3) (de_tup (da_cons de_str (da_cons de_int da_nil)))))) ds_nil))) (ds_one (ds_if (dt_eq room (de_var 1) de_str) (ds_one (ds_expr (de_append (de_var 3) (de_tup (da_cons de_str (da_cons de_int da_nil)))))) ds_nil)))
    (ds_cons (ds_if (dt_eq room (de_var 1) de_str) (ds_one (ds_expr (de_append (de_var 3) (de_tup (da_cons de_str (da_cons de_int da_nil)))))) ds_nil)
    (ds_one (ds_ret (de_tup (da_cons (de_list (da_cons (de_tup (da_cons de_str (da_cons de_int da_nil))) (da_cons (de_tup (da_cons de_str (da_cons de_int da_nil))) da_nil))) (da_cons (de_var 2) (da_cons (de_var 3) da_nil)))))))))) : DSs (cxOf (L2.CX P w) P w K mg base N__way_by_two "_way_by_two" (defScope s__way_by_two) f cdv A outer s H E) E (defBody s__way_by_two) g__way_by_two)
theorem sc__way_to_refusal : FnScope N__way_to_refusal ["rule", "houses", "falls"] (defScope s__way_to_refusal) := ⟨rfl, rfl, rfl, by decide +kernel, rfl, by decide +kernel, by decide +kernel⟩
theorem ok__way_to_refusal {f : Addr} {fd : FuncData} (Fn : Fun K "_way_to_refusal" "_way_to_refusal" s__way_to_refusal f fd) (T : Txt K mg) (c_lot_size : Cal P w K mg base 1 "lot_size" "lot_size" s_lot_size ["scheme"] F_lot_size) : FnD P w K mg base 2 f fd ["rule", "houses", "falls"] F__way_to_refusal :=
  fnd_of Fn sc__way_to_refusal fun cdv A outer s H E room quiet => ((ds_cons (ds_asg (de_var 0) (dg_tup rfl (dgs_cons (dg_name 3 sc__way_to_refusal.nd) (dgs_cons (dg_name 4 sc__way_to_refusal.nd) dgs_nil))))
    (ds_cons (ds_set 5 sc__way_to_refusal.nd (de_add (de_div (de_var 4) (de_calP (c_lot_size.up (by decide)) room quiet pass_body (da_cons (de_var 3) da_nil))) de_int))
    (ds_cons (ds_set 6 sc__way_to_refusal.nd (de_min2 rfl (da_cons (de_var 5) (da_cons (de_sub (de_var 1) de_int) da_nil)) T.n_min))
    (ds_cons (ds_if (DW.dt (dw_and (dt_lt (de_var 6) (de_var 5)) (dw_and1 (dt_not (DW.dt (dw_and (dt_val (de_var 2)) (dw_and1 (dt_eq room (de_ix (de_var 3) de_int) de_str)))))))) (ds_one (ds_ret de_non)) ds_nil)
    (ds_cons (ds_comp (own := [("house", 8)]) 7 rfl sc__way_to_refusal.nd (di_range2 rfl T.n_range (da_cons de_int (da_cons (de_add (de_var 6) de_int) da_nil))) (blkOk_by (own := [("house", 8)]) (N := N__way_to_refusal) (sc := defScope s__way_to_refusal) (by decide +kernel)) (fun _ _ _ _ _ => (dc_name 8 sc__way_to_refusal.nd)) (fun _ _ _ _ _ => dts_nil) (fun _ _ _ _ _ => (de_tup (da_cons de_str (da_cons (de_var 8) da_nil)))) (sw_true rfl rfl rfl (by decide +kernel)))
    (ds_one (ds_ret (de_tup (da_cons (de_list (da_cons (de_tup (da_cons de_str (da_cons de_int da_nil))) (da_cons (de_tup (da_cons de_str (da_cons de_int da_nil))) da_nil))) (da_cons (de_sub (de_var 5) (de_var 6)) (da_cons (de_add (de_var 7) (de_list (da_cons (de_tup (da_cons de_str (da_cons de_int da_nil))) da_nil))) da_nil))))))))))) : DSs (cxOf (L2.CX P w) P w K mg base N__way_to_refusal "_way_to_refusal" (defScope s__way_to_refusal) f cdv A outer s H E) E (defBody s__way_to_refusal) g__way_to_refusal)
theorem sc__way_to_break : FnScope N__way_to_break ["rule", "houses", "falls", "wish"] (defScope s__way_to_break) := ⟨rfl, rfl, rfl, by decide +kernel, rfl, by decide +kernel, by decide +kernel⟩
theorem ok__way_to_break {f : Addr} {fd : FuncData} (Fn : Fun K "_way_to_break" "_way_to_break" s__way_to_break f fd) (T : Txt K mg) (c__way_by_one : Cal P w K mg base 3 "_way_by_one" "_way_by_one" s__way_by_one ["rule", "falls", "wish"] F__way_by_one) (c__way_by_two : Cal P w K mg base 3 "_way_by_two" "_way_by_two" s__way_by_two ["rule", "wish"] F__way_by_two) (c__way_to_refusal : Cal P w K mg base 2 "_way_to_refusal" "_way_to_refusal" s__way_to_refusal ["rule", "houses", "falls"] F__way_to_refusal) : FnD P w K mg base 4 f fd ["rule", "houses", "falls", "wish"] F__way_to_break :=
  fnd_of Fn sc__way_to_break fun cdv A outer s H E room quiet => ((ds_cons (ds_asg (de_var 0) (dg_tup rfl (dgs_cons (dg_name 4 sc__way_to_break.nd) (dgs_cons (dg_name 5 sc__way_to_break.nd) dgs_nil))))
    (ds_cons (ds_set 6 sc__way_to_break.nd (de_ix (de_var 4) de_int))
    (ds_cons (ds_if (dt_eq room (de_var 3) de_str) (ds_one (ds_ret (de_if (dt_eq room (de_var 6) de_str) (de_tup (da_cons (de_list da_nil) (da_cons de_int (da_cons (de_list (da_cons (de_tup (da_cons de_str (da_cons de_int da_nil))) da_nil)) da_nil)))) de_non))) ds_nil)
    (ds_cons (ds_if (dt_eq room (de_var 3) de_str) (ds_one (ds_ret (de_if (dt_is (de_var 5) de_non) de_non (de_calP (c__way_to_refusal.up (by decide)) room quiet pass_body (da_cons (de_var 0) (da_cons (de_var 1) (da_cons (de_var 2) da_nil))))))) ds_nil)
    (ds_cons (ds_if (dt_eq room (de_var 3) de_str) (ds_cons (ds_if (dt_eq room (de_var 6) de_str) (ds_one (ds_ret (de_tup (da_cons (de_list da_nil) (da_cons de_int (da_cons (de_list (da_cons (de_tup (da_cons de_str (da_cons de_int da_nil))) (da_cons (de_tup (da_cons de_str (da_cons de_int da_nil))) da_nil))) da_nil)))))) ds_nil)
    (ds_one (ds_ret (de_if (DW.dt (dw_and (dt_eq room (de_var 6) de_str) (dw_and1 (dt_val (de_var 2))))) (de_tup (da_cons (de_list da_nil) (da_cons de_int (da_cons (de_list (da_cons (de_tup (da_cons de_str (da_cons de_int da_nil))) (da_cons (de_tup (da_cons de_str (da_cons de_int da_nil))) da_nil))) da_nil)))) de_non)))) ds_nil)
    (ds_cons (ds_if (DW.dt (dw_or (dt_eq room (de_var 6) de_str) (dw_or1 (dt_eq room (de_var 5) de_int)))) (ds_one (ds_ret de_non)) ds_nil)
    (ds_cons (ds_if (dt_gt (de_var 1) de_int) (ds_one (ds_ret (de_calP (c__way_by_two.up (by decide)) room quiet pass_body (da_cons (de_var 0) (da_cons (de_var 3) da_nil))))) ds_nil)
    (ds_one (ds_ret (de_calP (c__way_by_one.up (by decide)) room quiet pass_body (da_cons (de_var 0) (da_cons (de_var 2) (da_cons (de_var 3) da_nil))))))))))))) : DSs (cxOf (L2.CX P w) P w K mg base N__way_to_break "_way_to_break" (defScope s__way_to_break) f cdv A outer s H E) E (defBody s__way_to_break) g__way_to_break)
theorem sc_grants : FnScope N_grants ["rule", "houses", "falls", "wish"] (defScope s_grants) := ⟨rfl, rfl, rfl, by decide +kernel, rfl, by decide +kernel, by decide +kernel⟩
theorem ok_grants {f : Addr} {fd : FuncData} (Fn : Fun K "grants" "grants" s_grants f fd) (T : Txt K mg) (c__check_wish : Cal P w K mg base 7 "_check_wish" "_check_wish" s__check_wish ["rule", "houses", "falls", "wish"] F__check_wish) (c__way_to_break : Cal P w K mg base 4 "_way_to_break" "_way_to_break" s__way_to_break ["rule", "houses", "falls", "wish"] F__way_to_break) : FnD P w K mg base 8 f fd ["rule", "houses", "falls", "wish"] F_grants :=
  fnd_of Fn sc_grants fun cdv A outer s H E room quiet => ((ds_cons (ds_expr (de_calP (c__check_wish.up (by decide)) room quiet pass_body (da_cons (de_var 0) (da_cons (de_var 1) (da_cons (de_var 2) (da_cons (de_var 3) da_nil))))))
    (ds_one (ds_ret (de_is (de_calP (c__way_to_break.up (by decide)) room quiet pass_body (da_cons (de_var 0) (da_cons (de_var 1) (da_cons (de_var 2) (da_cons (de_var 3) da_nil))))) de_non)))) : DSs (cxOf (L2.CX P w) P w K mg base N_grants "grants" (defScope s_grants) f cdv A outer s H E) E (defBody s_grants) g_grants)
theorem sc_is_rule : FnScope N_is_rule ["value"] (defScope s_is_rule) := ⟨rfl, rfl, rfl, by decide +kernel, rfl, by decide +kernel, by decide +kernel⟩
theorem ok_is_rule {f : Addr} {fd : FuncData} (Fn : Fun K "is_rule" "is_rule" s_is_rule f fd) (T : Txt K mg) (c_is_scheme_with_budget : Cal P w K mg base 5 "is_scheme_with_budget" "is_scheme_with_budget" s_is_scheme_with_budget ["value"] F_is_scheme_with_budget) : FnD P w K mg base 6 f fd ["value"] F_is_rule :=
  fnd_of Fn sc_is_rule fun cdv A outer s H E room quiet => ((ds_one (ds_ret (de_calP (c_is_scheme_with_budget.up (by decide)) room quiet pass_body (da_cons (de_var 0) da_nil)))) : DSs (cxOf (L2.CX P w) P w K mg base N_is_rule "is_rule" (defScope s_is_rule) f cdv A outer s H E) E (defBody s_is_rule) g_is_rule)
theorem sc__law_refusal : FnScope N__law_refusal ["plan", "cap", "firms", "drops"] (defScope s__law_refusal) := ⟨rfl, rfl, rfl, by decide +kernel, rfl, by decide +kernel, by decide +kernel⟩
theorem ok__law_refusal {f : Addr} {fd : FuncData} (Fn : Fun K "_law_refusal" "_law_refusal" s__law_refusal f fd) (T : Txt K mg) : FnD P w K mg base 1 f fd ["plan", "cap", "firms", "drops"] F__law_refusal :=
  fnd_of Fn sc__law_refusal fun cdv A outer s H E room quiet => ((ds_cons (ds_if (dt_is (de_var 1) de_non) (ds_one (ds_ret de_non)) ds_nil)
    (ds_cons (ds_if (dt_eq room (de_ix (de_var 0) de_int) de_str) (ds_one (ds_ret (de_if (dt_lt (de_var 1) (de_sub (de_var 2) de_int)) (de_add (de_var 1) de_int) de_non))) ds_nil)
    (ds_cons (ds_set 4 sc__law_refusal.nd (de_add (de_div (de_var 1) (de_ix (de_var 0) de_int)) de_int))
    (ds_cons (ds_set 5 sc__law_refusal.nd (de_max2 rfl (da_cons de_int (da_cons (de_sub (de_add (de_var 4) de_int) (de_var 2)) da_nil)) T.n_max))
    (ds_cons (ds_if (DW.dt (dw_and (dt_gt (de_var 5) de_int) (dw_and1 (dt_not (dt_val (de_var 3)))))) (ds_one (ds_ret de_non)) ds_nil)
    (ds_one (ds_ret (de_add (de_add (de_var 4) (de_var 5)) de_int)))))))) : DSs (cxOf (L2.CX P w) P w K mg base N__law_refusal "_law_refusal" (defScope s__law_refusal) f cdv A outer s H E) E (defBody s__law_refusal) g__law_refusal)
theorem sc__law_least : FnScope N__law_least ["plan", "cap", "firms", "drops", "hope"] (defScope s__law_least) := ⟨rfl, rfl, rfl, by decide +kernel, rfl, by decide +kernel, by decide +kernel⟩
theorem ok__law_least {f : Addr} {fd : FuncData} (Fn : Fun K "_law_least" "_law_least" s__law_least f fd) (T : Txt K mg) (c__law_refusal : Cal P w K mg base 1 "_law_refusal" "_law_refusal" s__law_refusal ["plan", "cap", "firms", "drops"] F__law_refusal) : FnD P w K mg base 2 f fd ["plan", "cap", "firms", "drops", "hope"] F__law_least :=
  fnd_of Fn sc__law_least fun cdv A outer s H E room quiet => ((ds_cons (ds_set 5 sc__law_least.nd (de_disp (dps_cons de_str de_int (dps_cons de_str de_int (dps_cons de_str de_int dps_nil)))))
    (ds_cons (ds_if (dt_eq room (de_ix (de_var 0) de_int) de_str) (ds_one (ds_ret (de_if (dt_eq room (de_var 4) de_str) de_int de_non))) ds_nil)
    (ds_cons (ds_if (dt_eq room (de_var 4) de_str) (ds_one (ds_ret (de_calP (c__law_refusal.up (by decide)) room quiet pass_body (da_cons (de_var 0) (da_cons (de_var 1) (da_cons (de_var 2) (da_cons (de_var 3) da_nil))))))) ds_nil)
    (ds_cons (ds_if (dt_eq room (de_var 4) de_str) (ds_one (ds_ret (de_if (DW.dt (dw_or (dt_eq room (de_ix (de_var 0) de_int) de_str) (dw_or1 (DW.dt (dw_and (dt_eq room (de_ix (de_var 0) de_int) de_str) (dw_and1 (dt_val (de_var 3)))))))) de_int de_non))) ds_nil)
    (ds_cons (ds_if (DW.dt (dw_or (dt_eq room (de_var 4) de_str) (dw_or1 (dt_eq room (de_var 1) de_int)))) (ds_one (ds_ret de_non)) ds_nil)
    (ds_cons (ds_set 6 sc__law_least.nd de_int)
    (ds_cons (ds_if (DW.dt (dw_and (dt_eq room (de_ix (de_var 0) de_int) de_str) (dw_and1 (dt_isnot (de_var 1) de_non)))) (ds_one (ds_set 6 sc__law_least.nd (de_max2 rfl (da_cons de_int (da_cons (de_sub (de_ix (de_var 0) de_int) (de_var 1)) da_nil)) T.n_max))) ds_nil)
    (ds_cons (ds_if (DW.dt (dw_and (dt_gt (de_var 2) de_int) (dw_and1 (dt_eq room (de_var 6) de_int)))) (ds_one (ds_ret (de_dix room (de_var 5) (de_var 4)))) ds_nil)
    (ds_cons (ds_if (dt_gt (de_var 2) de_int) (ds_one (ds_ret (de_add (de_add (de_mul de_int (de_var 6)) de_int) (de_mul de_int (de_intc (da_cons (de_eq room (de_var 4) de_str) da_nil) T.n_int))))) ds_nil)
    (ds_cons (ds_if (DW.dt (dw_or (dt_eq room (de_var 4) de_str) (dw_or (dt_eq room (de_ix (de_var 0) de_int) de_str) (dw_or1 (DW.dt (dw_and (dt_eq room (de_ix (de_var 0) de_int) de_str) (dw_and1 (dt_not (dt_val (de_var 3)))))))))) (ds_one (ds_ret de_non)) ds_nil)
    (ds_one (ds_ret (de_if (dt_eq room (de_var 6) de_int) de_int (de_add (de_mul de_int (de_var 6)) de_int)))))))))))))) : DSs (cxOf (L2.CX P w) P w K mg base N__law_least "_law_least" (defScope s__law_least) f cdv A outer s H E) E (defBody s__law_least) g__law_least)
theorem sc__law_right : FnScope N__law_right ["hopes", "firms", "drops", "deal"] (defScope s__law_right) := ⟨rfl, rfl, rfl, by decide +kernel, rfl, by decide +kernel, by decide +kernel⟩
theorem ok__law_right {f : Addr} {fd : FuncData} (Fn : Fun K "_law_right" "_law_right" s__law_right f fd) (T : Txt K mg) (c_rule_for : Cal P w K mg base 5 "rule_for" "rule_for" s_rule_for ["wishes", "houses", "falls"] F_rule_for) (c_can_have : Cal P w K mg base 5 "can_have" "can_have" s_can_have ["wishes", "houses", "falls"] F_can_have) (c_grants : Cal P w K mg base 8 "grants" "grants" s_grants ["rule", "houses", "falls", "wish"] F_grants) (c_is_rule : Cal P w K mg base 6 "is_rule" "is_rule" s_is_rule ["value"] F_is_rule) (c__law_least : Cal P w K mg base 2 "_law_least" "_law_least" s__law_least ["plan", "cap", "firms", "drops", "hope"] F__law_least) : FnD P w K mg base 9 f fd ["hopes", "firms", "drops", "deal"] F__law_right :=
  fnd_of Fn sc__law_right fun cdv A outer s H E room quiet => ((ds_cons (ds_set 4 sc__law_right.nd (de_listc (da_cons (de_var 0) da_nil) T.n_list))
    (ds_cons (ds_set 5 sc__law_right.nd (de_and (de_in de_str (de_var 0)) (de_one (de_in de_str (de_var 0)))))
    (ds_cons (ds_set 6 sc__law_right.nd (de_or (de_eq room (de_var 1) de_int) (de_one (de_not (de_var 5)))))
    (ds_cons (ds_if (DW.dt (dw_and (dt_notin de_str (de_var 0)) (dw_and (dt_notin de_str (de_var 0)) (dw_and1 (dt_notin de_str (de_var 0)))))) (ds_one (ds_set 6 sc__law_right.nd de_bl)) ds_nil)
    (ds_cons (ds_set 7 sc__law_right.nd (de_list (da_cons (de_calP (c_can_have.up (by decide)) room quiet pass_body (da_cons (de_var 0) (da_cons (de_var 1) (da_cons (de_var 2) da_nil)))) (da_cons (de_calPk0 (m := 3) (ks := ["falls", "houses", "wishes"]) (c_can_have.up (by decide)) room quiet pass_body [2, 1, 0] (fun _ _ _ _ _ _ us ws h1 h2 => match us, ws, h1, h2 with | [], [_, _, _], _, _ => rfl) (dk_cons (de_var 2) (dk_cons (de_var 1) (dk_cons (de_var 0) dk_nil)))) da_nil))))
    (ds_cons (ds_if (dt_ne room (de_repr room quiet rfl T.n_repr (da_cons (de_var 7) da_nil)) (de_repr room quiet rfl T.n_repr (da_cons (de_list (da_cons (de_var 6) (da_cons (de_var 6) da_nil))) da_nil))) (ds_one (ds_ret de_bl)) ds_nil)
    (ds_cons (ds_set 8 sc__law_right.nd (de_calP (c_rule_for.up (by decide)) room quiet pass_body (da_cons (de_var 0) (da_cons (de_var 1) (da_cons (de_var 2) da_nil)))))
    (ds_cons (ds_if (DW.dt (dw_or (dt_ne room (de_calPk0 (m := 3) (ks := ["falls", "houses", "wishes"]) (c_rule_for.up (by decide)) room quiet pass_body [2, 1, 0] (fun _ _ _ _ _ _ us ws h1 h2 => match us, ws, h1, h2 with | [], [_, _, _], _, _ => rfl) (dk_cons (de_var 2) (dk_cons (de_var 1) (dk_cons (de_var 0) dk_nil)))) (de_var 8)) (dw_or1 (dt_ne room (de_var 0) (de_var 4))))) (ds_one (ds_ret de_bl)) ds_nil)
    (ds_cons (ds_if (dt_not (dt_val (de_var 6))) (ds_cons (ds_if (dt_isnot (de_var 8) de_non) (ds_one (ds_ret de_bl)) ds_nil)
    (ds_cons (ds_comp (own := [("hope", 10)]) 9 rfl sc__law_right.nd (di_list (de_var 0)) (blkOk_by (own := [("hope", 10)]) (N := N__law_right) (sc := defScope s__law_right) (by decide +kernel)) (fun _ _ _ _ _ => (dc_name 10 sc__law_right.nd)) (fun _ _ _ _ _ => dts_nil) (fun _ _ _ _ _ => (dn_calP (c_grants.up (by decide)) room quiet pass_in_comp (da_cons (de_var 3) (da_cons (de_var 1) (da_cons (de_var 2) (da_cons (de_var 10) da_nil)))))) (sw_true rfl rfl rfl (by decide +kernel)))
    (ds_one (ds_ret (de_in de_bl (de_var 9)))))) ds_nil)
    (ds_cons (ds_if (DW.dt (dw_or (dt_not (dt_val (de_isi (da_cons (de_var 8) (da_cons (de_ty T.n_tuple (by decide +kernel)) da_nil)) T.n_isinstance))) (dw_or (dt_ne room (de_len (da_cons (de_var 8) da_nil) T.n_len) de_int) (dw_or1 (dt_isnotB (de_calP (c_is_rule.up (by decide)) room quiet pass_body (da_cons (de_var 8) da_nil)) de_bl))))) (ds_one (ds_ret de_bl)) ds_nil)
    (ds_one (ds_ret (de_eq room (de_comp (own := [("hope", 10)]) rfl sc__law_right.nd (di_list (de_var 0)) (blkOk_by (own := [("hope", 10)]) (N := N__law_right) (sc := defScope s__law_right) (by decide +kernel)) (fun _ _ _ _ _ => (dc_name 10 sc__law_right.nd)) (fun _ _ _ _ _ => (dts_one (dt_isnot (dn_calP (c__law_least.up (by decide)) room quiet pass_in_comp (da_cons (de_ix (de_var 8) de_int) (da_cons (de_ix (de_var 8) de_int) (da_cons (de_var 1) (da_cons (de_var 2) (da_cons (de_var 10) da_nil)))))) de_non))) (fun _ _ _ _ _ => de_var 10)) (de_list da_nil)))))))))))))) : DSs (cxOf (L2.CX P w) P w K mg base N__law_right "_law_right" (defScope s__law_right) f cdv A outer s H E) E (defBody s__law_right) g__law_right)
theorem sc__law_deal : FnScope N__law_deal ["source", "firms"] (defScope s__law_deal) := ⟨rfl, rfl, rfl, by decide +kernel, rfl, by decide +kernel, by decide +kernel⟩
theorem ok__law_deal {f : Addr} {fd : FuncData} (Fn : Fun K "_law_deal" "_law_deal" s__law_deal f fd) (T : Txt K mg) (c__law_draw : Cal P w K mg base 1 "_law_draw" "_law_draw" s__law_draw ["source", "count"] F__law_draw) : FnD P w K mg base 2 f fd ["source", "firms"] F__law_deal :=
  fnd_of Fn sc__law_deal fun cdv A outer s H E room quiet => ((ds_cons (ds_set 2 sc__law_deal.nd (de_list (da_cons (de_add de_int (de_calK (c__law_draw.up (by decide)) room quiet pass_body (da_cons (de_var 0) (da_cons de_int da_nil)))) (da_cons (de_add de_int (de_calK (c__law_draw.up (by decide)) room quiet pass_body (da_cons (de_var 0) (da_cons de_int da_nil)))) (da_cons (de_add de_int (de_calK (c__law_draw.up (by decide)) room quiet pass_body (da_cons (de_var 0) (da_cons (de_sub (de_pow de_int de_int) de_int) da_nil)))) da_nil)))))
    (ds_cons (ds_set 2 sc__law_deal.nd (de_ix (de_var 2) (de_calK (c__law_draw.up (by decide)) room quiet pass_body (da_cons (de_var 0) (da_cons de_int da_nil)))))
    (ds_cons (ds_set 3 sc__law_deal.nd (de_ix (de_list (da_cons de_str (da_cons de_str (da_cons de_str (da_cons de_str da_nil))))) (de_calK (c__law_draw.up (by decide)) room quiet pass_body (da_cons (de_var 0) (da_cons de_int da_nil)))))
    (ds_cons (ds_set 4 sc__law_deal.nd (de_list (da_cons (de_tup (da_cons de_str da_nil)) (da_cons (de_tup (da_cons de_str (da_cons (de_var 2) da_nil))) (da_cons (de_tup (da_cons de_str (da_cons (de_var 2) da_nil))) (da_cons (de_tup (da_cons de_str (da_cons (de_var 2) da_nil))) (da_cons (de_tup (da_cons de_str (da_cons (de_var 2) da_nil))) (da_cons (de_tup (da_cons de_str (da_cons (de_var 3) da_nil))) da_nil))))))))
    (ds_cons (ds_set 4 sc__law_deal.nd (de_ix (de_var 4) (de_calK (c__law_draw.up (by decide)) room quiet pass_body (da_cons (de_var 0) (da_cons de_int da_nil)))))
    (ds_cons (ds_set 5 sc__law_deal.nd (de_if (dt_eq room (de_ix (de_var 4) de_int) de_str) (de_var 2) de_int))
    (ds_cons (ds_set 6 sc__law_deal.nd (de_sub (de_add (de_mul (de_var 5) (de_calK (c__law_draw.up (by decide)) room quiet pass_body (da_cons (de_var 0) (da_cons (de_add (de_var 1) de_int) da_nil)))) (de_calK (c__law_draw.up (by decide)) room quiet pass_body (da_cons (de_var 0) (da_cons de_int da_nil)))) de_int))
    (ds_cons (ds_set 7 sc__law_deal.nd (de_list (da_cons de_int (da_cons (de_var 6) (da_cons (de_var 6) (da_cons (de_sub (de_var 5) (de_calK (c__law_draw.up (by decide)) room quiet pass_body (da_cons (de_var 0) (da_cons de_int da_nil)))) (da_cons (de_mul (de_var 5) (de_calK (c__law_draw.up (by decide)) room quiet pass_body (da_cons (de_var 0) (da_cons de_int da_nil)))) (da_cons (de_calK (c__law_draw.up (by decide)) room quiet pass_body (da_cons (de_var 0) (da_cons (de_pow de_int de_int) da_nil))) da_nil))))))))
    (ds_cons (ds_set 8 sc__law_deal.nd (de_max2 rfl (da_cons de_int (da_cons (de_min2 rfl (da_cons (de_sub (de_pow de_int de_int) de_int) (da_cons (de_ix (de_var 7) (de_calK (c__law_draw.up (by decide)) room quiet pass_body (da_cons (de_var 0) (da_cons de_int da_nil)))) da_nil)) T.n_min) da_nil)) T.n_max))
    (ds_cons (ds_if (DW.dt (dw_or (dt_in (de_ix (de_var 4) de_int) (de_list (da_cons de_str (da_cons de_str da_nil)))) (dw_or1 (dt_eq room (de_calK (c__law_draw.up (by decide)) room quiet pass_body (da_cons (de_var 0) (da_cons de_int da_nil))) de_int)))) (ds_one (ds_set 8 sc__law_deal.nd de_non)) ds_nil)
    (ds_one (ds_ret (de_tup (da_cons (de_var 4) (da_cons (de_var 8) da_nil))))))))))))))) : DSs (cxOf (L2.CX P w) P w K mg base N__law_deal "_law_deal" (defScope s__law_deal) f cdv A outer s H E) E (defBody s__law_deal) g__law_deal)
theorem sc_law : FnScope N_law ["script"] (defScope s_law) := ⟨rfl, rfl, rfl, by decide +kernel, rfl, by decide +kernel, by decide +kernel⟩
theorem ok_law {f : Addr} {fd : FuncData} (Fn : Fun K "law" "law" s_law f fd) (T : Txt K mg) (c__law_source : Cal P w K mg base 1 "_law_source" "_law_source" s__law_source ["cell", "k"] F__law_source) (c__law_draw : Cal P w K mg base 1 "_law_draw" "_law_draw" s__law_draw ["source", "count"] F__law_draw) (c__law_hopes : Cal P w K mg base 2 "_law_hopes" "_law_hopes" s__law_hopes ["source", "mask"] F__law_hopes) (c__law_right : Cal P w K mg base 9 "_law_right" "_law_right" s__law_right ["hopes", "firms", "drops", "deal"] F__law_right) (c__law_deal : Cal P w K mg base 2 "_law_deal" "_law_deal" s__law_deal ["source", "firms"] F__law_deal) : FnD P w K mg base 10 f fd ["script"] F_law :=
  fnd_of Fn sc_law fun cdv A outer s H E room quiet => ((ds_cons (ds_for own_body rfl (di_enum rfl T.n_enumerate (da_cons (de_slice (de_add (de_var 0) (de_list (da_cons de_int da_nil))) do_none (do_some (de_max2 rfl (da_cons de_int (da_cons (de_min2 rfl (da_cons (de_len (da_cons (de_var 0) da_nil) T.n_len) (da_cons de_int da_nil)) T.n_min) da_nil)) T.n_max))) da_nil)) (dg_tup rfl (dgs_cons (dg_name 1 sc_law.nd) (dgs_cons (dg_name 2 sc_law.nd) dgs_nil))) (ds_scope (ds_cons (ds_set 3 sc_law.nd (de_calK (c__law_source.up (by decide)) room quiet pass_body (da_cons (de_var 2) (da_cons (de_var 1) da_nil))))
    (ds_cons (ds_set 4 sc_law.nd (de_add de_int (de_calK (c__law_draw.up (by decide)) room quiet pass_body (da_cons (de_var 3) (da_cons de_int da_nil)))))
    (ds_cons (ds_set 5 sc_law.nd (de_eq room (de_calK (c__law_draw.up (by decide)) room quiet pass_body (da_cons (de_var 3) (da_cons de_int da_nil))) de_int))
    (ds_one (ds_for own_body rfl (di_range1 rfl T.n_range (da_cons de_int da_nil)) (dg_name 6 sc_law.nd) (ds_scope (ds_cons (ds_set 7 sc_law.nd (de_calS (c__law_hopes.up (by decide)) room quiet pass_body (da_cons (de_var 3) (da_cons (de_var 6) da_nil))))
    (ds_one (ds_for own_body rfl (di_list (de_list (da_cons de_int (da_cons (de_ix (de_list (da_cons de_int (da_cons de_int (da_cons (de_var 4) (da_cons de_int da_nil))))) (de_calK (c__law_draw.up (by decide)) room quiet pass_body (da_cons (de_var 3) (da_cons de_int da_nil)))) da_nil)))) (dg_name 8 sc_law.nd) (ds_scope (ds_one (ds_if (dt_not (dt_val (de_calP (c__law_right.up (by decide)) room quiet pass_body (da_cons (de_var 7) (da_cons (de_var 8) (da_cons (de_var 5) (da_cons (de_calK (c__law_deal.up (by decide)) room quiet pass_body (da_cons (de_var 3) (da_cons (de_var 8) da_nil))) da_nil))))))) (ds_one (ds_ret de_bl)) ds_nil))))))))))))))
    (ds_one (ds_ret de_bl))) : DSs (cxOf (L2.CX P w) P w K mg base N_law "law" (defScope s_law) f cdv A outer s H E) E (defBody s_law) g_law)
end
theorem all_mk {l : PySem.W.OpenLaw} {w : World} {K : PySem.W.Frag} {h : Heap} {mg : Str → Option Value} {fa : Addr} (X : K.In h) (G : h.Ns mainGlobals mg) (hfa : mg "law" = some (.ref fa))
    {f0 : Addr} {od0 an0 : Option Addr} {sl0 : Array (Option Value)} {oc0 kV0 dc0 pm0 cd0 ct0 : Value}
    {f1 : Addr} {od1 an1 : Option Addr} {sl1 : Array (Option Value)} {oc1 kV1 dc1 pm1 cd1 ct1 : Value}
    {f2 : Addr} {od2 an2 : Option Addr} {sl2 : Array (Option Value)} {oc2 kV2 dc2 pm2 cd2 ct2 : Value}
    {f3 : Addr} {od3 an3 : Option Addr} {sl3 : Array (Option Value)} {oc3 kV3 dc3 pm3 cd3 ct3 : Value}
    {f4 : Addr} {od4 an4 : Option Addr} {sl4 : Array (Option Value)} {oc4 kV4 dc4 pm4 cd4 ct4 : Value}
    {f5 : Addr} {od5 an5 : Option Addr} {sl5 : Array (Option Value)} {oc5 kV5 dc5 pm5 cd5 ct5 : Value}
    {f6 : Addr} {od6 an6 : Option Addr} {sl6 : Array (Option Value)} {oc6 kV6 dc6 pm6 cd6 ct6 : Value}
    {f7 : Addr} {od7 an7 : Option Addr} {sl7 : Array (Option Value)} {oc7 kV7 dc7 pm7 cd7 ct7 : Value}
    {f8 : Addr} {od8 an8 : Option Addr} {sl8 : Array (Option Value)} {oc8 kV8 dc8 pm8 cd8 ct8 : Value}
    {f9 : Addr} {od9 an9 : Option Addr} {sl9 : Array (Option Value)} {oc9 kV9 dc9 pm9 cd9 ct9 : Value}
    {f10 : Addr} {od10 an10 : Option Addr} {sl10 : Array (Option Value)} {oc10 kV10 dc10 pm10 cd10 ct10 : Value}
    {f11 : Addr} {od11 an11 : Option Addr} {sl11 : Array (Option Value)} {oc11 kV11 dc11 pm11 cd11 ct11 : Value}
    {f12 : Addr} {od12 an12 : Option Addr} {sl12 : Array (Option Value)} {oc12 kV12 dc12 pm12 cd12 ct12 : Value}
    {f13 : Addr} {od13 an13 : Option Addr} {sl13 : Array (Option Value)} {oc13 kV13 dc13 pm13 cd13 ct13 : Value}
    {f14 : Addr} {od14 an14 : Option Addr} {sl14 : Array (Option Value)} {oc14 kV14 dc14 pm14 cd14 ct14 : Value}
    {f15 : Addr} {od15 an15 : Option Addr} {sl15 : Array (Option Value)} {oc15 kV15 dc15 pm15 cd15 ct15 : Value}
    {f16 : Addr} {od16 an16 : Option Addr} {sl16 : Array (Option Value)} {oc16 kV16 dc16 pm16 cd16 ct16 : Value}
    {f17 : Addr} {od17 an17 : Option Addr} {sl17 : Array (Option Value)} {oc17 kV17 dc17 pm17 cd17 ct17 : Value}
    {f18 : Addr} {od18 an18 : Option Addr} {sl18 : Array (Option Value)} {oc18 kV18 dc18 pm18 cd18 ct18 : Value}
    {f19 : Addr} {od19 an19 : Option Addr} {sl19 : Array (Option Value)} {oc19 kV19 dc19 pm19 cd19 ct19 : Value}
    {f20 : Addr} {od20 an20 : Option Addr} {sl20 : Array (Option Value)} {oc20 kV20 dc20 pm20 cd20 ct20 : Value}
    {f21 : Addr} {od21 an21 : Option Addr} {sl21 : Array (Option Value)} {oc21 kV21 dc21 pm21 cd21 ct21 : Value}
    {f22 : Addr} {od22 an22 : Option Addr} {sl22 : Array (Option Value)} {oc22 kV22 dc22 pm22 cd22 ct22 : Value}
    {f23 : Addr} {od23 an23 : Option Addr} {sl23 : Array (Option Value)} {oc23 kV23 dc23 pm23 cd23 ct23 : Value}
    {f24 : Addr} {od24 an24 : Option Addr} {sl24 : Array (Option Value)} {oc24 kV24 dc24 pm24 cd24 ct24 : Value}
    {f25 : Addr} {od25 an25 : Option Addr} {sl25 : Array (Option Value)} {oc25 kV25 dc25 pm25 cd25 ct25 : Value}
    {f26 : Addr} {od26 an26 : Option Addr} {sl26 : Array (Option Value)} {oc26 kV26 dc26 pm26 cd26 ct26 : Value}
    {f27 : Addr} {od27 an27 : Option Addr} {sl27 : Array (Option Value)} {oc27 kV27 dc27 pm27 cd27 ct27 : Value}
    {f28 : Addr} {od28 an28 : Option Addr} {sl28 : Array (Option Value)} {oc28 kV28 dc28 pm28 cd28 ct28 : Value}
    {f29 : Addr} {od29 an29 : Option Addr} {sl29 : Array (Option Value)} {oc29 kV29 dc29 pm29 cd29 ct29 : Value}
    {f30 : Addr} {od30 an30 : Option Addr} {sl30 : Array (Option Value)} {oc30 kV30 dc30 pm30 cd30 ct30 : Value}
    {t_GREATEST_SIZE : Tok}
    {t_IN_SEQUENCE_0 : Tok}
    {t_IN_SEQUENCE_1 : Tok}
    {t_IN_SEQUENCE_2 : Tok}
    {r_IN_SEQUENCE : Addr} {dd_IN_SEQUENCE : Option Addr} {nn_IN_SEQUENCE : Nat} {ss_IN_SEQUENCE : Array (Option Value)}
    {t_KINDS_WITH_BUDGET_0 : Tok}
    {t_KINDS_WITH_BUDGET_1 : Tok}
    {r_KINDS_WITH_BUDGET : Addr} {dd_KINDS_WITH_BUDGET : Option Addr} {nn_KINDS_WITH_BUDGET : Nat} {ss_KINDS_WITH_BUDGET : Array (Option Value)}
    {t_MOST_HOUSES : Tok}
    {t_ORDERS_0 : Tok}
    {t_ORDERS_1 : Tok}
    {t_ORDERS_2 : Tok}
    {t_ORDERS_3 : Tok}
    {r_ORDERS : Addr} {dd_ORDERS : Option Addr} {nn_ORDERS : Nat} {ss_ORDERS : Array (Option Value)}
    {t_WISHES_0 : Tok}
    {t_WISHES_1 : Tok}
    {t_WISHES_2 : Tok}
    {t_WISHES_3 : Tok}
    {t_WISHES_4 : Tok}
    {t_WISHES_5 : Tok}
    {r_WISHES : Addr} {dd_WISHES : Option Addr} {nn_WISHES : Nat} {ss_WISHES : Array (Option Value)}
    (a0 : PySem.W.nsIn K mainGlobals "_law_source" = some (some (.ref f0)))
    (l0 : K.lookup f0 = some ⟨oc0, od0, .func (PySem.W.fnOf "_law_source" "_law_source" (defArgs s__law_source) (defBody s__law_source) (defScope s__law_source) .none kV0 dc0 pm0 an0 cd0 ct0), sl0⟩)
    (cc0 : PySem.W.codeIn K cd0 "_law_source" = true)
    (kk0 : PySem.W.keepIn K (.ref f0) = true)
    (a1 : PySem.W.nsIn K mainGlobals "_law_draw" = some (some (.ref f1)))
    (l1 : K.lookup f1 = some ⟨oc1, od1, .func (PySem.W.fnOf "_law_draw" "_law_draw" (defArgs s__law_draw) (defBody s__law_draw) (defScope s__law_draw) .none kV1 dc1 pm1 an1 cd1 ct1), sl1⟩)
    (cc1 : PySem.W.codeIn K cd1 "_law_draw" = true)
    (kk1 : PySem.W.keepIn K (.ref f1) = true)
    (a2 : PySem.W.nsIn K mainGlobals "_law_hopes" = some (some (.ref f2)))
    (l2 : K.lookup f2 = some ⟨oc2, od2, .func (PySem.W.fnOf "_law_hopes" "_law_hopes" (defArgs s__law_hopes) (defBody s__law_hopes) (defScope s__law_hopes) .none kV2 dc2 pm2 an2 cd2 ct2), sl2⟩)
    (cc2 : PySem.W.codeIn K cd2 "_law_hopes" = true)
    (kk2 : PySem.W.keepIn K (.ref f2) = true)
    (a3 : PySem.W.nsIn K mainGlobals "is_integer" = some (some (.ref f3)))
    (l3 : K.lookup f3 = some ⟨oc3, od3, .func (PySem.W.fnOf "is_integer" "is_integer" (defArgs s_is_integer) (defBody s_is_integer) (defScope s_is_integer) .none kV3 dc3 pm3 an3 cd3 ct3), sl3⟩)
    (cc3 : PySem.W.codeIn K cd3 "is_integer" = true)
    (kk3 : PySem.W.keepIn K (.ref f3) = true)
    (a4 : PySem.W.nsIn K mainGlobals "is_within" = some (some (.ref f4)))
    (l4 : K.lookup f4 = some ⟨oc4, od4, .func (PySem.W.fnOf "is_within" "is_within" (defArgs s_is_within) (defBody s_is_within) (defScope s_is_within) .none kV4 dc4 pm4 an4 cd4 ct4), sl4⟩)
    (cc4 : PySem.W.codeIn K cd4 "is_within" = true)
    (kk4 : PySem.W.keepIn K (.ref f4) = true)
    (a5 : PySem.W.nsIn K mainGlobals "check_houses" = some (some (.ref f5)))
    (l5 : K.lookup f5 = some ⟨oc5, od5, .func (PySem.W.fnOf "check_houses" "check_houses" (defArgs s_check_houses) (defBody s_check_houses) (defScope s_check_houses) .none kV5 dc5 pm5 an5 cd5 ct5), sl5⟩)
    (cc5 : PySem.W.codeIn K cd5 "check_houses" = true)
    (kk5 : PySem.W.keepIn K (.ref f5) = true)
    (a6 : PySem.W.nsIn K mainGlobals "_check_falls" = some (some (.ref f6)))
    (l6 : K.lookup f6 = some ⟨oc6, od6, .func (PySem.W.fnOf "_check_falls" "_check_falls" (defArgs s__check_falls) (defBody s__check_falls) (defScope s__check_falls) .none kV6 dc6 pm6 an6 cd6 ct6), sl6⟩)
    (cc6 : PySem.W.codeIn K cd6 "_check_falls" = true)
    (kk6 : PySem.W.keepIn K (.ref f6) = true)
    (a7 : PySem.W.nsIn K mainGlobals "_is_wish" = some (some (.ref f7)))
    (l7 : K.lookup f7 = some ⟨oc7, od7, .func (PySem.W.fnOf "_is_wish" "_is_wish" (defArgs s__is_wish) (defBody s__is_wish) (defScope s__is_wish) .none kV7 dc7 pm7 an7 cd7 ct7), sl7⟩)
    (cc7 : PySem.W.codeIn K cd7 "_is_wish" = true)
    (kk7 : PySem.W.keepIn K (.ref f7) = true)
    (a8 : PySem.W.nsIn K mainGlobals "_check_wishes" = some (some (.ref f8)))
    (l8 : K.lookup f8 = some ⟨oc8, od8, .func (PySem.W.fnOf "_check_wishes" "_check_wishes" (defArgs s__check_wishes) (defBody s__check_wishes) (defScope s__check_wishes) .none kV8 dc8 pm8 an8 cd8 ct8), sl8⟩)
    (cc8 : PySem.W.codeIn K cd8 "_check_wishes" = true)
    (kk8 : PySem.W.keepIn K (.ref f8) = true)
    (a9 : PySem.W.nsIn K mainGlobals "_can_grant" = some (some (.ref f9)))
    (l9 : K.lookup f9 = some ⟨oc9, od9, .func (PySem.W.fnOf "_can_grant" "_can_grant" (defArgs s__can_grant) (defBody s__can_grant) (defScope s__can_grant) .none kV9 dc9 pm9 an9 cd9 ct9), sl9⟩)
    (cc9 : PySem.W.codeIn K cd9 "_can_grant" = true)
    (kk9 : PySem.W.keepIn K (.ref f9) = true)
    (a10 : PySem.W.nsIn K mainGlobals "rule_for" = some (some (.ref f10)))
    (l10 : K.lookup f10 = some ⟨oc10, od10, .func (PySem.W.fnOf "rule_for" "rule_for" (defArgs s_rule_for) (defBody s_rule_for) (defScope s_rule_for) .none kV10 dc10 pm10 an10 cd10 ct10), sl10⟩)
    (cc10 : PySem.W.codeIn K cd10 "rule_for" = true)
    (kk10 : PySem.W.keepIn K (.ref f10) = true)
    (a11 : PySem.W.nsIn K mainGlobals "can_have" = some (some (.ref f11)))
    (l11 : K.lookup f11 = some ⟨oc11, od11, .func (PySem.W.fnOf "can_have" "can_have" (defArgs s_can_have) (defBody s_can_have) (defScope s_can_have) .none kV11 dc11 pm11 an11 cd11 ct11), sl11⟩)
    (cc11 : PySem.W.codeIn K cd11 "can_have" = true)
    (kk11 : PySem.W.keepIn K (.ref f11) = true)
    (a12 : PySem.W.nsIn K mainGlobals "is_size" = some (some (.ref f12)))
    (l12 : K.lookup f12 = some ⟨oc12, od12, .func (PySem.W.fnOf "is_size" "is_size" (defArgs s_is_size) (defBody s_is_size) (defScope s_is_size) .none kV12 dc12 pm12 an12 cd12 ct12), sl12⟩)
    (cc12 : PySem.W.codeIn K cd12 "is_size" = true)
    (kk12 : PySem.W.keepIn K (.ref f12) = true)
    (a13 : PySem.W.nsIn K mainGlobals "is_scheme" = some (some (.ref f13)))
    (l13 : K.lookup f13 = some ⟨oc13, od13, .func (PySem.W.fnOf "is_scheme" "is_scheme" (defArgs s_is_scheme) (defBody s_is_scheme) (defScope s_is_scheme) .none kV13 dc13 pm13 an13 cd13 ct13), sl13⟩)
    (cc13 : PySem.W.codeIn K cd13 "is_scheme" = true)
    (kk13 : PySem.W.keepIn K (.ref f13) = true)
    (a14 : PySem.W.nsIn K mainGlobals "is_natural" = some (some (.ref f14)))
    (l14 : K.lookup f14 = some ⟨oc14, od14, .func (PySem.W.fnOf "is_natural" "is_natural" (defArgs s_is_natural) (defBody s_is_natural) (defScope s_is_natural) .none kV14 dc14 pm14 an14 cd14 ct14), sl14⟩)
    (cc14 : PySem.W.codeIn K cd14 "is_natural" = true)
    (kk14 : PySem.W.keepIn K (.ref f14) = true)
    (a15 : PySem.W.nsIn K mainGlobals "is_scheme_with_budget" = some (some (.ref f15)))
    (l15 : K.lookup f15 = some ⟨oc15, od15, .func (PySem.W.fnOf "is_scheme_with_budget" "is_scheme_with_budget" (defArgs s_is_scheme_with_budget) (defBody s_is_scheme_with_budget) (defScope s_is_scheme_with_budget) .none kV15 dc15 pm15 an15 cd15 ct15), sl15⟩)
    (cc15 : PySem.W.codeIn K cd15 "is_scheme_with_budget" = true)
    (kk15 : PySem.W.keepIn K (.ref f15) = true)
    (a16 : PySem.W.nsIn K mainGlobals "check_rule" = some (some (.ref f16)))
    (l16 : K.lookup f16 = some ⟨oc16, od16, .func (PySem.W.fnOf "check_rule" "check_rule" (defArgs s_check_rule) (defBody s_check_rule) (defScope s_check_rule) .none kV16 dc16 pm16 an16 cd16 ct16), sl16⟩)
    (cc16 : PySem.W.codeIn K cd16 "check_rule" = true)
    (kk16 : PySem.W.keepIn K (.ref f16) = true)
    (a17 : PySem.W.nsIn K mainGlobals "_check_wish" = some (some (.ref f17)))
    (l17 : K.lookup f17 = some ⟨oc17, od17, .func (PySem.W.fnOf "_check_wish" "_check_wish" (defArgs s__check_wish) (defBody s__check_wish) (defScope s__check_wish) .none kV17 dc17 pm17 an17 cd17 ct17), sl17⟩)
    (cc17 : PySem.W.codeIn K cd17 "_check_wish" = true)
    (kk17 : PySem.W.keepIn K (.ref f17) = true)
    (a18 : PySem.W.nsIn K mainGlobals "lot_size" = some (some (.ref f18)))
    (l18 : K.lookup f18 = some ⟨oc18, od18, .func (PySem.W.fnOf "lot_size" "lot_size" (defArgs s_lot_size) (defBody s_lot_size) (defScope s_lot_size) .none kV18 dc18 pm18 an18 cd18 ct18), sl18⟩)
    (cc18 : PySem.W.codeIn K cd18 "lot_size" = true)
    (kk18 : PySem.W.keepIn K (.ref f18) = true)
    (a19 : PySem.W.nsIn K mainGlobals "_many_before_next_lot" = some (some (.ref f19)))
    (l19 : K.lookup f19 = some ⟨oc19, od19, .func (PySem.W.fnOf "_many_before_next_lot" "_many_before_next_lot" (defArgs s__many_before_next_lot) (defBody s__many_before_next_lot) (defScope s__many_before_next_lot) .none kV19 dc19 pm19 an19 cd19 ct19), sl19⟩)
    (cc19 : PySem.W.codeIn K cd19 "_many_before_next_lot" = true)
    (kk19 : PySem.W.keepIn K (.ref f19) = true)
    (a20 : PySem.W.nsIn K mainGlobals "_way_by_one" = some (some (.ref f20)))
    (l20 : K.lookup f20 = some ⟨oc20, od20, .func (PySem.W.fnOf "_way_by_one" "_way_by_one" (defArgs s__way_by_one) (defBody s__way_by_one) (defScope s__way_by_one) .none kV20 dc20 pm20 an20 cd20 ct20), sl20⟩)
    (cc20 : PySem.W.codeIn K cd20 "_way_by_one" = true)
    (kk20 : PySem.W.keepIn K (.ref f20) = true)
    (a21 : PySem.W.nsIn K mainGlobals "_way_by_two" = some (some (.ref f21)))
    (l21 : K.lookup f21 = some ⟨oc21, od21, .func (PySem.W.fnOf "_way_by_two" "_way_by_two" (defArgs s__way_by_two) (defBody s__way_by_two) (defScope s__way_by_two) .none kV21 dc21 pm21 an21 cd21 ct21), sl21⟩)
    (cc21 : PySem.W.codeIn K cd21 "_way_by_two" = true)
    (kk21 : PySem.W.keepIn K (.ref f21) = true)
    (a22 : PySem.W.nsIn K mainGlobals "_way_to_refusal" = some (some (.ref f22)))
    (l22 : K.lookup f22 = some ⟨oc22, od22, .func (PySem.W.fnOf "_way_to_refusal" "_way_to_refusal" (defArgs s__way_to_refusal) (defBody s__way_to_refusal) (defScope s__way_to_refusal) .none kV22 dc22 pm22 an22 cd22 ct22), sl22⟩)
    (cc22 : PySem.W.codeIn K cd22 "_way_to_refusal" = true)
    (kk22 : PySem.W.keepIn K (.ref f22) = true)
    (a23 : PySem.W.nsIn K mainGlobals "_way_to_break" = some (some (.ref f23)))
    (l23 : K.lookup f23 = some ⟨oc23, od23, .func (PySem.W.fnOf "_way_to_break" "_way_to_break" (defArgs s__way_to_break) (defBody s__way_to_break) (defScope s__way_to_break) .none kV23 dc23 pm23 an23 cd23 ct23), sl23⟩)
    (cc23 : PySem.W.codeIn K cd23 "_way_to_break" = true)
    (kk23 : PySem.W.keepIn K (.ref f23) = true)
    (a24 : PySem.W.nsIn K mainGlobals "grants" = some (some (.ref f24)))
    (l24 : K.lookup f24 = some ⟨oc24, od24, .func (PySem.W.fnOf "grants" "grants" (defArgs s_grants) (defBody s_grants) (defScope s_grants) .none kV24 dc24 pm24 an24 cd24 ct24), sl24⟩)
    (cc24 : PySem.W.codeIn K cd24 "grants" = true)
    (kk24 : PySem.W.keepIn K (.ref f24) = true)
    (a25 : PySem.W.nsIn K mainGlobals "is_rule" = some (some (.ref f25)))
    (l25 : K.lookup f25 = some ⟨oc25, od25, .func (PySem.W.fnOf "is_rule" "is_rule" (defArgs s_is_rule) (defBody s_is_rule) (defScope s_is_rule) .none kV25 dc25 pm25 an25 cd25 ct25), sl25⟩)
    (cc25 : PySem.W.codeIn K cd25 "is_rule" = true)
    (kk25 : PySem.W.keepIn K (.ref f25) = true)
    (a26 : PySem.W.nsIn K mainGlobals "_law_refusal" = some (some (.ref f26)))
    (l26 : K.lookup f26 = some ⟨oc26, od26, .func (PySem.W.fnOf "_law_refusal" "_law_refusal" (defArgs s__law_refusal) (defBody s__law_refusal) (defScope s__law_refusal) .none kV26 dc26 pm26 an26 cd26 ct26), sl26⟩)
    (cc26 : PySem.W.codeIn K cd26 "_law_refusal" = true)
    (kk26 : PySem.W.keepIn K (.ref f26) = true)
    (a27 : PySem.W.nsIn K mainGlobals "_law_least" = some (some (.ref f27)))
    (l27 : K.lookup f27 = some ⟨oc27, od27, .func (PySem.W.fnOf "_law_least" "_law_least" (defArgs s__law_least) (defBody s__law_least) (defScope s__law_least) .none kV27 dc27 pm27 an27 cd27 ct27), sl27⟩)
    (cc27 : PySem.W.codeIn K cd27 "_law_least" = true)
    (kk27 : PySem.W.keepIn K (.ref f27) = true)
    (a28 : PySem.W.nsIn K mainGlobals "_law_right" = some (some (.ref f28)))
    (l28 : K.lookup f28 = some ⟨oc28, od28, .func (PySem.W.fnOf "_law_right" "_law_right" (defArgs s__law_right) (defBody s__law_right) (defScope s__law_right) .none kV28 dc28 pm28 an28 cd28 ct28), sl28⟩)
    (cc28 : PySem.W.codeIn K cd28 "_law_right" = true)
    (kk28 : PySem.W.keepIn K (.ref f28) = true)
    (a29 : PySem.W.nsIn K mainGlobals "_law_deal" = some (some (.ref f29)))
    (l29 : K.lookup f29 = some ⟨oc29, od29, .func (PySem.W.fnOf "_law_deal" "_law_deal" (defArgs s__law_deal) (defBody s__law_deal) (defScope s__law_deal) .none kV29 dc29 pm29 an29 cd29 ct29), sl29⟩)
    (cc29 : PySem.W.codeIn K cd29 "_law_deal" = true)
    (kk29 : PySem.W.keepIn K (.ref f29) = true)
    (a30 : PySem.W.nsIn K mainGlobals "law" = some (some (.ref f30)))
    (l30 : K.lookup f30 = some ⟨oc30, od30, .func (PySem.W.fnOf "law" "law" (defArgs s_law) (defBody s_law) (defScope s_law) .none kV30 dc30 pm30 an30 cd30 ct30), sl30⟩)
    (cc30 : PySem.W.codeIn K cd30 "law" = true)
    (kk30 : PySem.W.keepIn K (.ref f30) = true)
    (z_abs : PySem.W.nsIn K mainGlobals "abs" = some none)
    (z_all : PySem.W.nsIn K mainGlobals "all" = some none)
    (z_any : PySem.W.nsIn K mainGlobals "any" = some none)
    (z_bool : PySem.W.nsIn K mainGlobals "bool" = some none)
    (z_enumerate : PySem.W.nsIn K mainGlobals "enumerate" = some none)
    (z_int : PySem.W.nsIn K mainGlobals "int" = some none)
    (z_isinstance : PySem.W.nsIn K mainGlobals "isinstance" = some none)
    (z_len : PySem.W.nsIn K mainGlobals "len" = some none)
    (z_list : PySem.W.nsIn K mainGlobals "list" = some none)
    (z_max : PySem.W.nsIn K mainGlobals "max" = some none)
    (z_min : PySem.W.nsIn K mainGlobals "min" = some none)
    (z_range : PySem.W.nsIn K mainGlobals "range" = some none)
    (z_repr : PySem.W.nsIn K mainGlobals "repr" = some none)
    (z_set : PySem.W.nsIn K mainGlobals "set" = some none)
    (z_str : PySem.W.nsIn K mainGlobals "str" = some none)
    (z_tuple : PySem.W.nsIn K mainGlobals "tuple" = some none)
    (g_GREATEST_SIZE : PySem.W.nsIn K mainGlobals "GREATEST_SIZE" = some (some (Value.int 999999999999999999999999999999 t_GREATEST_SIZE)))
    (g_IN_SEQUENCE : PySem.W.nsIn K mainGlobals "IN_SEQUENCE" = some (some (.ref r_IN_SEQUENCE)))
    (h_IN_SEQUENCE : K.lookup r_IN_SEQUENCE = some ⟨.type "tuple", dd_IN_SEQUENCE, .seq #[Value.str "full" t_IN_SEQUENCE_0, Value.str "rest" t_IN_SEQUENCE_1, Value.str "ascending" t_IN_SEQUENCE_2] nn_IN_SEQUENCE, ss_IN_SEQUENCE⟩)
    (g_KINDS_WITH_BUDGET : PySem.W.nsIn K mainGlobals "KINDS_WITH_BUDGET" = some (some (.ref r_KINDS_WITH_BUDGET)))
    (h_KINDS_WITH_BUDGET : K.lookup r_KINDS_WITH_BUDGET = some ⟨.type "tuple", dd_KINDS_WITH_BUDGET, .seq #[Value.str "again" t_KINDS_WITH_BUDGET_0, Value.str "pool" t_KINDS_WITH_BUDGET_1] nn_KINDS_WITH_BUDGET, ss_KINDS_WITH_BUDGET⟩)
    (g_MOST_HOUSES : PySem.W.nsIn K mainGlobals "MOST_HOUSES" = some (some (Value.int 20 t_MOST_HOUSES)))
    (g_ORDERS : PySem.W.nsIn K mainGlobals "ORDERS" = some (some (.ref r_ORDERS)))
    (h_ORDERS : K.lookup r_ORDERS = some ⟨.type "tuple", dd_ORDERS, .seq #[Value.str "least" t_ORDERS_0, Value.str "greatest" t_ORDERS_1, Value.str "oldest" t_ORDERS_2, Value.str "newest" t_ORDERS_3] nn_ORDERS, ss_ORDERS⟩)
    (g_WISHES : PySem.W.nsIn K mainGlobals "WISHES" = some (some (.ref r_WISHES)))
    (h_WISHES : K.lookup r_WISHES = some ⟨.type "tuple", dd_WISHES, .seq #[Value.str "early" t_WISHES_0, Value.str "full" t_WISHES_1, Value.str "rest" t_WISHES_2, Value.str "ascending" t_WISHES_3, Value.str "kept" t_WISHES_4, Value.str "free" t_WISHES_5] nn_WISHES, ss_WISHES⟩) :
    ∃ fd : FuncData, (∀ (s : Shared) (v : Value), BindsTo s fd ⟨[v], []⟩ [("script", v)]) ∧ ∀ base : Heap, K.In base → base.Ns mainGlobals mg → FnD l.prog w K mg base 10 fa fd ["script"] F_law := by
  have e := hfa.symm.trans (PySem.W.mg_of X G a30)
  cases e
  have T : Txt K mg := ⟨PySem.W.mg_none_of X G z_abs,
    PySem.W.mg_none_of X G z_all,
    PySem.W.mg_none_of X G z_any,
    PySem.W.mg_none_of X G z_bool,
    PySem.W.mg_none_of X G z_enumerate,
    PySem.W.mg_none_of X G z_int,
    PySem.W.mg_none_of X G z_isinstance,
    PySem.W.mg_none_of X G z_len,
    PySem.W.mg_none_of X G z_list,
    PySem.W.mg_none_of X G z_max,
    PySem.W.mg_none_of X G z_min,
    PySem.W.mg_none_of X G z_range,
    PySem.W.mg_none_of X G z_repr,
    PySem.W.mg_none_of X G z_set,
    PySem.W.mg_none_of X G z_str,
    PySem.W.mg_none_of X G z_tuple,
    ⟨⟨_, V.int 999999999999999999999999999999, PySem.W.mg_of X G g_GREATEST_SIZE, ⟨_, rfl⟩, fun av m H => .int _⟩⟩,
    ⟨⟨_, .ref r_IN_SEQUENCE, PySem.W.mg_of X G g_IN_SEQUENCE, rfl, fun av m H => .tupK (xs := [V.str "full", V.str "rest", V.str "ascending"]) (fun H => .inr ⟨_, #[Value.str "full" t_IN_SEQUENCE_0, Value.str "rest" t_IN_SEQUENCE_1, Value.str "ascending" t_IN_SEQUENCE_2], _, h_IN_SEQUENCE, rfl, rfl, (by show 3 ≤ sizeLine; decide), .cons ⟨_, rfl⟩ (.cons ⟨_, rfl⟩ (.cons ⟨_, rfl⟩ .nil))⟩) (.cons (.str _) (.cons (.str _) (.cons (.str _) (.nil))))⟩⟩,
    ⟨⟨_, .ref r_KINDS_WITH_BUDGET, PySem.W.mg_of X G g_KINDS_WITH_BUDGET, rfl, fun av m H => .tupK (xs := [V.str "again", V.str "pool"]) (fun H => .inr ⟨_, #[Value.str "again" t_KINDS_WITH_BUDGET_0, Value.str "pool" t_KINDS_WITH_BUDGET_1], _, h_KINDS_WITH_BUDGET, rfl, rfl, (by show 2 ≤ sizeLine; decide), .cons ⟨_, rfl⟩ (.cons ⟨_, rfl⟩ .nil)⟩) (.cons (.str _) (.cons (.str _) (.nil)))⟩⟩,
    ⟨⟨_, V.int 20, PySem.W.mg_of X G g_MOST_HOUSES, ⟨_, rfl⟩, fun av m H => .int _⟩⟩,
    ⟨⟨_, .ref r_ORDERS, PySem.W.mg_of X G g_ORDERS, rfl, fun av m H => .tupK (xs := [V.str "least", V.str "greatest", V.str "oldest", V.str "newest"]) (fun H => .inr ⟨_, #[Value.str "least" t_ORDERS_0, Value.str "greatest" t_ORDERS_1, Value.str "oldest" t_ORDERS_2, Value.str "newest" t_ORDERS_3], _, h_ORDERS, rfl, rfl, (by show 4 ≤ sizeLine; decide), .cons ⟨_, rfl⟩ (.cons ⟨_, rfl⟩ (.cons ⟨_, rfl⟩ (.cons ⟨_, rfl⟩ .nil)))⟩) (.cons (.str _) (.cons (.str _) (.cons (.str _) (.cons (.str _) (.nil)))))⟩⟩,
    ⟨⟨_, .ref r_WISHES, PySem.W.mg_of X G g_WISHES, rfl, fun av m H => .tupK (xs := [V.str "early", V.str "full", V.str "rest", V.str "ascending", V.str "kept", V.str "free"]) (fun H => .inr ⟨_, #[Value.str "early" t_WISHES_0, Value.str "full" t_WISHES_1, Value.str "rest" t_WISHES_2, Value.str "ascending" t_WISHES_3, Value.str "kept" t_WISHES_4, Value.str "free" t_WISHES_5], _, h_WISHES, rfl, rfl, (by show 6 ≤ sizeLine; decide), .cons ⟨_, rfl⟩ (.cons ⟨_, rfl⟩ (.cons ⟨_, rfl⟩ (.cons ⟨_, rfl⟩ (.cons ⟨_, rfl⟩ (.cons ⟨_, rfl⟩ .nil)))))⟩) (.cons (.str _) (.cons (.str _) (.cons (.str _) (.cons (.str _) (.cons (.str _) (.cons (.str _) (.nil)))))))⟩⟩⟩
  have Fn0 := fun_mk (st := s__law_source) l0 cc0 kk0
  have b0 := Fn0.binds (ps := ["cell", "k"]) fun _ _ _ _ _ _ us hl => match us, hl with | [_, _], _ => rfl
  have Fn1 := fun_mk (st := s__law_draw) l1 cc1 kk1
  have b1 := Fn1.binds (ps := ["source", "count"]) fun _ _ _ _ _ _ us hl => match us, hl with | [_, _], _ => rfl
  have Fn2 := fun_mk (st := s__law_hopes) l2 cc2 kk2
  have b2 := Fn2.binds (ps := ["source", "mask"]) fun _ _ _ _ _ _ us hl => match us, hl with | [_, _], _ => rfl
  have Fn3 := fun_mk (st := s_is_integer) l3 cc3 kk3
  have b3 := Fn3.binds (ps := ["value"]) fun _ _ _ _ _ _ us hl => match us, hl with | [_], _ => rfl
  have Fn4 := fun_mk (st := s_is_within) l4 cc4 kk4
  have b4 := Fn4.binds (ps := ["value", "least", "greatest"]) fun _ _ _ _ _ _ us hl => match us, hl with | [_, _, _], _ => rfl
  have Fn5 := fun_mk (st := s_check_houses) l5 cc5 kk5
  have b5 := Fn5.binds (ps := ["houses"]) fun _ _ _ _ _ _ us hl => match us, hl with | [_], _ => rfl
  have Fn6 := fun_mk (st := s__check_falls) l6 cc6 kk6
  have b6 := Fn6.binds (ps := ["falls"]) fun _ _ _ _ _ _ us hl => match us, hl with | [_], _ => rfl
  have Fn7 := fun_mk (st := s__is_wish) l7 cc7 kk7
  have b7 := Fn7.binds (ps := ["value"]) fun _ _ _ _ _ _ us hl => match us, hl with | [_], _ => rfl
  have Fn8 := fun_mk (st := s__check_wishes) l8 cc8 kk8
  have b8 := Fn8.binds (ps := ["wishes", "houses", "falls"]) fun _ _ _ _ _ _ us hl => match us, hl with | [_, _, _], _ => rfl
  have Fn9 := fun_mk (st := s__can_grant) l9 cc9 kk9
  have b9 := Fn9.binds (ps := ["wishes", "houses"]) fun _ _ _ _ _ _ us hl => match us, hl with | [_, _], _ => rfl
  have Fn10 := fun_mk (st := s_rule_for) l10 cc10 kk10
  have b10 := Fn10.binds (ps := ["wishes", "houses", "falls"]) fun _ _ _ _ _ _ us hl => match us, hl with | [_, _, _], _ => rfl
  have Fn11 := fun_mk (st := s_can_have) l11 cc11 kk11
  have b11 := Fn11.binds (ps := ["wishes", "houses", "falls"]) fun _ _ _ _ _ _ us hl => match us, hl with | [_, _, _], _ => rfl
  have Fn12 := fun_mk (st := s_is_size) l12 cc12 kk12
  have b12 := Fn12.binds (ps := ["value"]) fun _ _ _ _ _ _ us hl => match us, hl with | [_], _ => rfl
  have Fn13 := fun_mk (st := s_is_scheme) l13 cc13 kk13
  have b13 := Fn13.binds (ps := ["value"]) fun _ _ _ _ _ _ us hl => match us, hl with | [_], _ => rfl
  have Fn14 := fun_mk (st := s_is_natural) l14 cc14 kk14
  have b14 := Fn14.binds (ps := ["value"]) fun _ _ _ _ _ _ us hl => match us, hl with | [_], _ => rfl
  have Fn15 := fun_mk (st := s_is_scheme_with_budget) l15 cc15 kk15
  have b15 := Fn15.binds (ps := ["value"]) fun _ _ _ _ _ _ us hl => match us, hl with | [_], _ => rfl
  have Fn16 := fun_mk (st := s_check_rule) l16 cc16 kk16
  have b16 := Fn16.binds (ps := ["rule"]) fun _ _ _ _ _ _ us hl => match us, hl with | [_], _ => rfl
  have Fn17 := fun_mk (st := s__check_wish) l17 cc17 kk17
  have b17 := Fn17.binds (ps := ["rule", "houses", "falls", "wish"]) fun _ _ _ _ _ _ us hl => match us, hl with | [_, _, _, _], _ => rfl
  have Fn18 := fun_mk (st := s_lot_size) l18 cc18 kk18
  have b18 := Fn18.binds (ps := ["scheme"]) fun _ _ _ _ _ _ us hl => match us, hl with | [_], _ => rfl
  have Fn19 := fun_mk (st := s__many_before_next_lot) l19 cc19 kk19
  have b19 := Fn19.binds (ps := ["rule"]) fun _ _ _ _ _ _ us hl => match us, hl with | [_], _ => rfl
  have Fn20 := fun_mk (st := s__way_by_one) l20 cc20 kk20
  have b20 := Fn20.binds (ps := ["rule", "falls", "wish"]) fun _ _ _ _ _ _ us hl => match us, hl with | [_, _, _], _ => rfl
  have Fn21 := fun_mk (st := s__way_by_two) l21 cc21 kk21
  have b21 := Fn21.binds (ps := ["rule", "wish"]) fun _ _ _ _ _ _ us hl => match us, hl with | [_, _], _ => rfl
  have Fn22 := fun_mk (st := s__way_to_refusal) l22 cc22 kk22
  have b22 := Fn22.binds (ps := ["rule", "houses", "falls"]) fun _ _ _ _ _ _ us hl => match us, hl with | [_, _, _], _ => rfl
  have Fn23 := fun_mk (st := s__way_to_break) l23 cc23 kk23
  have b23 := Fn23.binds (ps := ["rule", "houses", "falls", "wish"]) fun _ _ _ _ _ _ us hl => match us, hl with | [_, _, _, _], _ => rfl
  have Fn24 := fun_mk (st := s_grants) l24 cc24 kk24
  have b24 := Fn24.binds (ps := ["rule", "houses", "falls", "wish"]) fun _ _ _ _ _ _ us hl => match us, hl with | [_, _, _, _], _ => rfl
  have Fn25 := fun_mk (st := s_is_rule) l25 cc25 kk25
  have b25 := Fn25.binds (ps := ["value"]) fun _ _ _ _ _ _ us hl => match us, hl with | [_], _ => rfl
  have Fn26 := fun_mk (st := s__law_refusal) l26 cc26 kk26
  have b26 := Fn26.binds (ps := ["plan", "cap", "firms", "drops"]) fun _ _ _ _ _ _ us hl => match us, hl with | [_, _, _, _], _ => rfl
  have Fn27 := fun_mk (st := s__law_least) l27 cc27 kk27
  have b27 := Fn27.binds (ps := ["plan", "cap", "firms", "drops", "hope"]) fun _ _ _ _ _ _ us hl => match us, hl with | [_, _, _, _, _], _ => rfl
  have Fn28 := fun_mk (st := s__law_right) l28 cc28 kk28
  have b28 := Fn28.binds (ps := ["hopes", "firms", "drops", "deal"]) fun _ _ _ _ _ _ us hl => match us, hl with | [_, _, _, _], _ => rfl
  have Fn29 := fun_mk (st := s__law_deal) l29 cc29 kk29
  have b29 := Fn29.binds (ps := ["source", "firms"]) fun _ _ _ _ _ _ us hl => match us, hl with | [_, _], _ => rfl
  have Fn30 := fun_mk (st := s_law) l30 cc30 kk30
  refine ⟨PySem.W.fnOf "law" "law" (defArgs s_law) (defBody s_law) (defScope s_law) .none kV30 dc30 pm30 an30 cd30 ct30, fun s v => .of_eq rfl, fun base _ _ => ?_⟩
  case _ =>
    have c__law_source : Cal l.prog w K mg base 1 "_law_source" "_law_source" s__law_source ["cell", "k"] F__law_source := ⟨_, _, ok__law_source Fn0 T , PySem.W.mg_of X G a0, Fn0, b0⟩
    have c__law_draw : Cal l.prog w K mg base 1 "_law_draw" "_law_draw" s__law_draw ["source", "count"] F__law_draw := ⟨_, _, ok__law_draw Fn1 T , PySem.W.mg_of X G a1, Fn1, b1⟩
    have c__law_hopes : Cal l.prog w K mg base 2 "_law_hopes" "_law_hopes" s__law_hopes ["source", "mask"] F__law_hopes := ⟨_, _, ok__law_hopes Fn2 T c__law_draw, PySem.W.mg_of X G a2, Fn2, b2⟩
    have c_is_integer : Cal l.prog w K mg base 1 "is_integer" "is_integer" s_is_integer ["value"] F_is_integer := ⟨_, _, ok_is_integer Fn3 T , PySem.W.mg_of X G a3, Fn3, b3⟩
    have c_is_within : Cal l.prog w K mg base 2 "is_within" "is_within" s_is_within ["value", "least", "greatest"] F_is_within := ⟨_, _, ok_is_within Fn4 T c_is_integer, PySem.W.mg_of X G a4, Fn4, b4⟩
    have c_check_houses : Cal l.prog w K mg base 3 "check_houses" "check_houses" s_check_houses ["houses"] F_check_houses := ⟨_, _, ok_check_houses Fn5 T c_is_within, PySem.W.mg_of X G a5, Fn5, b5⟩
    have c__check_falls : Cal l.prog w K mg base 1 "_check_falls" "_check_falls" s__check_falls ["falls"] F__check_falls := ⟨_, _, ok__check_falls Fn6 T , PySem.W.mg_of X G a6, Fn6, b6⟩
    have c__is_wish : Cal l.prog w K mg base 1 "_is_wish" "_is_wish" s__is_wish ["value"] F__is_wish := ⟨_, _, ok__is_wish Fn7 T , PySem.W.mg_of X G a7, Fn7, b7⟩
    have c__check_wishes : Cal l.prog w K mg base 4 "_check_wishes" "_check_wishes" s__check_wishes ["wishes", "houses", "falls"] F__check_wishes := ⟨_, _, ok__check_wishes Fn8 T c_check_houses c__check_falls c__is_wish, PySem.W.mg_of X G a8, Fn8, b8⟩
    have c__can_grant : Cal l.prog w K mg base 1 "_can_grant" "_can_grant" s__can_grant ["wishes", "houses"] F__can_grant := ⟨_, _, ok__can_grant Fn9 T , PySem.W.mg_of X G a9, Fn9, b9⟩
    have c_rule_for : Cal l.prog w K mg base 5 "rule_for" "rule_for" s_rule_for ["wishes", "houses", "falls"] F_rule_for := ⟨_, _, ok_rule_for Fn10 T c__check_wishes c__can_grant, PySem.W.mg_of X G a10, Fn10, b10⟩
    have c_can_have : Cal l.prog w K mg base 5 "can_have" "can_have" s_can_have ["wishes", "houses", "falls"] F_can_have := ⟨_, _, ok_can_have Fn11 T c__check_wishes c__can_grant, PySem.W.mg_of X G a11, Fn11, b11⟩
    have c_is_size : Cal l.prog w K mg base 3 "is_size" "is_size" s_is_size ["value"] F_is_size := ⟨_, _, ok_is_size Fn12 T c_is_within, PySem.W.mg_of X G a12, Fn12, b12⟩
    have c_is_scheme : Cal l.prog w K mg base 4 "is_scheme" "is_scheme" s_is_scheme ["value"] F_is_scheme := ⟨_, _, ok_is_scheme Fn13 T c_is_size, PySem.W.mg_of X G a13, Fn13, b13⟩
    have c_is_natural : Cal l.prog w K mg base 2 "is_natural" "is_natural" s_is_natural ["value"] F_is_natural := ⟨_, _, ok_is_natural Fn14 T c_is_integer, PySem.W.mg_of X G a14, Fn14, b14⟩
    have c_is_scheme_with_budget : Cal l.prog w K mg base 5 "is_scheme_with_budget" "is_scheme_with_budget" s_is_scheme_with_budget ["value"] F_is_scheme_with_budget := ⟨_, _, ok_is_scheme_with_budget Fn15 T c_is_scheme c_is_natural, PySem.W.mg_of X G a15, Fn15, b15⟩
    have c_check_rule : Cal l.prog w K mg base 6 "check_rule" "check_rule" s_check_rule ["rule"] F_check_rule := ⟨_, _, ok_check_rule Fn16 T c_is_scheme_with_budget, PySem.W.mg_of X G a16, Fn16, b16⟩
    have c__check_wish : Cal l.prog w K mg base 7 "_check_wish" "_check_wish" s__check_wish ["rule", "houses", "falls", "wish"] F__check_wish := ⟨_, _, ok__check_wish Fn17 T c_check_houses c__check_falls c__is_wish c_check_rule, PySem.W.mg_of X G a17, Fn17, b17⟩
    have c_lot_size : Cal l.prog w K mg base 1 "lot_size" "lot_size" s_lot_size ["scheme"] F_lot_size := ⟨_, _, ok_lot_size Fn18 T , PySem.W.mg_of X G a18, Fn18, b18⟩
    have c__many_before_next_lot : Cal l.prog w K mg base 2 "_many_before_next_lot" "_many_before_next_lot" s__many_before_next_lot ["rule"] F__many_before_next_lot := ⟨_, _, ok__many_before_next_lot Fn19 T c_lot_size, PySem.W.mg_of X G a19, Fn19, b19⟩
    have c__way_by_one : Cal l.prog w K mg base 3 "_way_by_one" "_way_by_one" s__way_by_one ["rule", "falls", "wish"] F__way_by_one := ⟨_, _, ok__way_by_one Fn20 T c__many_before_next_lot, PySem.W.mg_of X G a20, Fn20, b20⟩
    have c__way_by_two : Cal l.prog w K mg base 3 "_way_by_two" "_way_by_two" s__way_by_two ["rule", "wish"] F__way_by_two := ⟨_, _, ok__way_by_two Fn21 T c__many_before_next_lot, PySem.W.mg_of X G a21, Fn21, b21⟩
    have c__way_to_refusal : Cal l.prog w K mg base 2 "_way_to_refusal" "_way_to_refusal" s__way_to_refusal ["rule", "houses", "falls"] F__way_to_refusal := ⟨_, _, ok__way_to_refusal Fn22 T c_lot_size, PySem.W.mg_of X G a22, Fn22, b22⟩
    have c__way_to_break : Cal l.prog w K mg base 4 "_way_to_break" "_way_to_break" s__way_to_break ["rule", "houses", "falls", "wish"] F__way_to_break := ⟨_, _, ok__way_to_break Fn23 T c__way_by_one c__way_by_two c__way_to_refusal, PySem.W.mg_of X G a23, Fn23, b23⟩
    have c_grants : Cal l.prog w K mg base 8 "grants" "grants" s_grants ["rule", "houses", "falls", "wish"] F_grants := ⟨_, _, ok_grants Fn24 T c__check_wish c__way_to_break, PySem.W.mg_of X G a24, Fn24, b24⟩
    have c_is_rule : Cal l.prog w K mg base 6 "is_rule" "is_rule" s_is_rule ["value"] F_is_rule := ⟨_, _, ok_is_rule Fn25 T c_is_scheme_with_budget, PySem.W.mg_of X G a25, Fn25, b25⟩
    have c__law_refusal : Cal l.prog w K mg base 1 "_law_refusal" "_law_refusal" s__law_refusal ["plan", "cap", "firms", "drops"] F__law_refusal := ⟨_, _, ok__law_refusal Fn26 T , PySem.W.mg_of X G a26, Fn26, b26⟩
    have c__law_least : Cal l.prog w K mg base 2 "_law_least" "_law_least" s__law_least ["plan", "cap", "firms", "drops", "hope"] F__law_least := ⟨_, _, ok__law_least Fn27 T c__law_refusal, PySem.W.mg_of X G a27, Fn27, b27⟩
    have c__law_right : Cal l.prog w K mg base 9 "_law_right" "_law_right" s__law_right ["hopes", "firms", "drops", "deal"] F__law_right := ⟨_, _, ok__law_right Fn28 T c_rule_for c_can_have c_grants c_is_rule c__law_least, PySem.W.mg_of X G a28, Fn28, b28⟩
    have c__law_deal : Cal l.prog w K mg base 2 "_law_deal" "_law_deal" s__law_deal ["source", "firms"] F__law_deal := ⟨_, _, ok__law_deal Fn29 T c__law_draw, PySem.W.mg_of X G a29, Fn29, b29⟩
    exact ok_law Fn30 T c__law_source c__law_draw c__law_hopes c__law_right c__law_deal
end My
set_option linter.all false
set_option maxRecDepth 100000
set_option maxHeartbeats 1000000
/-! Dm: how the plain functions reckon: equations for simp. -/
namespace Dm
open PySem PySem.Spec L2
section
variable {α β : Type} {env : List (Option D)} {cs : List C}
@[simp] theorem bind_ok (a : α) (cs : List C) (f : α → List C → Out β) : (Out.ok a cs).bind f = f a cs := rfl
@[simp] theorem bind_exc (x : Str) (fs : Option (List (Str × D))) (cs : List C) (f : α → List C → Out β) : (Out.exc x fs cs : Out α).bind f = .exc x fs cs := rfl
@[simp] theorem bind_bad (f : α → List C → Out β) : (Out.bad : Out α).bind f = .bad := rfl
@[simp] theorem gVar_def (i : Nat) : gVar i env cs = (match env[i]? with | some (some d) => .ok d cs | _ => .bad) := rfl
@[simp] theorem gC_def (d : D) : gC d env cs = .ok d cs := rfl
@[simp] theorem g2_def (f : D → D → List C → Out D) (a b : Gx) : g2 f a b env cs = (a env cs).bind fun x cs => (b env cs).bind fun y cs => f x y cs := rfl
@[simp] theorem g1_def (f : D → List C → Out D) (a : Gx) : g1 f a env cs = (a env cs).bind f := rfl
@[simp] theorem gA_def (f : List D → List C → Out D) (a : Ga) : gA f a env cs = (a env cs).bind f := rfl
@[simp] theorem aNil_def : aNil env cs = .ok [] cs := rfl
@[simp] theorem aCons_def (g : Gx) (r : Ga) : aCons g r env cs = (g env cs).bind fun x cs => (r env cs).bind fun xs cs => .ok (x :: xs) cs := rfl
@[simp] theorem gList_def (a : Ga) : gList a env cs = (a env cs).bind fun xs cs => if xs.length ≤ 1000 then .ok (.lst xs) cs else .bad := rfl
@[simp] theorem gListC_def (a : Ga) : gListC a env cs = (a env cs).bind fun xs cs => if xs.length ≤ 1000 then .ok (.cell cs.length) (cs ++ [.lst xs]) else .bad := rfl
@[simp] theorem gTup_def (a : Ga) : Dm.gTup a env cs = (a env cs).bind fun xs cs => if xs.length ≤ 1000 then .ok (.tup xs) cs else .bad := rfl
@[simp] theorem tE_def (g : Gx) : tE g env cs = (g env cs).bind asB := rfl
@[simp] theorem asB_bl (b : Bool) : asB (.bl b) cs = .ok b cs := rfl
@[simp] theorem tAnd_def (a b : Gt) : tAndD a b env cs = (a env cs).bind fun x cs => if x then b env cs else .ok false cs := rfl
@[simp] theorem tOr_def (a b : Gt) : tOrD a b env cs = (a env cs).bind fun x cs => if x then .ok true cs else b env cs := rfl
@[simp] theorem tNot_def (a : Gt) : tNotD a env cs = (a env cs).bind fun x cs => .ok (!x) cs := rfl
@[simp] theorem gIf_def (t : Gt) (a b : Gx) : gIf t a b env cs = (t env cs).bind fun x cs => if x then a env cs else b env cs := rfl
@[simp] theorem gAnd_def (a b : Gx) : gAnd a b env cs = (a env cs).bind fun x cs => match x with | .bl true => b env cs | .bl false => .ok (.bl false) cs | _ => .bad := rfl
@[simp] theorem gOr_def (a b : Gx) : gOr a b env cs = (a env cs).bind fun x cs => match x with | .bl true => .ok (.bl true) cs | .bl false => b env cs | _ => .bad := rfl
@[simp] theorem gNot_def (a : Gx) : gNot a env cs = (a env cs).bind fun x cs => match x with | .bl b => .ok (.bl (!b)) cs | _ => .bad := rfl
@[simp] theorem gChain_def (f f' : D → D → List C → Out D) (ga gb gc : Gx) : gChain f f' ga gb gc env cs = (ga env cs).bind fun x cs => (gb env cs).bind fun y cs => (f x y cs).bind fun z cs => match z with
  | .bl true => (gc env cs).bind fun w cs => f' y w cs
  | .bl false => .ok (.bl false) cs
  | _ => .bad := rfl
@[simp] theorem sNext_def : sNext env cs = .ok ⟨.nx, env⟩ cs := rfl
@[simp] theorem sSeq_def (a b : Gs) : sSeq a b env cs = (match a env cs with
  | .ok ⟨.nx, env'⟩ cs' => b env' cs'
  | .ok ⟨.rt d, e⟩ cs' => .ok ⟨.rt d, e⟩ cs'
  | .ok ⟨.bk, e⟩ cs' => .ok ⟨.bk, e⟩ cs'
  | .ok ⟨.ct, e⟩ cs' => .ok ⟨.ct, e⟩ cs'
  | .exc x fs cs' => .exc x fs cs'
  | .bad => .bad) := rfl
@[simp] theorem sExpr_def (g : Gx) : sExpr g env cs = (g env cs).bind fun _ cs => .ok ⟨.nx, env⟩ cs := rfl
@[simp] theorem sRet_def (g : Gx) : sRet g env cs = (g env cs).bind fun d cs => .ok ⟨.rt d, env⟩ cs := rfl
@[simp] theorem sIf_def (t : Gt) (a b : Gs) : sIf t a b env cs = (t env cs).bind fun x cs => if x then a env cs else b env cs := rfl
@[simp] theorem sAsg_def (g : Gx) (t : Gg) : sAsg g t env cs = (g env cs).bind fun d cs => (t d env cs).bind fun env cs => .ok ⟨.nx, env⟩ cs := rfl
@[simp] theorem sPar_def (i j : Nat) (a b : Gx) : sPar i j a b env cs = (a env cs).bind fun x cs => (b env cs).bind fun y cs => .ok ⟨.nx, (env.set i (some x)).set j (some y)⟩ cs := rfl
@[simp] theorem tgName_def (i : Nat) (d : D) : tgName i d env cs = .ok (env.set i (some d)) cs := rfl
@[simp] theorem tgTup_def (n : Nat) (r : List D → Env' → List C → Out Env') (ds : List D) : tgTup n r (.tup ds) env cs = if ds.length = n then r ds env cs else .bad := rfl
@[simp] theorem tgNil_def : tgNil [] env cs = .ok env cs := rfl
@[simp] theorem tgCons_def (g : Gg) (r : List D → Env' → List C → Out Env') (d : D) (ds : List D) : tgCons g r (d :: ds) env cs = (g d env cs).bind fun env cs => r ds env cs := rfl
@[simp] theorem tgSub_def (go gi : Gx) (d : D) : tgSub go gi d env cs = (go env cs).bind fun o cs => (gi env cs).bind fun i cs => match o, i with
  | .cell n, .int i => (putD n i d cs).bind fun _ cs => .ok env cs
  | _, _ => .bad := rfl
@[simp] theorem sFor_def (i : Ga) (t : Gg) (b : Gs) : sFor i t b env cs = (i env cs).bind fun ds cs => forD t b ds env cs := rfl
@[simp] theorem iL_def (g : Gx) : iL g env cs = (g env cs).bind fun d cs => match asV d with | some ds => .ok ds cs | none => .bad := rfl
@[simp] theorem iT_def (g : Gx) : iT g env cs = (g env cs).bind fun d cs => match asT d with | some ds => .ok ds cs | none => .bad := rfl
@[simp] theorem iR1_def (a : Ga) : iR1 a env cs = (a env cs).bind fun ds cs => match ds with
  | [.int j] => if -(2 ^ 62) ≤ j ∧ j < 2 ^ 62 then .ok (rngD 0 j.toNat) cs else .bad
  | _ => .bad := rfl
@[simp] theorem iR2_def (a : Ga) : iR2 a env cs = (a env cs).bind fun ds cs => match ds with
  | [.int i, .int j] => if -(2 ^ 62) ≤ i ∧ i < 2 ^ 62 ∧ -(2 ^ 62) ≤ j ∧ j < 2 ^ 62 then .ok (rngD i (j - i).toNat) cs else .bad
  | _ => .bad := rfl
@[simp] theorem iE_def (a : Ga) : iE a env cs = (a env cs).bind fun ds cs => match ds with
  | [d] => match asV d with | some xs => .ok (enumD 0 xs) cs | none => .bad
  | _ => .bad := rfl
@[simp] theorem gApp_def (go ge : Gx) : gApp go ge env cs = (go env cs).bind fun o cs => match o with
  | .cell n => if isLc n cs then (ge env cs).bind fun d cs => appD n d cs else .bad
  | _ => .bad := rfl
@[simp] theorem gSl_def (g : Gx) (lo hi : Go) : gSl g lo hi env cs = (g env cs).bind fun x cs => (lo env cs).bind fun l cs => (hi env cs).bind fun u cs => slD x l u cs := rfl
@[simp] theorem oNone_def : oNone env cs = .ok none cs := rfl
@[simp] theorem oSome_def (g : Gx) : oSome g env cs = (g env cs).bind fun d cs => match d with | .int i => .ok (some i) cs | _ => .bad := rfl
@[simp] theorem gKw0_def (m : Nat) (g : ∀ {α : Type}, List α → List α → List α) (F : Fd) (r : Ga) : gKw0 m g F r env cs = (r env cs).bind fun zs cs => if zs.length = m then F (g [] zs) cs else .bad := rfl
@[simp] theorem argN_def (n : Nat) (F : Fd) (ds : List D) : argN n F ds cs = if ds.length = n then F ds cs else .bad := rfl
@[simp] theorem fI_def (P : Int → Int → Bool) (g : Int → Int → D) (i j : Int) : fI P g (.int i) (.int j) cs = if P i j then .ok (g i j) cs else .bad := rfl
@[simp] theorem addD_int (i j : Int) : addD (.int i) (.int j) cs = .ok (.int (i + j)) cs := rfl
@[simp] theorem subD_int (i j : Int) : subD (.int i) (.int j) cs = .ok (.int (i - j)) cs := rfl
@[simp] theorem ltD_int (i j : Int) : ltD (.int i) (.int j) cs = .ok (.bl (decide (i < j))) cs := rfl
@[simp] theorem leD_int (i j : Int) : leD (.int i) (.int j) cs = .ok (.bl (decide (i ≤ j))) cs := rfl
@[simp] theorem gtD_int (i j : Int) : gtD (.int i) (.int j) cs = .ok (.bl (decide (j < i))) cs := rfl
@[simp] theorem geD_int (i j : Int) : geD (.int i) (.int j) cs = .ok (.bl (decide (j ≤ i))) cs := rfl
@[simp] theorem intD_int (i : Int) : intD [.int i] cs = .ok (.int i) cs := rfl
@[simp] theorem intD_bl (b : Bool) : intD [.bl b] cs = .ok (.int (if b then 1 else 0)) cs := rfl
@[simp] theorem absD_int (i : Int) : absD [.int i] cs = .ok (.int (if i < 0 then -i else i)) cs := rfl
@[simp] theorem max2D_int (i j : Int) : max2D [.int i, .int j] cs = .ok (.int (if j > i then j else i)) cs := rfl
@[simp] theorem min2D_int (i j : Int) : min2D [.int i, .int j] cs = .ok (.int (if j < i then j else i)) cs := rfl
@[simp] theorem mulD_int (i j : Int) : mulD (.int i) (.int j) cs = if mulOk i j then .ok (.int (i * j)) cs else .bad := rfl
@[simp] theorem divD_int (i j : Int) : divD (.int i) (.int j) cs = if divOk i j then .ok (.int (i / j)) cs else .bad := rfl
@[simp] theorem modD_int (i j : Int) : modD (.int i) (.int j) cs = if modOk i j then .ok (.int (i % j)) cs else .bad := rfl
@[simp] theorem powD_int (i j : Int) : powD (.int i) (.int j) cs = if powOk i j then .ok (.int (i ^ j.toNat)) cs else .bad := rfl
theorem modOk_pos {i j : Int} (h : 0 < j) : modOk i j = true := decide_eq_true h
theorem log2_lt {x k : Nat} (hk : 0 < k) (h : x < 2 ^ k) : x.log2 < k := by
  by_cases z : x = 0
  · subst z; simpa using hk
  · exact (Nat.log2_lt z).mpr h
theorem divOk_pos {i j : Int} (h : 0 < j) (hb : j < 2 ^ 200) : divOk i j = true := by
  refine decide_eq_true ⟨h, Nat.lt_trans (log2_lt (k := 200) (by decide) ?_) (by decide)⟩
  omega
theorem mulOk_of {i j : Int} (h1 : i.natAbs < 2 ^ 250) (h2 : j.natAbs < 2 ^ 250) : mulOk i j = true := by
  have := log2_lt (k := 250) (by decide) h1
  have := log2_lt (k := 250) (by decide) h2
  exact decide_eq_true (by omega)
theorem powOk_of {i : Int} {j : Nat} (h1 : i.natAbs < 2 ^ 250) (h2 : j ≤ 64) : powOk i (j : Int) = true := by
  have := log2_lt (k := 250) (by decide) h1
  refine decide_eq_true ⟨by omega, ?_⟩
  have h3 : ((i.natAbs.log2 + 1 : Nat) : Int) * (j : Int) ≤ 1000 * 64 := by
    have : (i.natAbs.log2 + 1) * j ≤ 1000 * 64 := Nat.mul_le_mul (by omega) h2
    exact_mod_cast this
  exact Int.le_trans h3 (by decide)
end
end Dm
set_option linter.all false
set_option maxRecDepth 100000
set_option maxHeartbeats 1000000
/-! Dm: plain data: what repr and == give of it. -/
namespace Dm
open PySem PySem.Spec L2
mutual
def sane : D → Bool
  | .non | .bl _ => true
  | .int i => decide (i.natAbs.log2 < 1920)
  | .str x => PyData.strOk x
  | .tup xs => saneL xs
  | .lst xs => saneL xs
  | .fro xs => saneL xs
  | _ => false
def saneL : List D → Bool
  | [] => true
  | x :: xs => sane x && saneL xs
end
mutual
def rsane : D → Bool
  | .non | .bl _ => true
  | .dct [] => true
  | .int i => decide (i.natAbs.log2 < 1920)
  | .str x => PyData.strOk x
  | .tup xs => rsaneL xs
  | .lst xs => rsaneL xs
  | .fro xs => rsaneL xs
  | _ => false
def rsaneL : List D → Bool
  | [] => true
  | x :: xs => rsane x && rsaneL xs
end
mutual
theorem rsane_of : ∀ d : D, sane d = true → rsane d = true
  | .non, _ | .bl _, _ => rfl
  | .int i, h => by simpa only [rsane, sane] using h
  | .str x, h => by simpa only [rsane, sane] using h
  | .tup xs, h => by simp only [rsane]; exact rsaneL_of xs (by simpa [sane] using h)
  | .lst xs, h => by simp only [rsane]; exact rsaneL_of xs (by simpa [sane] using h)
  | .fro xs, h => by simp only [rsane]; exact rsaneL_of xs (by simpa [sane] using h)
  | .ty _, h => by simp [sane] at h
  | .dct _, h => by simp [sane] at h
  | .cell _, h => by simp [sane] at h
  | .ptr _ _, h => by simp [sane] at h
theorem rsaneL_of : ∀ ds : List D, saneL ds = true → rsaneL ds = true
  | [], _ => rfl
  | d :: ds, h => by
    simp only [saneL, Bool.and_eq_true] at h
    simp only [rsaneL, rsane_of d h.1, rsaneL_of ds h.2, Bool.and_self]
end
mutual
theorem rpl_of : ∀ d : D, rsane d = true → rpl d = true
  | .non, _ | .bl _, _ | .int _, _ | .str _, _ => rfl
  | .dct [], _ => rfl
  | .tup xs, h => by simp only [rpl]; exact rplL_of xs (by simpa [rsane] using h)
  | .lst xs, h => by simp only [rpl]; exact rplL_of xs (by simpa [rsane] using h)
  | .fro xs, h => by simp only [rpl]; exact rplL_of xs (by simpa [rsane] using h)
  | .ty _, h => by simp [rsane] at h
  | .dct (_ :: _), h => by simp [rsane] at h
  | .cell _, h => by simp [rsane] at h
  | .ptr _ _, h => by simp [rsane] at h
theorem rplL_of : ∀ ds : List D, rsaneL ds = true → rplL ds = true
  | [], _ => rfl
  | d :: ds, h => by
    simp only [rsaneL, Bool.and_eq_true] at h
    simp only [rplL, rpl_of d h.1, rplL_of ds h.2, Bool.and_self]
end
mutual
/-- a bound of the text that repr writes -/
def tw : D → Nat
  | .non => 4
  | .bl _ => 5
  | .int i => i.natAbs.log2 + 2
  | .str x => 10 * x.length + 2
  | .tup xs => twL xs + 4
  | .lst xs => twL xs + 4
  | .fro xs => twL xs + 4
  | .dct _ => 2
  | _ => 0
def twL : List D → Nat
  | [] => 0
  | x :: xs => tw x + 2 + twL xs
end
mutual
def dpt : D → Nat
  | .tup xs => dptL xs + 1
  | .lst xs => dptL xs + 1
  | .fro xs => dptL xs + 1
  | .dct _ => 1
  | _ => 0
def dptL : List D → Nat
  | [] => 0
  | x :: xs => max (dpt x) (dptL xs)
end
mutual
theorem plain_of : ∀ d : D, sane d = true → plain d = true
  | .non, _ | .bl _, _ | .int _, _ | .str _, _ => by simp [plain]
  | .tup xs, h => by simp only [plain]; exact plainL_of xs (by simpa [sane] using h)
  | .lst xs, h => by simp only [plain]; exact plainL_of xs (by simpa [sane] using h)
  | .fro xs, h => by simp only [plain]; exact plainL_of xs (by simpa [sane] using h)
  | .ty _, h => by simp [sane] at h
  | .dct _, h => by simp [sane] at h
  | .cell _, h => by simp [sane] at h
  | .ptr _ _, h => by simp [sane] at h
theorem plainL_of : ∀ ds : List D, saneL ds = true → plainL ds = true
  | [], _ => rfl
  | d :: ds, h => by
    simp only [saneL, Bool.and_eq_true] at h
    simp only [plainL, plain_of d h.1, plainL_of ds h.2, Bool.and_self]
end
mutual
theorem show_of : ∀ d : D, rsane d = true → (toPyR d).showable = true
  | .non, _ | .bl _, _ => by simp only [toPyR, PyData.showable]
  | .int i, h => by simpa only [toPyR, PyData.showable, rsane] using h
  | .str _, _ => by simp only [toPyR, PyData.showable]
  | .dct [], _ => rfl
  | .tup xs, h => by simp only [toPyR, PyData.showable]; exact showL_of xs (by simpa [rsane] using h)
  | .lst xs, h => by simp only [toPyR, PyData.showable]; exact showL_of xs (by simpa [rsane] using h)
  | .fro xs, h => by simp only [toPyR, PyData.showable]; exact showL_of xs (by simpa [rsane] using h)
  | .ty _, h => by simp [rsane] at h
  | .dct (_ :: _), h => by simp [rsane] at h
  | .cell _, h => by simp [rsane] at h
  | .ptr _ _, h => by simp [rsane] at h
theorem showL_of : ∀ ds : List D, rsaneL ds = true → PyData.showableAll (toPyRL ds) = true
  | [], _ => by simp only [toPyRL, PyData.showableAll]
  | d :: ds, h => by
    simp only [rsaneL, Bool.and_eq_true] at h
    simp only [toPyRL, PyData.showableAll, show_of d h.1, showL_of ds h.2, Bool.and_self]
end
mutual
theorem lay_of : ∀ d : D, sane d = true → (toPy d).canLay0 = true
  | .non, _ | .bl _, _ | .int _, _ => by simp only [toPy, PyData.canLay0]
  | .str x, h => by simpa only [toPy, PyData.canLay0, sane] using h
  | .tup xs, h => by simp only [toPy, PyData.canLay0]; exact layL_of xs (by simpa [sane] using h)
  | .lst xs, h => by simp only [toPy, PyData.canLay0]; exact layL_of xs (by simpa [sane] using h)
  | .fro xs, h => by simp only [toPy, PyData.canLay0]; exact layL_of xs (by simpa [sane] using h)
  | .ty _, h => by simp [sane] at h
  | .dct _, h => by simp [sane] at h
  | .cell _, h => by simp [sane] at h
  | .ptr _ _, h => by simp [sane] at h
theorem layL_of : ∀ ds : List D, saneL ds = true → PyData.canLayAll0 (toPyL ds) = true
  | [], _ => by simp only [toPyL, PyData.canLayAll0]
  | d :: ds, h => by
    simp only [saneL, Bool.and_eq_true] at h
    simp only [toPyL, PyData.canLayAll0, lay_of d h.1, layL_of ds h.2, Bool.and_self]
end
mutual
theorem depthR_of : ∀ d : D, (toPyR d).depth = dpt d
  | .non | .bl _ | .int _ | .str _ => by simp only [toPyR, PyData.depth, dpt]
  | .tup xs => by simp only [toPyR, PyData.depth, dpt, depthRL_of xs]
  | .lst xs => by simp only [toPyR, PyData.depth, dpt, depthRL_of xs]
  | .fro xs => by simp only [toPyR, PyData.depth, dpt, depthRL_of xs]
  | .dct _ => by simp [toPyR, PyData.depth, PyData.depthKv, dpt]
  | .ty _ | .cell _ | .ptr _ _ => by simp only [toPyR, PyData.depth, dpt]
theorem depthRL_of : ∀ ds : List D, PyData.depthAll (toPyRL ds) = dptL ds
  | [] => by simp only [toPyRL, PyData.depthAll, dptL]
  | d :: ds => by simp only [toPyRL, PyData.depthAll, dptL, depthR_of d, depthRL_of ds]
end
theorem depth_of {d : D} (h : plain d = true) : (toPy d).depth = dpt d := by rw [← toPyR_plain d h]; exact depthR_of d
theorem textFrom_le : ∀ (ts : List Str) (k : Nat) (acc : Str), (textFrom k acc ts).length ≤ acc.length + (ts.map fun t => t.length + 2).sum
  | [], k, acc => by simp [textFrom]
  | t :: ts, k, acc => by
    have ih := textFrom_le ts (k + 1) (acc ++ (if k > 0 then ", " else "" : String) ++ t)
    rw [strLen_append, strLen_append] at ih
    have hs : ((if k > 0 then ", " else "" : String) : Str).length ≤ 2 := by split <;> decide
    simp only [textFrom, List.map_cons, List.sum_cons]
    omega
theorem join_le (ts : List Str) : (Str.join ", " ts).length ≤ (ts.map fun t => t.length + 2).sum := by
  cases ts with
  | nil => exact Nat.zero_le _
  | cons t r =>
    have h := join_length_add (t :: r) (by simp)
    have e : ∀ l : List Str, piled l = (l.map fun t => t.length + 2).sum := fun l => by
      induction l with
      | nil => rfl
      | cons a l ih => simp only [piled, List.map_cons, List.sum_cons, ih]
    rw [e] at h
    omega
mutual
theorem shown_le : ∀ d : D, rsane d = true → (toPyR d).shown.length ≤ tw d
  | .non, _ => by simp only [toPyR, PyData.shown, tw]; decide
  | .bl b, _ => by simp only [toPyR, PyData.shown, tw]; cases b <;> decide
  | .int i, h => by
    simp only [toPyR, PyData.shown, tw]
    have h1 := int_text_length_le (a := i) (k := i.natAbs.log2 + 1) (by omega) (by omega)
    have h2 : (Str.ofString (toString i)).length = (toString i).length := ofString_length _
    rw [h2]; omega
  | .str x, h => by
    simp only [toPyR, PyData.shown, tw]
    refine StrLaws.reprText_len x fun c hc => ?_
    have hh : PyData.strOk x = true := by simpa [rsane] using h
    unfold PyData.strOk at hh
    have := Array.all_eq_true'.mp hh c (by simpa using hc)
    have := of_decide_eq_true this
    omega
  | .tup xs, h => by
    have ih := shownL_le xs (by simpa [rsane] using h)
    simp only [toPyR, PyData.shown, tw, tupleText]
    rw [strLen_append, strLen_append]
    have h1 := join_le (PyData.shownAll (toPyRL xs))
    have h2 : ((if (PyData.shownAll (toPyRL xs)).length == 1 then ",)" else ")" : String) : Str).length ≤ 2 := by split <;> decide
    have h3 : (("(" : String) : Str).length = 1 := by decide
    omega
  | .lst xs, h => by
    have ih := shownL_le xs (by simpa [rsane] using h)
    simp only [toPyR, PyData.shown, tw, listText]
    rw [strLen_append]
    have h1 := textFrom_le (PyData.shownAll (toPyRL xs)) 0 "["
    have h3 : (("[" : String) : Str).length = 1 := by decide
    have h4 : (("]" : String) : Str).length = 1 := by decide
    omega
  | .fro xs, h => by
    have ih := shownL_le xs (by simpa [rsane] using h)
    simp only [toPyR, PyData.shown, tw, listText]
    rw [strLen_append]
    have h1 := textFrom_le (PyData.shownAll (toPyRL xs)) 0 "["
    have h3 : (("[" : String) : Str).length = 1 := by decide
    have h4 : (("]" : String) : Str).length = 1 := by decide
    omega
  | .ty _, h => by simp [rsane] at h
  | .dct [], _ => by simp only [toPyR, tw]; decide
  | .dct (_ :: _), h => by simp [rsane] at h
  | .cell _, h => by simp [rsane] at h
  | .ptr _ _, h => by simp [rsane] at h
theorem shownL_le : ∀ ds : List D, rsaneL ds = true → ((PyData.shownAll (toPyRL ds)).map fun t => t.length + 2).sum ≤ twL ds
  | [], _ => by simp [toPyRL, PyData.shownAll]
  | d :: ds, h => by
    simp only [rsaneL, Bool.and_eq_true] at h
    simp only [toPyRL, PyData.shownAll, List.map_cons, List.sum_cons, twL]
    have := shown_le d h.1
    have := shownL_le ds h.2
    omega
end
/-- repr of data -/
theorem repr_rsane {d : D} {cs : List C} (h : rsane d = true) (hd : dpt d ≤ 64) (ht : tw d ≤ sizeLine) : reprD [d] cs = .ok (.str (toPyR d).shown) cs := by
  have e : pyOf cs d = some d := by unfold pyOf; rw [if_pos (rpl_of d h)]
  have s : shOk (toPyR d) = true := by
    unfold shOk
    rw [show_of d h, depthR_of, decide_eq_true hd, decide_eq_true (Nat.le_trans (shown_le d h) ht)]
    rfl
  simp only [reprD, e, s, if_true]
theorem repr_sane {d : D} {cs : List C} (h : sane d = true) (hd : dpt d ≤ 64) (ht : tw d ≤ sizeLine) : reprD [d] cs = .ok (.str (toPy d).shown) cs := by
  rw [← toPyR_plain d (plain_of d h)]
  exact repr_rsane (rsane_of d h) hd ht
theorem repr_dict {cs : List C} : reprD [.dct []] cs = .ok (.str (PyData.dict []).shown) cs := repr_rsane (d := .dct []) rfl (by decide) (by decide)
/-- == of plain data -/
theorem eq_sane {x y : D} {cs : List C} {neg : Bool} (hx : sane x = true) (hy : sane y = true) (dx : dpt x ≤ 64) (dy : dpt y ≤ 64) (hs : eqS x y = none) :
    eqD neg x y cs = .ok (.bl (if neg then !PyData.eqv (toPy x) (toPy y) else PyData.eqv (toPy x) (toPy y))) cs := by
  have f : ∀ d : D, sane d = true → flatten cs d = some d := fun d h => by unfold flatten; rw [if_pos (plain_of d h)]
  have p : ∀ d : D, sane d = true → dpt d ≤ 64 → shp d = true := fun d h hd => by
    unfold shp SeqAt.shaped
    rw [lay_of d h, depth_of (plain_of d h), decide_eq_true hd]
    rfl
  simp only [eqD, hs, f x hx, f y hy, p x hx dx, p y hy dy, Bool.and_self, if_true]
theorem eqv_self {x : D} (hx : sane x = true) : PyData.eqv (toPy x) (toPy x) = true := SeqAt.eqv_refl _ (lay_of x hx)
@[simp] theorem eqD_str (neg : Bool) (a b : Str) (cs : List C) : eqD neg (.str a) (.str b) cs = .ok (.bl (if neg then !decide (a = b) else decide (a = b))) cs := rfl
@[simp] theorem eqD_int (neg : Bool) (a b : Int) (cs : List C) : eqD neg (.int a) (.int b) cs = .ok (.bl (if neg then !decide (a = b) else decide (a = b))) cs := rfl
@[simp] theorem eqD_bl (neg : Bool) (a b : Bool) (cs : List C) : eqD neg (.bl a) (.bl b) cs = .ok (.bl (if neg then !decide (a = b) else decide (a = b))) cs := rfl
end Dm
set_option linter.all false
set_option maxRecDepth 100000
set_option maxHeartbeats 1000000
/-! Dm: a run that ends well, as wanted (Wn), and its rules, one for each piece of a text. -/
namespace Dm
open PySem PySem.Spec L2
section
variable {α β : Type} {env : List (Option D)} {cs : List C}
structure Wn {α : Type} (o : Out α) (Q : α → List C → Prop) : Prop where
  to : ∃ a cs, o = .ok a cs ∧ Q a cs
theorem wn_ok (a : α) (cs : List C) (Q : α → List C → Prop) : Wn (.ok a cs) Q = Q a cs := propext ⟨fun ⟨_, _, e, q⟩ => by cases e; exact q, fun q => ⟨a, cs, rfl, q⟩⟩
theorem wn_exc (x : Str) (fs : Option (List (Str × D))) (cs : List C) (Q : α → List C → Prop) : Wn (.exc x fs cs) Q = False := propext ⟨fun ⟨_, _, e, _⟩ => (by cases e), fun h => h.elim⟩
theorem wn_bad (Q : α → List C → Prop) : Wn .bad Q = False := propext ⟨fun ⟨_, _, e, _⟩ => (by cases e), fun h => h.elim⟩
theorem Wn.of {o : Out α} {Q : α → List C → Prop} {a : α} {cs : List C} (e : o = .ok a cs) (q : Q a cs) : Wn o Q := ⟨a, cs, e, q⟩
theorem Wn.mono {o : Out α} {Q Q2 : α → List C → Prop} (h : Wn o Q) (k : ∀ a cs, Q a cs → Q2 a cs) : Wn o Q2 := by
  obtain ⟨a, cs, e, q⟩ := h.to
  exact .of e (k a cs q)
def bk (f : α → List C → Out β) (Q : β → List C → Prop) : α → List C → Prop := fun a cs => Wn (f a cs) Q
theorem bk_def (f : α → List C → Out β) (Q : β → List C → Prop) (a : α) (cs : List C) : bk f Q a cs = Wn (f a cs) Q := rfl
theorem wn_bind (o : Out α) (f : α → List C → Out β) (Q : β → List C → Prop) : Wn (o.bind f) Q = Wn o (bk f Q) := by
  cases o <;> simp only [Out.bind, wn_ok, wn_exc, wn_bad, bk]
theorem wn_ite {c : Prop} [Decidable c] (a b : Out α) (Q : α → List C → Prop) : Wn (if c then a else b) Q = if c then Wn a Q else Wn b Q := by
  split <;> rfl
/-! statements -/
def sk (b : Gs) (Q : Sg → List C → Prop) : Sg → List C → Prop := fun r cs => match r with
  | ⟨.nx, e⟩ => Wn (b e cs) Q
  | r => Q r cs
theorem sk_nx (b : Gs) (Q : Sg → List C → Prop) (e : Env') (cs : List C) : sk b Q ⟨.nx, e⟩ cs = Wn (b e cs) Q := rfl
theorem sk_rt (b : Gs) (Q : Sg → List C → Prop) (d : D) (e : Env') (cs : List C) : sk b Q ⟨.rt d, e⟩ cs = Q ⟨.rt d, e⟩ cs := rfl
theorem sk_bk (b : Gs) (Q : Sg → List C → Prop) (e : Env') (cs : List C) : sk b Q ⟨.bk, e⟩ cs = Q ⟨.bk, e⟩ cs := rfl
theorem sk_ct (b : Gs) (Q : Sg → List C → Prop) (e : Env') (cs : List C) : sk b Q ⟨.ct, e⟩ cs = Q ⟨.ct, e⟩ cs := rfl
theorem wn_seq (a b : Gs) (Q : Sg → List C → Prop) : Wn (sSeq a b env cs) Q = Wn (a env cs) (sk b Q) := by
  unfold sSeq
  cases a env cs with
  | ok r cs => obtain ⟨f, e⟩ := r; cases f <;> simp only [wn_ok, sk]
  | exc _ _ _ => simp only [wn_exc]
  | bad => simp only [wn_bad]
def ik (a b : Gs) (env : Env') (Q : Sg → List C → Prop) : Bool → List C → Prop := fun x cs => if x = true then Wn (a env cs) Q else Wn (b env cs) Q
theorem ik_true (a b : Gs) (Q : Sg → List C → Prop) : ik a b env Q true cs = Wn (a env cs) Q := rfl
theorem ik_false (a b : Gs) (Q : Sg → List C → Prop) : ik a b env Q false cs = Wn (b env cs) Q := rfl
theorem ik_dec {p : Prop} [Decidable p] (a b : Gs) (Q : Sg → List C → Prop) : ik a b env Q (decide p) cs = if p then Wn (a env cs) Q else Wn (b env cs) Q := by
  unfold ik
  by_cases h : p <;> simp [h]
theorem ik_not {p : Prop} [Decidable p] (a b : Gs) (Q : Sg → List C → Prop) : ik a b env Q (!decide p) cs = if p then Wn (b env cs) Q else Wn (a env cs) Q := by
  unfold ik
  by_cases h : p <;> simp [h]
theorem ik_any {a b : Gs} {Q : Sg → List C → Prop} {x : Bool} (h1 : x = true → Wn (a env cs) Q) (h2 : x = false → Wn (b env cs) Q) : ik a b env Q x cs := by
  cases x with
  | true => exact h1 rfl
  | false => exact h2 rfl
theorem wn_if (t : Gt) (a b : Gs) (Q : Sg → List C → Prop) : Wn (sIf t a b env cs) Q = Wn (t env cs) (ik a b env Q) := by
  unfold sIf
  rw [wn_bind]
  congr 1
  funext x cs
  cases x <;> rfl
theorem wn_asg (g : Gx) (t : Gg) (Q : Sg → List C → Prop) : Wn (sAsg g t env cs) Q = Wn (g env cs) (bk (fun d cs => (t d env cs).bind fun env cs => .ok ⟨.nx, env⟩ cs) Q) := wn_bind _ _ _
def fk (t : Gg) (b : Gs) (env : Env') (Q : Sg → List C → Prop) : List D → List C → Prop := fun ds cs => Wn (forD t b ds env cs) Q
theorem fk_def (t : Gg) (b : Gs) (Q : Sg → List C → Prop) (ds : List D) : fk t b env Q ds cs = Wn (forD t b ds env cs) Q := rfl
theorem wn_for (i : Ga) (t : Gg) (b : Gs) (Q : Sg → List C → Prop) : Wn (sFor i t b env cs) Q = Wn (i env cs) (fk t b env Q) := by
  unfold sFor
  rw [wn_bind]
  rfl
def ck (n : Nat) (Q : Sg → List C → Prop) : Sg → List C → Prop := fun r cs => match r with
  | ⟨.nx, e⟩ => (cs.take n).all (lowC n) = true ∧ Q ⟨.nx, e.map (clearO n)⟩ (cs.take n)
  | ⟨.ct, e⟩ => (cs.take n).all (lowC n) = true ∧ Q ⟨.ct, e.map (clearO n)⟩ (cs.take n)
  | ⟨.rt d, e⟩ => ((cs.take n).all (lowC n) = true ∧ low n d = true) ∧ Q ⟨.rt d, e⟩ (cs.take n)
  | ⟨.bk, _⟩ => False
theorem ck_nx (n : Nat) (Q : Sg → List C → Prop) (e : Env') (cs : List C) : ck n Q ⟨.nx, e⟩ cs = ((cs.take n).all (lowC n) = true ∧ Q ⟨.nx, e.map (clearO n)⟩ (cs.take n)) := rfl
theorem ck_ct (n : Nat) (Q : Sg → List C → Prop) (e : Env') (cs : List C) : ck n Q ⟨.ct, e⟩ cs = ((cs.take n).all (lowC n) = true ∧ Q ⟨.ct, e.map (clearO n)⟩ (cs.take n)) := rfl
theorem ck_rt (n : Nat) (Q : Sg → List C → Prop) (d : D) (e : Env') (cs : List C) : ck n Q ⟨.rt d, e⟩ cs = (((cs.take n).all (lowC n) = true ∧ low n d = true) ∧ Q ⟨.rt d, e⟩ (cs.take n)) := rfl
theorem wn_scope (g : Gs) (Q : Sg → List C → Prop) : Wn (sScope g env cs) Q = Wn (g env cs) (ck cs.length Q) := by
  unfold sScope
  cases g env cs with
  | exc _ _ _ => simp only [wn_exc, wn_bad]
  | bad => simp only [wn_bad]
  | ok r c =>
    obtain ⟨f, e⟩ := r
    cases f with
    | nx => simp only [wn_ite, wn_ok, ck_nx]; by_cases h : (c.take cs.length).all (lowC cs.length) = true <;> simp [h, wn_ok, wn_bad]
    | ct => simp only [wn_ite, wn_ok, ck_ct]; by_cases h : (c.take cs.length).all (lowC cs.length) = true <;> simp [h, wn_ok, wn_bad]
    | bk => simp only [wn_ok, wn_bad, ck]
    | rt d => simp only [wn_ite, wn_ok, ck_rt, Bool.and_eq_true]; by_cases h : (c.take cs.length).all (lowC cs.length) = true ∧ low cs.length d = true <;> simp [h, wn_ok, wn_bad]
/-! what a loop's turn ends with -/
def lk (J : Env' → List C → Prop) (Q : Sg → List C → Prop) : Sg → List C → Prop := fun r cs => match r with
  | ⟨.nx, e⟩ => J e cs
  | ⟨.ct, e⟩ => J e cs
  | ⟨.bk, e⟩ => Q ⟨.nx, e⟩ cs
  | ⟨.rt v, e⟩ => Q ⟨.rt v, e⟩ cs
theorem lk_nx (J : Env' → List C → Prop) (Q : Sg → List C → Prop) (e : Env') (cs : List C) : lk J Q ⟨.nx, e⟩ cs = J e cs := rfl
theorem lk_ct (J : Env' → List C → Prop) (Q : Sg → List C → Prop) (e : Env') (cs : List C) : lk J Q ⟨.ct, e⟩ cs = J e cs := rfl
theorem lk_bk (J : Env' → List C → Prop) (Q : Sg → List C → Prop) (e : Env') (cs : List C) : lk J Q ⟨.bk, e⟩ cs = Q ⟨.nx, e⟩ cs := rfl
theorem lk_rt (J : Env' → List C → Prop) (Q : Sg → List C → Prop) (v : D) (e : Env') (cs : List C) : lk J Q ⟨.rt v, e⟩ cs = Q ⟨.rt v, e⟩ cs := rfl
def tk (b : Gs) (Q : Sg → List C → Prop) : Env' → List C → Prop := fun e cs => Wn (b e cs) Q
theorem tk_def (b : Gs) (Q : Sg → List C → Prop) (e : Env') (cs : List C) : tk b Q e cs = Wn (b e cs) Q := rfl
theorem for_nil (t : Gg) (b : Gs) (Q : Sg → List C → Prop) : Wn (forD t b [] env cs) Q = Q ⟨.nx, env⟩ cs := wn_ok _ _ _
theorem for_cons (t : Gg) (b : Gs) (d : D) (ds : List D) (Q : Sg → List C → Prop) : Wn (forD t b (d :: ds) env cs) Q = Wn (t d env cs) (tk b (lk (fun e c => Wn (forD t b ds e c) Q) Q)) := by
  rw [forD, wn_bind]
  congr 1
  funext e c
  simp only [bk, tk]
  cases b e c with
  | ok r c => obtain ⟨f, e⟩ := r; cases f <;> simp only [wn_ok, lk]
  | exc _ _ _ => simp only [wn_exc]
  | bad => simp only [wn_bad]
/-- a loop, by what holds of the items that are left -/
theorem for_W (k : α → D) {t : Gg} {b : Gs} {Q : Sg → List C → Prop} (I : List α → Env' → List C → Prop) : ∀ (l : List α) (env : Env') (cs : List C), I l env cs →
    (∀ x l env cs, I (x :: l) env cs → Wn (t (k x) env cs) (tk b (lk (I l) Q))) → (∀ env cs, I [] env cs → Q ⟨.nx, env⟩ cs) → Wn (forD t b (l.map k) env cs) Q
  | [], env, cs, h, _, q => by first | exact (for_nil _ _ _).mpr (q env cs h) | (rw [List.map_nil, for_nil]; exact q env cs h)
  | x :: l, env, cs, h, s, q => by
    rw [List.map_cons, for_cons]
    refine (s x l env cs h).mono fun e c w => ?_
    refine Wn.mono w fun r c z => ?_
    obtain ⟨f, e⟩ := r
    cases f with
    | nx => exact for_W k I l e c z s q
    | ct => exact for_W k I l e c z s q
    | bk => exact z
    | rt v => exact z
/-- .. with the items known -/
theorem for_M (k : α → D) {t : Gg} {b : Gs} {Q : Sg → List C → Prop} (I : List α → Env' → List C → Prop) : ∀ (l : List α) (env : Env') (cs : List C), I l env cs →
    (∀ x l' env cs, x ∈ l → I (x :: l') env cs → Wn (t (k x) env cs) (tk b (lk (I l') Q))) → (∀ env cs, I [] env cs → Q ⟨.nx, env⟩ cs) → Wn (forD t b (l.map k) env cs) Q
  | [], env, cs, h, _, q => by first | exact (for_nil _ _ _).mpr (q env cs h) | (rw [List.map_nil, for_nil]; exact q env cs h)
  | x :: l, env, cs, h, s, q => by
    rw [List.map_cons, for_cons]
    refine (s x l env cs List.mem_cons_self h).mono fun e c w => ?_
    refine Wn.mono w fun r c z => ?_
    have s2 := fun y l' env cs (m : y ∈ l) => s y l' env cs (List.mem_cons_of_mem _ m)
    obtain ⟨f, e⟩ := r
    cases f with
    | nx => exact for_M k I l e c z s2 q
    | ct => exact for_M k I l e c z s2 q
    | bk => exact z
    | rt v => exact z
/-- .. by the number of the turns that are left alone -/
theorem for_N {t : Gg} {b : Gs} {Q : Sg → List C → Prop} (I : Nat → Env' → List C → Prop) : ∀ (ds : List D) (env : Env') (cs : List C), I ds.length env cs →
    (∀ d n env cs, d ∈ ds → I (n + 1) env cs → Wn (t d env cs) (tk b (lk (I n) Q))) → (∀ env cs, I 0 env cs → Q ⟨.nx, env⟩ cs) → Wn (forD t b ds env cs) Q
  | [], env, cs, h, _, q => by first | exact (for_nil _ _ _).mpr (q env cs h) | (rw [List.map_nil, for_nil]; exact q env cs h)
  | x :: l, env, cs, h, s, q => by
    rw [for_cons]
    refine (s x l.length env cs List.mem_cons_self h).mono fun e c w => ?_
    refine Wn.mono w fun r c z => ?_
    have s2 := fun y n env cs (m : y ∈ l) => s y n env cs (List.mem_cons_of_mem _ m)
    obtain ⟨f, e⟩ := r
    cases f with
    | nx => exact for_N I l e c z s2 q
    | ct => exact for_N I l e c z s2 q
    | bk => exact z
    | rt v => exact z
theorem enum_map (f : α → D) : ∀ (l : List α) (n : Nat), enumD n (l.map f) = (l.zipIdx n).map fun p => D.tup [.int (p.2 : Nat), f p.1]
  | [], n => rfl
  | x :: l, n => by
    rw [List.map_cons, enumD, enum_map f l (n + 1), List.zipIdx_cons, List.map_cons]
/-! defs -/
def rk (Q : D → List C → Prop) : Sg → List C → Prop := fun r cs => match r with
  | ⟨.nx, _⟩ => Q .non cs
  | ⟨.rt d, _⟩ => Q d cs
  | _ => False
theorem rk_nx (Q : D → List C → Prop) (e : Env') (cs : List C) : rk Q ⟨.nx, e⟩ cs = Q .non cs := rfl
theorem rk_rt (Q : D → List C → Prop) (d : D) (e : Env') (cs : List C) : rk Q ⟨.rt d, e⟩ cs = Q d cs := rfl
theorem wn_run {n : Nat} {g : Gs} {ds : List D} {Q : D → List C → Prop} (env : Env') (he : ds.map some ++ List.replicate (n - ds.length) none = env) (h : Wn (g env cs) (rk Q)) : Wn (runB n g ds cs) Q := by
  subst he
  unfold runB
  cases hg : g (ds.map some ++ List.replicate (n - ds.length) none) cs with
  | ok r c =>
    rw [hg] at h
    obtain ⟨f, e⟩ := r
    cases f with
    | nx => simpa only [wn_ok, rk] using h
    | rt d => simpa only [wn_ok, rk] using h
    | bk => simp only [wn_ok, rk] at h
    | ct => simp only [wn_ok, rk] at h
  | exc _ _ _ => rw [hg, wn_exc] at h; exact h.elim
  | bad => rw [hg, wn_bad] at h; exact h.elim
/-- a run that ends with one value -/
def Is {α : Type} (a : α) (cs : List C) : α → List C → Prop := fun b cs' => b = a ∧ cs' = cs
theorem is_def {α : Type} (a b : α) (cs cs' : List C) : Is a cs b cs' = (b = a ∧ cs' = cs) := rfl
theorem Wn.eq {o : Out α} {a : α} {cs : List C} (h : Wn o (Is a cs)) : o = .ok a cs := by
  obtain ⟨b, c, e, rfl, rfl⟩ := h.to
  exact e
theorem run_eq {n : Nat} {g : Gs} {ds : List D} {d : D} {cs cs' : List C} (env : Env') (he : ds.map some ++ List.replicate (n - ds.length) none = env) (h : Wn (g env cs) (rk (Is d cs'))) : runB n g ds cs = .ok d cs' := (wn_run env he h).eq

theorem gv0 (d : D) (e : Env') : gVar 0 (some d :: e) cs = .ok d cs := rfl
theorem cw0 {y : Option D} (d : D) (e : Env') : (wipeD (y :: e) [0]).set 0 (some d) = some d :: e := rfl
theorem tn0 {y : Option D} (d : D) (e : Env') : tgName 0 d (y :: e) cs = .ok (some d :: e) cs := rfl
theorem gv1 {x0 : Option D} (d : D) (e : Env') : gVar 1 (x0 :: some d :: e) cs = .ok d cs := rfl
theorem cw1 {x0 : Option D} {y : Option D} (d : D) (e : Env') : (wipeD (x0 :: y :: e) [1]).set 1 (some d) = x0 :: some d :: e := rfl
theorem tn1 {x0 : Option D} {y : Option D} (d : D) (e : Env') : tgName 1 d (x0 :: y :: e) cs = .ok (x0 :: some d :: e) cs := rfl
theorem gv2 {x0 x1 : Option D} (d : D) (e : Env') : gVar 2 (x0 :: x1 :: some d :: e) cs = .ok d cs := rfl
theorem cw2 {x0 x1 : Option D} {y : Option D} (d : D) (e : Env') : (wipeD (x0 :: x1 :: y :: e) [2]).set 2 (some d) = x0 :: x1 :: some d :: e := rfl
theorem tn2 {x0 x1 : Option D} {y : Option D} (d : D) (e : Env') : tgName 2 d (x0 :: x1 :: y :: e) cs = .ok (x0 :: x1 :: some d :: e) cs := rfl
theorem gv3 {x0 x1 x2 : Option D} (d : D) (e : Env') : gVar 3 (x0 :: x1 :: x2 :: some d :: e) cs = .ok d cs := rfl
theorem cw3 {x0 x1 x2 : Option D} {y : Option D} (d : D) (e : Env') : (wipeD (x0 :: x1 :: x2 :: y :: e) [3]).set 3 (some d) = x0 :: x1 :: x2 :: some d :: e := rfl
theorem tn3 {x0 x1 x2 : Option D} {y : Option D} (d : D) (e : Env') : tgName 3 d (x0 :: x1 :: x2 :: y :: e) cs = .ok (x0 :: x1 :: x2 :: some d :: e) cs := rfl
theorem gv4 {x0 x1 x2 x3 : Option D} (d : D) (e : Env') : gVar 4 (x0 :: x1 :: x2 :: x3 :: some d :: e) cs = .ok d cs := rfl
theorem cw4 {x0 x1 x2 x3 : Option D} {y : Option D} (d : D) (e : Env') : (wipeD (x0 :: x1 :: x2 :: x3 :: y :: e) [4]).set 4 (some d) = x0 :: x1 :: x2 :: x3 :: some d :: e := rfl
theorem tn4 {x0 x1 x2 x3 : Option D} {y : Option D} (d : D) (e : Env') : tgName 4 d (x0 :: x1 :: x2 :: x3 :: y :: e) cs = .ok (x0 :: x1 :: x2 :: x3 :: some d :: e) cs := rfl
theorem gv5 {x0 x1 x2 x3 x4 : Option D} (d : D) (e : Env') : gVar 5 (x0 :: x1 :: x2 :: x3 :: x4 :: some d :: e) cs = .ok d cs := rfl
theorem cw5 {x0 x1 x2 x3 x4 : Option D} {y : Option D} (d : D) (e : Env') : (wipeD (x0 :: x1 :: x2 :: x3 :: x4 :: y :: e) [5]).set 5 (some d) = x0 :: x1 :: x2 :: x3 :: x4 :: some d :: e := rfl
theorem tn5 {x0 x1 x2 x3 x4 : Option D} {y : Option D} (d : D) (e : Env') : tgName 5 d (x0 :: x1 :: x2 :: x3 :: x4 :: y :: e) cs = .ok (x0 :: x1 :: x2 :: x3 :: x4 :: some d :: e) cs := rfl
theorem gv6 {x0 x1 x2 x3 x4 x5 : Option D} (d : D) (e : Env') : gVar 6 (x0 :: x1 :: x2 :: x3 :: x4 :: x5 :: some d :: e) cs = .ok d cs := rfl
theorem cw6 {x0 x1 x2 x3 x4 x5 : Option D} {y : Option D} (d : D) (e : Env') : (wipeD (x0 :: x1 :: x2 :: x3 :: x4 :: x5 :: y :: e) [6]).set 6 (some d) = x0 :: x1 :: x2 :: x3 :: x4 :: x5 :: some d :: e := rfl
theorem tn6 {x0 x1 x2 x3 x4 x5 : Option D} {y : Option D} (d : D) (e : Env') : tgName 6 d (x0 :: x1 :: x2 :: x3 :: x4 :: x5 :: y :: e) cs = .ok (x0 :: x1 :: x2 :: x3 :: x4 :: x5 :: some d :: e) cs := rfl
theorem gv7 {x0 x1 x2 x3 x4 x5 x6 : Option D} (d : D) (e : Env') : gVar 7 (x0 :: x1 :: x2 :: x3 :: x4 :: x5 :: x6 :: some d :: e) cs = .ok d cs := rfl
theorem cw7 {x0 x1 x2 x3 x4 x5 x6 : Option D} {y : Option D} (d : D) (e : Env') : (wipeD (x0 :: x1 :: x2 :: x3 :: x4 :: x5 :: x6 :: y :: e) [7]).set 7 (some d) = x0 :: x1 :: x2 :: x3 :: x4 :: x5 :: x6 :: some d :: e := rfl
theorem tn7 {x0 x1 x2 x3 x4 x5 x6 : Option D} {y : Option D} (d : D) (e : Env') : tgName 7 d (x0 :: x1 :: x2 :: x3 :: x4 :: x5 :: x6 :: y :: e) cs = .ok (x0 :: x1 :: x2 :: x3 :: x4 :: x5 :: x6 :: some d :: e) cs := rfl
theorem gv8 {x0 x1 x2 x3 x4 x5 x6 x7 : Option D} (d : D) (e : Env') : gVar 8 (x0 :: x1 :: x2 :: x3 :: x4 :: x5 :: x6 :: x7 :: some d :: e) cs = .ok d cs := rfl
theorem cw8 {x0 x1 x2 x3 x4 x5 x6 x7 : Option D} {y : Option D} (d : D) (e : Env') : (wipeD (x0 :: x1 :: x2 :: x3 :: x4 :: x5 :: x6 :: x7 :: y :: e) [8]).set 8 (some d) = x0 :: x1 :: x2 :: x3 :: x4 :: x5 :: x6 :: x7 :: some d :: e := rfl
theorem tn8 {x0 x1 x2 x3 x4 x5 x6 x7 : Option D} {y : Option D} (d : D) (e : Env') : tgName 8 d (x0 :: x1 :: x2 :: x3 :: x4 :: x5 :: x6 :: x7 :: y :: e) cs = .ok (x0 :: x1 :: x2 :: x3 :: x4 :: x5 :: x6 :: x7 :: some d :: e) cs := rfl
theorem gv9 {x0 x1 x2 x3 x4 x5 x6 x7 x8 : Option D} (d : D) (e : Env') : gVar 9 (x0 :: x1 :: x2 :: x3 :: x4 :: x5 :: x6 :: x7 :: x8 :: some d :: e) cs = .ok d cs := rfl
theorem cw9 {x0 x1 x2 x3 x4 x5 x6 x7 x8 : Option D} {y : Option D} (d : D) (e : Env') : (wipeD (x0 :: x1 :: x2 :: x3 :: x4 :: x5 :: x6 :: x7 :: x8 :: y :: e) [9]).set 9 (some d) = x0 :: x1 :: x2 :: x3 :: x4 :: x5 :: x6 :: x7 :: x8 :: some d :: e := rfl
theorem tn9 {x0 x1 x2 x3 x4 x5 x6 x7 x8 : Option D} {y : Option D} (d : D) (e : Env') : tgName 9 d (x0 :: x1 :: x2 :: x3 :: x4 :: x5 :: x6 :: x7 :: x8 :: y :: e) cs = .ok (x0 :: x1 :: x2 :: x3 :: x4 :: x5 :: x6 :: x7 :: x8 :: some d :: e) cs := rfl
theorem gv10 {x0 x1 x2 x3 x4 x5 x6 x7 x8 x9 : Option D} (d : D) (e : Env') : gVar 10 (x0 :: x1 :: x2 :: x3 :: x4 :: x5 :: x6 :: x7 :: x8 :: x9 :: some d :: e) cs = .ok d cs := rfl
theorem cw10 {x0 x1 x2 x3 x4 x5 x6 x7 x8 x9 : Option D} {y : Option D} (d : D) (e : Env') : (wipeD (x0 :: x1 :: x2 :: x3 :: x4 :: x5 :: x6 :: x7 :: x8 :: x9 :: y :: e) [10]).set 10 (some d) = x0 :: x1 :: x2 :: x3 :: x4 :: x5 :: x6 :: x7 :: x8 :: x9 :: some d :: e := rfl
theorem tn10 {x0 x1 x2 x3 x4 x5 x6 x7 x8 x9 : Option D} {y : Option D} (d : D) (e : Env') : tgName 10 d (x0 :: x1 :: x2 :: x3 :: x4 :: x5 :: x6 :: x7 :: x8 :: x9 :: y :: e) cs = .ok (x0 :: x1 :: x2 :: x3 :: x4 :: x5 :: x6 :: x7 :: x8 :: x9 :: some d :: e) cs := rfl
theorem gv11 {x0 x1 x2 x3 x4 x5 x6 x7 x8 x9 x10 : Option D} (d : D) (e : Env') : gVar 11 (x0 :: x1 :: x2 :: x3 :: x4 :: x5 :: x6 :: x7 :: x8 :: x9 :: x10 :: some d :: e) cs = .ok d cs := rfl
theorem cw11 {x0 x1 x2 x3 x4 x5 x6 x7 x8 x9 x10 : Option D} {y : Option D} (d : D) (e : Env') : (wipeD (x0 :: x1 :: x2 :: x3 :: x4 :: x5 :: x6 :: x7 :: x8 :: x9 :: x10 :: y :: e) [11]).set 11 (some d) = x0 :: x1 :: x2 :: x3 :: x4 :: x5 :: x6 :: x7 :: x8 :: x9 :: x10 :: some d :: e := rfl
theorem tn11 {x0 x1 x2 x3 x4 x5 x6 x7 x8 x9 x10 : Option D} {y : Option D} (d : D) (e : Env') : tgName 11 d (x0 :: x1 :: x2 :: x3 :: x4 :: x5 :: x6 :: x7 :: x8 :: x9 :: x10 :: y :: e) cs = .ok (x0 :: x1 :: x2 :: x3 :: x4 :: x5 :: x6 :: x7 :: x8 :: x9 :: x10 :: some d :: e) cs := rfl
theorem gv12 {x0 x1 x2 x3 x4 x5 x6 x7 x8 x9 x10 x11 : Option D} (d : D) (e : Env') : gVar 12 (x0 :: x1 :: x2 :: x3 :: x4 :: x5 :: x6 :: x7 :: x8 :: x9 :: x10 :: x11 :: some d :: e) cs = .ok d cs := rfl
theorem cw12 {x0 x1 x2 x3 x4 x5 x6 x7 x8 x9 x10 x11 : Option D} {y : Option D} (d : D) (e : Env') : (wipeD (x0 :: x1 :: x2 :: x3 :: x4 :: x5 :: x6 :: x7 :: x8 :: x9 :: x10 :: x11 :: y :: e) [12]).set 12 (some d) = x0 :: x1 :: x2 :: x3 :: x4 :: x5 :: x6 :: x7 :: x8 :: x9 :: x10 :: x11 :: some d :: e := rfl
theorem tn12 {x0 x1 x2 x3 x4 x5 x6 x7 x8 x9 x10 x11 : Option D} {y : Option D} (d : D) (e : Env') : tgName 12 d (x0 :: x1 :: x2 :: x3 :: x4 :: x5 :: x6 :: x7 :: x8 :: x9 :: x10 :: x11 :: y :: e) cs = .ok (x0 :: x1 :: x2 :: x3 :: x4 :: x5 :: x6 :: x7 :: x8 :: x9 :: x10 :: x11 :: some d :: e) cs := rfl
theorem gv13 {x0 x1 x2 x3 x4 x5 x6 x7 x8 x9 x10 x11 x12 : Option D} (d : D) (e : Env') : gVar 13 (x0 :: x1 :: x2 :: x3 :: x4 :: x5 :: x6 :: x7 :: x8 :: x9 :: x10 :: x11 :: x12 :: some d :: e) cs = .ok d cs := rfl
theorem cw13 {x0 x1 x2 x3 x4 x5 x6 x7 x8 x9 x10 x11 x12 : Option D} {y : Option D} (d : D) (e : Env') : (wipeD (x0 :: x1 :: x2 :: x3 :: x4 :: x5 :: x6 :: x7 :: x8 :: x9 :: x10 :: x11 :: x12 :: y :: e) [13]).set 13 (some d) = x0 :: x1 :: x2 :: x3 :: x4 :: x5 :: x6 :: x7 :: x8 :: x9 :: x10 :: x11 :: x12 :: some d :: e := rfl
theorem tn13 {x0 x1 x2 x3 x4 x5 x6 x7 x8 x9 x10 x11 x12 : Option D} {y : Option D} (d : D) (e : Env') : tgName 13 d (x0 :: x1 :: x2 :: x3 :: x4 :: x5 :: x6 :: x7 :: x8 :: x9 :: x10 :: x11 :: x12 :: y :: e) cs = .ok (x0 :: x1 :: x2 :: x3 :: x4 :: x5 :: x6 :: x7 :: x8 :: x9 :: x10 :: x11 :: x12 :: some d :: e) cs := rfl
theorem gv14 {x0 x1 x2 x3 x4 x5 x6 x7 x8 x9 x10 x11 x12 x13 : Option D} (d : D) (e : Env') : gVar 14 (x0 :: x1 :: x2 :: x3 :: x4 :: x5 :: x6 :: x7 :: x8 :: x9 :: x10 :: x11 :: x12 :: x13 :: some d :: e) cs = .ok d cs := rfl
theorem cw14 {x0 x1 x2 x3 x4 x5 x6 x7 x8 x9 x10 x11 x12 x13 : Option D} {y : Option D} (d : D) (e : Env') : (wipeD (x0 :: x1 :: x2 :: x3 :: x4 :: x5 :: x6 :: x7 :: x8 :: x9 :: x10 :: x11 :: x12 :: x13 :: y :: e) [14]).set 14 (some d) = x0 :: x1 :: x2 :: x3 :: x4 :: x5 :: x6 :: x7 :: x8 :: x9 :: x10 :: x11 :: x12 :: x13 :: some d :: e := rfl
theorem tn14 {x0 x1 x2 x3 x4 x5 x6 x7 x8 x9 x10 x11 x12 x13 : Option D} {y : Option D} (d : D) (e : Env') : tgName 14 d (x0 :: x1 :: x2 :: x3 :: x4 :: x5 :: x6 :: x7 :: x8 :: x9 :: x10 :: x11 :: x12 :: x13 :: y :: e) cs = .ok (x0 :: x1 :: x2 :: x3 :: x4 :: x5 :: x6 :: x7 :: x8 :: x9 :: x10 :: x11 :: x12 :: x13 :: some d :: e) cs := rfl
theorem gv15 {x0 x1 x2 x3 x4 x5 x6 x7 x8 x9 x10 x11 x12 x13 x14 : Option D} (d : D) (e : Env') : gVar 15 (x0 :: x1 :: x2 :: x3 :: x4 :: x5 :: x6 :: x7 :: x8 :: x9 :: x10 :: x11 :: x12 :: x13 :: x14 :: some d :: e) cs = .ok d cs := rfl
theorem cw15 {x0 x1 x2 x3 x4 x5 x6 x7 x8 x9 x10 x11 x12 x13 x14 : Option D} {y : Option D} (d : D) (e : Env') : (wipeD (x0 :: x1 :: x2 :: x3 :: x4 :: x5 :: x6 :: x7 :: x8 :: x9 :: x10 :: x11 :: x12 :: x13 :: x14 :: y :: e) [15]).set 15 (some d) = x0 :: x1 :: x2 :: x3 :: x4 :: x5 :: x6 :: x7 :: x8 :: x9 :: x10 :: x11 :: x12 :: x13 :: x14 :: some d :: e := rfl
theorem tn15 {x0 x1 x2 x3 x4 x5 x6 x7 x8 x9 x10 x11 x12 x13 x14 : Option D} {y : Option D} (d : D) (e : Env') : tgName 15 d (x0 :: x1 :: x2 :: x3 :: x4 :: x5 :: x6 :: x7 :: x8 :: x9 :: x10 :: x11 :: x12 :: x13 :: x14 :: y :: e) cs = .ok (x0 :: x1 :: x2 :: x3 :: x4 :: x5 :: x6 :: x7 :: x8 :: x9 :: x10 :: x11 :: x12 :: x13 :: x14 :: some d :: e) cs := rfl
theorem gv16 {x0 x1 x2 x3 x4 x5 x6 x7 x8 x9 x10 x11 x12 x13 x14 x15 : Option D} (d : D) (e : Env') : gVar 16 (x0 :: x1 :: x2 :: x3 :: x4 :: x5 :: x6 :: x7 :: x8 :: x9 :: x10 :: x11 :: x12 :: x13 :: x14 :: x15 :: some d :: e) cs = .ok d cs := rfl
theorem cw16 {x0 x1 x2 x3 x4 x5 x6 x7 x8 x9 x10 x11 x12 x13 x14 x15 : Option D} {y : Option D} (d : D) (e : Env') : (wipeD (x0 :: x1 :: x2 :: x3 :: x4 :: x5 :: x6 :: x7 :: x8 :: x9 :: x10 :: x11 :: x12 :: x13 :: x14 :: x15 :: y :: e) [16]).set 16 (some d) = x0 :: x1 :: x2 :: x3 :: x4 :: x5 :: x6 :: x7 :: x8 :: x9 :: x10 :: x11 :: x12 :: x13 :: x14 :: x15 :: some d :: e := rfl
theorem tn16 {x0 x1 x2 x3 x4 x5 x6 x7 x8 x9 x10 x11 x12 x13 x14 x15 : Option D} {y : Option D} (d : D) (e : Env') : tgName 16 d (x0 :: x1 :: x2 :: x3 :: x4 :: x5 :: x6 :: x7 :: x8 :: x9 :: x10 :: x11 :: x12 :: x13 :: x14 :: x15 :: y :: e) cs = .ok (x0 :: x1 :: x2 :: x3 :: x4 :: x5 :: x6 :: x7 :: x8 :: x9 :: x10 :: x11 :: x12 :: x13 :: x14 :: x15 :: some d :: e) cs := rfl
theorem gv17 {x0 x1 x2 x3 x4 x5 x6 x7 x8 x9 x10 x11 x12 x13 x14 x15 x16 : Option D} (d : D) (e : Env') : gVar 17 (x0 :: x1 :: x2 :: x3 :: x4 :: x5 :: x6 :: x7 :: x8 :: x9 :: x10 :: x11 :: x12 :: x13 :: x14 :: x15 :: x16 :: some d :: e) cs = .ok d cs := rfl
theorem cw17 {x0 x1 x2 x3 x4 x5 x6 x7 x8 x9 x10 x11 x12 x13 x14 x15 x16 : Option D} {y : Option D} (d : D) (e : Env') : (wipeD (x0 :: x1 :: x2 :: x3 :: x4 :: x5 :: x6 :: x7 :: x8 :: x9 :: x10 :: x11 :: x12 :: x13 :: x14 :: x15 :: x16 :: y :: e) [17]).set 17 (some d) = x0 :: x1 :: x2 :: x3 :: x4 :: x5 :: x6 :: x7 :: x8 :: x9 :: x10 :: x11 :: x12 :: x13 :: x14 :: x15 :: x16 :: some d :: e := rfl
theorem tn17 {x0 x1 x2 x3 x4 x5 x6 x7 x8 x9 x10 x11 x12 x13 x14 x15 x16 : Option D} {y : Option D} (d : D) (e : Env') : tgName 17 d (x0 :: x1 :: x2 :: x3 :: x4 :: x5 :: x6 :: x7 :: x8 :: x9 :: x10 :: x11 :: x12 :: x13 :: x14 :: x15 :: x16 :: y :: e) cs = .ok (x0 :: x1 :: x2 :: x3 :: x4 :: x5 :: x6 :: x7 :: x8 :: x9 :: x10 :: x11 :: x12 :: x13 :: x14 :: x15 :: x16 :: some d :: e) cs := rfl
theorem gv18 {x0 x1 x2 x3 x4 x5 x6 x7 x8 x9 x10 x11 x12 x13 x14 x15 x16 x17 : Option D} (d : D) (e : Env') : gVar 18 (x0 :: x1 :: x2 :: x3 :: x4 :: x5 :: x6 :: x7 :: x8 :: x9 :: x10 :: x11 :: x12 :: x13 :: x14 :: x15 :: x16 :: x17 :: some d :: e) cs = .ok d cs := rfl
theorem cw18 {x0 x1 x2 x3 x4 x5 x6 x7 x8 x9 x10 x11 x12 x13 x14 x15 x16 x17 : Option D} {y : Option D} (d : D) (e : Env') : (wipeD (x0 :: x1 :: x2 :: x3 :: x4 :: x5 :: x6 :: x7 :: x8 :: x9 :: x10 :: x11 :: x12 :: x13 :: x14 :: x15 :: x16 :: x17 :: y :: e) [18]).set 18 (some d) = x0 :: x1 :: x2 :: x3 :: x4 :: x5 :: x6 :: x7 :: x8 :: x9 :: x10 :: x11 :: x12 :: x13 :: x14 :: x15 :: x16 :: x17 :: some d :: e := rfl
theorem tn18 {x0 x1 x2 x3 x4 x5 x6 x7 x8 x9 x10 x11 x12 x13 x14 x15 x16 x17 : Option D} {y : Option D} (d : D) (e : Env') : tgName 18 d (x0 :: x1 :: x2 :: x3 :: x4 :: x5 :: x6 :: x7 :: x8 :: x9 :: x10 :: x11 :: x12 :: x13 :: x14 :: x15 :: x16 :: x17 :: y :: e) cs = .ok (x0 :: x1 :: x2 :: x3 :: x4 :: x5 :: x6 :: x7 :: x8 :: x9 :: x10 :: x11 :: x12 :: x13 :: x14 :: x15 :: x16 :: x17 :: some d :: e) cs := rfl
theorem gv19 {x0 x1 x2 x3 x4 x5 x6 x7 x8 x9 x10 x11 x12 x13 x14 x15 x16 x17 x18 : Option D} (d : D) (e : Env') : gVar 19 (x0 :: x1 :: x2 :: x3 :: x4 :: x5 :: x6 :: x7 :: x8 :: x9 :: x10 :: x11 :: x12 :: x13 :: x14 :: x15 :: x16 :: x17 :: x18 :: some d :: e) cs = .ok d cs := rfl
theorem cw19 {x0 x1 x2 x3 x4 x5 x6 x7 x8 x9 x10 x11 x12 x13 x14 x15 x16 x17 x18 : Option D} {y : Option D} (d : D) (e : Env') : (wipeD (x0 :: x1 :: x2 :: x3 :: x4 :: x5 :: x6 :: x7 :: x8 :: x9 :: x10 :: x11 :: x12 :: x13 :: x14 :: x15 :: x16 :: x17 :: x18 :: y :: e) [19]).set 19 (some d) = x0 :: x1 :: x2 :: x3 :: x4 :: x5 :: x6 :: x7 :: x8 :: x9 :: x10 :: x11 :: x12 :: x13 :: x14 :: x15 :: x16 :: x17 :: x18 :: some d :: e := rfl
theorem tn19 {x0 x1 x2 x3 x4 x5 x6 x7 x8 x9 x10 x11 x12 x13 x14 x15 x16 x17 x18 : Option D} {y : Option D} (d : D) (e : Env') : tgName 19 d (x0 :: x1 :: x2 :: x3 :: x4 :: x5 :: x6 :: x7 :: x8 :: x9 :: x10 :: x11 :: x12 :: x13 :: x14 :: x15 :: x16 :: x17 :: x18 :: y :: e) cs = .ok (x0 :: x1 :: x2 :: x3 :: x4 :: x5 :: x6 :: x7 :: x8 :: x9 :: x10 :: x11 :: x12 :: x13 :: x14 :: x15 :: x16 :: x17 :: x18 :: some d :: e) cs := rfl
theorem tt2 (g h : Gg) (a b : D) : tgTup 2 (tgCons g (tgCons h tgNil)) (.tup [a, b]) env cs = (g a env cs).bind fun env cs => h b env cs := by
  show (g a env cs).bind (fun env cs => (h b env cs).bind fun env cs => .ok env cs) = _
  cases g a env cs with
  | ok e c => show (h b e c).bind (fun env cs => .ok env cs) = h b e c; cases h b e c <;> rfl
  | exc _ _ _ => rfl
  | bad => rfl
theorem tt3 (g h i : Gg) (a b c : D) : tgTup 3 (tgCons g (tgCons h (tgCons i tgNil))) (.tup [a, b, c]) env cs = (g a env cs).bind fun env cs => (h b env cs).bind fun env cs => i c env cs := by
  show (g a env cs).bind (fun env cs => (h b env cs).bind fun env cs => (i c env cs).bind fun env cs => .ok env cs) = _
  cases g a env cs with
  | ok e s =>
    show (h b e s).bind (fun env cs => (i c env cs).bind fun env cs => .ok env cs) = (h b e s).bind fun env cs => i c env cs
    cases h b e s with
    | ok e s => show (i c e s).bind (fun env cs => .ok env cs) = i c e s; cases i c e s <;> rfl
    | exc _ _ _ => rfl
    | bad => rfl
  | exc _ _ _ => rfl
  | bad => rfl
end
section
variable {α β : Type} {env : List (Option D)} {cs : List C}
def lsk (xs : List D) (cs : List C) : Out D := if xs.length ≤ 1000 then .ok (.lst xs) cs else .bad
def lck (xs : List D) (cs : List C) : Out D := if xs.length ≤ 1000 then .ok (.cell cs.length) (cs ++ [.lst xs]) else .bad
def tpk (xs : List D) (cs : List C) : Out D := if xs.length ≤ 1000 then .ok (.tup xs) cs else .bad
def kwk (m : Nat) (g : ∀ {α : Type}, List α → List α → List α) (F : Fd) (zs : List D) (cs : List C) : Out D := if zs.length = m then F (g [] zs) cs else .bad
theorem gList_w (a : Ga) : gList a env cs = (a env cs).bind lsk := rfl
theorem gListC_w (a : Ga) : gListC a env cs = (a env cs).bind lck := rfl
theorem gTup_w (a : Ga) : Dm.gTup a env cs = (a env cs).bind tpk := rfl
theorem gKw0_w (m : Nat) (g : ∀ {α : Type}, List α → List α → List α) (F : Fd) (r : Ga) : gKw0 m g F r env cs = (r env cs).bind (kwk m g F) := rfl
theorem sPar_w (i j : Nat) (a b : Gx) : sPar i j a b env cs = (a env cs).bind fun x cs => (b env cs).bind fun y cs => (tgName i x env cs).bind fun e cs => (tgName j y e cs).bind fun e cs => .ok ⟨.nx, e⟩ cs := rfl
theorem sPar3_w (i j l : Nat) (a b c : Gx) : sPar3 i j l a b c env cs = (a env cs).bind fun x cs => (b env cs).bind fun y cs => (c env cs).bind fun z cs => (tgName i x env cs).bind fun e cs => (tgName j y e cs).bind fun e cs => (tgName l z e cs).bind fun e cs => .ok ⟨.nx, e⟩ cs := rfl
theorem lsk0 : lsk [] cs = .ok (.lst []) cs := rfl
theorem lck0 : lck [] cs = .ok (.cell cs.length) (cs ++ [.lst []]) := rfl
theorem tpk0 : tpk [] cs = .ok (.tup []) cs := rfl
theorem lsk1 (x0 : D) : lsk [x0] cs = .ok (.lst [x0]) cs := rfl
theorem lck1 (x0 : D) : lck [x0] cs = .ok (.cell cs.length) (cs ++ [.lst [x0]]) := rfl
theorem tpk1 (x0 : D) : tpk [x0] cs = .ok (.tup [x0]) cs := rfl
theorem lsk2 (x0 x1 : D) : lsk [x0, x1] cs = .ok (.lst [x0, x1]) cs := rfl
theorem lck2 (x0 x1 : D) : lck [x0, x1] cs = .ok (.cell cs.length) (cs ++ [.lst [x0, x1]]) := rfl
theorem tpk2 (x0 x1 : D) : tpk [x0, x1] cs = .ok (.tup [x0, x1]) cs := rfl
theorem lsk3 (x0 x1 x2 : D) : lsk [x0, x1, x2] cs = .ok (.lst [x0, x1, x2]) cs := rfl
theorem lck3 (x0 x1 x2 : D) : lck [x0, x1, x2] cs = .ok (.cell cs.length) (cs ++ [.lst [x0, x1, x2]]) := rfl
theorem tpk3 (x0 x1 x2 : D) : tpk [x0, x1, x2] cs = .ok (.tup [x0, x1, x2]) cs := rfl
theorem lsk4 (x0 x1 x2 x3 : D) : lsk [x0, x1, x2, x3] cs = .ok (.lst [x0, x1, x2, x3]) cs := rfl
theorem lck4 (x0 x1 x2 x3 : D) : lck [x0, x1, x2, x3] cs = .ok (.cell cs.length) (cs ++ [.lst [x0, x1, x2, x3]]) := rfl
theorem tpk4 (x0 x1 x2 x3 : D) : tpk [x0, x1, x2, x3] cs = .ok (.tup [x0, x1, x2, x3]) cs := rfl
theorem lsk5 (x0 x1 x2 x3 x4 : D) : lsk [x0, x1, x2, x3, x4] cs = .ok (.lst [x0, x1, x2, x3, x4]) cs := rfl
theorem lck5 (x0 x1 x2 x3 x4 : D) : lck [x0, x1, x2, x3, x4] cs = .ok (.cell cs.length) (cs ++ [.lst [x0, x1, x2, x3, x4]]) := rfl
theorem tpk5 (x0 x1 x2 x3 x4 : D) : tpk [x0, x1, x2, x3, x4] cs = .ok (.tup [x0, x1, x2, x3, x4]) cs := rfl
theorem lsk6 (x0 x1 x2 x3 x4 x5 : D) : lsk [x0, x1, x2, x3, x4, x5] cs = .ok (.lst [x0, x1, x2, x3, x4, x5]) cs := rfl
theorem lck6 (x0 x1 x2 x3 x4 x5 : D) : lck [x0, x1, x2, x3, x4, x5] cs = .ok (.cell cs.length) (cs ++ [.lst [x0, x1, x2, x3, x4, x5]]) := rfl
theorem tpk6 (x0 x1 x2 x3 x4 x5 : D) : tpk [x0, x1, x2, x3, x4, x5] cs = .ok (.tup [x0, x1, x2, x3, x4, x5]) cs := rfl
theorem lsk7 (x0 x1 x2 x3 x4 x5 x6 : D) : lsk [x0, x1, x2, x3, x4, x5, x6] cs = .ok (.lst [x0, x1, x2, x3, x4, x5, x6]) cs := rfl
theorem lck7 (x0 x1 x2 x3 x4 x5 x6 : D) : lck [x0, x1, x2, x3, x4, x5, x6] cs = .ok (.cell cs.length) (cs ++ [.lst [x0, x1, x2, x3, x4, x5, x6]]) := rfl
theorem tpk7 (x0 x1 x2 x3 x4 x5 x6 : D) : tpk [x0, x1, x2, x3, x4, x5, x6] cs = .ok (.tup [x0, x1, x2, x3, x4, x5, x6]) cs := rfl
theorem lsk8 (x0 x1 x2 x3 x4 x5 x6 x7 : D) : lsk [x0, x1, x2, x3, x4, x5, x6, x7] cs = .ok (.lst [x0, x1, x2, x3, x4, x5, x6, x7]) cs := rfl
theorem lck8 (x0 x1 x2 x3 x4 x5 x6 x7 : D) : lck [x0, x1, x2, x3, x4, x5, x6, x7] cs = .ok (.cell cs.length) (cs ++ [.lst [x0, x1, x2, x3, x4, x5, x6, x7]]) := rfl
theorem tpk8 (x0 x1 x2 x3 x4 x5 x6 x7 : D) : tpk [x0, x1, x2, x3, x4, x5, x6, x7] cs = .ok (.tup [x0, x1, x2, x3, x4, x5, x6, x7]) cs := rfl
theorem lsk9 (x0 x1 x2 x3 x4 x5 x6 x7 x8 : D) : lsk [x0, x1, x2, x3, x4, x5, x6, x7, x8] cs = .ok (.lst [x0, x1, x2, x3, x4, x5, x6, x7, x8]) cs := rfl
theorem lck9 (x0 x1 x2 x3 x4 x5 x6 x7 x8 : D) : lck [x0, x1, x2, x3, x4, x5, x6, x7, x8] cs = .ok (.cell cs.length) (cs ++ [.lst [x0, x1, x2, x3, x4, x5, x6, x7, x8]]) := rfl
theorem tpk9 (x0 x1 x2 x3 x4 x5 x6 x7 x8 : D) : tpk [x0, x1, x2, x3, x4, x5, x6, x7, x8] cs = .ok (.tup [x0, x1, x2, x3, x4, x5, x6, x7, x8]) cs := rfl
theorem lsk10 (x0 x1 x2 x3 x4 x5 x6 x7 x8 x9 : D) : lsk [x0, x1, x2, x3, x4, x5, x6, x7, x8, x9] cs = .ok (.lst [x0, x1, x2, x3, x4, x5, x6, x7, x8, x9]) cs := rfl
theorem lck10 (x0 x1 x2 x3 x4 x5 x6 x7 x8 x9 : D) : lck [x0, x1, x2, x3, x4, x5, x6, x7, x8, x9] cs = .ok (.cell cs.length) (cs ++ [.lst [x0, x1, x2, x3, x4, x5, x6, x7, x8, x9]]) := rfl
theorem tpk10 (x0 x1 x2 x3 x4 x5 x6 x7 x8 x9 : D) : tpk [x0, x1, x2, x3, x4, x5, x6, x7, x8, x9] cs = .ok (.tup [x0, x1, x2, x3, x4, x5, x6, x7, x8, x9]) cs := rfl
theorem lsk11 (x0 x1 x2 x3 x4 x5 x6 x7 x8 x9 x10 : D) : lsk [x0, x1, x2, x3, x4, x5, x6, x7, x8, x9, x10] cs = .ok (.lst [x0, x1, x2, x3, x4, x5, x6, x7, x8, x9, x10]) cs := rfl
theorem lck11 (x0 x1 x2 x3 x4 x5 x6 x7 x8 x9 x10 : D) : lck [x0, x1, x2, x3, x4, x5, x6, x7, x8, x9, x10] cs = .ok (.cell cs.length) (cs ++ [.lst [x0, x1, x2, x3, x4, x5, x6, x7, x8, x9, x10]]) := rfl
theorem tpk11 (x0 x1 x2 x3 x4 x5 x6 x7 x8 x9 x10 : D) : tpk [x0, x1, x2, x3, x4, x5, x6, x7, x8, x9, x10] cs = .ok (.tup [x0, x1, x2, x3, x4, x5, x6, x7, x8, x9, x10]) cs := rfl
theorem lsk12 (x0 x1 x2 x3 x4 x5 x6 x7 x8 x9 x10 x11 : D) : lsk [x0, x1, x2, x3, x4, x5, x6, x7, x8, x9, x10, x11] cs = .ok (.lst [x0, x1, x2, x3, x4, x5, x6, x7, x8, x9, x10, x11]) cs := rfl
theorem lck12 (x0 x1 x2 x3 x4 x5 x6 x7 x8 x9 x10 x11 : D) : lck [x0, x1, x2, x3, x4, x5, x6, x7, x8, x9, x10, x11] cs = .ok (.cell cs.length) (cs ++ [.lst [x0, x1, x2, x3, x4, x5, x6, x7, x8, x9, x10, x11]]) := rfl
theorem tpk12 (x0 x1 x2 x3 x4 x5 x6 x7 x8 x9 x10 x11 : D) : tpk [x0, x1, x2, x3, x4, x5, x6, x7, x8, x9, x10, x11] cs = .ok (.tup [x0, x1, x2, x3, x4, x5, x6, x7, x8, x9, x10, x11]) cs := rfl
theorem lsk13 (x0 x1 x2 x3 x4 x5 x6 x7 x8 x9 x10 x11 x12 : D) : lsk [x0, x1, x2, x3, x4, x5, x6, x7, x8, x9, x10, x11, x12] cs = .ok (.lst [x0, x1, x2, x3, x4, x5, x6, x7, x8, x9, x10, x11, x12]) cs := rfl
theorem lck13 (x0 x1 x2 x3 x4 x5 x6 x7 x8 x9 x10 x11 x12 : D) : lck [x0, x1, x2, x3, x4, x5, x6, x7, x8, x9, x10, x11, x12] cs = .ok (.cell cs.length) (cs ++ [.lst [x0, x1, x2, x3, x4, x5, x6, x7, x8, x9, x10, x11, x12]]) := rfl
theorem tpk13 (x0 x1 x2 x3 x4 x5 x6 x7 x8 x9 x10 x11 x12 : D) : tpk [x0, x1, x2, x3, x4, x5, x6, x7, x8, x9, x10, x11, x12] cs = .ok (.tup [x0, x1, x2, x3, x4, x5, x6, x7, x8, x9, x10, x11, x12]) cs := rfl
theorem lsk14 (x0 x1 x2 x3 x4 x5 x6 x7 x8 x9 x10 x11 x12 x13 : D) : lsk [x0, x1, x2, x3, x4, x5, x6, x7, x8, x9, x10, x11, x12, x13] cs = .ok (.lst [x0, x1, x2, x3, x4, x5, x6, x7, x8, x9, x10, x11, x12, x13]) cs := rfl
theorem lck14 (x0 x1 x2 x3 x4 x5 x6 x7 x8 x9 x10 x11 x12 x13 : D) : lck [x0, x1, x2, x3, x4, x5, x6, x7, x8, x9, x10, x11, x12, x13] cs = .ok (.cell cs.length) (cs ++ [.lst [x0, x1, x2, x3, x4, x5, x6, x7, x8, x9, x10, x11, x12, x13]]) := rfl
theorem tpk14 (x0 x1 x2 x3 x4 x5 x6 x7 x8 x9 x10 x11 x12 x13 : D) : tpk [x0, x1, x2, x3, x4, x5, x6, x7, x8, x9, x10, x11, x12, x13] cs = .ok (.tup [x0, x1, x2, x3, x4, x5, x6, x7, x8, x9, x10, x11, x12, x13]) cs := rfl
theorem lsk15 (x0 x1 x2 x3 x4 x5 x6 x7 x8 x9 x10 x11 x12 x13 x14 : D) : lsk [x0, x1, x2, x3, x4, x5, x6, x7, x8, x9, x10, x11, x12, x13, x14] cs = .ok (.lst [x0, x1, x2, x3, x4, x5, x6, x7, x8, x9, x10, x11, x12, x13, x14]) cs := rfl
theorem lck15 (x0 x1 x2 x3 x4 x5 x6 x7 x8 x9 x10 x11 x12 x13 x14 : D) : lck [x0, x1, x2, x3, x4, x5, x6, x7, x8, x9, x10, x11, x12, x13, x14] cs = .ok (.cell cs.length) (cs ++ [.lst [x0, x1, x2, x3, x4, x5, x6, x7, x8, x9, x10, x11, x12, x13, x14]]) := rfl
theorem tpk15 (x0 x1 x2 x3 x4 x5 x6 x7 x8 x9 x10 x11 x12 x13 x14 : D) : tpk [x0, x1, x2, x3, x4, x5, x6, x7, x8, x9, x10, x11, x12, x13, x14] cs = .ok (.tup [x0, x1, x2, x3, x4, x5, x6, x7, x8, x9, x10, x11, x12, x13, x14]) cs := rfl
theorem lsk16 (x0 x1 x2 x3 x4 x5 x6 x7 x8 x9 x10 x11 x12 x13 x14 x15 : D) : lsk [x0, x1, x2, x3, x4, x5, x6, x7, x8, x9, x10, x11, x12, x13, x14, x15] cs = .ok (.lst [x0, x1, x2, x3, x4, x5, x6, x7, x8, x9, x10, x11, x12, x13, x14, x15]) cs := rfl
theorem lck16 (x0 x1 x2 x3 x4 x5 x6 x7 x8 x9 x10 x11 x12 x13 x14 x15 : D) : lck [x0, x1, x2, x3, x4, x5, x6, x7, x8, x9, x10, x11, x12, x13, x14, x15] cs = .ok (.cell cs.length) (cs ++ [.lst [x0, x1, x2, x3, x4, x5, x6, x7, x8, x9, x10, x11, x12, x13, x14, x15]]) := rfl
theorem tpk16 (x0 x1 x2 x3 x4 x5 x6 x7 x8 x9 x10 x11 x12 x13 x14 x15 : D) : tpk [x0, x1, x2, x3, x4, x5, x6, x7, x8, x9, x10, x11, x12, x13, x14, x15] cs = .ok (.tup [x0, x1, x2, x3, x4, x5, x6, x7, x8, x9, x10, x11, x12, x13, x14, x15]) cs := rfl
theorem argN0 (F : Fd) : argN 0 F [] cs = F [] cs := rfl
theorem argN1 (F : Fd) (x0 : D) : argN 1 F [x0] cs = F [x0] cs := rfl
theorem kwk1 (g : ∀ {α : Type}, List α → List α → List α) (F : Fd) (x0 : D) : kwk 1 g F [x0] cs = F (g [] [x0]) cs := rfl
theorem argN2 (F : Fd) (x0 x1 : D) : argN 2 F [x0, x1] cs = F [x0, x1] cs := rfl
theorem kwk2 (g : ∀ {α : Type}, List α → List α → List α) (F : Fd) (x0 x1 : D) : kwk 2 g F [x0, x1] cs = F (g [] [x0, x1]) cs := rfl
theorem argN3 (F : Fd) (x0 x1 x2 : D) : argN 3 F [x0, x1, x2] cs = F [x0, x1, x2] cs := rfl
theorem kwk3 (g : ∀ {α : Type}, List α → List α → List α) (F : Fd) (x0 x1 x2 : D) : kwk 3 g F [x0, x1, x2] cs = F (g [] [x0, x1, x2]) cs := rfl
theorem argN4 (F : Fd) (x0 x1 x2 x3 : D) : argN 4 F [x0, x1, x2, x3] cs = F [x0, x1, x2, x3] cs := rfl
theorem kwk4 (g : ∀ {α : Type}, List α → List α → List α) (F : Fd) (x0 x1 x2 x3 : D) : kwk 4 g F [x0, x1, x2, x3] cs = F (g [] [x0, x1, x2, x3]) cs := rfl
theorem argN5 (F : Fd) (x0 x1 x2 x3 x4 : D) : argN 5 F [x0, x1, x2, x3, x4] cs = F [x0, x1, x2, x3, x4] cs := rfl
theorem kwk5 (g : ∀ {α : Type}, List α → List α → List α) (F : Fd) (x0 x1 x2 x3 x4 : D) : kwk 5 g F [x0, x1, x2, x3, x4] cs = F (g [] [x0, x1, x2, x3, x4]) cs := rfl
theorem argN6 (F : Fd) (x0 x1 x2 x3 x4 x5 : D) : argN 6 F [x0, x1, x2, x3, x4, x5] cs = F [x0, x1, x2, x3, x4, x5] cs := rfl
theorem kwk6 (g : ∀ {α : Type}, List α → List α → List α) (F : Fd) (x0 x1 x2 x3 x4 x5 : D) : kwk 6 g F [x0, x1, x2, x3, x4, x5] cs = F (g [] [x0, x1, x2, x3, x4, x5]) cs := rfl
theorem argN7 (F : Fd) (x0 x1 x2 x3 x4 x5 x6 : D) : argN 7 F [x0, x1, x2, x3, x4, x5, x6] cs = F [x0, x1, x2, x3, x4, x5, x6] cs := rfl
theorem kwk7 (g : ∀ {α : Type}, List α → List α → List α) (F : Fd) (x0 x1 x2 x3 x4 x5 x6 : D) : kwk 7 g F [x0, x1, x2, x3, x4, x5, x6] cs = F (g [] [x0, x1, x2, x3, x4, x5, x6]) cs := rfl
theorem argN8 (F : Fd) (x0 x1 x2 x3 x4 x5 x6 x7 : D) : argN 8 F [x0, x1, x2, x3, x4, x5, x6, x7] cs = F [x0, x1, x2, x3, x4, x5, x6, x7] cs := rfl
theorem kwk8 (g : ∀ {α : Type}, List α → List α → List α) (F : Fd) (x0 x1 x2 x3 x4 x5 x6 x7 : D) : kwk 8 g F [x0, x1, x2, x3, x4, x5, x6, x7] cs = F (g [] [x0, x1, x2, x3, x4, x5, x6, x7]) cs := rfl
end
end Dm
namespace Dm
section
variable {α β : Type} {env : List (Option D)} {cs : List C}
theorem wn_callS {F : Fd} {ds : List D} {Q : D → List C → Prop} (h : Wn (F ds cs) (fun d cs' => ∃ e, melt cs.length cs' d = some e ∧ (cs'.take cs.length).all (lowC cs.length) = true ∧ Q e (cs'.take cs.length))) : Wn (callS F ds cs) Q := by
  obtain ⟨d, cs', e, z, h1, h2, h3⟩ := h.to
  unfold callS
  rw [e]
  simp only [h1, h2, if_true, wn_ok]
  exact h3
theorem wn_callP {F : Fd} {ds : List D} {Q : D → List C → Prop} (hl : lowL 0 ds = true) (h : Wn (F ds []) (fun d cs' => ∃ e, melt 0 cs' d = some e ∧ Q e cs)) : Wn (callP F ds cs) Q := by
  obtain ⟨d, cs', e, z, h1, h2⟩ := h.to
  unfold callP
  rw [if_pos hl, e]
  simp only [h1, wn_ok]
  exact h2
theorem meltLow {n : Nat} {d : D} (cs : List C) (h : low n d = true) : melt n cs d = some d := by
  unfold melt
  rw [if_pos h]
end
end Dm
namespace Dm
open PySem PySem.Spec L2
section
variable {env : List (Option D)} {cs : List C}
/-- a comprehension over a typed list -/
theorem comp_run {α : Type} {vs : List Nat} {gt : D → Env' → Option Env'} {tt : Gt} {ge : Gx} {env : Env'} {cs : List C} (k : α → D) (p : α → Bool) (g : α → D) : ∀ (l : List α) (acc : List D) (_ : acc.length + l.length ≤ sizeLine)
    (_ : ∀ x ∈ l, ∃ env1, gt (k x) (wipeD env vs) = some env1 ∧ tt env1 cs = .ok (p x) cs ∧ (p x = true → ge env1 cs = .ok (g x) cs)), compD vs gt tt ge (l.map k) env cs acc = .ok (acc ++ (l.filter p).map g) cs
  | [], acc, _, _ => by simp [compD, compB]
  | d :: ds, acc, hl, h => by
    rw [List.length_cons] at hl
    obtain ⟨env1, h1, h2, h3⟩ := h d List.mem_cons_self
    have ih := fun acc hl => comp_run (vs := vs) (gt := gt) (tt := tt) (ge := ge) (env := env) (cs := cs) k p g ds acc hl fun y hy => h y (List.mem_cons_of_mem _ hy)
    unfold compD at ih ⊢
    rw [List.map_cons]
    unfold compB
    rw [h1]
    simp -implicitDefEqProofs only [h2, bind_ok]
    cases hp : p d with
    | false =>
      rw [if_neg Bool.false_ne_true, ih acc (by omega), List.filter_cons, hp]
      rfl
    | true =>
      rw [if_pos rfl]
      have hb : bodyE ge env1 cs acc = .ok (acc ++ [g d]) cs := by
        unfold bodyE
        rw [h3 hp]
        show (if acc.length < sizeLine then _ else _) = _
        rw [if_pos (by omega)]
      rw [hb]
      show compB vs gt tt (bodyE ge) (ds.map k) env cs (acc ++ [g d]) = _
      rw [ih _ (by rw [List.length_append, List.length_singleton]; omega), List.filter_cons, hp]
      simp
theorem comp_eq {α : Type} (k g : α → D) (l : List α) {i : Nat} {vs : List Nat} {gi : Ga} {ge : Gx} (hl : l.length ≤ 1000000) (hi : gi env cs = .ok (l.map k) cs) (he : ∀ x ∈ l, ge ((wipeD env vs).set i (some (k x))) cs = .ok (g x) cs) :
    gComp vs gi (tcName i) (fun _ cs => .ok true cs) ge env cs = .ok (.lst (l.map g)) cs := by
  have sz : (1000000 : Nat) ≤ sizeLine := by decide
  unfold gComp
  rw [hi, bind_ok, comp_run (vs := vs) k (fun _ => true) g l [] (by simp; omega) fun x hx => ⟨_, rfl, rfl, fun _ => he x hx⟩, List.filter_eq_self.mpr fun _ _ => rfl]
  simp [asVal]
theorem comp_W {α : Type} (k g : α → D) (l : List α) {i : Nat} {vs : List Nat} {gi : Ga} {ge : Gx} {Q : D → List C → Prop} (hl : l.length ≤ 1000000) (hi : gi env cs = .ok (l.map k) cs) (he : ∀ x ∈ l, ge ((wipeD env vs).set i (some (k x))) cs = .ok (g x) cs) (q : Q (.lst (l.map g)) cs) :
    Wn (gComp vs gi (tcName i) (fun _ cs => .ok true cs) ge env cs) Q := .of (comp_eq k g l hl hi he) q
/-- .. with a test -/
theorem compF_eq {α : Type} (k g : α → D) (p : α → Bool) (l : List α) {i : Nat} {vs : List Nat} {gi : Ga} {tt : Gt} {ge : Gx} (hl : l.length ≤ 1000000) (hi : gi env cs = .ok (l.map k) cs)
    (ht : ∀ x ∈ l, tt ((wipeD env vs).set i (some (k x))) cs = .ok (p x) cs) (he : ∀ x ∈ l, p x = true → ge ((wipeD env vs).set i (some (k x))) cs = .ok (g x) cs) :
    gComp vs gi (tcName i) tt ge env cs = .ok (.lst ((l.filter p).map g)) cs := by
  have sz : (1000000 : Nat) ≤ sizeLine := by decide
  unfold gComp
  rw [hi, bind_ok, comp_run (vs := vs) k p g l [] (by simp; omega) fun x hx => ⟨_, rfl, ht x hx, he x hx⟩]
  simp [asVal]
theorem compF_W {α : Type} (k g : α → D) (p : α → Bool) (l : List α) {i : Nat} {vs : List Nat} {gi : Ga} {tt : Gt} {ge : Gx} {Q : D → List C → Prop} (hl : l.length ≤ 1000000) (hi : gi env cs = .ok (l.map k) cs)
    (ht : ∀ x ∈ l, tt ((wipeD env vs).set i (some (k x))) cs = .ok (p x) cs) (he : ∀ x ∈ l, p x = true → ge ((wipeD env vs).set i (some (k x))) cs = .ok (g x) cs) (q : Q (.lst ((l.filter p).map g)) cs) :
    Wn (gComp vs gi (tcName i) tt ge env cs) Q := .of (compF_eq k g p l hl hi ht he) q
theorem un2 (g h : Gg) (a b : D) : tgUnl 2 (tgCons g (tgCons h tgNil)) (.lst [a, b]) env cs = (g a env cs).bind fun env cs => h b env cs := by
  show (g a env cs).bind (fun env cs => (h b env cs).bind fun env cs => .ok env cs) = _
  cases g a env cs with
  | ok e c => show (h b e c).bind (fun env cs => .ok env cs) = h b e c; cases h b e c <;> rfl
  | exc _ _ _ => rfl
  | bad => rfl
theorem tt4n (i j k l : Nat) (a b c d : D) : tgTup 4 (tgCons (tgName i) (tgCons (tgName j) (tgCons (tgName k) (tgCons (tgName l) tgNil)))) (.tup [a, b, c, d]) env cs = (tgName i a env cs).bind fun env cs => (tgName j b env cs).bind fun env cs => (tgName k c env cs).bind fun env cs => tgName l d env cs := rfl
theorem ixt10 (a : D) : ixD (.tup [a]) (.int 0) cs = .ok a cs := rfl
theorem ixt20 (a b : D) : ixD (.tup [a, b]) (.int 0) cs = .ok a cs := rfl
theorem ixt21 (a b : D) : ixD (.tup [a, b]) (.int 1) cs = .ok b cs := rfl
theorem ixt30 (a b c : D) : ixD (.tup [a, b, c]) (.int 0) cs = .ok a cs := rfl
theorem ixt31 (a b c : D) : ixD (.tup [a, b, c]) (.int 1) cs = .ok b cs := rfl
theorem ixt32 (a b c : D) : ixD (.tup [a, b, c]) (.int 2) cs = .ok c cs := rfl
theorem ixt40 (a b c d : D) : ixD (.tup [a, b, c, d]) (.int 0) cs = .ok a cs := rfl
theorem ixt41 (a b c d : D) : ixD (.tup [a, b, c, d]) (.int 1) cs = .ok b cs := rfl
theorem ixt42 (a b c d : D) : ixD (.tup [a, b, c, d]) (.int 2) cs = .ok c cs := rfl
theorem ixt43 (a b c d : D) : ixD (.tup [a, b, c, d]) (.int 3) cs = .ok d cs := rfl
theorem ixl20 (a b : D) : ixD (.lst [a, b]) (.int 0) cs = .ok a cs := rfl
theorem ixl21 (a b : D) : ixD (.lst [a, b]) (.int 1) cs = .ok b cs := rfl
theorem perm2 (x y : D) : permG (α := D) [1, 0] [] [x, y] = [y, x] := rfl
theorem perm3 (x y z : D) : permG (α := D) [2, 1, 0] [] [x, y, z] = [z, y, x] := rfl
theorem perm4 (x y z u : D) : permG (α := D) [3, 2, 1, 0] [] [x, y, z, u] = [u, z, y, x] := rfl
end
end Dm
namespace Dm
section
variable {α : Type} {env : List (Option D)} {cs : List C}
/-- a loop over a cell, by what holds of the items that are left -/
theorem forC_W {n0 : Nat} {ds0 : List D} (k : α → D) {t : Gg} {b : Gs} {Q : Sg → List C → Prop} (I : List α → Env' → List C → Prop) (same : ∀ l env cs, I l env cs → cs[n0]? = some (.lst ds0)) : ∀ (l : List α) (env : Env') (cs : List C), I l env cs →
    (∀ x l' env cs, x ∈ l → I (x :: l') env cs → Wn (t (k x) env cs) (tk b (lk (I l') Q))) → (∀ env cs, I [] env cs → Q ⟨.nx, env⟩ cs) → Wn (forC n0 ds0 t b (l.map k) env cs) Q
  | [], env, cs, h, _, q => by
    rw [List.map_nil, forC, if_pos (same _ _ _ h), wn_ok]
    exact q env cs h
  | x :: l, env, cs, h, s, q => by
    rw [List.map_cons, forC, if_pos (same _ _ _ h), wn_bind]
    refine (s x l env cs List.mem_cons_self h).mono fun e c w => ?_
    have s2 := fun y l' env cs (m : y ∈ l) => s y l' env cs (List.mem_cons_of_mem _ m)
    have w2 : Wn (b e c) (lk (I l) Q) := w
    obtain ⟨r, c2, eb, z⟩ := w2.to
    rw [bk_def, eb]
    obtain ⟨f, e⟩ := r
    cases f with
    | nx => exact forC_W k I same l e c2 z s2 q
    | ct => exact forC_W k I same l e c2 z s2 q
    | bk => exact (wn_ok _ _ _).mpr z
    | rt v => exact (wn_ok _ _ _).mpr z
def fck (t : Gg) (b : Gs) (env : Env') (Q : Sg → List C → Prop) : D → List C → Prop := fun o cs => ∃ n ds, o = .cell n ∧ cs[n]? = some (.lst ds) ∧ Wn (forC n ds t b ds env cs) Q
theorem wn_forC (g : Gx) (t : Gg) (b : Gs) (Q : Sg → List C → Prop) (h : Wn (g env cs) (fck t b env Q)) : Wn (sForC g t b env cs) Q := by
  obtain ⟨o, c, e, n, ds, rfl, h1, h2⟩ := h.to
  unfold sForC
  rw [e, bind_ok]
  simp only [h1]
  exact h2
end
end Dm
namespace Dm
section
variable {env : List (Option D)} {cs : List C}
def subK (d : D) (env : Env') : D → D → List C → Out Env' := fun o i cs => match o, i with
  | .cell n, .int i => (putD n i d cs).bind fun _ cs => .ok env cs
  | _, _ => .bad
theorem tgSub_w (go gi : Gx) (d : D) : tgSub go gi d env cs = (go env cs).bind fun o cs => (gi env cs).bind fun i cs => subK d env o i cs := rfl
theorem subK_int (d : D) (n : Nat) (i : Int) : subK d env (.cell n) (.int i) cs = (putD n i d cs).bind fun _ cs => .ok env cs := rfl
end
end Dm
set_option linter.all false
set_option maxRecDepth 100000
set_option maxHeartbeats 1000000
/-! Dm: objects at any cell: what a field, a store, a call of a method comes to once the object is known. -/
namespace Dm
open PySem PySem.Spec L2
section
variable {env : List (Option D)} {cs : List C}
def fldK (xs : List Str) (f : Str) : D → List C → Out D := fun o cs => match o with
  | .cell n => match cs[n]? with
    | some (.obj x fs) => if x ∈ xs then (match fs.lookup f with
      | some d => .ok d cs
      | none => .bad) else .bad
    | _ => .bad
  | _ => .bad
theorem gFld_w (xs : List Str) (f : Str) (g : Gx) : gFld xs f g env cs = (g env cs).bind (fldK xs f) := rfl
def setK (xs : List Str) (f : Str) (d : D) (env : Env') : D → List C → Out Sg := fun o cs => match o with
  | .cell n => match cs[n]? with
    | some (.obj x fs) => if x ∈ xs ∧ fs.length < 1000 then .ok ⟨.nx, env⟩ (cs.set n (.obj x (putFD f d fs))) else .bad
    | _ => .bad
  | _ => .bad
theorem sFldD_w (xs : List Str) (f : Str) (go ge : Gx) : sFldD xs f go ge env cs = (ge env cs).bind fun d cs => (go env cs).bind fun o cs => setK xs f d env o cs := rfl
def augK (xs : List Str) (f : Str) (ge : Gx) (env : Env') : D → List C → Out Sg := fun o cs => match o with
  | .cell n => match cs[n]? with
    | some (.obj x fs) => if x ∈ xs ∧ fs.length < 1000 then (match fs.lookup f with
      | some (.int i) => (ge env cs).bind fun y cs => match y, cs[n]? with
        | .int j, some (.obj x' fs') => if x' = x ∧ fs'.length < 1000 then .ok ⟨.nx, env⟩ (cs.set n (.obj x' (putFD f (.int (i + j)) fs'))) else .bad
        | _, _ => .bad
      | _ => .bad) else .bad
    | _ => .bad
  | _ => .bad
theorem sFldAugD_w (xs : List Str) (f : Str) (go ge : Gx) : sFldAugD xs f go ge env cs = (go env cs).bind (augK xs f ge env) := rfl
def mthK (x mt : Str) (F : Fd) (ga : Ga) (env : Env') : D → List C → Out D := fun ob cs => match ob with
  | .cell n => match cs[n]? with
    | some (.obj y fs) => if y = x ∧ fs.lookup mt = none then (ga env cs).bind fun ds cs => F (.cell n :: ds) cs else .bad
    | _ => .bad
  | _ => .bad
theorem gMth_w (x mt : Str) (F : Fd) (go : Gx) (ga : Ga) : gMth x mt F go ga env cs = (go env cs).bind (mthK x mt F ga env) := rfl
def mtTK (mt : Str) (tb : List (Str × Fd)) (ga : Ga) (env : Env') : D → List C → Out D := fun ob cs => match ob with
  | .cell n => match cs[n]? with
    | some (.obj y fs) => match tb.lookup y with
      | some F => if fs.lookup mt = none then (ga env cs).bind fun ds cs => F (.cell n :: ds) cs else .bad
      | none => .bad
    | _ => .bad
  | _ => .bad
theorem gMtT_w (mt : Str) (tb : List (Str × Fd)) (go : Gx) (ga : Ga) : gMtT mt tb go ga env cs = (go env cs).bind (mtTK mt tb ga env) := rfl
def mK (F : Fd) (n : Nat) : List D → List C → Out D := fun ds cs => F (.cell n :: ds) cs
theorem mK_def (F : Fd) (n : Nat) (ds : List D) : mK F n ds cs = F (.cell n :: ds) cs := rfl
theorem fld_at {xs : List Str} {f x : Str} {n : Nat} {fs : List (Str × D)} {d : D} (h : cs[n]? = some (.obj x fs)) (hx : x ∈ xs) (hl : fs.lookup f = some d) : fldK xs f (.cell n) cs = .ok d cs := by
  simp only [fldK, h, if_pos hx, hl]
theorem set_at_ {xs : List Str} {f x : Str} {n : Nat} {fs : List (Str × D)} {d : D} (h : cs[n]? = some (.obj x fs)) (hx : x ∈ xs) (hl : fs.length < 1000) : setK xs f d env (.cell n) cs = .ok ⟨.nx, env⟩ (cs.set n (.obj x (putFD f d fs))) := by
  simp only [setK, h, if_pos (And.intro hx hl)]
theorem aug_at {xs : List Str} {f x : Str} {n : Nat} {fs : List (Str × D)} {i j : Int} {ge : Gx} (h : cs[n]? = some (.obj x fs)) (hx : x ∈ xs) (hl : fs.length < 1000) (hi : fs.lookup f = some (.int i)) (hg : ge env cs = .ok (.int j) cs) : augK xs f ge env (.cell n) cs = .ok ⟨.nx, env⟩ (cs.set n (.obj x (putFD f (.int (i + j)) fs))) := by
  simp only [augK, h, if_pos (And.intro hx hl), hi, hg, Out.bind]
  rw [if_pos ⟨trivial, hl⟩]
theorem mth_at {x mt : Str} {n : Nat} {fs : List (Str × D)} {F : Fd} {ga : Ga} (h : cs[n]? = some (.obj x fs)) (hl : fs.lookup mt = none) : mthK x mt F ga env (.cell n) cs = (ga env cs).bind (mK F n) := by
  simp only [mthK, h, hl, and_self, if_true]
  rfl
theorem mtT_at {x mt : Str} {n : Nat} {fs : List (Str × D)} {F : Fd} {tb : List (Str × Fd)} {ga : Ga} (h : cs[n]? = some (.obj x fs)) (hl : fs.lookup mt = none) (ht : tb.lookup x = some F) : mtTK mt tb ga env (.cell n) cs = (ga env cs).bind (mK F n) := by
  simp only [mtTK, h, hl, ht, if_true]
  rfl
def popK (gi : Gx) (env : Env') : D → List C → Out D := fun o cs => match o with
  | .cell n => if isLc n cs then (gi env cs).bind (popD n) else .bad
  | _ => .bad
theorem gPop_w (go gi : Gx) : gPop go gi env cs = (go env cs).bind (popK gi env) := rfl
theorem pop_at {n : Nat} {x : D} {xs : List D} {gi : Gx} (h : cs[n]? = some (.lst (x :: xs))) (hg : gi env cs = .ok (.int 0) cs) : popK gi env (.cell n) cs = .ok x (cs.set n (.lst xs)) := by
  simp only [popK, isLc, h, hg, Out.bind, popD, if_true]
  rfl
def insK (gi ge : Gx) (env : Env') : D → List C → Out D := fun o cs => match o with
  | .cell n => if isLc n cs then (gi env cs).bind fun i cs => (ge env cs).bind fun y cs => insD n i y cs else .bad
  | _ => .bad
theorem gIns_w (go gi ge : Gx) : gIns go gi ge env cs = (go env cs).bind (insK gi ge env) := rfl
theorem ins_at {n : Nat} {y : D} {xs : List D} {gi ge : Gx} (h : cs[n]? = some (.lst xs)) (hl : xs.length < 1000000) (hg : gi env cs = .ok (.int 0) cs) (he : ge env cs = .ok y cs) : insK gi ge env (.cell n) cs = .ok .non (cs.set n (.lst (y :: xs))) := by
  have sz : (1000000 : Nat) ≤ sizeLine := by decide
  simp only [insK, isLc, h, hg, he, Out.bind, insD, if_true]
  rw [if_pos ⟨by decide, by decide, by omega⟩]
  rfl
theorem isLc_at {n : Nat} {xs : List D} (h : cs[n]? = some (.lst xs)) : isLc n cs = true := by
  simp only [isLc, h]
theorem app_at {n : Nat} {y : D} {xs : List D} (h : cs[n]? = some (.lst xs)) (hl : xs.length < 1000000) : appD n y cs = .ok .non (cs.set n (.lst (xs ++ [y]))) := by
  have sz : (1000000 : Nat) ≤ sizeLine := by decide
  simp only [appD, h]
  rw [if_pos (by omega)]
def appK (ge : Gx) (env : Env') : D → List C → Out D := fun o cs => match o with
  | .cell n => if isLc n cs then (ge env cs).bind fun d cs => appD n d cs else .bad
  | _ => .bad
theorem gApp_w (go ge : Gx) : gApp go ge env cs = (go env cs).bind (appK ge env) := rfl
theorem apk_at {n : Nat} {y : D} {xs : List D} {ge : Gx} (h : cs[n]? = some (.lst xs)) (hl : xs.length < 1000000) (hg : ge env cs = .ok y cs) : appK ge env (.cell n) cs = .ok .non (cs.set n (.lst (xs ++ [y]))) := by
  simp only [appK, isLc_at h, if_true, hg, Out.bind, app_at h hl]
theorem ix_at {α : Type} {n i : Nat} {k : α → D} {xs : List α} {x : α} (h : cs[n]? = some (.lst (xs.map k))) (hx : xs[i]? = some x) : ixD (.cell n) (.int (i : Nat)) cs = .ok (k x) cs := by
  obtain ⟨hl, he⟩ := List.getElem?_eq_some_iff.mp hx
  have e : L2.atI (xs.map k) ((i : Nat) : Int) = some (k x) := by
    unfold L2.atI ixN
    rw [if_pos (Int.natCast_nonneg i), if_pos (by rw [List.length_map]; exact_mod_cast hl)]
    show (xs.map k)[((i : Nat) : Int).toNat]? = _
    rw [Int.toNat_natCast, List.getElem?_map, hx]
    rfl
  simp only [ixD, asS, asL, h, e]
theorem put_at {n i : Nat} {d : D} {xs : List D} (h : cs[n]? = some (.lst xs)) (hi : i < xs.length) : putD n ((i : Nat) : Int) d cs = .ok () (cs.set n (.lst (xs.set i d))) := by
  have e : ixN xs.length ((i : Nat) : Int) = some i := by
    unfold ixN
    rw [if_pos (Int.natCast_nonneg i), if_pos (by exact_mod_cast hi), Int.toNat_natCast]
  simp only [putD, h, e]
end
end Dm
local macro_rules
  | `(tactic| push_cast [$xs,*]) => `(tactic| simp -implicitDefEqProofs only [Dm.wn_ok,Dm.wn_exc,Dm.wn_bad,Dm.wn_bind,Dm.bk_def,Dm.wn_ite,Dm.wn_seq,Dm.sk_nx,Dm.sk_rt,Dm.sk_bk,Dm.sk_ct,Dm.wn_if,Dm.ik_true,Dm.ik_false,Dm.ik_dec,Dm.ik_not,Dm.wn_for,Dm.fk_def,Dm.tk_def,Dm.lk_nx,Dm.lk_ct,Dm.lk_bk,Dm.lk_rt,Dm.rk_nx,Dm.rk_rt,Dm.is_def,Dm.bind_ok,Dm.gC_def,Dm.g2_def,Dm.g1_def,Dm.gA_def,Dm.aNil_def,Dm.aCons_def,Dm.gList_w,Dm.gListC_w,Dm.gTup_w,Dm.gKw0_w,Dm.sPar_w,Dm.sPar3_w,Dm.tE_def,Dm.asB_bl,Dm.tAnd_def,Dm.tOr_def,Dm.tNot_def,Dm.gIf_def,Dm.gAnd_def,Dm.gOr_def,Dm.gNot_def,Dm.gChain_def,Dm.sNext_def,Dm.sExpr_def,Dm.sRet_def,Dm.sAsg_def,Dm.tt2,Dm.tt3,Dm.tgSub_w,Dm.subK_int,Dm.iL_def,Dm.iT_def,Dm.iE_def,Dm.gApp_def,Dm.gSl_def,Dm.oNone_def,Dm.oSome_def,Dm.addD_int,Dm.subD_int,Dm.ltD_int,Dm.leD_int,Dm.gtD_int,Dm.geD_int,Dm.intD_int,Dm.intD_bl,Dm.absD_int,Dm.max2D_int,Dm.min2D_int,Dm.mulD_int,Dm.divD_int,Dm.modD_int,Dm.eqD_int,Dm.eqD_str,Dm.eqD_bl,if_true,if_false,ite_true,ite_false,Bool.false_eq_true,decide_eq_true_eq,decide_true,decide_false,reduceIte,Dm.cw0,Dm.cw1,Dm.cw2,Dm.cw3,Dm.cw4,Dm.cw5,Dm.cw6,Dm.cw7,Dm.cw8,Dm.cw9,Dm.cw10,Dm.cw11,Dm.cw12,Dm.cw13,Dm.cw14,Dm.cw15,Dm.cw16,Dm.cw17,Dm.cw18,Dm.cw19,Dm.un2,Dm.tt4n,Dm.ixt10,Dm.ixt20,Dm.ixt21,Dm.ixt30,Dm.ixt31,Dm.ixt32,Dm.ixt40,Dm.ixt41,Dm.ixt42,Dm.ixt43,Dm.ixl20,Dm.ixl21,Dm.perm2,Dm.perm3,Dm.perm4,Dm.gv0,Dm.gv1,Dm.gv2,Dm.gv3,Dm.gv4,Dm.gv5,Dm.gv6,Dm.gv7,Dm.gv8,Dm.gv9,Dm.gv10,Dm.gv11,Dm.gv12,Dm.gv13,Dm.gv14,Dm.gv15,Dm.gv16,Dm.gv17,Dm.gv18,Dm.gv19,Dm.tn0,Dm.tn1,Dm.tn2,Dm.tn3,Dm.tn4,Dm.tn5,Dm.tn6,Dm.tn7,Dm.tn8,Dm.tn9,Dm.tn10,Dm.tn11,Dm.tn12,Dm.tn13,Dm.tn14,Dm.tn15,Dm.tn16,Dm.tn17,Dm.tn18,Dm.tn19,Dm.lsk0,Dm.lsk1,Dm.lsk2,Dm.lsk3,Dm.lsk4,Dm.lsk5,Dm.lsk6,Dm.lsk7,Dm.lsk8,Dm.lsk9,Dm.lsk10,Dm.lsk11,Dm.lsk12,Dm.lsk13,Dm.lsk14,Dm.lsk15,Dm.lsk16,Dm.lck0,Dm.lck1,Dm.lck2,Dm.lck3,Dm.lck4,Dm.lck5,Dm.lck6,Dm.lck7,Dm.lck8,Dm.lck9,Dm.lck10,Dm.lck11,Dm.lck12,Dm.lck13,Dm.lck14,Dm.lck15,Dm.lck16,Dm.tpk0,Dm.tpk1,Dm.tpk2,Dm.tpk3,Dm.tpk4,Dm.tpk5,Dm.tpk6,Dm.tpk7,Dm.tpk8,Dm.tpk9,Dm.tpk10,Dm.tpk11,Dm.tpk12,Dm.tpk13,Dm.tpk14,Dm.tpk15,Dm.tpk16,Dm.argN0,Dm.argN1,Dm.argN2,Dm.argN3,Dm.argN4,Dm.argN5,Dm.argN6,Dm.argN7,Dm.argN8,Dm.kwk1,Dm.kwk2,Dm.kwk3,Dm.kwk4,Dm.kwk5,Dm.kwk6,Dm.kwk7,Dm.kwk8,$xs,*])
local macro_rules
  | `(tactic| push_cast only [$xs,*]) => `(tactic| simp -implicitDefEqProofs only [Dm.wn_ok,Dm.wn_exc,Dm.wn_bad,Dm.wn_bind,Dm.bk_def,Dm.wn_ite,Dm.wn_seq,Dm.sk_rt,Dm.sk_bk,Dm.sk_ct,Dm.wn_if,Dm.ik_true,Dm.ik_false,Dm.ik_dec,Dm.ik_not,Dm.wn_for,Dm.fk_def,Dm.tk_def,Dm.lk_nx,Dm.lk_ct,Dm.lk_bk,Dm.lk_rt,Dm.rk_nx,Dm.rk_rt,Dm.is_def,Dm.bind_ok,Dm.gC_def,Dm.g2_def,Dm.g1_def,Dm.gA_def,Dm.aNil_def,Dm.aCons_def,Dm.gList_w,Dm.gListC_w,Dm.gTup_w,Dm.gKw0_w,Dm.sPar_w,Dm.sPar3_w,Dm.tE_def,Dm.asB_bl,Dm.tAnd_def,Dm.tOr_def,Dm.tNot_def,Dm.gIf_def,Dm.gAnd_def,Dm.gOr_def,Dm.gNot_def,Dm.gChain_def,Dm.sNext_def,Dm.sExpr_def,Dm.sRet_def,Dm.sAsg_def,Dm.tt2,Dm.tt3,Dm.tgSub_w,Dm.subK_int,Dm.iL_def,Dm.iT_def,Dm.iE_def,Dm.gApp_def,Dm.gSl_def,Dm.oNone_def,Dm.oSome_def,Dm.addD_int,Dm.subD_int,Dm.ltD_int,Dm.leD_int,Dm.gtD_int,Dm.geD_int,Dm.intD_int,Dm.intD_bl,Dm.absD_int,Dm.max2D_int,Dm.min2D_int,Dm.mulD_int,Dm.divD_int,Dm.modD_int,Dm.eqD_int,Dm.eqD_str,Dm.eqD_bl,if_true,if_false,ite_true,ite_false,Bool.false_eq_true,decide_eq_true_eq,decide_true,decide_false,reduceIte,Dm.cw0,Dm.cw1,Dm.cw2,Dm.cw3,Dm.cw4,Dm.cw5,Dm.cw6,Dm.cw7,Dm.cw8,Dm.cw9,Dm.cw10,Dm.cw11,Dm.cw12,Dm.cw13,Dm.cw14,Dm.cw15,Dm.cw16,Dm.cw17,Dm.cw18,Dm.cw19,Dm.un2,Dm.tt4n,Dm.ixt10,Dm.ixt20,Dm.ixt21,Dm.ixt30,Dm.ixt31,Dm.ixt32,Dm.ixt40,Dm.ixt41,Dm.ixt42,Dm.ixt43,Dm.ixl20,Dm.ixl21,Dm.perm2,Dm.perm3,Dm.perm4,Dm.gv0,Dm.gv1,Dm.gv2,Dm.gv3,Dm.gv4,Dm.gv5,Dm.gv6,Dm.gv7,Dm.gv8,Dm.gv9,Dm.gv10,Dm.gv11,Dm.gv12,Dm.gv13,Dm.gv14,Dm.gv15,Dm.gv16,Dm.gv17,Dm.gv18,Dm.gv19,Dm.tn0,Dm.tn1,Dm.tn2,Dm.tn3,Dm.tn4,Dm.tn5,Dm.tn6,Dm.tn7,Dm.tn8,Dm.tn9,Dm.tn10,Dm.tn11,Dm.tn12,Dm.tn13,Dm.tn14,Dm.tn15,Dm.tn16,Dm.tn17,Dm.tn18,Dm.tn19,Dm.lsk0,Dm.lsk1,Dm.lsk2,Dm.lsk3,Dm.lsk4,Dm.lsk5,Dm.lsk6,Dm.lsk7,Dm.lsk8,Dm.lsk9,Dm.lsk10,Dm.lsk11,Dm.lsk12,Dm.lsk13,Dm.lsk14,Dm.lsk15,Dm.lsk16,Dm.lck0,Dm.lck1,Dm.lck2,Dm.lck3,Dm.lck4,Dm.lck5,Dm.lck6,Dm.lck7,Dm.lck8,Dm.lck9,Dm.lck10,Dm.lck11,Dm.lck12,Dm.lck13,Dm.lck14,Dm.lck15,Dm.lck16,Dm.tpk0,Dm.tpk1,Dm.tpk2,Dm.tpk3,Dm.tpk4,Dm.tpk5,Dm.tpk6,Dm.tpk7,Dm.tpk8,Dm.tpk9,Dm.tpk10,Dm.tpk11,Dm.tpk12,Dm.tpk13,Dm.tpk14,Dm.tpk15,Dm.tpk16,Dm.argN0,Dm.argN1,Dm.argN2,Dm.argN3,Dm.argN4,Dm.argN5,Dm.argN6,Dm.argN7,Dm.argN8,Dm.kwk1,Dm.kwk2,Dm.kwk3,Dm.kwk4,Dm.kwk5,Dm.kwk6,Dm.kwk7,Dm.kwk8,$xs,*])
set_option linter.all false
set_option maxRecDepth 100000
set_option maxHeartbeats 4000000
namespace My
open PySem PySem.Spec L2 Dm
/-! what every law wants, without events -/
theorem ixN_nat {n k : Nat} (h : k < n) : ixN n (k : Int) = some k := by
  unfold ixN
  rw [if_pos (Int.natCast_nonneg k), if_pos (by exact_mod_cast h)]
  simp
theorem rng_nat (g : Ga) (m : Nat) (hm : m ≤ 1000000) {env : List (Option D)} {cs cs' : List C} (h : g env cs = .ok [.int m] cs') : iR1 g env cs = .ok (rngD 0 m) cs' := by
  have h1 : -(2 ^ 62 : Int) ≤ (m : Int) := by omega
  have h2 : (m : Int) < 2 ^ 62 := by omega
  simp -implicitDefEqProofs only [iR1_def, h, bind_ok, if_pos (And.intro h1 h2), Int.toNat_natCast]
theorem runB_rt {n : Nat} {g : Gs} {ds : List D} {cs cs' : List C} {d : D} {e : Env'} (h : g (ds.map some ++ List.replicate (n - ds.length) none) cs = .ok ⟨.rt d, e⟩ cs') : runB n g ds cs = .ok d cs' := by
  simp -implicitDefEqProofs only [runB, h]
theorem runB_nx {n : Nat} {g : Gs} {ds : List D} {cs cs' : List C} {e : Env'} (h : g (ds.map some ++ List.replicate (n - ds.length) none) cs = .ok ⟨.nx, e⟩ cs') : runB n g ds cs = .ok .non cs' := by
  simp -implicitDefEqProofs only [runB, h]
theorem callP_val {F : Fd} {ds : List D} {d : D} {cs cs' : List C} (hl : lowL 0 ds = true) (h : F ds [] = .ok d cs') (hd : low 0 d = true) : callP F ds cs = .ok d cs := by
  unfold callP
  rw [if_pos hl, h]
  simp -implicitDefEqProofs only [melt, hd, if_true]
theorem atI_map {α : Type} (f : α → D) (xs : List α) (k : Nat) (h : k < xs.length) : L2.atI (xs.map f) (k : Int) = some (f xs[k]) := by
  unfold L2.atI
  rw [List.length_map, ixN_nat h]
  show (xs.map f)[k]? = _
  rw [List.getElem?_map, List.getElem?_eq_getElem h]
  rfl
/-- a callee that returns a new list as a value -/
theorem callP_cell {F : Fd} {ds : List D} {k : Nat} {xs : List D} {cs cs' : List C} (hl : lowL 0 ds = true) (h : F ds [] = .ok (.cell k) cs') (hk : cs'[k]? = some (.lst xs)) (hm : xs.mapM (meltF 0 cs' 8) = some xs) : callP F ds cs = .ok (.lst xs) cs := by
  unfold callP
  rw [if_pos hl, h]
  have e : melt 0 cs' (.cell k) = some (.lst xs) := by
    have h0 : low 0 (.cell k) = false := by simp [low]
    unfold melt
    rw [h0]
    have : meltF 0 cs' 9 (.cell k) = (xs.mapM (meltF 0 cs' 8)).map .lst := by
      rw [show (9 : Nat) = 8 + 1 from rfl, meltF, if_neg (Nat.not_lt_zero k), hk]
    rw [this, hm]
    rfl
  simp -implicitDefEqProofs only [e]
/-- .. as a cell -/
theorem callC_cell {F : Fd} {ds : List D} {k : Nat} {xs : List D} {cs cs' : List C} (hl : lowL 0 ds = true) (h : F ds [] = .ok (.cell k) cs') (hk : cs'[k]? = some (.lst xs)) (hx : lowL 0 xs = true) : callC F ds cs = .ok (.cell cs.length) (cs ++ [.lst xs]) := by
  unfold callC
  rw [if_pos hl, h]
  simp -implicitDefEqProofs only [toC, hk, hx, if_true]
theorem add_lst {xs ys : List D} (h : xs.length + ys.length ≤ sizeLine) (cs : List C) : addD (.lst xs) (.lst ys) cs = .ok (.lst (xs ++ ys)) cs := by
  simp only [addD, asL]
  rw [if_pos h]
theorem plain_ints : ∀ ns : List Int, plainL (ns.map D.int) = true
  | [] => rfl
  | n :: ns => by simp only [List.map_cons, plainL, Dm.plain, plain_ints ns, Bool.and_self]
theorem lay_ints : ∀ ns : List Int, PyData.canLayAll0 (toPyL (ns.map D.int)) = true
  | [] => by simp only [List.map_nil, toPyL, PyData.canLayAll0]
  | n :: ns => by simp only [List.map_cons, toPyL, toPy, PyData.canLayAll0, PyData.canLay0, lay_ints ns, Bool.and_self]
theorem depth_ints : ∀ ns : List Int, PyData.depthAll (toPyL (ns.map D.int)) = 0
  | [] => by simp only [List.map_nil, toPyL, PyData.depthAll]
  | n :: ns => by simp only [List.map_cons, toPyL, toPy, PyData.depthAll, PyData.depth, depth_ints ns, Nat.max_self]
/-- the script is the empty list, or not -/
theorem fro_nil (ns : List Int) : ∃ e : Bool, ∀ cs : List C, eqD true (.fro (ns.map D.int)) (.lst []) cs = .ok (.bl e) cs := by
  have p1 : plain (.fro (ns.map D.int)) = true := by simpa only [Dm.plain] using plain_ints ns
  have f1 : ∀ cs, flatten cs (.fro (ns.map D.int)) = some (.fro (ns.map D.int)) := fun cs => by unfold flatten; rw [if_pos p1]
  have f2 : ∀ cs, flatten cs (.lst []) = some (.lst []) := fun cs => rfl
  have s1 : shp (.fro (ns.map D.int)) = true := by
    unfold shp SeqAt.shaped
    simp only [toPy, PyData.canLay0, PyData.depth, lay_ints ns, depth_ints ns]
    rfl
  have s2 : shp (.lst []) = true := by decide
  have e0 : eqS (.fro (ns.map D.int)) (.lst []) = none := rfl
  exact ⟨_, fun cs => by simp only [eqD, e0, f1, f2, s1, s2, Bool.and_self, if_true]; rfl⟩
theorem clear_fro (ns : List Int) : clearO 0 (some (D.fro (ns.map D.int))) = some (D.fro (ns.map D.int)) := by
  have : lowL 0 (ns.map D.int) = true := by
    induction ns with
    | nil => rfl
    | cons n ns ih => simp only [List.map_cons, lowL, low, ih, Bool.and_self]
  simp only [clearO, low, this, if_true]
/-! comprehensions over rows, repr and == of lists that are cells -/
theorem comp_map {α : Type} {vs : List Nat} {gt : D → Env' → Option Env'} {tt : Gt} {ge : Gx} {env : Env'} {cs : List C} (k : α → D) (p : α → Bool) (g : α → D) : ∀ (l : List α) (acc : List D) (_ : acc.length + l.length ≤ sizeLine)
    (_ : ∀ x ∈ l, ∃ env1, gt (k x) (wipeD env vs) = some env1 ∧ tt env1 cs = .ok (p x) cs ∧ (p x = true → ge env1 cs = .ok (g x) cs)), compD vs gt tt ge (l.map k) env cs acc = .ok (acc ++ (l.filter p).map g) cs
  | [], acc, _, _ => by simp [compD, compB]
  | d :: ds, acc, hl, h => by
    rw [List.length_cons] at hl
    obtain ⟨env1, h1, h2, h3⟩ := h d List.mem_cons_self
    have ih := fun acc hl => comp_map (vs := vs) (gt := gt) (tt := tt) (ge := ge) (env := env) (cs := cs) k p g ds acc hl fun y hy => h y (List.mem_cons_of_mem _ hy)
    unfold compD at ih ⊢
    rw [List.map_cons]
    unfold compB
    rw [h1]
    simp -implicitDefEqProofs only [h2, bind_ok]
    cases hp : p d with
    | false =>
      rw [if_neg Bool.false_ne_true, ih acc (by omega), List.filter_cons, hp]
      rfl
    | true =>
      rw [if_pos rfl]
      have hb : bodyE ge env1 cs acc = .ok (acc ++ [g d]) cs := by
        unfold bodyE
        rw [h3 hp]
        show (if acc.length < sizeLine then _ else _) = _
        rw [if_pos (by omega)]
      rw [hb]
      show compB vs gt tt (bodyE ge) (ds.map k) env cs (acc ++ [g d]) = _
      rw [ih _ (by rw [List.length_append, List.length_singleton]; omega), List.filter_cons, hp]
      simp
theorem saneL_map {α : Type} (k : α → D) : ∀ (l : List α) (_ : ∀ x ∈ l, sane (k x) = true), saneL (l.map k) = true
  | [], _ => rfl
  | x :: l, h => by simp only [List.map_cons, saneL, h x List.mem_cons_self, saneL_map k l fun y hy => h y (List.mem_cons_of_mem _ hy), Bool.and_self]
theorem twL_map {α : Type} (k : α → D) (c : Nat) : ∀ (l : List α) (_ : ∀ x ∈ l, tw (k x) + 2 ≤ c), twL (l.map k) ≤ c * l.length
  | [], _ => by simp [twL]
  | x :: l, h => by
    have h1 := h x List.mem_cons_self
    have h2 := twL_map k c l fun y hy => h y (List.mem_cons_of_mem _ hy)
    simp only [List.map_cons, twL, List.length_cons]
    rw [Nat.mul_succ]
    omega
theorem dptL_map {α : Type} (k : α → D) (c : Nat) : ∀ (l : List α) (_ : ∀ x ∈ l, dpt (k x) ≤ c), dptL (l.map k) ≤ c
  | [], _ => by simp [dptL]
  | x :: l, h => by
    have h1 := h x List.mem_cons_self
    have h2 := dptL_map k c l fun y hy => h y (List.mem_cons_of_mem _ hy)
    simp only [List.map_cons, dptL]
    omega
mutual
theorem thaw_sane (cs : List C) : ∀ (d : D) (n : Nat), sane d = true → dpt d < n → thaw cs n d = some d
  | d, 0, _, h => by omega
  | .non, n + 1, _, _ => by simp [thaw]
  | .bl _, n + 1, _, _ => by simp [thaw]
  | .int _, n + 1, _, _ => by simp [thaw]
  | .str _, n + 1, _, _ => by simp [thaw]
  | .tup xs, n + 1, h, hd => by
    simp only [sane] at h
    simp only [dpt] at hd
    simp only [thaw, thawL_sane cs xs n h (by omega), Option.map_some]
  | .lst xs, n + 1, h, hd => by
    simp only [sane] at h
    simp only [dpt] at hd
    simp only [thaw, thawL_sane cs xs n h (by omega), Option.map_some]
  | .fro xs, n + 1, h, hd => by
    simp only [sane] at h
    simp only [dpt] at hd
    simp only [thaw, thawL_sane cs xs n h (by omega), Option.map_some]
  | .ty _, n + 1, h, _ => by simp [sane] at h
  | .ptr _ _, n + 1, h, _ => by simp [sane] at h
  | .dct _, n + 1, h, _ => by simp [sane] at h
  | .cell _, n + 1, h, _ => by simp [sane] at h
theorem thawL_sane (cs : List C) : ∀ (xs : List D) (n : Nat), saneL xs = true → dptL xs < n → xs.mapM (thaw cs n) = some xs
  | [], n, _, _ => by simp
  | x :: xs, n, h, hd => by
    simp only [saneL, Bool.and_eq_true] at h
    simp only [dptL] at hd
    have h1 := thaw_sane cs x n h.1 (by omega)
    have h2 := thawL_sane cs xs n h.2 (by omega)
    simp [List.mapM_cons, h1, h2]
end
theorem repr_thaw {d e : D} {cs : List C} (hn : rpl d = false) (ht : thaw cs 9 d = some e) (h : sane e = true) (hd : dpt e ≤ 64) (hw : tw e ≤ sizeLine) : reprD [d] cs = .ok (.str (toPy e).shown) cs := by
  have r := repr_sane (cs := cs) h hd hw
  have p := rpl_of e (rsane_of e h)
  simp only [reprD, pyOf, p, if_true] at r
  simp only [reprD, pyOf, hn, ht, p, if_true, Bool.false_eq_true, if_false]
  exact r
theorem thaw_cell {xs : List D} {cs : List C} {a n : Nat} (ha : cs[a]? = some (.lst xs)) (h : saneL xs = true) (hd : dptL xs < n) : thaw cs (n + 1) (.cell a) = some (.lst xs) := by
  simp only [thaw, ha, thawL_sane cs xs n h hd, Option.map_some]
/-- two cells with the same list, written as the list of both -/
theorem repr_cells {xs : List D} {cs : List C} {a b : Nat} (ha : cs[a]? = some (.lst xs)) (hb : cs[b]? = some (.lst xs)) (h : saneL xs = true) (hd : dptL xs < 7) (hw : 2 * twL xs + 100 ≤ sizeLine) :
    reprD [.lst [.cell a, .cell b]] cs = .ok (.str (toPy (.lst [.lst xs, .lst xs])).shown) cs := by
  refine repr_thaw (by simp [rpl, rplL]) ?_ (by simp [sane, saneL, h]) (by simp only [dpt, dptL]; omega) (by simp only [tw, twL]; omega)
  have h1 := thaw_cell (n := 7) ha h hd
  have h2 := thaw_cell (n := 7) hb h hd
  rw [show (9 : Nat) = 8 + 1 from rfl, thaw]
  simp [List.mapM_cons, h1, h2]
theorem repr_both {xs : List D} {cs : List C} (h : saneL xs = true) (hd : dptL xs < 7) (hw : 2 * twL xs + 100 ≤ sizeLine) :
    reprD [.lst [.lst xs, .lst xs]] cs = .ok (.str (toPy (.lst [.lst xs, .lst xs])).shown) cs :=
  repr_sane (by simp [sane, saneL, h]) (by simp only [dpt, dptL]; omega) (by simp only [tw, twL]; omega)
theorem eq_cell {xs : List D} {cs : List C} {a : Nat} (neg : Bool) (ha : cs[a]? = some (.lst xs)) (h : saneL xs = true) (hd : dptL xs < 7) : eqD neg (.cell a) (.lst xs) cs = .ok (.bl (!neg)) cs := by
  have sx : sane (.lst xs) = true := by simpa [sane] using h
  have f1 : flatten cs (.cell a) = some (.lst xs) := by
    unfold flatten
    rw [if_neg (by simp [Dm.plain]), thaw_cell (n := 8) ha h (by omega)]
    simp only [plain_of _ sx, if_true]
  have f2 : flatten cs (.lst xs) = some (.lst xs) := by unfold flatten; rw [if_pos (plain_of _ sx)]
  have p : shp (.lst xs) = true := by
    unfold shp SeqAt.shaped
    rw [lay_of _ sx, depth_of (plain_of _ sx), decide_eq_true (by simp only [dpt]; omega : dpt (.lst xs) ≤ 64)]
    rfl
  have e0 : eqS (.cell a) (.lst xs) = none := rfl
  simp only [eqD, e0, f1, f2, p, eqv_self sx, Bool.and_self, if_true]
  cases neg <;> rfl
theorem eq_lst {xs : List D} {cs : List C} (neg : Bool) (h : saneL xs = true) (hd : dptL xs < 7) : eqD neg (.lst xs) (.lst xs) cs = .ok (.bl (!neg)) cs := by
  have sx : sane (.lst xs) = true := by simpa [sane] using h
  rw [eq_sane sx sx (by simp only [dpt]; omega) (by simp only [dpt]; omega) rfl, eqv_self sx]
  cases neg <;> rfl
theorem sane_nat {k : Nat} (h : k < 2 ^ 1000) : sane (.int (k : Nat)) = true := by
  have := log2_lt (x := k) (k := 1920) (by decide) (Nat.lt_of_lt_of_le h (Nat.pow_le_pow_right (by decide) (by decide)))
  simp [sane, this]
theorem tw_nat {k : Nat} (h : k < 1024) : tw (.int (k : Nat)) ≤ 12 := by
  have := log2_lt (x := k) (k := 10) (by decide) h
  simp only [tw, Int.natAbs_natCast]
  omega
theorem p1024 : (1024 : Nat) < 2 ^ 1000 := by
  have : (2 : Nat) ^ 10 < 2 ^ 1000 := Nat.pow_lt_pow_right (by decide) (by decide)
  exact this
end My
set_option linter.all false
set_option maxRecDepth 100000
set_option maxHeartbeats 4000000
namespace My
open PySem PySem.Spec L2 Dm
/-- a source: the digits left, the seed, the count -/
structure Src (a b c : Int) : Prop where
  a0 : 0 ≤ a
  b0 : 0 ≤ b
  b1 : b < 2 ^ 200
  c0 : 0 ≤ c
def src (a b c : Int) : C := .lst [.int a, .int b, .int c]
theorem ix3 (x y z : D) : (L2.atI [x, y, z] 0 = some x) ∧ (L2.atI [x, y, z] 1 = some y) ∧ (L2.atI [x, y, z] 2 = some z) := ⟨rfl, rfl, rfl⟩
theorem draw_big {n : Nat} {cs : List C} {a b c k : Int} (hn : cs[n]? = some (src a b c)) (ha : 0 < a) (hk : 0 < k) (hk2 : k < 2 ^ 200) :
    F__law_draw [.cell n, .int k] cs = .ok (.int (a % k)) (cs.set n (src (a / k) b c)) := by
  unfold src at hn
  simp [F__law_draw, runB, g__law_draw, ixD, asS, asL, hn, (ix3 _ _ _).1, ha, modOk_pos hk, divOk_pos hk hk2, putD, ixN, src]
theorem draw_small {n : Nat} {cs : List C} {a b c k : Int} (hn : cs[n]? = some (src a b c)) (ha : ¬ 0 < a) (hb : 0 ≤ b) (hb2 : b < 2 ^ 200) (hc : 0 ≤ c) (hc2 : c < 2 ^ 60) (hk : 0 < k) :
    ∃ r, 0 ≤ r ∧ r < k ∧ F__law_draw [.cell n, .int k] cs = .ok (.int r) (cs.set n (src a b (c + 1))) := by
  unfold src at hn
  have hl : n < cs.length := (List.getElem?_eq_some_iff.mp hn).1
  have e2 : (cs.set n (.lst [.int a, .int b, .int (c + 1)]))[n]? = some (.lst [.int a, .int b, .int (c + 1)]) := List.getElem?_set_self hl
  have q39 : powOk 10 36 = true := by decide
  have q38 : powOk 10 38 = true := by decide
  have m1 : mulOk 600011 (c + 1) = true := mulOk_of (by decide) (by omega)
  have p1 : powOk (b + 600011 * (c + 1)) 3 = true := powOk_of (j := 3) (by omega) (by decide)
  have o1 : ∀ i : Int, modOk i 1000000000000000000000000000000000067 = true := fun i => modOk_pos (by decide)
  have o2 : ∀ i : Int, modOk i 100000000000000000000000000000000000133 = true := fun i => modOk_pos (by decide)
  have o3 : ∀ i : Int, divOk i 32749 = true := fun i => divOk_pos (by decide) (by decide)
  obtain ⟨x, hx⟩ : ∃ x, (b + 600011 * (c + 1)) ^ 3 % (1000000000000000000000000000000000067 : Int) = x := ⟨_, rfl⟩
  have hx0 : 0 ≤ x := by rw [← hx]; exact Int.emod_nonneg _ (by decide)
  have hx1 : x < 1000000000000000000000000000000000067 := by rw [← hx]; exact Int.emod_lt_of_pos _ (by decide)
  have m2 : mulOk x (c + 1) = true := mulOk_of (by omega) (by omega)
  have hxc : (x * (c + 1)).natAbs < 2 ^ 200 := by
    rw [Int.natAbs_mul]
    calc x.natAbs * (c + 1).natAbs < 2 ^ 130 * 2 ^ 62 := Nat.mul_lt_mul'' (by omega) (by omega)
      _ ≤ 2 ^ 200 := by decide
  have p2 : powOk (x * (c + 1) + 77773) 3 = true := powOk_of (j := 3) (by omega) (by decide)
  refine ⟨(x * (c + 1) + 77773) ^ 3 % 100000000000000000000000000000000000133 / 32749 % k, Int.emod_nonneg _ (by omega), Int.emod_lt_of_pos _ hk, ?_⟩
  simp -implicitDefEqProofs [F__law_draw, runB, g__law_draw, ixD, asS, asL, hn, (ix3 _ _ _).1, (ix3 _ _ _).2.1, (ix3 _ _ _).2.2, ha, putD, ixN, src, e2, q39, q38, m1, p1, o1, o2, o3, hx, m2, p2, modOk_pos hk]
end My
set_option linter.all false
set_option maxRecDepth 100000
set_option maxHeartbeats 4000000
namespace My
open PySem PySem.Spec L2 Dm
/-- one more draw -/
theorem draw {n : Nat} {cs : List C} {a b c k : Int} (hn : cs[n]? = some (src a b c)) (s : Src a b c) (hc : c < 2 ^ 60) (hk : 0 < k) (hk2 : k < 2 ^ 200) :
    ∃ r a' c', 0 ≤ r ∧ r < k ∧ F__law_draw [.cell n, .int k] cs = .ok (.int r) (cs.set n (src a' b c')) ∧ Src a' b c' ∧ c' ≤ c + 1 := by
  by_cases ha : 0 < a
  · exact ⟨a % k, a / k, c, Int.emod_nonneg _ (by omega), Int.emod_lt_of_pos _ hk, draw_big hn ha hk hk2, ⟨Int.ediv_nonneg s.a0 (by omega), s.b0, s.b1, s.c0⟩, by omega⟩
  · obtain ⟨r, h1, h2, h3⟩ := draw_small hn ha s.b0 s.b1 s.c0 hc hk
    exact ⟨r, a, c + 1, h1, h2, h3, ⟨s.a0, s.b0, s.b1, by have := s.c0; omega⟩, by omega⟩
/-- .. where the source stands alone -/
theorem draw1 {a b c k : Int} (s : Src a b c) (hc : c < 2 ^ 60) (hk : 0 < k) (hk2 : k < 2 ^ 200) :
    ∃ r a' c', 0 ≤ r ∧ r < k ∧ F__law_draw [.cell 0, .int k] [src a b c] = .ok (.int r) [src a' b c'] ∧ Src a' b c' ∧ c' ≤ c + 1 := draw (n := 0) (cs := [src a b c]) rfl s hc hk hk2
theorem pick {xs : List D} {P : D → Prop} {r : Int} {cs : List C} (h : ∀ x ∈ xs, P x) (h0 : 0 ≤ r) (h1 : r < xs.length) : ∃ d, ixD (.lst xs) (.int r) cs = .ok d cs ∧ P d := by
  have hl : r.toNat < xs.length := by omega
  refine ⟨xs[r.toNat], ?_, h _ (List.getElem_mem hl)⟩
  have e : L2.atI xs r = some xs[r.toNat] := by
    unfold L2.atI ixN
    rw [if_pos h0, if_pos h1]
    exact List.getElem?_eq_getElem hl
  simp only [ixD, asS, asL, e]
theorem source1 (i : Int) (k : Nat) (hk : k ≤ 64) : ∃ a b, F__law_source [.int i, .int k] [] = .ok (.cell 0) [src a b 0] ∧ Src a b 0 := by
  have q18 : powOk 10 18 = true := by decide
  have q39 : powOk 10 39 = true := by decide
  have o1 : ∀ i : Int, modOk i 1000000000000000000000000000000000000003 = true := fun i => modOk_pos (by decide)
  obtain ⟨j, hj⟩ : ∃ j : Int, (if i < 0 then -i else i) = j := ⟨_, rfl⟩
  obtain ⟨x, hx⟩ : ∃ x, j % (1000000000000000000000000000000000000003 : Int) = x := ⟨_, rfl⟩
  have hx0 : 0 ≤ x := by rw [← hx]; exact Int.emod_nonneg _ (by decide)
  have hx1 : x < 1000000000000000000000000000000000000003 := by rw [← hx]; exact Int.emod_lt_of_pos _ (by decide)
  have m1 : mulOk x 97 = true := mulOk_of (by omega) (by decide)
  have m2 : mulOk 2 (k : Int) = true := mulOk_of (by decide) (by omega)
  have h3 : (3 : Nat) ≤ 1000 := by decide
  refine ⟨if j - 1000000000000000000 > 0 then j - 1000000000000000000 else 0, x * 97 + 2 * (k : Int) + (if decide (i < 0) = true then 1 else 0), ?_, ?_⟩
  · simp -implicitDefEqProofs [F__law_source, runB, g__law_source, q18, q39, o1, hj, hx, m1, m2, src]
  · refine ⟨?_, ?_, ?_, by decide⟩
    · split <;> omega
    · split <;> omega
    · split <;> omega
theorem cut_ints (ns : List Int) (lo hi : Option Int) : ∃ ms : List Int, cutD (ns.map D.int) lo hi = ms.map D.int ∧ ms.length ≤ ns.length := by
  refine ⟨(ns.drop (HT.sIx ns.length 0 lo)).take (HT.sIx ns.length ns.length hi - HT.sIx ns.length 0 lo), ?_, ?_⟩
  · simp only [cutD, List.length_map, List.map_take, List.map_drop]
  · rw [List.length_take, List.length_drop]; omega
end My
set_option linter.all false
set_option maxRecDepth 100000
set_option maxHeartbeats 4000000
namespace My
open PySem PySem.Spec L2 Dm
/-! what every law wants, as runs that end well -/
/-- a cell that holds a source from which k more numbers can be drawn -/
def IsSrc (k : Nat) (x : C) : Prop := ∃ a b c : Int, x = src a b c ∧ Src a b c ∧ c + (k : Int) ≤ 36028797018963968
theorem IsSrc.mono {j k : Nat} {x : C} (h : IsSrc k x) (l : j ≤ k) : IsSrc j x := by
  obtain ⟨a, b, c, e, s, q⟩ := h
  exact ⟨a, b, c, e, s, by omega⟩
theorem draw_W {k q : Nat} {n : Nat} {cs : List C} {x : C} {Q : D → List C → Prop} (hn : cs[n]? = some x) (h : IsSrc (k + 1) x) (q0 : 0 < q) (q1 : q < 2 ^ 200)
    (hQ : ∀ (r : Nat) (x' : C), r < q → IsSrc k x' → Q (.int (r : Nat)) (cs.set n x')) : Wn (F__law_draw [.cell n, .int (q : Nat)] cs) Q := by
  obtain ⟨a, b, c, rfl, s, hc⟩ := h
  have p60 : (2 : Int) ^ 60 = 1152921504606846976 := by decide
  have q2 : ((q : Nat) : Int) < 2 ^ 200 := by exact_mod_cast q1
  obtain ⟨r, a', c', r0, r1, e, s', l⟩ := draw hn s (by omega) (k := (q : Int)) (by omega) q2
  refine .of e ?_
  have := hQ r.toNat (src a' b c') (by omega) ⟨a', b, c', rfl, s', by omega⟩
  rwa [Int.toNat_of_nonneg r0] at this
/-- .. by a number of the text -/
theorem draw_L {k : Nat} {q : Int} {cs : List C} {x : C} {Q : D → List C → Prop} (h : IsSrc (k + 1) x) (q0 : 0 < q) (q1 : q < 1000000000000000000000000000000000000)
    (hQ : ∀ (r : Nat) (x' : C), (r : Int) < q → IsSrc k x' → Q (.int (r : Nat)) (x' :: cs)) : Wn (F__law_draw [.cell 0, .int q] (x :: cs)) Q := by
  have e : q = ((q.toNat : Nat) : Int) := by omega
  rw [e]
  have p : (1000000000000000000000000000000000000 : Nat) < 2 ^ 200 := by decide +kernel
  exact draw_W (n := 0) rfl h (by omega) (by omega) fun r x' hr hx => hQ r x' (by omega) hx
theorem source_W {i : Int} {k : Nat} (hk : k ≤ 64) {Q : D → List C → Prop} (hQ : ∀ x, IsSrc 10000000000000000 x → Q (.cell 0) [x]) : Wn (F__law_source [.int i, .int (k : Nat)] []) Q := by
  obtain ⟨a, b, e, s⟩ := source1 i k hk
  exact .of e (hQ _ ⟨a, b, 0, rfl, s, by decide⟩)
/-- one of a list -/
theorem pick_W {xs : List D} (P : D → Prop) {r : Nat} {cs : List C} {Q : D → List C → Prop} (h : ∀ x ∈ xs, P x) (h1 : r < xs.length) (hQ : ∀ d, P d → Q d cs) : Wn (ixD (.lst xs) (.int (r : Nat)) cs) Q := by
  obtain ⟨d, e, p⟩ := pick (cs := cs) h (Int.natCast_nonneg r) (by omega)
  exact .of e (hQ d p)
def theS (ns : List Int) : Option D := some (.fro (ns.map D.int))
theorem clear_S (n : Nat) (ns : List Int) : clearO n (theS ns) = theS ns := by
  have : lowL n (ns.map D.int) = true := by
    induction ns with
    | nil => rfl
    | cons n ns ih => simp only [List.map_cons, lowL, low, ih, Bool.and_self]
  simp only [theS, clearO, low, this, if_true]
def iterM (m : Nat) : Ga := (iE (aCons (gSl (g2 addD (gVar 0) (gList (aCons (gC (.int 0)) (aNil)))) (oNone) (oSome (gA max2D (aCons (gC (.int 1)) (aCons (gA min2D (aCons (gA lenD (aCons (gVar 0) (aNil))) (aCons (gC (.int m)) (aNil)))) (aNil)))))) (aNil)))
theorem iterM_ok (m : Nat) (ns : List Int) (h : ns.length ≤ 63) (e : Env') (cs : List C) : ∃ ms : List Int, ms.length ≤ 64 ∧ iterM m (theS ns :: e) cs = .ok (enumD 0 (ms.map D.int)) cs := by
  unfold iterM
  obtain ⟨z, hz⟩ : ∃ z : Int, (m : Int) = z := ⟨_, rfl⟩
  rw [hz]
  obtain ⟨j, hj⟩ : ∃ j : Int, (if (if z < (ns.length : Int) then z else (ns.length : Int)) > 1 then (if z < (ns.length : Int) then z else (ns.length : Int)) else 1) = j := ⟨_, rfl⟩
  obtain ⟨ms, e1, l1⟩ := cut_ints (ns ++ [0]) none (some j)
  rw [List.length_append, List.length_singleton] at l1
  rw [List.map_append, List.map_singleton] at e1
  have sz : ns.length + 1 ≤ sizeLine := Nat.le_trans (Nat.add_le_add_right h 1) (by decide)
  refine ⟨ms, by omega, ?_⟩
  simp -implicitDefEqProofs [theS, addD, asL, asT, sz, lenD, asS, slD, hj, e1, asV]
/-- a law, by its turns and its end -/
theorem law_W {n m : Nat} {B T : Gs} (hF : F_law = runB (n + 3) (sSeq (sFor (iterM m) (tgTup 2 (tgCons (tgName 1) (tgCons (tgName 2) (tgNil)))) (sScope B)) T))
    (hB : ∀ (ns : List Int) (k : Nat) (i : Int) (e : Env'), k ≤ 64 → e.length = n → Wn (B (theS ns :: some (.int (k : Nat)) :: some (.int i) :: e) []) fun r _ => ∃ e', e'.length = n + 2 ∧ r = ⟨.nx, theS ns :: e'⟩)
    (hT : ∀ (ns : List Int) (e : Env'), e.length = n + 2 → Wn (T (theS ns :: e) []) fun r _ => ∃ e', r = ⟨.rt (.bl true), e'⟩) (ns : List Int) (h : ns.length ≤ 63) : ∃ cs, F_law [.fro (ns.map D.int)] [] = .ok (.bl true) cs := by
  have w : Wn (F_law [.fro (ns.map D.int)] []) fun d _ => d = .bl true := by
    rw [hF]
    refine wn_run (theS ns :: List.replicate (n + 2) none) rfl ?_
    rw [wn_seq, wn_for]
    obtain ⟨ms, hm, it⟩ := iterM_ok m ns h (List.replicate (n + 2) none) []
    rw [it, wn_ok, fk_def, enum_map]
    refine for_M _ (fun _ e cs => cs = [] ∧ ∃ e', e'.length = n + 2 ∧ e = theS ns :: e') _ _ _ ⟨rfl, _, by simp, rfl⟩ ?_ ?_
    · rintro ⟨i, k⟩ l' env cs hk ⟨rfl, e, he, rfl⟩
      obtain ⟨_, hk2⟩ := List.mem_zipIdx' hk
      have hk3 : k ≤ 64 := by
        have := List.mem_zipIdx hk
        omega
      match e, he with
      | a :: b :: e, he =>
        rw [List.length_cons, List.length_cons] at he
        rw [tt2]
        simp only [tn1, tn2, bind_ok, wn_ok, tk_def, wn_scope]
        refine (hB ns k i e hk3 (by omega)).mono fun r c ⟨e', l, q⟩ => ?_
        subst q
        refine ⟨by simp, ?_⟩
        rw [lk_nx]
        refine ⟨by simp, e'.map (clearO 0), by rw [List.length_map]; exact l, ?_⟩
        rw [List.map_cons, List.length_nil, clear_S]
    · rintro env cs ⟨rfl, e, he, rfl⟩
      rw [sk_nx]
      refine (hT ns e he).mono fun r c ⟨e', q⟩ => ?_
      subst q
      exact rfl
  obtain ⟨d, cs, e, rfl⟩ := w.to
  exact ⟨cs, e⟩
/-- the turns of a cell's loop, each in a scope of its own: so many draws in each -/
theorem turns_W {n c d f k : Nat} {B : Gs} {Q : Sg → List C → Prop} {x : C} {ns : List Int} {e2 : Option D} {e : Env'} (hc : c ≤ 1000) (he : e.length = n + 1) (hx : IsSrc (c * d + f) x)
    (hB : ∀ (t j : Nat) (x : C) (e2 : Option D) (e : Env'), t < c → e.length = n → IsSrc (j + d) x → Wn (B (theS ns :: some (.int (k : Nat)) :: e2 :: some (.cell 0) :: some (.int (t : Nat)) :: e) [x]) fun r cs =>
      ∃ e2' e' x' cs', r = ⟨.nx, theS ns :: some (.int (k : Nat)) :: e2' :: some (.cell 0) :: e'⟩ ∧ e'.length = n + 1 ∧ cs = x' :: cs' ∧ IsSrc j x')
    (hQ : ∀ e2' e' x', e'.length = n + 1 → IsSrc f x' → Q ⟨.nx, theS ns :: some (.int (k : Nat)) :: e2' :: some (.cell 0) :: e'⟩ [x']) :
    Wn (iR1 (aCons (gC (.int c)) (aNil)) (theS ns :: some (.int (k : Nat)) :: e2 :: some (.cell 0) :: e) [x]) (fk (tgName 4) (sScope B) (theS ns :: some (.int (k : Nat)) :: e2 :: some (.cell 0) :: e) Q) := by
  have it : iR1 (aCons (gC (.int c)) aNil) (theS ns :: some (.int (k : Nat)) :: e2 :: some (.cell 0) :: e) [x] = .ok (rngD 0 c) [x] := rng_nat _ c (by omega) rfl
  have rg : rngD 0 c = (List.range c).map fun t => D.int (t : Nat) := by
    unfold rngD
    refine List.map_congr_left fun t _ => ?_
    simp
  rw [it, wn_ok, fk_def, rg]
  refine for_M _ (fun l env cs => ∃ e2 e x, env = theS ns :: some (.int (k : Nat)) :: e2 :: some (.cell 0) :: e ∧ e.length = n + 1 ∧ cs = [x] ∧ IsSrc (l.length * d + f) x) _ _ _ ⟨e2, e, x, rfl, he, rfl, by rw [List.length_range]; exact hx⟩ ?_ ?_
  · rintro t l' env cs ht ⟨e2, e, x, rfl, he, rfl, hx⟩
    match e, he with
    | a :: e, he =>
      rw [List.length_cons] at he hx
      rw [tn4, wn_ok, tk_def, wn_scope]
      refine (hB t (l'.length * d + f) x e2 e (List.mem_range.mp ht) (by omega) (hx.mono (by rw [Nat.succ_mul]; omega))).mono fun r cs ⟨e2', e', x', cs', q1, q2, q3, q4⟩ => ?_
      subst q1 q3
      obtain ⟨a, b, c, rfl, s, hc⟩ := q4
      refine ⟨rfl, ?_⟩
      rw [lk_nx]
      refine ⟨clearO 1 e2', e'.map (clearO 1), src a b c, ?_, by rw [List.length_map]; exact q2, rfl, a, b, c, rfl, s, hc⟩
      simp only [List.length_singleton, List.map_cons, clear_S]
      rfl
  · rintro env cs ⟨e2, e, x, rfl, he, rfl, hx⟩
    exact hQ e2 e x he (hx.mono (by simp))
end My
set_option linter.all false
set_option maxRecDepth 100000
set_option maxHeartbeats 4000000
namespace My
open PySem PySem.Spec L2 Dm
/-! lists of numbers from 0 on -/
def nD (k : Nat) : D := .int (k : Nat)
theorem low_nats (n : Nat) : ∀ l : List Nat, lowL n (l.map nD) = true
  | [] => rfl
  | x :: l => by simp only [List.map_cons, lowL, nD, low, low_nats n l, Bool.and_self]
theorem melt_nats (n : Nat) (cs : List C) (f : Nat) : ∀ l : List Nat, (l.map nD).mapM (meltF n cs (f + 1)) = some (l.map nD)
  | [] => by simp
  | x :: l => by
    have : meltF n cs (f + 1) (nD x) = some (nD x) := by simp [nD, meltF, low]
    simp [this, melt_nats n cs f l]
theorem divs {w : Nat} (hw : 1 ≤ w) (hb : w < 2 ^ 150) (k : Nat) (cs : List C) : divD (nD k) (.int (w : Nat)) cs = .ok (nD (k / w)) cs := by
  have : divOk (k : Int) (w : Int) = true := divOk_pos (by omega) (by
    have : w < 2 ^ 200 := Nat.lt_trans hb (Nat.pow_lt_pow_right (by decide) (by decide))
    exact_mod_cast this)
  simp only [nD, divD_int, this, if_true]
  rfl
theorem comp_mapC {α : Type} {n0 : Nat} {ds0 : List D} {vs : List Nat} {gt : D → Env' → Option Env'} {tt : Gt} {ge : Gx} {env : Env'} {cs : List C} (hs : cs[n0]? = some (.lst ds0)) (k : α → D) (p : α → Bool) (g : α → D) : ∀ (l : List α) (acc : List D) (_ : acc.length + l.length ≤ sizeLine)
    (_ : ∀ x ∈ l, ∃ env1, gt (k x) (wipeD env vs) = some env1 ∧ tt env1 cs = .ok (p x) cs ∧ (p x = true → ge env1 cs = .ok (g x) cs)), compBC n0 ds0 vs gt tt (bodyE ge) (l.map k) env cs acc = .ok (acc ++ (l.filter p).map g) cs
  | [], acc, _, _ => by
    rw [List.map_nil, compBC, if_pos hs]
    simp
  | d :: ds, acc, hl, h => by
    rw [List.length_cons] at hl
    obtain ⟨env1, h1, h2, h3⟩ := h d List.mem_cons_self
    have ih := fun acc hl => comp_mapC (vs := vs) (gt := gt) (tt := tt) (ge := ge) (env := env) hs k p g ds acc hl fun y hy => h y (List.mem_cons_of_mem _ hy)
    rw [List.map_cons, compBC, if_pos hs, h1]
    simp -implicitDefEqProofs only [h2, bind_ok]
    cases hp : p d with
    | false =>
      rw [if_neg Bool.false_ne_true, ih acc (by omega), List.filter_cons, hp]
      rfl
    | true =>
      rw [if_pos rfl]
      have hb : bodyE ge env1 cs acc = .ok (acc ++ [g d]) cs := by
        unfold bodyE
        rw [h3 hp]
        show (if acc.length < sizeLine then _ else _) = _
        rw [if_pos (by omega)]
      rw [hb]
      show compBC n0 ds0 vs gt tt (bodyE ge) (ds.map k) env cs (acc ++ [g d]) = _
      rw [ih _ (by rw [List.length_append, List.length_singleton]; omega), List.filter_cons, hp]
      simp
theorem any_nat (x : Nat) : ∀ l : List Nat, anyF (nD x) (l.map nD) = some (decide (x ∈ l))
  | [] => rfl
  | y :: l => by
    have ih := any_nat x l
    simp only [List.map_cons, anyF, ih]
    simp only [nD, eqF, List.mem_cons]
    by_cases h1 : x = y
    · subst h1; simp
    · have h2 : ((y : Int) == (x : Int)) = false := beq_eq_false_iff_ne.mpr (by omega)
      by_cases h3 : x ∈ l <;> simp [h1, h2, h3]
theorem rng_nd (h : Nat) : rngD 0 h = (List.range h).map nD := by
  unfold rngD
  apply List.map_congr_left
  intro i _
  unfold nD
  rw [Int.zero_add]
theorem subK_nat (d : D) (env : Env') (n i : Nat) (cs : List C) : subK d env (.cell n) (nD i) cs = (putD n i d cs).bind fun _ cs => .ok env cs := rfl
end My
set_option linter.all false
set_option maxRecDepth 100000
set_option maxHeartbeats 4000000
namespace My
open PySem PySem.Spec L2 Dm
/-! numbers within bounds -/
theorem int_of (i l g : Int) (h1 : l ≤ i) (h2 : i ≤ g) (cs : List C) : callP F_is_within [.int i, .int l, .int g] cs = .ok (.bl true) cs := by
  have c1 : callP F_is_integer [.int i] [] = .ok (.bl true) [] := callP_val rfl (runB_rt (g := g_is_integer) (n := 1) (e := [some (.int i)]) (cs' := []) (by simp -implicitDefEqProofs [g_is_integer, isiD, tyName, isSub])) rfl
  exact callP_val rfl (runB_rt (g := g_is_within) (n := 3) (e := [some (.int i), some (.int l), some (.int g)]) (cs' := []) (by simp -implicitDefEqProofs [g_is_within, c1, h1, h2])) rfl
end My
set_option linter.all false
set_option maxRecDepth 100000
set_option maxHeartbeats 4000000
namespace My
open PySem PySem.Spec L2 Dm
/-! numbers of houses -/
theorem checkHouses {h : Nat} (h1 : 1 ≤ h) (hh : h ≤ 20) (cs : List C) : callP F_check_houses [nD h] cs = .ok .non cs := by
  have c1 : callP F_is_within [nD h, .int 1, .int 20] [] = .ok (.bl true) [] := int_of (h : Int) 1 20 (by omega) (by omega) []
  exact callP_val rfl (runB_nx (g := g_check_houses) (n := 1) (e := [some (nD h)]) (cs' := []) (by simp -implicitDefEqProofs [g_check_houses, k_MOST_HOUSES, c1])) rfl
end My
set_option linter.all false
set_option maxRecDepth 100000
set_option maxHeartbeats 4000000
namespace My
open PySem PySem.Spec L2 Dm
/-! schemes -/
inductive Plan where
  | late | lost (c : Nat) | again (c : Nat) | pool (o : Str)
def isOrder (o : Str) : Prop := o = "least" ∨ o = "greatest" ∨ o = "oldest" ∨ o = "newest"
def Plan.ok : Plan → Prop
  | .late => True
  | .lost c => 1 ≤ c ∧ c ≤ 999999999999999999999999999999
  | .again c => 1 ≤ c ∧ c ≤ 999999999999999999999999999999
  | .pool o => isOrder o
def planD : Plan → D
  | .late => .tup [.str "late"]
  | .lost c => .tup [.str "lost", nD c]
  | .again c => .tup [.str "again", nD c]
  | .pool o => .tup [.str "pool", .str o]
theorem isSize {w : Nat} (h1 : 1 ≤ w) (h2 : w ≤ 999999999999999999999999999999) (cs : List C) : callP F_is_size [nD w] cs = .ok (.bl true) cs := by
  have c1 := int_of w 1 999999999999999999999999999999 (by omega) (by omega) []
  exact callP_val rfl (run_eq (cs' := []) [some (nD w)] rfl (by
    have e : (nD w : D) = .int (w : Nat) := rfl
    rw [e]
    push_cast [g_is_size, k_GREATEST_SIZE, c1]
    exact ⟨trivial, trivial⟩)) rfl
theorem strne : (("late" : Str) = "pool") = False ∧ (("lost" : Str) = "pool") = False ∧ (("again" : Str) = "pool") = False ∧ (("lost" : Str) = "late") = False ∧ (("again" : Str) = "late") = False ∧ (("pool" : Str) = "late") = False ∧ (("again" : Str) = "lost") = False ∧ (("late" : Str) = "lost") = False ∧ (("pool" : Str) = "lost") = False ∧ (("late" : Str) = "again") = False ∧ (("lost" : Str) = "again") = False ∧ (("pool" : Str) = "again") = False := by
  refine ⟨?_, ?_, ?_, ?_, ?_, ?_, ?_, ?_, ?_, ?_, ?_, ?_⟩ <;> exact eq_false (by decide +kernel)
theorem isScheme {p : Plan} (h : p.ok) (cs : List C) : callP F_is_scheme [planD p] cs = .ok (.bl true) cs := by
  have ix0 : ∀ (a : D) (cs : List C), ixD (.tup [a]) (.int 0) cs = .ok a cs := fun a cs => rfl
  have ixb : ∀ (a b : D) (cs : List C), ixD (.tup [a, b]) (.int 0) cs = .ok a cs := fun a b cs => rfl
  have ix1 : ∀ (a b : D) (cs : List C), ixD (.tup [a, b]) (.int 1) cs = .ok b cs := fun a b cs => rfl
  have t1 : ∀ (l : List D) (cs : List C), isiD [.tup l, .ty "tuple"] cs = .ok (.bl true) cs := fun l cs => by simp [isiD, tyName, isSub]
  have t2 : ∀ (x : Str) (cs : List C), isiD [.str x, .ty "str"] cs = .ok (.bl true) cs := fun x cs => by simp [isiD, tyName, isSub]
  have l1 : ∀ (a : D) (cs : List C), lenD [.tup [a]] cs = .ok (.int 1) cs := fun a cs => rfl
  have l2 : ∀ (a b : D) (cs : List C), lenD [.tup [a, b]] cs = .ok (.int 2) cs := fun a b cs => rfl
  have n1 : ∀ cs : List C, inD true (.int 1) (.tup [.int 1, .int 2]) cs = .ok (.bl false) cs := fun cs => rfl
  have n2 : ∀ cs : List C, inD true (.int 2) (.tup [.int 1, .int 2]) cs = .ok (.bl false) cs := fun cs => rfl
  have n3 : ∀ cs : List C, inD false (.str "lost") (.tup [.str "lost", .str "again"]) cs = .ok (.bl true) cs := fun cs => by simp [inD, asS, asL, asT, flatD, anyF, eqF]
  have n4 : ∀ cs : List C, inD false (.str "again") (.tup [.str "lost", .str "again"]) cs = .ok (.bl true) cs := fun cs => by simp [inD, asS, asL, asT, flatD, anyF, eqF]
  have d12 : ((2 : Int) = 1) = False := eq_false (by decide)
  refine callP_val (by cases p <;> rfl) (run_eq (cs' := []) [some (planD p), none] rfl ?_) rfl
  cases p with
  | late =>
    unfold planD
    push_cast [g_is_scheme, ix0, t1, t2, l1, n1, Bool.not_true]
    exact ⟨trivial, trivial⟩
  | lost c =>
    have s := fun cs => isSize h.1 h.2 cs
    unfold planD
    push_cast [g_is_scheme, ixb, ix1, t1, t2, l2, n2, n3, d12, strne, s, Bool.not_true]
    exact ⟨trivial, trivial⟩
  | again c =>
    have s := fun cs => isSize h.1 h.2 cs
    unfold planD
    push_cast [g_is_scheme, ixb, ix1, t1, t2, l2, n2, n4, d12, strne, s, Bool.not_true]
    exact ⟨trivial, trivial⟩
  | pool o =>
    have q : ∀ cs : List C, inD false (.str o) k_ORDERS cs = .ok (.bl true) cs := fun cs => by
      rcases h with rfl | rfl | rfl | rfl <;> simp [k_ORDERS, inD, asS, asL, asT, flatD, anyF, eqF]
    unfold planD
    push_cast [g_is_scheme, ixb, ix1, t1, t2, l2, n2, d12, q, Bool.not_true]
    exact ⟨trivial, trivial⟩
theorem checkScheme {p : Plan} (h : p.ok) (cs : List C) : callP F_check_scheme [planD p] cs = .ok .non cs := by
  have s := isScheme h []
  refine callP_val (by cases p <;> rfl) (run_eq (cs' := []) [some (planD p)] rfl ?_) rfl
  push_cast [g_check_scheme, s, Bool.not_true]
  exact ⟨trivial, trivial⟩
theorem planD_low (p : Plan) (n : Nat) : low n (planD p) = true := by cases p <;> rfl
theorem planD_sane {p : Plan} (h : p.ok) : sane (planD p) = true ∧ tw (planD p) ≤ 250 ∧ dpt (planD p) = 1 := by
  have b : ∀ c : Nat, c ≤ 999999999999999999999999999999 → sane (nD c) = true ∧ tw (nD c) ≤ 102 := fun c hc => by
    have := log2_lt (x := c) (k := 100) (by decide) (Nat.lt_of_le_of_lt hc (by decide))
    refine ⟨by simp [nD, sane]; omega, by simp only [nD, tw, Int.natAbs_natCast]; omega⟩
  cases p with
  | late => exact ⟨by decide +kernel, by decide +kernel, by decide +kernel⟩
  | lost c =>
    have := b c h.2
    have s : PyData.strOk "lost" = true := by decide +kernel
    have t : tw (.str "lost") = 42 := by decide +kernel
    refine ⟨by simp [planD, sane, saneL, this.1, s], by simp only [planD, tw, twL] at *; omega, rfl⟩
  | again c =>
    have := b c h.2
    have s : PyData.strOk "again" = true := by decide +kernel
    have t : tw (.str "again") = 52 := by decide +kernel
    refine ⟨by simp [planD, sane, saneL, this.1, s], by simp only [planD, tw, twL] at *; omega, rfl⟩
  | pool o => rcases h with rfl | rfl | rfl | rfl <;> exact ⟨by decide +kernel, by decide +kernel, by decide +kernel⟩
theorem order_pick {r : Nat} (hr : r < 4) {cs : List C} {Q : D → List C → Prop} (hQ : ∀ o, isOrder o → Q (.str o) cs) : Wn (ixD (.lst [.str "least", .str "greatest", .str "oldest", .str "newest"]) (.int (r : Nat)) cs) Q := by
  refine pick_W (fun d => ∃ o, d = .str o ∧ isOrder o) ?_ (by simpa using hr) ?_
  · intro y hy
    simp only [List.mem_cons, List.not_mem_nil, or_false] at hy
    rcases hy with rfl | rfl | rfl | rfl
    · exact ⟨_, rfl, .inl rfl⟩
    · exact ⟨_, rfl, .inr (.inl rfl)⟩
    · exact ⟨_, rfl, .inr (.inr (.inl rfl))⟩
    · exact ⟨_, rfl, .inr (.inr (.inr rfl))⟩
  · rintro _ ⟨o, rfl, h⟩
    exact hQ o h
end My
set_option linter.all false
set_option maxRecDepth 100000
set_option maxHeartbeats 4000000
namespace My
open PySem PySem.Spec L2 Dm
/-! the least and the greatest of numbers from 0 on; comparisons of such numbers -/
theorem intsOf_nats : ∀ l : List Nat, intsOf (l.map nD) = some (l.map fun (k : Nat) => (k : Int))
  | [] => rfl
  | k :: l => by
    rw [List.map_cons, nD, intsOf, intsOf_nats l]
    rfl
theorem minL_nats {l : List Nat} {v : Nat} (hv : v ∈ l) (hl : ∀ y ∈ l, v ≤ y) (cs : List C) : minLD [.lst (l.map nD)] cs = .ok (nD v) cs := by
  have e : leastOf (l.map fun (k : Nat) => (k : Int)) = some (v : Int) := by
    cases l with
    | nil => cases hv
    | cons x l =>
      rw [List.map_cons, leastOf]
      congr 1
      have m := least_mem (l.map fun (k : Nat) => (k : Int)) (x : Int)
      have q := least_le (l.map fun (k : Nat) => (k : Int)) (x : Int)
      have a : (l.map fun (k : Nat) => (k : Int)).foldl (fun m k => if k < m then k else m) (x : Int) ≤ (v : Int) := by
        rcases List.mem_cons.mp hv with rfl | hv
        · exact q.1
        · exact q.2 _ (List.mem_map.mpr ⟨v, hv, rfl⟩)
      have b : (v : Int) ≤ (l.map fun (k : Nat) => (k : Int)).foldl (fun m k => if k < m then k else m) (x : Int) := by
        rcases List.mem_cons.mp m with m | m
        · rw [m]
          have := hl x List.mem_cons_self
          omega
        · obtain ⟨y, hy, e⟩ := List.mem_map.mp m
          rw [← e]
          have := hl y (List.mem_cons_of_mem _ hy)
          omega
      omega
  simp only [minLD, asL, intsOf_nats, Option.bind_some, e]
  rfl
theorem maxL_nats {l : List Nat} {v : Nat} (hv : v ∈ l) (hl : ∀ y ∈ l, y ≤ v) (cs : List C) : maxLD [.lst (l.map nD)] cs = .ok (nD v) cs := by
  have e : mostOf (l.map fun (k : Nat) => (k : Int)) = some (v : Int) := by
    cases l with
    | nil => cases hv
    | cons x l =>
      rw [List.map_cons, mostOf]
      congr 1
      have m := most_mem (l.map fun (k : Nat) => (k : Int)) (x : Int)
      have q := most_le (l.map fun (k : Nat) => (k : Int)) (x : Int)
      have a : (v : Int) ≤ (l.map fun (k : Nat) => (k : Int)).foldl (fun m k => if m < k then k else m) (x : Int) := by
        rcases List.mem_cons.mp hv with rfl | hv
        · exact q.1
        · exact q.2 _ (List.mem_map.mpr ⟨v, hv, rfl⟩)
      have b : (l.map fun (k : Nat) => (k : Int)).foldl (fun m k => if m < k then k else m) (x : Int) ≤ (v : Int) := by
        rcases List.mem_cons.mp m with m | m
        · rw [m]
          have := hl x List.mem_cons_self
          omega
        · obtain ⟨y, hy, e⟩ := List.mem_map.mp m
          rw [← e]
          have := hl y (List.mem_cons_of_mem _ hy)
          omega
      omega
  simp only [maxLD, asL, intsOf_nats, Option.bind_some, e]
  rfl
theorem mul_nat {a b : Nat} (ha : a < 2 ^ 200) (hb : b < 2 ^ 200) (cs : List C) : mulD (nD a) (nD b) cs = .ok (nD (a * b)) cs := by
  have h : mulOk (a : Int) (b : Int) = true := mulOk_of (by rw [Int.natAbs_natCast]; exact Nat.lt_trans ha (Nat.pow_lt_pow_right (by decide) (by decide))) (by rw [Int.natAbs_natCast]; exact Nat.lt_trans hb (Nat.pow_lt_pow_right (by decide) (by decide)))
  simp only [nD, mulD_int, h, if_true]
  rfl
theorem p200 {c : Nat} (h : c ≤ 999999999999999999999999999999) : c < 2 ^ 200 := Nat.lt_trans (Nat.lt_of_le_of_lt h (by decide : _ < 2 ^ 100)) (Nat.pow_lt_pow_right (by decide) (by decide))
theorem add_nat (a b : Nat) (cs : List C) : addD (nD a) (nD b) cs = .ok (nD (a + b)) cs := rfl
theorem add_one (a : Nat) (cs : List C) : addD (nD a) (.int 1) cs = .ok (nD (a + 1)) cs := rfl
theorem sub_nat {a b : Nat} (h : b ≤ a) (cs : List C) : subD (nD a) (nD b) cs = .ok (nD (a - b)) cs := by
  show Out.ok (D.int ((a : Int) - (b : Int))) cs = _
  rw [show ((a : Int) - (b : Int)) = ((a - b : Nat) : Int) by omega]
  rfl
theorem min_nat (a b : Nat) (cs : List C) : min2D [nD a, nD b] cs = .ok (nD (min a b)) cs := by
  show Out.ok (D.int (if (b : Int) < (a : Int) then (b : Int) else (a : Int))) cs = _
  unfold nD
  congr 2
  split <;> omega
theorem max_nat (a b : Nat) (cs : List C) : max2D [nD a, nD b] cs = .ok (nD (max a b)) cs := by
  show Out.ok (D.int (if (b : Int) > (a : Int) then (b : Int) else (a : Int))) cs = _
  unfold nD
  congr 2
  split <;> omega
theorem lt_nat (a b : Nat) (cs : List C) : ltD (nD a) (nD b) cs = .ok (.bl (decide (a < b))) cs := by
  show Out.ok (D.bl (decide ((a : Int) < (b : Int)))) cs = _
  congr 2
  exact decide_eq_decide.mpr (by omega)
theorem le_nat (a b : Nat) (cs : List C) : leD (nD a) (nD b) cs = .ok (.bl (decide (a ≤ b))) cs := by
  show Out.ok (D.bl (decide ((a : Int) ≤ (b : Int)))) cs = _
  congr 2
  exact decide_eq_decide.mpr (by omega)
theorem gt_nat (a b : Nat) (cs : List C) : gtD (nD a) (nD b) cs = .ok (.bl (decide (b < a))) cs := by
  show Out.ok (D.bl (decide ((b : Int) < (a : Int)))) cs = _
  congr 2
  exact decide_eq_decide.mpr (by omega)
theorem gt_one (a : Nat) (cs : List C) : gtD (nD a) (.int 1) cs = .ok (.bl (decide (1 < a))) cs := gt_nat a 1 cs
theorem eq_nat (neg : Bool) (a b : Nat) (cs : List C) : eqD neg (nD a) (nD b) cs = .ok (.bl (if neg then !decide (a = b) else decide (a = b))) cs := by
  show eqD neg (.int (a : Nat)) (.int (b : Nat)) cs = _
  rw [eqD_int]
  rw [decide_eq_decide.mpr (Int.ofNat_inj : (a : Int) = b ↔ a = b)]
theorem eq_one (neg : Bool) (a : Nat) (cs : List C) : eqD neg (nD a) (.int 1) cs = .ok (.bl (if neg then !decide (a = 1) else decide (a = 1))) cs := eq_nat neg a 1 cs
theorem in_nats (neg : Bool) (x : Nat) (l : List Nat) (cs : List C) : inD neg (nD x) (.lst (l.map nD)) cs = .ok (.bl (if neg then !decide (x ∈ l) else decide (x ∈ l))) cs := by
  simp only [inD, asS, asL, any_nat]
  rfl
theorem len_nats (l : List Nat) (cs : List C) : lenD [.lst (l.map nD)] cs = .ok (nD l.length) cs := by
  show Out.ok (D.int ((l.map nD).length : Nat)) cs = _
  rw [List.length_map]
  rfl
theorem cat_nats {l r : List Nat} (h : l.length + r.length ≤ 1000000) (cs : List C) : addD (.lst (l.map nD)) (.lst (r.map nD)) cs = .ok (.lst ((l ++ r).map nD)) cs := by
  have sz : (1000000 : Nat) ≤ sizeLine := by decide
  rw [add_lst (by rw [List.length_map, List.length_map]; omega), List.map_append]
end My
set_option linter.all false
set_option maxRecDepth 100000
set_option maxHeartbeats 4000000
namespace My
open PySem PySem.Spec L2 Dm
/-! wishes: lists of them *)-/
inductive Ws where
  | early | full | rest | asc | kept | free
  deriving DecidableEq
def Ws.str : Ws → Str
  | .early => "early" | .full => "full" | .rest => "rest" | .asc => "ascending" | .kept => "kept" | .free => "free"
def wsD (w : Ws) : D := .str w.str
theorem str_ne : ∀ a b : Ws, a ≠ b → a.str ≠ b.str := by
  intro a b h
  cases a <;> cases b <;> first
    | exact (h rfl).elim
    | (simp only [Ws.str]; decide +kernel)
theorem str_eq (a b : Ws) : (a.str == b.str) = decide (a = b) := by
  by_cases h : a = b
  · subst h; simp
  · rw [decide_eq_false h]
    exact beq_eq_false_iff_ne.mpr (str_ne a b h)
theorem any_ws (w : Ws) : ∀ l : List Ws, anyF (.str w.str) (l.map wsD) = some (decide (w ∈ l))
  | [] => rfl
  | a :: l => by
    rw [List.map_cons, anyF, any_ws w l]
    have : eqF (wsD a) (.str w.str) = some (decide (a = w)) := by rw [← str_eq]; rfl
    rw [this]
    simp only [Option.some.injEq]
    by_cases h : a = w
    · simp [h]
    · have h2 : ¬ w = a := fun z => h z.symm
      simp [h, h2]
theorem in_ws (neg : Bool) (w : Ws) (l : List Ws) (cs : List C) : inD neg (.str w.str) (.lst (l.map wsD)) cs = .ok (.bl (if neg then !decide (w ∈ l) else decide (w ∈ l))) cs := by
  have f : flatD (.str w.str) = true := rfl
  unfold inD
  simp only [asS, asL, f, if_true, any_ws]
theorem isWish (w : Ws) (cs : List C) : callP F__is_wish [wsD w] cs = .ok (.bl true) cs := by
  have i1 : ∀ x cs, isiD [.str x, .ty "str"] cs = .ok (.bl true) cs := fun x cs => by simp [isiD, tyName, isSub]
  have i2 : ∀ cs, inD false (.str w.str) k_WISHES cs = .ok (.bl true) cs := fun cs => by
    have a := any_ws w [.early, .full, .rest, .asc, .kept, .free]
    have e : decide (w ∈ [Ws.early, .full, .rest, .asc, .kept, .free]) = true := by cases w <;> rfl
    rw [e] at a
    show inD false (.str w.str) (.tup ([Ws.early, .full, .rest, .asc, .kept, .free].map wsD)) cs = _
    have f : flatD (.str w.str) = true := rfl
    unfold inD
    simp only [asS, asT, asL, f, if_true, a]
    rfl
  refine callP_val rfl (run_eq (cs' := []) [some (wsD w)] rfl ?_) rfl
  unfold wsD
  push_cast [g__is_wish, i1, i2]
  exact ⟨by first | trivial | rfl, by first | trivial | rfl⟩
theorem checkFalls (b : Bool) (cs : List C) : callP F__check_falls [.bl b] cs = .ok .non cs := by
  have i1 : ∀ cs, isiD [.bl b, .ty "bool"] cs = .ok (.bl true) cs := fun cs => by simp [isiD, tyName, isSub]
  refine callP_val rfl (run_eq (cs' := []) [some (.bl b)] rfl ?_) rfl
  push_cast [g__check_falls, i1, Bool.not_true]
  exact ⟨by first | trivial | rfl, by first | trivial | rfl⟩
theorem low_ws : ∀ l : List Ws, lowL 0 (l.map wsD) = true
  | [] => rfl
  | a :: l => by rw [List.map_cons, lowL, low_ws l]; rfl
theorem many_ws {l : List Ws} (h : l.Nodup) (hl : l.length ≤ 100) (cs : List C) : lenSetSD (.lst (l.map wsD)) cs = .ok (nD l.length) cs := by
  have e : l.map wsD = (l.map Ws.str).map D.str := by rw [List.map_map]; rfl
  have nd : (l.map Ws.str).Nodup := List.Pairwise.map _ (fun a b z => str_ne a b z) h
  unfold lenSetSD
  rw [e]
  simp only [asL, strsOf_map]
  rw [if_pos (by rw [List.length_map]; omega), manyS_eq nd fun x => Iff.rfl, List.length_map]
  rfl
theorem checkWishes {l : List Ws} (hn : l.Nodup) (hl : l.length ≤ 100) {h : Nat} (h1 : 1 ≤ h) (hh : h ≤ 20) (b : Bool) (cs : List C) : callP F__check_wishes [.lst (l.map wsD), nD h, .bl b] cs = .ok .non cs := by
  have lw : lowL 0 [.lst (l.map wsD), nD h, .bl b] = true := by simp only [lowL, low, low_ws, Bool.and_self, nD]
  have i1 : ∀ xs cs, isiD [.lst xs, .ty "list"] cs = .ok (.bl true) cs := fun xs cs => by simp [isiD, tyName, isSub]
  have cp : ∀ (e1 e2 e3 : Option D) cs, gComp [3] (iL (gVar 0)) (tcName 3) (fun _ cs => .ok true cs) (gA (argN 1 (callP F__is_wish)) (aCons (gVar 3) (aNil))) [some (.lst (l.map wsD)), e1, e2, e3] cs = .ok (.lst (l.map fun _ => D.bl true)) cs := fun e1 e2 e3 cs => by
    refine comp_eq wsD (fun _ => .bl true) l (by omega) rfl fun w _ => ?_
    have := isWish w
    show gA (argN 1 (callP F__is_wish)) (aCons (gVar 3) (aNil)) [some (.lst (l.map wsD)), e1, e2, some (wsD w)] cs = _
    push_cast [this]
  have al : ∀ cs, allD [.lst (l.map fun _ => D.bl true)] cs = .ok (.bl true) cs := fun cs => by
    have : ∀ l : List Ws, boolsOf (l.map fun _ => D.bl true) = some (l.map fun _ => true) := fun l => by
      induction l with
      | nil => rfl
      | cons a l ih => rw [List.map_cons, boolsOf, ih]; rfl
    unfold allD
    simp only [asL, this]
    congr 2
    simp
  have gl : ∀ g env cs, gLenLS g env cs = (g env cs).bind lenSetSD := fun _ _ _ => rfl
  have ms := fun cs => many_ws hn hl cs
  have ln : ∀ cs, lenD [.lst (l.map wsD)] cs = .ok (nD l.length) cs := fun cs => by
    simp only [lenD, asS, asL, List.length_map]
    rfl
  have lt := lt_nat l.length l.length
  rw [decide_eq_false (Nat.lt_irrefl _)] at lt
  have k1 := fun cs => checkHouses h1 hh cs
  have k2 := fun cs => checkFalls b cs
  obtain ⟨CP, hCP⟩ : ∃ G, gComp [3] (iL (gVar 0)) (tcName 3) (fun _ cs => .ok true cs) (gA (argN 1 (callP F__is_wish)) (aCons (gVar 3) (aNil))) = G := ⟨_, rfl⟩
  obtain ⟨L, hL⟩ : ∃ L, D.lst (l.map wsD) = L := ⟨_, rfl⟩
  obtain ⟨L2', hL2⟩ : ∃ L, D.lst (l.map fun _ => D.bl true) = L := ⟨_, rfl⟩
  have i1 : ∀ cs, isiD [L, .ty "list"] cs = .ok (.bl true) cs := fun cs => by rw [← hL]; exact i1 _ cs
  rw [hCP, hL, hL2] at cp
  rw [hL2] at al
  rw [hL] at lw ms ln ⊢
  refine callP_val lw (run_eq (cs' := []) [some L, some (nD h), some (.bl b), none] rfl ?_) rfl
  unfold g__check_wishes
  rw [hCP]
  push_cast [i1, Bool.not_true, Bool.not_false, cp, al, gl, ms, ln, lt, k1, k2]
  exact ⟨by first | trivial | rfl, by first | trivial | rfl⟩
/-- such wishes can be had together -/
def cgW (l : List Ws) (h : Nat) : Bool := decide (h = 1) || !decide (.early ∈ l) || !decide (.free ∈ l) || !(decide (.full ∈ l) || decide (.rest ∈ l) || decide (.asc ∈ l))
theorem canGrant (l : List Ws) (h : Nat) (cs : List C) : callP F__can_grant [.lst (l.map wsD), nD h] cs = .ok (.bl (cgW l h)) cs := by
  have lw : lowL 0 [.lst (l.map wsD), nD h] = true := by simp only [lowL, low, low_ws, Bool.and_self, nD]
  have e1 := eq_one false h
  simp only [Bool.false_eq_true, if_false] at e1
  have a1 := in_ws true .early l
  have a2 := in_ws true .free l
  simp only [if_true] at a1 a2
  have a1 : ∀ cs, inD true (.str "early") (.lst (l.map wsD)) cs = .ok (.bl (!decide (.early ∈ l))) cs := a1
  have a2 : ∀ cs, inD true (.str "free") (.lst (l.map wsD)) cs = .ok (.bl (!decide (.free ∈ l))) cs := a2
  have cp : ∀ (e1 e2 : Option D) cs, gComp [2] (iT (gC k_IN_SEQUENCE)) (tcName 2) (fun _ cs => .ok true cs) (g2 (inD false) (gVar 2) (gVar 0)) [some (.lst (l.map wsD)), e1, e2] cs = .ok (.lst ([Ws.full, .rest, .asc].map fun w => D.bl (decide (w ∈ l)))) cs := fun e1 e2 cs => by
    refine comp_eq wsD (fun w => .bl (decide (w ∈ l))) [Ws.full, .rest, .asc] (by decide) rfl fun w _ => ?_
    have := in_ws false w l
    simp only [Bool.false_eq_true, if_false] at this
    show g2 (inD false) (gVar 2) (gVar 0) [some (.lst (l.map wsD)), e1, some (.str w.str)] cs = _
    push_cast [this]
  have an : ∀ cs, anyD [.lst ([Ws.full, .rest, .asc].map fun w => D.bl (decide (w ∈ l)))] cs = .ok (.bl (decide (.full ∈ l) || decide (.rest ∈ l) || decide (.asc ∈ l))) cs := fun cs => by
    unfold anyD
    simp only [asL, List.map_cons, List.map_nil, blsOf]
    congr 2
    simp [Bool.or_assoc]
  obtain ⟨CP, hCP⟩ : ∃ G, gComp [2] (iT (gC k_IN_SEQUENCE)) (tcName 2) (fun _ cs => .ok true cs) (g2 (inD false) (gVar 2) (gVar 0)) = G := ⟨_, rfl⟩
  obtain ⟨L, hL⟩ : ∃ L, D.lst (l.map wsD) = L := ⟨_, rfl⟩
  obtain ⟨L2', hL2⟩ : ∃ L, D.lst ([Ws.full, .rest, .asc].map fun w => D.bl (decide (w ∈ l))) = L := ⟨_, rfl⟩
  rw [hCP, hL, hL2] at cp
  rw [hL2] at an
  rw [hL] at lw a1 a2 ⊢
  unfold cgW
  obtain ⟨z, hz⟩ : ∃ z, (decide (.full ∈ l) || decide (.rest ∈ l) || decide (.asc ∈ l)) = z := ⟨_, rfl⟩
  rw [hz] at an ⊢
  obtain ⟨b0, h0⟩ : ∃ z, decide (h = 1) = z := ⟨_, rfl⟩
  obtain ⟨b1, h1⟩ : ∃ z, decide (Ws.early ∈ l) = z := ⟨_, rfl⟩
  obtain ⟨b2, h2⟩ : ∃ z, decide (Ws.free ∈ l) = z := ⟨_, rfl⟩
  rw [h0] at e1 ⊢
  rw [h1] at a1 ⊢
  rw [h2] at a2 ⊢
  refine callP_val lw (run_eq (cs' := []) [some L, some (nD h), none] rfl ?_) rfl
  unfold g__can_grant
  rw [hCP]
  cases b0 with
  | true =>
    push_cast [e1]
    exact ⟨by first | trivial | rfl, by first | trivial | rfl⟩
  | false =>
    cases b1 with
    | false =>
      push_cast [e1, a1, Bool.not_false]
      exact ⟨by first | trivial | rfl, by first | trivial | rfl⟩
    | true =>
      cases b2 with
      | false =>
        push_cast [e1, a1, a2, Bool.not_false, Bool.not_true]
        exact ⟨by first | trivial | rfl, by first | trivial | rfl⟩
      | true =>
        push_cast [e1, a1, a2, Bool.not_false, Bool.not_true, cp, an]
        exact ⟨by first | trivial | rfl, by first | trivial | rfl⟩
theorem canHave {l : List Ws} (hn : l.Nodup) (hl : l.length ≤ 100) {h : Nat} (h1 : 1 ≤ h) (hh : h ≤ 20) (b : Bool) (cs : List C) : callP F_can_have [.lst (l.map wsD), nD h, .bl b] cs = .ok (.bl (cgW l h)) cs := by
  have lw : lowL 0 [.lst (l.map wsD), nD h, .bl b] = true := by simp only [lowL, low, low_ws, Bool.and_self, nD]
  have k1 := fun cs => checkWishes hn hl h1 hh b cs
  have k2 := fun cs => canGrant l h cs
  obtain ⟨L, hL⟩ : ∃ L, D.lst (l.map wsD) = L := ⟨_, rfl⟩
  rw [hL] at lw k1 k2 ⊢
  refine callP_val lw (run_eq (cs' := []) [some L, some (nD h), some (.bl b)] rfl ?_) rfl
  push_cast [g_can_have, k1, k2]
  exact ⟨by first | trivial | rfl, by first | trivial | rfl⟩
def rfW (l : List Ws) (h : Nat) : D := if cgW l h then (if .early ∈ l then (if .free ∈ l then .tup [.tup [.str "pool", .str "least"], .non] else .tup [.tup [.str "pool", .str "least"], .int 0]) else .tup [.tup [.str "late"], .non]) else .non
theorem ruleFor {l : List Ws} (hn : l.Nodup) (hl : l.length ≤ 100) {h : Nat} (h1 : 1 ≤ h) (hh : h ≤ 20) (b : Bool) (cs : List C) : callP F_rule_for [.lst (l.map wsD), nD h, .bl b] cs = .ok (rfW l h) cs := by
  have lw : lowL 0 [.lst (l.map wsD), nD h, .bl b] = true := by simp only [lowL, low, low_ws, Bool.and_self, nD]
  have k1 := fun cs => checkWishes hn hl h1 hh b cs
  have k2 := fun cs => canGrant l h cs
  have a1 := in_ws true .early l
  have a2 := in_ws false .free l
  simp only [if_true, Bool.false_eq_true, if_false] at a1 a2
  have a1 : ∀ cs, inD true (.str "early") (.lst (l.map wsD)) cs = .ok (.bl (!decide (.early ∈ l))) cs := a1
  have a2 : ∀ cs, inD false (.str "free") (.lst (l.map wsD)) cs = .ok (.bl (decide (.free ∈ l))) cs := a2
  obtain ⟨L, hL⟩ : ∃ L, D.lst (l.map wsD) = L := ⟨_, rfl⟩
  rw [hL] at lw k1 k2 a1 a2 ⊢
  have lr : low 0 (rfW l h) = true := by
    unfold rfW
    split
    · split
      · split <;> rfl
      · rfl
    · rfl
  refine callP_val lw (run_eq (cs' := []) [some L, some (nD h), some (.bl b)] rfl ?_) lr
  unfold rfW
  cases c : cgW l h with
  | false =>
    rw [c] at k2
    push_cast [g_rule_for, k1, k2, Bool.not_false]
    exact ⟨by first | trivial | rfl, by first | trivial | rfl⟩
  | true =>
    rw [c] at k2
    by_cases e : Ws.early ∈ l
    · rw [decide_eq_true e] at a1
      rw [if_pos e]
      by_cases f : Ws.free ∈ l
      · rw [decide_eq_true f] at a2
        rw [if_pos f]
        push_cast [g_rule_for, k1, k2, a1, a2, Bool.not_true]
        exact ⟨by first | trivial | rfl, by first | trivial | rfl⟩
      · rw [decide_eq_false f] at a2
        rw [if_neg f]
        push_cast [g_rule_for, k1, k2, a1, a2, Bool.not_true]
        exact ⟨by first | trivial | rfl, by first | trivial | rfl⟩
    · rw [decide_eq_false e] at a1
      rw [if_neg e]
      push_cast [g_rule_for, k1, k2, a1, Bool.not_true, Bool.not_false]
      exact ⟨by first | trivial | rfl, by first | trivial | rfl⟩
end My
set_option linter.all false
set_option maxRecDepth 100000
set_option maxHeartbeats 4000000
namespace My
open PySem PySem.Spec L2 Dm
/-! rules and what they grant, two houses or more *)-/
def capD : Option Nat → D
  | none => .non
  | some c => nD c
def ruD (p : Plan) (cap : Option Nat) : D := .tup [planD p, capD cap]
def Plan.bud : Plan → Bool
  | .again _ => true
  | .pool _ => true
  | _ => false
structure RuOk (p : Plan) (cap : Option Nat) : Prop where
  ok : p.ok
  bd : ∀ c, cap = some c → p.bud = true ∧ c ≤ 1000000000000000000000000000000
def lsP : Plan → Nat
  | .again c => c
  | .lost c => c
  | _ => 1
theorem ru_low (p : Plan) (cap : Option Nat) : low 0 (ruD p cap) = true := by
  have := planD_low p 0
  cases cap <;> simp [ruD, capD, low, lowL, this, nD]
theorem isNatP (c : Nat) (cs : List C) : callP F_is_natural [nD c] cs = .ok (.bl true) cs := by
  have i0 : ∀ cs, callP F_is_integer [.int (c : Nat)] cs = .ok (.bl true) cs := fun cs => callP_val rfl (runB_rt (g := g_is_integer) (n := 1) (e := [some (.int (c : Nat))]) (cs' := []) (by simp -implicitDefEqProofs [g_is_integer, isiD, tyName, isSub])) rfl
  have i1 : ∀ cs, callP F_is_integer [nD c] cs = .ok (.bl true) cs := i0
  have ge : ∀ cs, geD (nD c) (.int 0) cs = .ok (.bl true) cs := fun cs => by
    show geD (.int (c : Nat)) (.int 0) cs = _
    rw [geD_int]
    congr 2
  refine callP_val rfl (run_eq (cs' := []) [some (nD c)] rfl ?_) rfl
  push_cast [g_is_natural, i1, ge]
  exact ⟨by first | trivial | rfl, by first | trivial | rfl⟩
theorem isBud {p : Plan} {cap : Option Nat} (R : RuOk p cap) (cs : List C) : callP F_is_scheme_with_budget [ruD p cap] cs = .ok (.bl true) cs := by
  have lw : lowL 0 [ruD p cap] = true := by simp only [lowL, ru_low, Bool.and_self]
  have k1 := fun cs => isScheme R.ok cs
  have i1 : ∀ xs cs, isiD [.tup xs, .ty "tuple"] cs = .ok (.bl true) cs := fun xs cs => by simp [isiD, tyName, isSub]
  have l2 : ∀ (a b : D) cs, lenD [.tup [a, b]] cs = .ok (.int 2) cs := fun a b cs => rfl
  cases cap with
  | none =>
    have n0 : ∀ cs, isD false .non .non cs = .ok (.bl true) cs := fun cs => rfl
    refine callP_val lw (run_eq (cs' := []) [some (ruD p none), none, none] rfl ?_) rfl
    unfold ruD capD
    obtain ⟨P, hP⟩ : ∃ P, planD p = P := ⟨_, rfl⟩
    rw [hP] at k1 ⊢
    push_cast [g_is_scheme_with_budget, i1, l2, Bool.not_true, k1, n0]
    exact ⟨by first | trivial | rfl, by first | trivial | rfl⟩
  | some c =>
    have n0 : ∀ cs, isD false (nD c) .non cs = .ok (.bl false) cs := fun cs => rfl
    have k2 := isNatP c
    have k3 : ∀ cs, (g2 (inD false) (g2 ixD (gVar 1) (gC (.int 0))) (gC k_KINDS_WITH_BUDGET)) [some (ruD p (some c)), some (planD p), some (nD c)] cs = .ok (.bl true) cs := fun cs => by
      have := (R.bd c rfl).1
      cases p with
      | late => cases this
      | lost _ => cases this
      | again w => rfl
      | pool o => rfl
    refine callP_val lw (run_eq (cs' := []) [some (ruD p (some c)), none, none] rfl ?_) rfl
    obtain ⟨G, hG⟩ : ∃ G, (g2 (inD false) (g2 ixD (gVar 1) (gC (.int 0))) (gC k_KINDS_WITH_BUDGET)) = G := ⟨_, rfl⟩
    unfold g_is_scheme_with_budget
    rw [hG] at k3 ⊢
    unfold ruD capD at k3 ⊢
    obtain ⟨P, hP⟩ : ∃ P, planD p = P := ⟨_, rfl⟩
    rw [hP] at k1 k3 ⊢
    push_cast [i1, l2, Bool.not_true, k1, n0, k3, k2]
    exact ⟨by first | trivial | rfl, by first | trivial | rfl⟩
theorem isRule {p : Plan} {cap : Option Nat} (R : RuOk p cap) (cs : List C) : callP F_is_rule [ruD p cap] cs = .ok (.bl true) cs := by
  have lw : lowL 0 [ruD p cap] = true := by simp only [lowL, ru_low, Bool.and_self]
  have k := fun cs => isBud R cs
  obtain ⟨P, hP⟩ : ∃ P, ruD p cap = P := ⟨_, rfl⟩
  rw [hP] at lw k ⊢
  refine callP_val lw (run_eq (cs' := []) [some P] rfl ?_) rfl
  push_cast [g_is_rule, k]
  exact ⟨by first | trivial | rfl, by first | trivial | rfl⟩
theorem checkRule {p : Plan} {cap : Option Nat} (R : RuOk p cap) (cs : List C) : callP F_check_rule [ruD p cap] cs = .ok .non cs := by
  have lw : lowL 0 [ruD p cap] = true := by simp only [lowL, ru_low, Bool.and_self]
  have k := fun cs => isBud R cs
  obtain ⟨P, hP⟩ : ∃ P, ruD p cap = P := ⟨_, rfl⟩
  rw [hP] at lw k ⊢
  refine callP_val lw (run_eq (cs' := []) [some P] rfl ?_) rfl
  push_cast [g_check_rule, k, Bool.not_true]
  exact ⟨by first | trivial | rfl, by first | trivial | rfl⟩
theorem checkWish {p : Plan} {cap : Option Nat} (R : RuOk p cap) {h : Nat} (h1 : 1 ≤ h) (hh : h ≤ 20) (b : Bool) (w : Ws) (cs : List C) : callP F__check_wish [ruD p cap, nD h, .bl b, wsD w] cs = .ok .non cs := by
  have lw : lowL 0 [ruD p cap, nD h, .bl b, wsD w] = true := by simp only [lowL, ru_low, low, Bool.and_self, nD, wsD]
  have k1 := fun cs => checkRule R cs
  have k2 := fun cs => checkHouses h1 hh cs
  have k3 := fun cs => checkFalls b cs
  have k4 := isWish w
  obtain ⟨P, hP⟩ : ∃ P, ruD p cap = P := ⟨_, rfl⟩
  obtain ⟨W, hW⟩ : ∃ P, wsD w = P := ⟨_, rfl⟩
  rw [hP] at lw k1 ⊢
  rw [hW] at lw k4 ⊢
  refine callP_val lw (run_eq (cs' := []) [some P, some (nD h), some (.bl b), some W] rfl ?_) rfl
  push_cast [g__check_wish, k1, k2, k3, k4, Bool.not_true]
  exact ⟨by first | trivial | rfl, by first | trivial | rfl⟩
theorem lotP {p : Plan} (hb : p.bud = true) (cs : List C) : callP F_lot_size [planD p] cs = .ok (nD (lsP p)) cs := by
  cases p with
  | late => cases hb
  | lost _ => cases hb
  | again w =>
    refine callP_val rfl (run_eq (cs' := []) [some (planD (.again w))] rfl ?_) rfl
    unfold planD
    push_cast [g_lot_size, strne]
    exact ⟨by first | trivial | rfl, by first | trivial | rfl⟩
  | pool o =>
    refine callP_val rfl (run_eq (cs' := []) [some (planD (.pool o))] rfl ?_) rfl
    unfold planD
    push_cast [g_lot_size, strne]
    exact ⟨by first | trivial | rfl, by first | trivial | rfl⟩
def mbW (p : Plan) : Option Nat → Nat
  | none => 0
  | some c => lsP p - c
theorem manyBefore {p : Plan} {cap : Option Nat} (R : RuOk p cap) (cs : List C) : callP F__many_before_next_lot [ruD p cap] cs = .ok (nD (mbW p cap)) cs := by
  have lw : lowL 0 [ruD p cap] = true := by simp only [lowL, ru_low, Bool.and_self]
  cases cap with
  | none =>
    have n0 : ∀ cs, isD false .non .non cs = .ok (.bl true) cs := fun cs => rfl
    refine callP_val lw (run_eq (cs' := []) [some (ruD p none), none, none] rfl ?_) rfl
    unfold ruD capD
    obtain ⟨P, hP⟩ : ∃ P, planD p = P := ⟨_, rfl⟩
    rw [hP]
    push_cast [g__many_before_next_lot, n0]
    exact ⟨by first | trivial | rfl, by first | trivial | rfl⟩
  | some c =>
    have n0 : ∀ cs, isD false (nD c) .non cs = .ok (.bl false) cs := fun cs => rfl
    have k := fun cs => lotP (R.bd c rfl).1 cs
    have sb : ∀ cs, subD (nD (lsP p)) (nD c) cs = .ok (.int ((lsP p : Int) - (c : Int))) cs := fun cs => rfl
    have mxd : ∀ cs, max2D [.int 0, .int ((lsP p : Int) - (c : Int))] cs = .ok (nD (lsP p - c)) cs := fun cs => by
      rw [max2D_int]
      unfold nD
      congr 2
      split <;> omega
    refine callP_val lw (run_eq (cs' := []) [some (ruD p (some c)), none, none] rfl ?_) rfl
    unfold ruD capD mbW
    obtain ⟨P, hP⟩ : ∃ P, planD p = P := ⟨_, rfl⟩
    rw [hP] at k ⊢
    push_cast [g__many_before_next_lot, n0, k, sb, mxd]
    exact ⟨by first | trivial | rfl, by first | trivial | rfl⟩
end My
set_option linter.all false
set_option maxRecDepth 100000
set_option maxHeartbeats 4000000
namespace My
open PySem PySem.Spec L2 Dm
/-! ways to break a wish, two houses or more *)-/
theorem callP_m {F : Fd} {ds : List D} {d e : D} {cs cs' : List C} (hl : lowL 0 ds = true) (h : F ds [] = .ok d cs') (hm : melt 0 cs' d = some e) : callP F ds cs = .ok e cs := by
  unfold callP
  simp only [hl, if_true, h, hm]
theorem wsn : (("full" : Str) = "rest") = False ∧ (("full" : Str) = "ascending") = False ∧ (("rest" : Str) = "ascending") = False ∧ (("ascending" : Str) = "rest") = False ∧ (("full" : Str) = "early") = False ∧ (("rest" : Str) = "early") = False ∧ (("ascending" : Str) = "early") = False ∧ (("kept" : Str) = "early") = False ∧ (("free" : Str) = "early") = False ∧ (("full" : Str) = "free") = False ∧ (("rest" : Str) = "free") = False ∧ (("ascending" : Str) = "free") = False ∧ (("kept" : Str) = "free") = False ∧ (("full" : Str) = "kept") = False ∧ (("rest" : Str) = "kept") = False ∧ (("ascending" : Str) = "kept") = False ∧ (("early" : Str) = "free") = False ∧ (("early" : Str) = "kept") = False ∧ (("free" : Str) = "kept") = False := by
  refine ⟨?_, ?_, ?_, ?_, ?_, ?_, ?_, ?_, ?_, ?_, ?_, ?_, ?_, ?_, ?_, ?_, ?_, ?_, ?_⟩ <;> exact eq_false (by decide +kernel)
/-- a value that stands for a way -/
def isWay (d : D) : Prop := ∃ a b c, d = .tup [a, b, c]
theorem wayTwo {p : Plan} {cap : Option Nat} (R : RuOk p cap) {w : Ws} (hw : w = .full ∨ w = .rest ∨ w = .asc) : ∃ d, isWay d ∧ low 0 d = true ∧ ∀ cs, callP F__way_by_two [ruD p cap, wsD w] cs = .ok d cs := by
  have lw : lowL 0 [ruD p cap, wsD w] = true := by simp only [lowL, ru_low, low, Bool.and_self, wsD]
  have k := fun cs => manyBefore R cs
  obtain ⟨m, hm⟩ : ∃ m, mbW p cap = m := ⟨_, rfl⟩
  rw [hm] at k
  have e0 := fun cs => eq_nat false m 0 cs
  simp only [Bool.false_eq_true, if_false] at e0
  have e0 : ∀ cs, eqD false (nD m) (.int 0) cs = .ok (.bl (decide (m = 0))) cs := e0
  obtain ⟨P, hP⟩ : ∃ P, ruD p cap = P := ⟨_, rfl⟩
  rw [hP] at k lw ⊢
  have fin : ∀ {d : D} {cs' : List C} {e : D}, F__way_by_two [P, wsD w] [] = .ok d cs' → melt 0 cs' d = some e → isWay e → low 0 e = true → ∃ d, isWay d ∧ low 0 d = true ∧ ∀ cs, callP F__way_by_two [P, wsD w] cs = .ok d cs := fun h hm i l => ⟨_, i, l, fun cs => callP_m lw h hm⟩
  have go : ∃ d cs', F__way_by_two [P, wsD w] [] = .ok d cs' ∧ ∃ e, melt 0 cs' d = some e ∧ isWay e ∧ low 0 e = true := by
    have w0 : Wn (F__way_by_two [P, wsD w] []) fun d cs' => ∃ e, melt 0 cs' d = some e ∧ isWay e ∧ low 0 e = true := by
      refine wn_run [some P, some (wsD w), none, none] rfl ?_
      obtain ⟨t1, ht1⟩ : ∃ t, D.tup [.str "take", .int 1] = t := ⟨_, rfl⟩
      obtain ⟨t2, ht2⟩ : ∃ t, D.tup [.str "end", .int 1] = t := ⟨_, rfl⟩
      obtain ⟨t3, ht3⟩ : ∃ t, D.tup [.str "take", .int 0] = t := ⟨_, rfl⟩
      obtain ⟨t4, ht4⟩ : ∃ t, D.tup [.str "end", .int 0] = t := ⟨_, rfl⟩
      obtain ⟨t5, ht5⟩ : ∃ t, D.tup [.str "fail", .int 0] = t := ⟨_, rfl⟩
      have aS : ∀ W, aStar (gVar 3) aNil [some P, some W, some (nD m), some (.cell 0)] [.lst [t1, t2]] = .ok [t1, t2] [.lst [t1, t2]] := fun W => rfl
      have il0 : ∀ xs, isLc 0 [.lst xs] = true := fun xs => rfl
      have il1 : ∀ x xs, isLc 1 [x, .lst xs] = true := fun x xs => rfl
      have z : (1000 : Nat) ≤ sizeLine := by decide
      have ap0 : ∀ d a b, appD 0 d [.lst [a, b]] = .ok .non [.lst [a, b, d]] := fun d a b => app_at (n := 0) (xs := [a, b]) rfl (by simp)
      have ap1 : ∀ d a b e, appD 0 d [.lst [a, b, e]] = .ok .non [.lst [a, b, e, d]] := fun d a b e => app_at (n := 0) (xs := [a, b, e]) rfl (by simp)
      have ap2 : ∀ d x a b e, appD 1 d [x, .lst [a, b, e]] = .ok .non [x, .lst [a, b, e, d]] := fun d x a b e => app_at (n := 1) (xs := [a, b, e]) rfl (by simp)
      have lo1 : low 0 t1 = true := by rw [← ht1]; rfl
      have lo2 : low 0 t2 = true := by rw [← ht2]; rfl
      have lo3 : low 0 t3 = true := by rw [← ht3]; rfl
      have lo4 : low 0 t4 = true := by rw [← ht4]; rfl
      have lo5 : low 0 t5 = true := by rw [← ht5]; rfl
      have me1 : ∀ f cs, meltF 0 cs (f + 2) t1 = some t1 := fun f cs => by rw [← ht1]; rfl
      have me2 : ∀ f cs, meltF 0 cs (f + 2) t2 = some t2 := fun f cs => by rw [← ht2]; rfl
      have me3 : ∀ f cs, meltF 0 cs (f + 2) t3 = some t3 := fun f cs => by rw [← ht3]; rfl
      have me4 : ∀ f cs, meltF 0 cs (f + 2) t4 = some t4 := fun f cs => by rw [← ht4]; rfl
      have me5 : ∀ f cs, meltF 0 cs (f + 2) t5 = some t5 := fun f cs => by rw [← ht5]; rfl
      by_cases c : m = 0
      · rw [decide_eq_true c] at e0
        rcases hw with rfl | rfl | rfl <;> unfold wsD Ws.str <;> push_cast [g__way_by_two, k, e0, wsn, ht1, ht2, ht3, ht4, ht5, List.nil_append, List.length_nil, List.length_cons, Nat.zero_add, aS, il0, il1, ap0, ap1, ap2, List.cons_append]
        all_goals (subst ht1 ht2 ht3 ht4 ht5; exact ⟨_, rfl, ⟨_, _, _, rfl⟩, rfl⟩)
      · rw [decide_eq_false c] at e0
        rcases hw with rfl | rfl | rfl <;> unfold wsD Ws.str <;> push_cast [g__way_by_two, k, e0, wsn, ht1, ht2, ht3, ht4, ht5, List.nil_append, List.length_nil, List.length_cons, Nat.zero_add, aS, il0, il1, ap0, ap1, ap2, List.cons_append]
        all_goals (subst ht1 ht2 ht3 ht4 ht5; exact ⟨_, rfl, ⟨_, _, _, rfl⟩, rfl⟩)
    obtain ⟨d, cs', e, q⟩ := w0.to
    exact ⟨d, cs', e, q⟩
  obtain ⟨d, cs', e, e2, m1, m2, m3⟩ := go
  exact fin e m1 m2 m3
def isAg : Plan → Bool
  | .again _ => true
  | _ => false
/-- no way to a refused take -/
def noRef (p : Plan) (c h : Nat) (b : Bool) : Bool := decide (h - 1 < c / lsP p + 1) && !(b && isAg p)
theorem wayRef {p : Plan} {c : Nat} (R : RuOk p (some c)) {h : Nat} (h1 : 2 ≤ h) (hh : h ≤ 20) (b : Bool) : ∃ d, low 0 d = true ∧ (noRef p c h b = true → d = .non) ∧ (noRef p c h b = false → isWay d) ∧ ∀ cs, callP F__way_to_refusal [ruD p (some c), nD h, .bl b] cs = .ok d cs := by
  have lw : lowL 0 [ruD p (some c), nD h, .bl b] = true := by simp only [lowL, ru_low, low, Bool.and_self, nD]
  have bu := (R.bd c rfl).1
  have ls1 : 1 ≤ lsP p := by
    have := R.ok
    cases p with
    | again w => exact this.1
    | lost w => exact this.1
    | late => exact Nat.le_refl _
    | pool o => exact Nat.le_refl _
  have ls2 : lsP p < 2 ^ 150 := by
    have := R.ok
    have q : (999999999999999999999999999999 : Nat) < 2 ^ 150 := by decide
    cases p with
    | again w => exact Nat.lt_of_le_of_lt this.2 q
    | lost w => exact Nat.lt_of_le_of_lt this.2 q
    | late => exact (by decide : 1 < 2 ^ 150)
    | pool o => exact (by decide : 1 < 2 ^ 150)
  have k1 := fun cs => lotP bu cs
  have dv : ∀ cs, divD (nD c) (nD (lsP p)) cs = .ok (nD (c / lsP p)) cs := fun cs => divs ls1 ls2 c cs
  have ao := add_one (c / lsP p)
  obtain ⟨lots, hlo⟩ : ∃ l, c / lsP p + 1 = l := ⟨_, rfl⟩
  rw [hlo] at ao
  have sb := sub_nat (a := h) (b := 1) (by omega)
  have sb : ∀ cs, subD (nD h) (.int 1) cs = .ok (nD (h - 1)) cs := sb
  have mi := min_nat lots (h - 1)
  obtain ⟨kept, hk⟩ : ∃ l, min lots (h - 1) = l := ⟨_, rfl⟩
  rw [hk] at mi
  have lt := lt_nat kept lots
  have ak := add_one kept
  obtain ⟨ag, hag⟩ : ∃ a : Bool, isAg p = a := ⟨_, rfl⟩
  have ke : ∀ (e : Env') cs, (g2 (eqD false) (g2 ixD (gVar 3) (gC (.int 0))) (gC (.str "again"))) (some (ruD p (some c)) :: some (nD h) :: some (.bl b) :: some (planD p) :: e) cs = .ok (.bl ag) cs := fun e cs => by
    rw [← hag]
    cases p with
    | late => cases bu
    | lost _ => cases bu
    | again w => rfl
    | pool o =>
      show eqD false (.str "pool") (.str "again") cs = _
      rw [eqD_str]
      simp only [strne, decide_false, Bool.false_eq_true, if_false]
      rfl
  have nr : noRef p c h b = (decide (kept < lots) && !(b && ag)) := by
    unfold noRef
    rw [hag, hlo]
    congr 1
    exact decide_eq_decide.mpr (by omega)
  have cp : ∀ (e : Env') e0 e1 e2 e3 e4 e7 cs, gComp [8] (iR2 (aCons (gC (.int 1)) (aCons (g2 addD (gVar 6) (gC (.int 1))) (aNil)))) (tcName 8) (fun _ cs => .ok true cs) (Dm.gTup (aCons (gC (.str "take")) (aCons (gVar 8) (aNil)))) [e0, e1, e2, e3, e4, some (nD lots), some (nD kept), e7, none] cs = .ok (.lst ((List.range' 1 kept).map fun k => D.tup [.str "take", nD k])) cs := fun e e0 e1 e2 e3 e4 e7 cs => by
    refine comp_eq nD (fun k => D.tup [.str "take", nD k]) (List.range' 1 kept) (by rw [List.length_range']; omega) ?_ fun k _ => rfl
    have e : (aCons (gC (.int 1)) (aCons (g2 addD (gVar 6) (gC (.int 1))) (aNil))) [e0, e1, e2, e3, e4, some (nD lots), some (nD kept), e7, none] cs = .ok [nD 1, nD (1 + kept)] cs := by
      rw [Nat.add_comm 1 kept]
      rfl
    rw [iR2_def, e, bind_ok]
    have big : (2 : Int) ^ 62 = 4611686018427387904 := by decide
    show (if -(2 ^ 62) ≤ ((1 : Nat) : Int) ∧ ((1 : Nat) : Int) < 2 ^ 62 ∧ -(2 ^ 62) ≤ ((1 + kept : Nat) : Int) ∧ ((1 + kept : Nat) : Int) < 2 ^ 62 then Out.ok (rngD ((1 : Nat) : Int) (((1 + kept : Nat) : Int) - ((1 : Nat) : Int)).toNat) cs else .bad) = _
    rw [if_pos (by rw [big]; omega)]
    have e2 : (((1 + kept : Nat) : Int) - ((1 : Nat) : Int)).toNat = kept := by omega
    rw [e2]
    congr 1
    unfold rngD
    rw [List.range'_eq_map_range, List.map_map]
    rfl
  have ad : ∀ cs, addD (.lst ((List.range' 1 kept).map fun k => D.tup [.str "take", nD k])) (.lst [.tup [.str "take", .int 0]]) cs = .ok (.lst ((List.range' 1 kept).map (fun k => D.tup [.str "take", nD k]) ++ [.tup [.str "take", .int 0]])) cs := fun cs => add_lst (Nat.le_trans (by rw [List.length_map, List.length_range', List.length_singleton]; omega : _ ≤ 1000) (by decide)) cs
  have sl := sub_nat (a := lots) (b := kept) (by omega)
  have lwT : low 0 (.lst ((List.range' 1 kept).map (fun k => D.tup [.str "take", nD k]) ++ [.tup [.str "take", .int 0]])) = true := by
    have : ∀ l : List Nat, lowL 0 (l.map (fun k => D.tup [.str "take", nD k]) ++ [.tup [.str "take", .int 0]]) = true := fun l => by
      induction l with
      | nil => rfl
      | cons a l ih => rw [List.map_cons, List.cons_append, lowL, ih]; rfl
    exact this _
  obtain ⟨T, hT⟩ : ∃ T, D.lst ((List.range' 1 kept).map (fun k => D.tup [.str "take", nD k]) ++ [.tup [.str "take", .int 0]]) = T := ⟨_, rfl⟩
  obtain ⟨T0, hT0⟩ : ∃ T, D.lst ((List.range' 1 kept).map (fun k => D.tup [.str "take", nD k])) = T := ⟨_, rfl⟩
  obtain ⟨CP, hCP⟩ : ∃ G, gComp [8] (iR2 (aCons (gC (.int 1)) (aCons (g2 addD (gVar 6) (gC (.int 1))) (aNil)))) (tcName 8) (fun _ cs => .ok true cs) (Dm.gTup (aCons (gC (.str "take")) (aCons (gVar 8) (aNil)))) = G := ⟨_, rfl⟩
  obtain ⟨KE, hKE⟩ : ∃ G, (g2 (eqD false) (g2 ixD (gVar 3) (gC (.int 0))) (gC (.str "again"))) = G := ⟨_, rfl⟩
  rw [hCP, hT0] at cp
  rw [hT0, hT] at ad
  rw [hT] at lwT
  rw [hKE] at ke
  have cp := cp []
  obtain ⟨P, hP⟩ : ∃ P, planD p = P := ⟨_, rfl⟩
  have eR : ruD p (some c) = .tup [P, nD c] := by rw [← hP]; rfl
  rw [hP] at k1 ke
  rw [eR] at ke lw ⊢
  by_cases q : kept < lots
  · rw [decide_eq_true q] at lt nr
    by_cases q2 : (b && ag) = true
    · refine ⟨.tup [.lst [.tup [.str "take", .int 0], .tup [.str "fall", .int 0]], nD (lots - kept), T], ?_, fun z => ?_, fun _ => ⟨_, _, _, rfl⟩, fun cs => callP_val lw (run_eq (cs' := []) [some (.tup [P, nD c]), some (nD h), some (.bl b), none, none, none, none, none, none] rfl ?_) ?_⟩
      · simp only [low, lowL, lwT, nD, Bool.and_self]
      · rw [nr, q2] at z; cases z
      · obtain ⟨rfl, rfl⟩ : b = true ∧ ag = true := by simpa using q2
        unfold g__way_to_refusal
        rw [hCP, hKE]
        push_cast [k1, dv, ao, sb, mi, lt, ke, Bool.not_true, Bool.not_false, cp, sl, ad]
        exact ⟨by first | trivial | rfl, by first | trivial | rfl⟩
      · simp only [low, lowL, lwT, nD, Bool.and_self]
    · refine ⟨.non, rfl, fun _ => rfl, fun z => ?_, fun cs => callP_val lw (run_eq (cs' := []) [some (.tup [P, nD c]), some (nD h), some (.bl b), none, none, none, none, none, none] rfl ?_) rfl⟩
      · rw [nr] at z
        simp only [Bool.true_and, Bool.not_eq_false'] at z
        exact (q2 z).elim
      · unfold g__way_to_refusal
        rw [hCP, hKE]
        cases b with
        | false =>
          push_cast [k1, dv, ao, sb, mi, lt, ke, Bool.not_true, Bool.not_false]
          exact ⟨by first | trivial | rfl, by first | trivial | rfl⟩
        | true =>
          have : ag = false := by cases ag with | false => rfl | true => exact (q2 rfl).elim
          subst this
          push_cast [k1, dv, ao, sb, mi, lt, ke, Bool.not_true, Bool.not_false]
          exact ⟨by first | trivial | rfl, by first | trivial | rfl⟩
  · rw [decide_eq_false q] at lt nr
    refine ⟨.tup [.lst [.tup [.str "take", .int 0], .tup [.str "fall", .int 0]], nD (lots - kept), T], ?_, fun z => ?_, fun _ => ⟨_, _, _, rfl⟩, fun cs => callP_val lw (run_eq (cs' := []) [some (.tup [P, nD c]), some (nD h), some (.bl b), none, none, none, none, none, none] rfl ?_) ?_⟩
    · simp only [low, lowL, lwT, nD, Bool.and_self]
    · rw [nr] at z; cases z
    · unfold g__way_to_refusal
      rw [hCP, hKE]
      push_cast [k1, dv, ao, sb, mi, lt, ke, Bool.not_true, Bool.not_false, cp, sl, ad]
      exact ⟨by first | trivial | rfl, by first | trivial | rfl⟩
    · simp only [low, lowL, lwT, nD, Bool.and_self]
def isLate : Plan → Bool
  | .late => true
  | _ => false
def isLost : Plan → Bool
  | .lost _ => true
  | _ => false
/-- what a rule grants, of two houses or more -/
def grW (p : Plan) (cap : Option Nat) (h : Nat) (b : Bool) : Ws → Bool
  | .early => !isLate p
  | .free => match cap with
    | none => true
    | some c => noRef p c h b
  | .kept => !(isLost p || isAg p && b)
  | _ => isLate p || decide (cap = some 0)
theorem kinds (p : Plan) : ∃ k : Str, (∀ cs, ixD (planD p) (.int 0) cs = .ok (.str k) cs) ∧ (k = "late") = (isLate p = true) ∧ (k = "lost") = (isLost p = true) ∧ (k = "again") = (isAg p = true) := by
  cases p with
  | late => exact ⟨"late", fun cs => rfl, by simp [isLate], by simp [isLost, strne], by simp [isAg, strne]⟩
  | lost c => exact ⟨"lost", fun cs => rfl, by simp [isLate, strne], by simp [isLost], by simp [isAg, strne]⟩
  | again c => exact ⟨"again", fun cs => rfl, by simp [isLate, strne], by simp [isLost, strne], by simp [isAg]⟩
  | pool o => exact ⟨"pool", fun cs => rfl, by simp [isLate, strne], by simp [isLost, strne], by simp [isAg, strne]⟩
theorem wayB {p : Plan} {cap : Option Nat} (R : RuOk p cap) {h : Nat} (h1 : 2 ≤ h) (hh : h ≤ 20) (b : Bool) (w : Ws) : ∃ d, low 0 d = true ∧ (grW p cap h b w = true → d = .non) ∧ (grW p cap h b w = false → isWay d) ∧ ∀ cs, callP F__way_to_break [ruD p cap, nD h, .bl b, wsD w] cs = .ok d cs := by
  have lw : lowL 0 [ruD p cap, nD h, .bl b, wsD w] = true := by simp only [lowL, ru_low, low, Bool.and_self, nD, wsD]
  obtain ⟨k, k0, kl, ko, ka⟩ := kinds p
  have gt := gt_nat h 1
  have gt : ∀ cs, gtD (nD h) (.int 1) cs = .ok (.bl true) cs := fun cs => by
    have := gt cs
    rw [decide_eq_true (by omega)] at this
    exact this
  have out : ∀ {d : D}, low 0 d = true → (grW p cap h b w = true → d = .non) → (grW p cap h b w = false → isWay d) → F__way_to_break [ruD p cap, nD h, .bl b, wsD w] [] = .ok d [] → ∃ d, low 0 d = true ∧ (grW p cap h b w = true → d = .non) ∧ (grW p cap h b w = false → isWay d) ∧ ∀ cs, callP F__way_to_break [ruD p cap, nD h, .bl b, wsD w] cs = .ok d cs := fun l a c e => ⟨_, l, a, c, fun cs => callP_val lw e l⟩
  have seq : w = .full ∨ w = .rest ∨ w = .asc → ∃ d, low 0 d = true ∧ (grW p cap h b w = true → d = .non) ∧ (grW p cap h b w = false → isWay d) ∧ ∀ cs, callP F__way_to_break [ruD p cap, nD h, .bl b, wsD w] cs = .ok d cs := fun hw => by
    have eg : grW p cap h b w = (isLate p || decide (cap = some 0)) := by rcases hw with rfl | rfl | rfl <;> rfl
    have w0 : ∃ s : Str, w.str = s ∧ (s = "early") = False ∧ (s = "free") = False ∧ (s = "kept") = False := by
      rcases hw with rfl | rfl | rfl
      · exact ⟨"full", rfl, by simp [wsn], by simp [wsn], by simp [wsn]⟩
      · exact ⟨"rest", rfl, by simp [wsn], by simp [wsn], by simp [wsn]⟩
      · exact ⟨"ascending", rfl, by simp [wsn], by simp [wsn], by simp [wsn]⟩
    obtain ⟨s, es, s1, s2, s3⟩ := w0
    obtain ⟨dT, iT, lT, cT⟩ := wayTwo R hw
    rw [eg] at out ⊢
    unfold wsD at out cT lw ⊢
    rw [es] at out cT lw ⊢
    have c0 : ∀ cs, eqD false (capD cap) (.int 0) cs = .ok (.bl (decide (cap = some 0))) cs := fun cs => by
      cases cap with
      | none => rfl
      | some c =>
        have := eq_nat false c 0 cs
        simp only [Bool.false_eq_true, if_false] at this
        show eqD false (nD c) (nD 0) cs = _
        rw [this]
        congr 2
        exact decide_eq_decide.mpr ⟨fun z => by rw [z], fun z => Option.some.inj z⟩
    obtain ⟨z, hz⟩ : ∃ z, decide (cap = some 0) = z := ⟨_, rfl⟩
    rw [hz] at c0 out ⊢
    unfold ruD at out cT ⊢
    obtain ⟨P, hP⟩ : ∃ P, planD p = P := ⟨_, rfl⟩
    obtain ⟨K, hK⟩ : ∃ P, capD cap = P := ⟨_, rfl⟩
    rw [hP] at k0 out cT ⊢
    rw [hK] at c0 out cT ⊢
    cases la : isLate p with
    | true =>
      rw [la] at kl out
      have kl : (k = "late") = True := by rw [kl]; simp
      refine out (d := .non) rfl (fun _ => rfl) (fun q => by simp at q) (run_eq [some (.tup [P, K]), some (nD h), some (.bl b), some (.str s), none, none, none] rfl ?_)
      push_cast [g__way_to_break, k0, s1, s2, s3, kl]
      exact ⟨by first | trivial | rfl, by first | trivial | rfl⟩
    | false =>
      rw [la] at kl out
      have kl : (k = "late") = False := by rw [kl]; simp
      cases z with
      | true =>
        refine out (d := .non) rfl (fun _ => rfl) (fun q => by simp at q) (run_eq [some (.tup [P, K]), some (nD h), some (.bl b), some (.str s), none, none, none] rfl ?_)
        push_cast [g__way_to_break, k0, s1, s2, s3, kl, c0]
        exact ⟨by first | trivial | rfl, by first | trivial | rfl⟩
      | false =>
        refine out (d := dT) lT (fun q => by simp at q) (fun _ => iT) (run_eq [some (.tup [P, K]), some (nD h), some (.bl b), some (.str s), none, none, none] rfl ?_)
        push_cast [g__way_to_break, k0, s1, s2, s3, kl, c0, gt, cT]
        exact ⟨by first | trivial | rfl, by first | trivial | rfl⟩
  cases w with
  | full => exact seq (.inl rfl)
  | rest => exact seq (.inr (.inl rfl))
  | asc => exact seq (.inr (.inr rfl))
  | early =>
    unfold ruD wsD Ws.str at out ⊢
    obtain ⟨P, hP⟩ : ∃ P, planD p = P := ⟨_, rfl⟩
    obtain ⟨K, hK⟩ : ∃ P, capD cap = P := ⟨_, rfl⟩
    rw [hP] at k0 out ⊢
    rw [hK] at out ⊢
    have eg : grW p cap h b .early = !isLate p := rfl
    rw [eg] at out ⊢
    cases la : isLate p with
    | true =>
      rw [la] at kl out
      have kl : (k = "late") = True := by rw [kl]; simp
      refine out (d := .tup [.lst [], .int 0, .lst [.tup [.str "take", .int 0]]]) rfl (fun q => by simp at q) (fun _ => ⟨_, _, _, rfl⟩) (run_eq [some (.tup [P, K]), some (nD h), some (.bl b), some (.str "early"), none, none, none] rfl ?_)
      push_cast [g__way_to_break, k0, kl]
      exact ⟨by first | trivial | rfl, by first | trivial | rfl⟩
    | false =>
      rw [la] at kl out
      have kl : (k = "late") = False := by rw [kl]; simp
      refine out (d := .non) rfl (fun _ => rfl) (fun q => by simp at q) (run_eq [some (.tup [P, K]), some (nD h), some (.bl b), some (.str "early"), none, none, none] rfl ?_)
      push_cast [g__way_to_break, k0, kl]
      exact ⟨by first | trivial | rfl, by first | trivial | rfl⟩
  | kept =>
    unfold ruD wsD Ws.str at out ⊢
    obtain ⟨P, hP⟩ : ∃ P, planD p = P := ⟨_, rfl⟩
    obtain ⟨K, hK⟩ : ∃ P, capD cap = P := ⟨_, rfl⟩
    rw [hP] at k0 out ⊢
    rw [hK] at out ⊢
    have eg : grW p cap h b .kept = !(isLost p || isAg p && b) := rfl
    rw [eg] at out ⊢
    cases lo : isLost p with
    | true =>
      rw [lo] at ko out
      have ko : (k = "lost") = True := by rw [ko]; simp
      refine out (d := .tup [.lst [], .int 0, .lst [.tup [.str "take", .int 0], .tup [.str "fail", .int 0]]]) rfl (fun q => by simp at q) (fun _ => ⟨_, _, _, rfl⟩) (run_eq [some (.tup [P, K]), some (nD h), some (.bl b), some (.str "kept"), none, none, none] rfl ?_)
      push_cast [g__way_to_break, k0, wsn, ko]
      exact ⟨by first | trivial | rfl, by first | trivial | rfl⟩
    | false =>
      rw [lo] at ko out
      have ko : (k = "lost") = False := by rw [ko]; simp
      cases ia : isAg p with
      | false =>
        rw [ia] at ka out
        have ka : (k = "again") = False := by rw [ka]; simp
        refine out (d := .non) rfl (fun _ => rfl) (fun q => by simp at q) (run_eq [some (.tup [P, K]), some (nD h), some (.bl b), some (.str "kept"), none, none, none] rfl ?_)
        push_cast [g__way_to_break, k0, wsn, ko, ka]
        exact ⟨by first | trivial | rfl, by first | trivial | rfl⟩
      | true =>
        rw [ia] at ka out
        have ka : (k = "again") = True := by rw [ka]; simp
        cases b with
        | true =>
          refine out (d := .tup [.lst [], .int 0, .lst [.tup [.str "take", .int 0], .tup [.str "fall", .int 0]]]) rfl (fun q => by simp at q) (fun _ => ⟨_, _, _, rfl⟩) (run_eq [some (.tup [P, K]), some (nD h), some (.bl true), some (.str "kept"), none, none, none] rfl ?_)
          push_cast [g__way_to_break, k0, wsn, ko, ka]
          exact ⟨by first | trivial | rfl, by first | trivial | rfl⟩
        | false =>
          refine out (d := .non) rfl (fun _ => rfl) (fun q => by simp at q) (run_eq [some (.tup [P, K]), some (nD h), some (.bl false), some (.str "kept"), none, none, none] rfl ?_)
          push_cast [g__way_to_break, k0, wsn, ko, ka]
          exact ⟨by first | trivial | rfl, by first | trivial | rfl⟩
  | free =>
    cases cap with
    | none =>
      have n0 : ∀ cs, isD false .non .non cs = .ok (.bl true) cs := fun cs => rfl
      unfold ruD capD wsD Ws.str at out ⊢
      obtain ⟨P, hP⟩ : ∃ P, planD p = P := ⟨_, rfl⟩
      rw [hP] at k0 out ⊢
      refine out (d := .non) rfl (fun _ => rfl) (fun q => by cases q) (run_eq [some (.tup [P, .non]), some (nD h), some (.bl b), some (.str "free"), none, none, none] rfl ?_)
      push_cast [g__way_to_break, k0, wsn, n0]
      exact ⟨by first | trivial | rfl, by first | trivial | rfl⟩
    | some c =>
      have n0 : ∀ cs, isD false (nD c) .non cs = .ok (.bl false) cs := fun cs => rfl
      obtain ⟨d, l1, l2, l3, l4⟩ := wayRef R h1 hh b
      have eg : grW p (some c) h b .free = noRef p c h b := rfl
      rw [eg] at out ⊢
      unfold ruD capD wsD Ws.str at out ⊢
      unfold ruD capD at l4
      obtain ⟨P, hP⟩ : ∃ P, planD p = P := ⟨_, rfl⟩
      rw [hP] at k0 out l4 ⊢
      refine out (d := d) l1 l2 l3 (run_eq [some (.tup [P, nD c]), some (nD h), some (.bl b), some (.str "free"), none, none, none] rfl ?_)
      push_cast [g__way_to_break, k0, wsn, n0, l4]
      exact ⟨by first | trivial | rfl, by first | trivial | rfl⟩
theorem grantsP {p : Plan} {cap : Option Nat} (R : RuOk p cap) {h : Nat} (h1 : 2 ≤ h) (hh : h ≤ 20) (b : Bool) (w : Ws) (cs : List C) : callP F_grants [ruD p cap, nD h, .bl b, wsD w] cs = .ok (.bl (grW p cap h b w)) cs := by
  have lw : lowL 0 [ruD p cap, nD h, .bl b, wsD w] = true := by simp only [lowL, ru_low, low, Bool.and_self, nD, wsD]
  have k1 := fun cs => checkWish R (by omega : 1 ≤ h) hh b w cs
  obtain ⟨d, _, l2, l3, l4⟩ := wayB R h1 hh b w
  have is : ∀ cs, isD false d .non cs = .ok (.bl (grW p cap h b w)) cs := fun cs => by
    cases q : grW p cap h b w with
    | true => rw [l2 q]; rfl
    | false => obtain ⟨a, b', c, rfl⟩ := l3 q; rfl
  obtain ⟨P, hP⟩ : ∃ P, ruD p cap = P := ⟨_, rfl⟩
  obtain ⟨W, hW⟩ : ∃ P, wsD w = P := ⟨_, rfl⟩
  rw [hP, hW] at lw k1 l4 ⊢
  refine callP_val lw (run_eq (cs' := []) [some P, some (nD h), some (.bl b), some W] rfl ?_) rfl
  push_cast [g_grants, k1, l4, is]
  exact ⟨by first | trivial | rfl, by first | trivial | rfl⟩
end My
set_option linter.all false
set_option maxRecDepth 100000
set_option maxHeartbeats 4000000
namespace My
open PySem PySem.Spec L2 Dm
/-! while, one step -/
theorem wn_while {t : Gt} {b : Gs} {n : Nat} {env : Env'} {cs : List C} {Q : Sg → List C → Prop} (h : Wn (t env cs) fun x c => if x = true then Wn (b env c) (fun r c' => match r with
    | ⟨.nx, e⟩ => Wn (whileD t b n e c') Q
    | ⟨.ct, e⟩ => Wn (whileD t b n e c') Q
    | ⟨.bk, e⟩ => Q ⟨.nx, e⟩ c'
    | ⟨.rt v, e⟩ => Q ⟨.rt v, e⟩ c') else Q ⟨.nx, env⟩ c) : Wn (whileD t b (n + 1) env cs) Q := by
  obtain ⟨x, c, e, q⟩ := h.to
  unfold whileD
  rw [e]
  show Wn (if x = true then _ else _) Q
  cases x with
  | false =>
    rw [if_neg Bool.false_ne_true] at q ⊢
    exact .of rfl q
  | true =>
    rw [if_pos rfl] at q ⊢
    obtain ⟨r, c', e2, q2⟩ := q.to
    rw [e2]
    obtain ⟨f, e3⟩ := r
    cases f with
    | nx => exact q2
    | ct => exact q2
    | bk => exact .of rfl q2
    | rt v => exact .of rfl q2
end My
set_option linter.all false
set_option maxRecDepth 100000
set_option maxHeartbeats 4000000
namespace My
open PySem PySem.Spec L2 Dm
/-! lists that come back -/
theorem meltF_cell {n k f : Nat} {cs : List C} {xs : List D} (hk : n ≤ k) (h : cs[k]? = some (.lst xs)) : meltF n cs (f + 1) (.cell k) = (xs.mapM (meltF n cs f)).map .lst := by
  rw [meltF, if_neg (by omega), h]
theorem melt_of {n : Nat} {cs : List C} {d e : D} (h : low n d = false) (m : meltF n cs 9 d = some e) : melt n cs d = some e := by
  unfold melt
  rw [h, if_neg Bool.false_ne_true, m]
theorem callS_ok {F : Fd} {ds : List D} {d e : D} {cs cs' : List C} (h : F ds cs = .ok d cs') (hm : melt cs.length cs' d = some e) (hl : (cs'.take cs.length).all (lowC cs.length) = true) : callS F ds cs = .ok e (cs'.take cs.length) := by
  simp -implicitDefEqProofs only [callS, h, hm, hl, if_true]
theorem src_low {k : Nat} {x : C} (h : IsSrc k x) : ([x] : List C).all (lowC 1) = true := by
  obtain ⟨a, b, c, rfl, _⟩ := h
  rfl
end My
set_option linter.all false
set_option maxRecDepth 100000
set_option maxHeartbeats 4000000
namespace My
open PySem PySem.Spec L2 Dm
/-! k53: drawn wishes; what the law says of three rules *)-/
theorem ers_g {α : Type} (f : α → D) : ∀ (l : List α) (i : Nat), (l.map f).eraseIdx i = (l.eraseIdx i).map f
  | [], _ => rfl
  | _ :: _, 0 => rfl
  | a :: l, i + 1 => by
    rw [List.map_cons, List.eraseIdx_cons_succ, ers_g f l i]
    rfl
theorem pop_g {α : Type} (f : α → D) {n i : Nat} {l : List α} {cs : List C} (h : cs[n]? = some (.lst (l.map f))) (hi : i < l.length) (hl : l.length ≤ 1000) : popD n (.int (i : Nat)) cs = .ok (f l[i]) (cs.set n (.lst ((l.eraseIdx i).map f))) := by
  have e1 : (l.map f)[i]? = some (f l[i]) := by rw [List.getElem?_map, List.getElem?_eq_getElem hi]; rfl
  have e2 := ers_g f l i
  unfold popD
  simp only [h, Int.toNat_natCast, e1, e2]
  rw [if_pos (by omega)]
theorem ers_perm {α : Type} : ∀ (l : List α) (i : Nat) (h : i < l.length), (l[i] :: l.eraseIdx i).Perm l
  | [], _, h => absurd h (by simp)
  | _ :: _, 0, _ => List.Perm.refl _
  | a :: l, i + 1, h => by
    have ih := ers_perm l i (by simpa using h)
    rw [List.eraseIdx_cons_succ, List.getElem_cons_succ]
    exact (List.Perm.swap a _ _).trans (ih.cons a)
theorem ne_ws (l : List Ws) {cs : List C} {a : Nat} (ha : cs[a]? = some (.lst (l.map wsD))) : eqD true (.cell a) (.lst []) cs = .ok (.bl (!l.isEmpty)) cs := by
  have so : ∀ w : Ws, sane (wsD w) = true := fun w => by cases w <;> decide +kernel
  have sl := saneL_map wsD l fun x _ => so x
  have dl := dptL_map wsD 0 l fun x _ => by simp [wsD, dpt]
  have sx : sane (.lst (l.map wsD)) = true := by simpa [sane] using sl
  have f1 : flatten cs (.cell a) = some (.lst (l.map wsD)) := by
    unfold flatten
    rw [if_neg (by simp [Dm.plain]), thaw_cell (n := 8) ha sl (by omega)]
    simp only [plain_of _ sx, if_true]
  have f2 : flatten cs (.lst []) = some (.lst []) := rfl
  have p : shp (.lst (l.map wsD)) = true := by
    unfold shp SeqAt.shaped
    rw [lay_of _ sx, depth_of (plain_of _ sx), decide_eq_true (by simp only [dpt]; omega : dpt (.lst (l.map wsD)) ≤ 64)]
    rfl
  have p2 : shp (.lst []) = true := by decide
  have e0 : eqS (.cell a) (.lst []) = none := rfl
  simp only [eqD, e0, f1, f2, p, p2, Bool.and_self, if_true]
  cases l <;> simp [toPy, toPyL, PyData.eqv, PyData.eqvAll]
noncomputable def hpW (f : Nat) : Gs := (whileD (tE (g2 (eqD true) (gVar 4) (gList (aNil)))) (sExpr (gApp (gVar 3) (gPop (gVar 4) (gA (argN 2 F__law_draw) (aCons (gVar 0) (aCons (gA lenD (aCons (gVar 4) (aNil))) (aNil))))))) f)
theorem hpW_W {k : Nat} {m s : D} {Q : Sg → List C → Prop} (q : ∀ (x : C) (F : List Ws) (c2 : C), IsSrc k x → F.Nodup → F.length ≤ 6 → Q ⟨.nx, [some (.cell 0), some m, some s, some (.cell 1), some (.cell 2), none, none]⟩ [x, .lst (F.map wsD), c2]) :
    ∀ (n f : Nat) (F L : List Ws) (x : C), IsSrc (k + n) x → L.length ≤ n → n < f → (F ++ L).Nodup → (F ++ L).length ≤ 6 →
    Wn (hpW f [some (.cell 0), some m, some s, some (.cell 1), some (.cell 2), none, none] [x, .lst (F.map wsD), .lst (L.map wsD)]) Q := by
  intro n
  induction n with
  | zero =>
    intro f F L x hx hl hf nd le
    obtain ⟨f, rfl⟩ : ∃ g, f = g + 1 := ⟨f - 1, by omega⟩
    have e := List.length_eq_zero_iff.mp (Nat.le_zero.mp hl)
    subst e
    have ne := ne_ws [] (cs := [x, .lst (F.map wsD), .lst (([] : List Ws).map wsD)]) (a := 2) rfl
    have ne : eqD true (.cell 2) (.lst []) [x, .lst (F.map wsD), .lst (([] : List Ws).map wsD)] = .ok (.bl false) _ := ne
    unfold hpW
    refine wn_while ?_
    push_cast [ne]
    rw [List.append_nil] at nd le
    exact q x F _ hx nd le
  | succ n ih =>
    intro f F L x hx hl hf nd le
    obtain ⟨f, rfl⟩ : ∃ g, f = g + 1 := ⟨f - 1, by omega⟩
    have ne := fun x => ne_ws L (cs := [x, .lst (F.map wsD), .lst (L.map wsD)]) (a := 2) rfl
    cases he : L.isEmpty with
    | true =>
      rw [he] at ne
      have e : L = [] := List.isEmpty_iff.mp he
      subst e
      have ne : ∀ x, eqD true (.cell 2) (.lst []) [x, .lst (F.map wsD), .lst (([] : List Ws).map wsD)] = .ok (.bl false) [x, .lst (F.map wsD), .lst (([] : List Ws).map wsD)] := ne
      unfold hpW
      refine wn_while ?_
      push_cast [ne]
      rw [List.append_nil] at nd le
      exact q x F _ (hx.mono (by omega)) nd le
    | false =>
      rw [he] at ne
      have ne : ∀ x, eqD true (.cell 2) (.lst []) [x, .lst (F.map wsD), .lst (L.map wsD)] = .ok (.bl true) [x, .lst (F.map wsD), .lst (L.map wsD)] := ne
      have l1 : 1 ≤ L.length := by
        cases L with
        | nil => cases he
        | cons a l => rw [List.length_cons]; omega
      rw [List.length_append] at le
      have ln : ∀ x, lenD [.cell 2] [x, .lst (F.map wsD), .lst (L.map wsD)] = .ok (nD L.length) [x, .lst (F.map wsD), .lst (L.map wsD)] := fun x => by
        have at2 : ([x, .lst (F.map wsD), .lst (L.map wsD)] : List C)[2]? = some (.lst (L.map wsD)) := rfl
        simp only [lenD, asS, asL, at2, List.length_map]
        rfl
      have il1 : ∀ x L', isLc 1 [x, .lst (F.map wsD), .lst L'] = true := fun x L' => rfl
      have il2 : ∀ x, isLc 2 [x, .lst (F.map wsD), .lst (L.map wsD)] = true := fun x => rfl
      have gp : ∀ go gi, gPop go gi = fun env cs => (go env cs).bind fun o cs => match o with
        | .cell n => if isLc n cs then (gi env cs).bind (popD n) else .bad
        | _ => .bad := fun _ _ => rfl
      have ih := fun F L x a b c d e => ih f F L x a b c d e
      unfold hpW at ih ⊢
      obtain ⟨W, hW⟩ : ∃ W, whileD (tE (g2 (eqD true) (gVar 4) (gList (aNil)))) (sExpr (gApp (gVar 3) (gPop (gVar 4) (gA (argN 2 F__law_draw) (aCons (gVar 0) (aCons (gA lenD (aCons (gVar 4) (aNil))) (aNil))))))) f = W := ⟨_, rfl⟩
      refine wn_while ?_
      rw [hW] at ih ⊢
      push_cast [ne, il1]
      rw [gp]
      push_cast [il2, ln]
      refine draw_L (q := ((L.length : Nat) : Int)) (k := k + n) hx (by omega) (by omega) fun r x hr hx => ?_
      have hr' : r < L.length := by omega
      have pp := pop_g wsD (n := 2) (i := r) (l := L) (cs := [x, .lst (F.map wsD), .lst (L.map wsD)]) rfl hr' (by omega)
      have pp : popD 2 (.int (r : Nat)) [x, .lst (F.map wsD), .lst (L.map wsD)] = .ok (wsD L[r]) [x, .lst (F.map wsD), .lst ((L.eraseIdx r).map wsD)] := pp
      have ap : ∀ L', appD 1 (wsD L[r]) [x, .lst (F.map wsD), .lst L'] = .ok .non [x, .lst ((F ++ [L[r]]).map wsD), .lst L'] := fun L' => by
        rw [app_at (n := 1) (xs := F.map wsD) rfl (by rw [List.length_map]; omega), List.map_append]
        rfl
      push_cast [pp, il1, ap]
      have pm : (F ++ L).Perm (F ++ [L[r]] ++ L.eraseIdx r) := by
        rw [List.append_assoc]
        exact (ers_perm L r hr').symm.append_left F
      exact ih _ _ x hx (by rw [List.length_eraseIdx_of_lt hr']; omega) (by omega) (pm.nodup_iff.mp nd) (by rw [← pm.length_eq, List.length_append]; exact le)
theorem hopes_W {k mask : Nat} {x : C} (hx : IsSrc (k + 6) x) {Q : D → List C → Prop} (q : ∀ x (l : List Ws), IsSrc k x → l.Nodup → l.length ≤ 6 → Q (.lst (l.map wsD)) [x]) : Wn (callS F__law_hopes [.cell 0, nD mask] [x]) Q := by
  have w0 : Wn (F__law_hopes [.cell 0, nD mask] [x]) fun d cs => ∃ (x' : C) (l : List Ws) (c2 : C), d = .cell 1 ∧ cs = [x', .lst (l.map wsD), c2] ∧ IsSrc k x' ∧ l.Nodup ∧ l.length ≤ 6 := by
    refine wn_run [some (.cell 0), some (nD mask), none, none, none, none, none] rfl ?_
    obtain ⟨A, hA⟩ : ∃ A : List Ws, [Ws.early, .full, .rest, .asc, .kept, .free] = A := ⟨_, rfl⟩
    have An : A.Nodup := by rw [← hA]; decide
    have Al : A.length = 6 := by rw [← hA]; rfl
    have gl : ∀ e cs, gList (aCons (gC (.str "early")) (aCons (gC (.str "full")) (aCons (gC (.str "rest")) (aCons (gC (.str "ascending")) (aCons (gC (.str "kept")) (aCons (gC (.str "free")) (aNil))))))) e cs = .ok (.lst (A.map wsD)) cs := fun e cs => by rw [← hA]; rfl
    obtain ⟨GL, hGL⟩ : ∃ G, gList (aCons (gC (.str "early")) (aCons (gC (.str "full")) (aCons (gC (.str "rest")) (aCons (gC (.str "ascending")) (aCons (gC (.str "kept")) (aCons (gC (.str "free")) (aNil))))))) = G := ⟨_, rfl⟩
    obtain ⟨CP, hCP⟩ : ∃ G, gCompC [5, 6] (iE (aCons (gVar 2) (aNil))) (tcTup 2 (tcCons (tcName 5) (tcCons (tcName 6) (tcNil)))) (tE (g2 (eqD false) (g2 bandD (g2 shrD (gVar 1) (gVar 5)) (gC (.int 1))) (gC (.int 1)))) (gVar 6) = G := ⟨_, rfl⟩
    have eq : g__law_hopes = sSeq (sPar 2 3 GL (gListC (aNil))) (sSeq (sAsg CP (tgName 4)) (sSeq (hpW 1000000) (sRet (gVar 3)))) := by rw [← hGL, ← hCP]; rfl
    rw [hGL] at gl
    have cp : ∃ L : List Ws, L.Nodup ∧ L.length ≤ 6 ∧ CP [some (.cell 0), some (nD mask), some (.lst (A.map wsD)), some (.cell 1), none, none, none] [x, .lst []] = .ok (.cell 2) [x, .lst [], .lst (L.map wsD)] := by
      obtain ⟨bit, hbit⟩ : ∃ bit : Ws × Nat → Bool, (fun p : Ws × Nat => decide (Builtin.bitAnd ((mask : Int) / 2 ^ ((p.2 : Int)).toNat) 1 = 1)) = bit := ⟨_, rfl⟩
      refine ⟨((A.zipIdx 0).filter bit).map (·.1), ?_, ?_, ?_⟩
      · have : ((A.zipIdx 0).map (·.1)) = A := List.zipIdx_map_fst 0 A
        have An2 : ((A.zipIdx 0).map (·.1)).Nodup := by rw [this]; exact An
        exact An2.sublist (List.filter_sublist.map _)
      · rw [List.length_map]
        exact Nat.le_trans (List.length_filter_le _ _) (by rw [List.length_zipIdx, Al]; omega)
      · rw [← hCP]
        unfold gCompC
        have it : iE (aCons (gVar 2) (aNil)) [some (.cell 0), some (nD mask), some (.lst (A.map wsD)), some (.cell 1), none, none, none] [x, .lst []] = .ok ((A.zipIdx 0).map fun p => D.tup [nD p.2, wsD p.1]) [x, .lst []] := by
          have := enum_map wsD A 0
          show Out.ok (enumD 0 (A.map wsD)) _ = _
          rw [this]
          rfl
        rw [it, bind_ok]
        have sz : (100 : Nat) ≤ sizeLine := by decide
        have := comp_map (fun p : Ws × Nat => D.tup [nD p.2, wsD p.1]) bit (fun p => wsD p.1) (vs := [5, 6]) (gt := tcTup 2 (tcCons (tcName 5) (tcCons (tcName 6) (tcNil)))) (tt := tE (g2 (eqD false) (g2 bandD (g2 shrD (gVar 1) (gVar 5)) (gC (.int 1))) (gC (.int 1)))) (ge := gVar 6) (env := [some (.cell 0), some (nD mask), some (.lst (A.map wsD)), some (.cell 1), none, none, none]) (cs := [x, .lst []]) (A.zipIdx 0) [] (by rw [List.length_nil, List.length_zipIdx, Al]; omega) (fun p _ => ⟨[some (.cell 0), some (nD mask), some (.lst (A.map wsD)), some (.cell 1), none, some (nD p.2), some (wsD p.1)], rfl, by
          have sh : ∀ cs, shrD (nD mask) (nD p.2) cs = .ok (.int ((mask : Int) / 2 ^ ((p.2 : Int)).toNat)) cs := fun cs => by
            show shrD (.int (mask : Nat)) (.int (p.2 : Nat)) cs = _
            simp [shrD, fI, shrOk]
          have ba : ∀ i cs, bandD (.int i) (.int 1) cs = .ok (.int (Builtin.bitAnd i 1)) cs := fun i cs => by simp [bandD, fI]
          rw [← hbit]
          push_cast [sh, ba], fun _ => rfl⟩)
        rw [this, List.map_map]
        rfl
    obtain ⟨L, Ln, Ll, cp⟩ := cp
    rw [eq, wn_seq, sPar_w]
    push_cast only [gl]
    rw [sk_nx, wn_seq]
    have cp : CP [some (.cell 0), some (nD mask), some (.lst (A.map wsD)), some (.cell [x].length), none, none, none] ([x] ++ [.lst []]) = .ok (.cell 2) [x, .lst [], .lst (L.map wsD)] := cp
    push_cast only [cp]
    rw [sk_nx, wn_seq]
    refine hpW_W (k := k) (fun x F c2 hx nd le => ?_) 6 1000000 [] L x hx Ll (by omega) Ln Ll
    rw [sk_nx]
    push_cast [Dm.wn_ok]
    exact ⟨x, F, c2, by first | trivial | rfl, rfl, hx, nd, le⟩
  obtain ⟨d, cs', e, x', l, c2, rfl, rfl, hx', h2, h3⟩ := w0.to
  have at2 : ([x', .lst (l.map wsD), c2] : List C)[1]? = some (.lst (l.map wsD)) := rfl
  have own : ∀ (l : List D) (F : D → Option D), (∀ d ∈ l, F d = some d) → l.mapM F = some l := fun l F h => by
    induction l with
    | nil => rfl
    | cons d l ih =>
      rw [List.mapM_cons, h d List.mem_cons_self, ih fun y hy => h y (List.mem_cons_of_mem _ hy)]
      rfl
  refine .of (callS_ok e (melt_of rfl ?_) (src_low hx')) (q x' l hx' h2 h3)
  rw [meltF_cell (xs := l.map wsD) (show [x].length ≤ 1 from Nat.le_refl 1) at2, own _ _ fun d hd => ?_]
  · rfl
  · obtain ⟨a, _, rfl⟩ := List.mem_map.mp hd
    rfl
end My
set_option linter.all false
set_option maxRecDepth 100000
set_option maxHeartbeats 4000000
namespace My
open PySem PySem.Spec L2 Dm
/-! k53: drawn rules *)-/
theorem deal_W {k h : Nat} (h1 : 1 ≤ h) (hh : h ≤ 20) {x : C} (hx : IsSrc (k + 14) x) {Q : D → List C → Prop} (q : ∀ x p cap, IsSrc k x → RuOk p cap → Q (ruD p cap) [x]) : Wn (F__law_deal [.cell 0, nD h] [x]) Q := by
  have p30 : ∀ cs, powD (.int 10) (.int 30) cs = .ok (.int 1000000000000000000000000000000) cs := fun cs => by
    have : powOk 10 30 = true := by decide
    simp [powD, this]
  have go : ∀ (r : Nat), (1 : Int) + (r : Int) = ((1 + r : Nat) : Int) := fun r => by omega
  refine wn_run [some (.cell 0), some (nD h), none, none, none, none, none, none, none] rfl ?_
  unfold g__law_deal
  rw [wn_seq]
  push_cast only [Dm.wn_ok]
  refine draw_L (k := k + 13) hx (by decide) (by decide) fun r1 x h1' hx => ?_
  push_cast only [Dm.wn_ok]
  refine draw_L (k := k + 12) hx (by decide) (by decide) fun r2 x h2' hx => ?_
  push_cast only [p30]
  refine draw_L (k := k + 11) hx (by decide) (by decide) fun r3 x h3' hx => ?_
  push_cast only [go]
  rw [sk_nx, wn_seq]
  push_cast only [Dm.wn_ok]
  refine draw_L (k := k + 10) hx (by decide) (by decide) fun r4 x h4' hx => ?_
  refine pick_W (fun d => ∃ w : Nat, d = nD w ∧ 1 ≤ w ∧ w ≤ 999999999999999999999999999999) ?_ (by simp only [List.length_cons, List.length_nil]; omega) ?_
  · intro y hy
    simp only [List.mem_cons, List.not_mem_nil, or_false] at hy
    rcases hy with rfl | rfl | rfl
    · exact ⟨1 + r1, rfl, by omega, by omega⟩
    · exact ⟨1 + r2, rfl, by omega, by omega⟩
    · exact ⟨1 + r3, rfl, by omega, by omega⟩
  · rintro _ ⟨w, rfl, w1, w2⟩
    push_cast only [Dm.wn_ok]
    rw [sk_nx, wn_seq]
    push_cast only [Dm.wn_ok]
    refine draw_L (k := k + 9) hx (by decide) (by decide) fun r5 x h5' hx => ?_
    refine order_pick (by omega) fun o ho => ?_
    push_cast only [Dm.wn_ok]
    rw [sk_nx, wn_seq]
    push_cast only [Dm.wn_ok]
    rw [sk_nx, wn_seq]
    push_cast only [Dm.wn_ok]
    refine draw_L (k := k + 8) hx (by decide) (by decide) fun r6 x h6' hx => ?_
    refine pick_W (fun d => ∃ p : Plan, d = planD p ∧ p.ok ∧ (isAg p = true → p = .again w)) ?_ (by simp only [List.length_cons, List.length_nil]; omega) ?_
    · intro y hy
      simp only [List.mem_cons, List.not_mem_nil, or_false] at hy
      rcases hy with rfl | rfl | rfl | rfl | rfl | rfl
      · exact ⟨.late, rfl, trivial, fun z => by cases z⟩
      · exact ⟨.lost w, rfl, ⟨w1, w2⟩, fun z => by cases z⟩
      · exact ⟨.again w, rfl, ⟨w1, w2⟩, fun _ => rfl⟩
      · exact ⟨.again w, rfl, ⟨w1, w2⟩, fun _ => rfl⟩
      · exact ⟨.again w, rfl, ⟨w1, w2⟩, fun _ => rfl⟩
      · exact ⟨.pool o, rfl, ho, fun z => by cases z⟩
    · rintro _ ⟨p, rfl, hp, _⟩
      obtain ⟨kd, k0, kl, ko, ka⟩ := kinds p
      have lk : ∀ cs, inD false (.str kd) (.lst [.str "late", .str "lost"]) cs = .ok (.bl (isLate p || isLost p)) cs := fun cs => by
        have bq : ∀ a b : Str, (a == b) = decide (a = b) := fun a b => by by_cases h : a = b <;> simp [h]
        have e0 := k0 []
        cases p with
        | late =>
          have e : kd = "late" := by injection e0 with e1 _; injection e1 with e1; exact e1.symm
          subst e
          simp -implicitDefEqProofs [inD, asS, asL, anyF, eqF, flatD, bq, strne, isLate, isLost]
        | lost c =>
          have e : kd = "lost" := by injection e0 with e1 _; injection e1 with e1; exact e1.symm
          subst e
          simp -implicitDefEqProofs [inD, asS, asL, anyF, eqF, flatD, bq, strne, isLate, isLost]
        | again c =>
          have e : kd = "again" := by injection e0 with e1 _; injection e1 with e1; exact e1.symm
          subst e
          simp -implicitDefEqProofs [inD, asS, asL, anyF, eqF, flatD, bq, strne, isLate, isLost]
        | pool o =>
          have e : kd = "pool" := by injection e0 with e1 _; injection e1 with e1; exact e1.symm
          subst e
          simp -implicitDefEqProofs [inD, asS, asL, anyF, eqF, flatD, bq, strne, isLate, isLost]
      have bud : (isLate p || isLost p) = false → p.bud = true := fun z => by cases p <;> first | rfl | (simp [isLate, isLost] at z)
      obtain ⟨P, hP⟩ : ∃ P, planD p = P := ⟨_, rfl⟩
      have qq : ∀ x cap, IsSrc k x → RuOk p cap → Q (.tup [P, capD cap]) [x] := fun x cap a b => by rw [← hP]; exact q x p cap a b
      rw [hP] at k0 ⊢
      have wide : ∃ u : Nat, u ≤ 999999999999999999999999999999 ∧ ∀ (e : Env') e0 e1 e3 cs, gIf (tE (g2 (eqD false) (g2 ixD (gVar 4) (gC (.int 0))) (gC (.str "again")))) (gVar 2) (gC (.int 1)) (e0 :: e1 :: some (nD w) :: e3 :: some P :: e) cs = .ok (nD u) cs := by
        cases ia : isAg p with
        | true =>
          rw [ia] at ka
          have ka : (kd = "again") = True := by rw [ka]; simp
          refine ⟨w, w2, fun e e0 e1 e3 cs => ?_⟩
          push_cast [k0, ka]
        | false =>
          rw [ia] at ka
          have ka : (kd = "again") = False := by rw [ka]; simp
          refine ⟨1, by omega, fun e e0 e1 e3 cs => ?_⟩
          push_cast [k0, ka]
          rfl
      obtain ⟨u, u2, wd⟩ := wide
      obtain ⟨WD, hWD⟩ : ∃ G, gIf (tE (g2 (eqD false) (g2 ixD (gVar 4) (gC (.int 0))) (gC (.str "again")))) (gVar 2) (gC (.int 1)) = G := ⟨_, rfl⟩
      rw [hWD] at wd ⊢
      have mu : ∀ r : Nat, r ≤ 1000 → ∀ cs, mulD (nD u) (.int (r : Nat)) cs = .ok (nD (u * r)) cs := fun r hr cs => mul_nat (Nat.lt_of_le_of_lt u2 (by decide)) (Nat.lt_of_le_of_lt hr (by decide)) cs
      have ah := add_one h
      push_cast only [Dm.wn_ok]
      rw [sk_nx, wn_seq]
      push_cast only [wd]
      rw [sk_nx, wn_seq]
      push_cast only [ah]
      refine draw_L (q := ((h + 1 : Nat) : Int)) (k := k + 7) hx (by omega) (by omega) fun r7 x h7' hx => ?_
      have m7 := mu r7 (by omega)
      push_cast only [m7]
      refine draw_L (k := k + 6) hx (by decide) (by decide) fun r8 x h8' hx => ?_
      have a8 : ∀ cs, addD (nD (u * r7)) (.int (r8 : Nat)) cs = .ok (nD (u * r7 + r8)) cs := fun cs => rfl
      have s8 : ∀ cs, subD (nD (u * r7 + r8)) (.int 1) cs = .ok (.int (((u * r7 + r8 : Nat) : Int) - 1)) cs := fun cs => rfl
      obtain ⟨near, hnear⟩ : ∃ z : Int, ((u * r7 + r8 : Nat) : Int) - 1 = z := ⟨_, rfl⟩
      rw [hnear] at s8
      push_cast only [a8, s8]
      rw [sk_nx, wn_seq]
      push_cast only [Dm.wn_ok]
      refine draw_L (k := k + 5) hx (by decide) (by decide) fun r9 x h9' hx => ?_
      have s9 : ∀ cs, subD (nD u) (.int (r9 : Nat)) cs = .ok (.int ((u : Int) - (r9 : Int))) cs := fun cs => rfl
      push_cast only [s9]
      refine draw_L (k := k + 4) hx (by decide) (by decide) fun r10 x h10' hx => ?_
      have m10 := mu r10 (by omega)
      push_cast only [m10, p30]
      refine draw_L (k := k + 3) hx (by decide) (by decide) fun r11 x h11' hx => ?_
      push_cast only [Dm.wn_ok]
      rw [sk_nx, wn_seq]
      push_cast only [p30]
      refine draw_L (k := k + 1) (hx.mono (by omega)) (by decide) (by decide) fun r12 x h12' hx => ?_
      refine pick_W (fun d => ∃ z : Int, d = .int z) ?_ (by simp only [List.length_cons, List.length_nil]; omega) ?_
      · intro y hy
        simp only [List.mem_cons, List.not_mem_nil, or_false] at hy
        rcases hy with rfl | rfl | rfl | rfl | rfl | rfl
        · exact ⟨_, rfl⟩
        · exact ⟨_, rfl⟩
        · exact ⟨_, rfl⟩
        · exact ⟨_, rfl⟩
        · exact ⟨_, rfl⟩
        · exact ⟨_, rfl⟩
      · rintro _ ⟨z, rfl⟩
        have m1 : ∀ cs, min2D [.int (1000000000000000000000000000000 - 1), .int z] cs = .ok (.int (min (1000000000000000000000000000000 - 1) z)) cs := fun cs => by
          rw [min2D_int]
          congr 2
          split <;> omega
        obtain ⟨c, hc⟩ : ∃ c : Nat, (max 0 (min (1000000000000000000000000000000 - 1) z)).toNat = c := ⟨_, rfl⟩
        have m2 : ∀ cs, max2D [.int 0, .int (min (1000000000000000000000000000000 - 1) z)] cs = .ok (nD c) cs := fun cs => by
          rw [max2D_int]
          unfold nD
          congr 2
          rw [← hc]
          split <;> omega
        have cb : c ≤ 1000000000000000000000000000000 := by omega
        push_cast only [m1, m2]
        rw [sk_nx, wn_seq]
        have rN : RuOk p none := ⟨hp, fun c e => by cases e⟩
        cases ll : (isLate p || isLost p) with
        | true =>
          rw [ll] at lk
          push_cast only [k0, lk]
          rw [sk_nx]
          push_cast [Dm.wn_ok]
          exact qq x none (hx.mono (by omega)) rN
        | false =>
          rw [ll] at lk
          have rS : RuOk p (some c) := ⟨hp, fun c' e => by cases e; exact ⟨bud ll, cb⟩⟩
          push_cast only [k0, lk]
          refine draw_L (k := k) (hx.mono (by omega)) (by decide) (by decide) fun r13 x h13' hx => ?_
          by_cases z0 : (r13 : Int) = 0
          · push_cast only [decide_eq_true z0]
            rw [sk_nx]
            push_cast [Dm.wn_ok]
            exact qq x none (hx.mono (by omega)) rN
          · push_cast only [decide_eq_false z0]
            rw [sk_nx]
            push_cast [Dm.wn_ok]
            exact qq x (some c) (hx.mono (by omega)) rS
end My
set_option linter.all false
set_option maxRecDepth 100000
set_option maxHeartbeats 4000000
namespace My
open PySem PySem.Spec L2 Dm
/-! k53: the law's own least lengths, of three rules *)-/
noncomputable def dsp53 : Gx := gDisp [(gC (.str "full"), gC (.int 3)), (gC (.str "rest"), gC (.int 4)), (gC (.str "ascending"), gC (.int 4))]
theorem dsp_ok (env : Env') : ∃ X, dsp53 env [] = .ok (.cell 0) [.dct X] := ⟨_, rfl⟩
theorem ref_none (P : D) (hP : low 0 P = true) (h : Nat) (b : Bool) (cs : List C) : callP F__law_refusal [P, .non, nD h, .bl b] cs = .ok .non cs := by
  have n0 : ∀ cs, isD false .non .non cs = .ok (.bl true) cs := fun cs => rfl
  refine callP_val (by simp only [lowL, low, hP, nD, Bool.and_self]) (run_eq (cs' := []) [some P, some .non, some (nD h), some (.bl b), none, none] rfl ?_) rfl
  push_cast [g__law_refusal, n0]
  exact ⟨by first | trivial | rfl, by first | trivial | rfl⟩
theorem lst_late {w : Ws} (hw : w ≠ .early) (h : Nat) (b : Bool) (cs : List C) : callP F__law_least [planD .late, .non, nD h, .bl b, wsD w] cs = .ok .non cs := by
  have lw : lowL 0 [planD .late, .non, nD h, .bl b, wsD w] = true := rfl
  have ne : ∃ s : Str, w.str = s ∧ (s = "early") = False := by
    cases w with
    | early => exact (hw rfl).elim
    | full => exact ⟨"full", rfl, by simp [wsn]⟩
    | rest => exact ⟨"rest", rfl, by simp [wsn]⟩
    | asc => exact ⟨"ascending", rfl, by simp [wsn]⟩
    | kept => exact ⟨"kept", rfl, by simp [wsn]⟩
    | free => exact ⟨"free", rfl, by simp [wsn]⟩
  obtain ⟨s, es, s1⟩ := ne
  unfold wsD at lw ⊢
  rw [es] at lw ⊢
  obtain ⟨X, dX⟩ := dsp_ok [some (planD .late), some .non, some (nD h), some (.bl b), some (.str s), none, none]
  have w0 : Wn (F__law_least [planD .late, .non, nD h, .bl b, .str s] []) fun d cs => d = .non := by
    refine wn_run [some (planD .late), some .non, some (nD h), some (.bl b), some (.str s), none, none] rfl ?_
    obtain ⟨DS, hDS⟩ : ∃ D, dsp53 = D := ⟨_, rfl⟩
    rw [hDS] at dX
    unfold dsp53 at hDS
    unfold g__law_least planD at *
    rw [hDS]
    push_cast [dX, s1]
  obtain ⟨d, cs', e, rfl⟩ := w0.to
  exact callP_val lw e rfl
theorem lst_pool {cap : Option Nat} {w : Ws} {h : Nat} (h1 : 1 ≤ h) (hc : (cap = none ∧ (w = .early ∨ w = .kept ∨ w = .free ∨ h = 1)) ∨ (cap = some 0 ∧ w ≠ .free)) (b : Bool) (cs : List C) : callP F__law_least [planD (.pool "least"), capD cap, nD h, .bl b, wsD w] cs = .ok .non cs := by
  have lw : lowL 0 [planD (.pool "least"), capD cap, nD h, .bl b, wsD w] = true := by cases cap <;> rfl
  have rn := ref_none (planD (.pool "least")) rfl h b
  obtain ⟨X, dX⟩ := dsp_ok [some (planD (.pool "least")), some (capD cap), some (nD h), some (.bl b), some (wsD w), none, none]
  have n1 : ∀ cs, isD true .non .non cs = .ok (.bl false) cs := fun cs => rfl
  have e0 : ∀ cs, eqD false .non (.int 0) cs = .ok (.bl false) cs := fun cs => rfl
  have e1 : ∀ cs, eqD false (nD 0) (.int 0) cs = .ok (.bl true) cs := fun cs => rfl
  have e2 : ∀ cs, eqD false (.int 0) (.int 0) cs = .ok (.bl true) cs := fun cs => rfl
  have w0 : Wn (F__law_least [planD (.pool "least"), capD cap, nD h, .bl b, wsD w] []) fun d cs => d = .non := by
    refine wn_run [some (planD (.pool "least")), some (capD cap), some (nD h), some (.bl b), some (wsD w), none, none] rfl ?_
    obtain ⟨DS, hDS⟩ : ∃ D, dsp53 = D := ⟨_, rfl⟩
    rw [hDS] at dX
    unfold dsp53 at hDS
    unfold g__law_least
    rw [hDS]
    rcases hc with ⟨rfl, hw⟩ | ⟨rfl, hw⟩
    · have gt : h = 1 → ∀ cs, gtD (nD h) (.int 1) cs = .ok (.bl false) cs := fun z cs => by
        have := gt_nat h 1 cs
        rw [decide_eq_false (by omega)] at this
        exact this
      unfold capD wsD planD at *
      rcases hw with rfl | rfl | rfl | z
      · unfold Ws.str at *
        push_cast [dX, strne, wsn, e0]
      · unfold Ws.str at *
        push_cast [dX, strne, wsn, e0]
      · unfold Ws.str at *
        push_cast [dX, strne, wsn, rn]
      · have gt := gt z
        cases w <;> unfold Ws.str at * <;> push_cast [dX, strne, wsn, rn, e0, n1, e2, gt]
    · unfold capD wsD planD at *
      cases w with
      | free => exact (hw rfl).elim
      | early =>
        unfold Ws.str at *
        push_cast [dX, strne, wsn, e1]
      | full =>
        unfold Ws.str at *
        push_cast [dX, strne, wsn, e1]
      | rest =>
        unfold Ws.str at *
        push_cast [dX, strne, wsn, e1]
      | asc =>
        unfold Ws.str at *
        push_cast [dX, strne, wsn, e1]
      | kept =>
        unfold Ws.str at *
        push_cast [dX, strne, wsn, e1]
  obtain ⟨d, cs', e, rfl⟩ := w0.to
  exact callP_val lw e rfl
/-- not all of them can be granted at once -/
theorem one_false {l : List Ws} {h : Nat} (hc : cgW l h = false) {p : Plan} {cap : Option Nat} (b : Bool) (h1 : 2 ≤ h) : ∃ w ∈ l, grW p cap h b w = false := by
  unfold cgW at hc
  simp only [Bool.or_eq_false_iff, decide_eq_false_iff_not, Bool.not_eq_false', decide_eq_true_eq, Bool.or_eq_true] at hc
  obtain ⟨⟨⟨_, he⟩, hf⟩, hs⟩ := hc
  cases la : isLate p with
  | true => exact ⟨.early, he, by simp [grW, la]⟩
  | false =>
    have seq : decide (cap = some 0) = false → ∃ w ∈ l, grW p cap h b w = false := fun z => by
      rcases hs with (a | a) | a
      · exact ⟨.full, a, by simp only [grW, la, z, Bool.or_self]⟩
      · exact ⟨.rest, a, by simp only [grW, la, z, Bool.or_self]⟩
      · exact ⟨.asc, a, by simp only [grW, la, z, Bool.or_self]⟩
    by_cases z : cap = some 0
    · subst z
      refine ⟨.free, hf, ?_⟩
      simp only [grW, noRef, Nat.zero_div, Nat.zero_add]
      rw [decide_eq_false (by omega)]
      rfl
    · exact seq (decide_eq_false z)
end My
set_option linter.all false
set_option maxRecDepth 100000
set_option maxHeartbeats 4000000
namespace My
open PySem PySem.Spec L2 Dm
/-! k53: _law_right *)-/
noncomputable def a53 : Gx := (gAnd (g2 (inD false) (gC (.str "early")) (gVar 0)) (g2 (inD false) (gC (.str "free")) (gVar 0)))
noncomputable def o53 : Gx := (gOr (g2 (eqD false) (gVar 1) (gC (.int 1))) (gNot (gVar 5)))
noncomputable def t53 : Gt := (tAndD (tE (g2 (inD true) (gC (.str "full")) (gVar 0))) (tAndD (tE (g2 (inD true) (gC (.str "rest")) (gVar 0))) (tE (g2 (inD true) (gC (.str "ascending")) (gVar 0)))))
noncomputable def no53 : Gs := (sSeq (sIf (tE (g2 (isD true) (gVar 8) (gC .non))) (sRet (gC (.bl false))) (sNext))
  (sSeq (sAsg (gComp [10] (iL (gVar 0)) (tcName 10) (fun _ cs => .ok true cs) (gA (argN 4 (callP F_grants)) (aCons (gVar 3) (aCons (gVar 1) (aCons (gVar 2) (aCons (gVar 10) (aNil))))))) (tgName 9))
  (sRet (g2 (inD false) (gC (.bl false)) (gVar 9)))))
noncomputable def ye53 : Gs := (sSeq (sIf (tOrD (tNotD (tE (gA isiD (aCons (gVar 8) (aCons (gC (.ty "tuple")) (aNil)))))) (tOrD (tE (g2 (eqD true) (gA lenD (aCons (gVar 8) (aNil))) (gC (.int 2)))) (tE (g2 (isBD true) (gA (argN 1 (callP F_is_rule)) (aCons (gVar 8) (aNil))) (gC (.bl true)))))) (sRet (gC (.bl false))) (sNext))
  (sRet (g2 (eqD false) (gComp [10] (iL (gVar 0)) (tcName 10) (tE (g2 (isD true) (gA (argN 5 (callP F__law_least)) (aCons (g2 ixD (gVar 8) (gC (.int 0))) (aCons (g2 ixD (gVar 8) (gC (.int 1))) (aCons (gVar 1) (aCons (gVar 2) (aCons (gVar 10) (aNil))))))) (gC .non))) (gVar 10)) (gList (aNil)))))
theorem any_bl (f : Ws → Bool) : ∀ l : List Ws, anyF (.bl false) (l.map fun w => D.bl (f w)) = some (l.any fun w => !f w)
  | [] => rfl
  | a :: l => by
    rw [List.map_cons, anyF, any_bl f l, List.any_cons]
    cases h : f a <;> simp [eqF, h]
section
variable {l : List Ws} (hn : l.Nodup) (hl : l.length ≤ 6) {h : Nat} (h1 : 1 ≤ h) (hh : h ≤ 20) {b : Bool} {p : Plan} {cap : Option Nat} (R : RuOk p cap)
include hn hl h1 hh R
theorem no53_W (hc : cgW l h = false) {a4 a5 a6 a7 a9 a10 : Option D} {cs : List C} : Wn (no53 [some (.lst (l.map wsD)), some (nD h), some (.bl b), some (ruD p cap), a4, a5, a6, a7, some .non, a9, a10] cs) (rk fun d _ => d = .bl true) := by
  have h2 : 2 ≤ h := by
    unfold cgW at hc
    simp only [Bool.or_eq_false_iff, decide_eq_false_iff_not] at hc
    omega
  have n0 : ∀ cs, isD true .non .non cs = .ok (.bl false) cs := fun cs => rfl
  have cp : ∀ cs, gComp [10] (iL (gVar 0)) (tcName 10) (fun _ cs => .ok true cs) (gA (argN 4 (callP F_grants)) (aCons (gVar 3) (aCons (gVar 1) (aCons (gVar 2) (aCons (gVar 10) (aNil)))))) [some (.lst (l.map wsD)), some (nD h), some (.bl b), some (ruD p cap), a4, a5, a6, a7, some .non, a9, a10] cs = .ok (.lst (l.map fun w => D.bl (grW p cap h b w))) cs := fun cs => by
    refine comp_eq wsD (fun w => .bl (grW p cap h b w)) l (by omega) rfl fun w _ => ?_
    have g := grantsP R h2 hh b w
    obtain ⟨P, hP⟩ : ∃ P, ruD p cap = P := ⟨_, rfl⟩
    rw [hP] at g
    show gA (argN 4 (callP F_grants)) (aCons (gVar 3) (aCons (gVar 1) (aCons (gVar 2) (aCons (gVar 10) (aNil))))) [some (.lst (l.map wsD)), some (nD h), some (.bl b), some (ruD p cap), a4, a5, a6, a7, some .non, a9, some (wsD w)] cs = _
    rw [hP]
    push_cast [g]
  have ii : ∀ cs, inD false (.bl false) (.lst (l.map fun w => D.bl (grW p cap h b w))) cs = .ok (.bl true) cs := fun cs => by
    obtain ⟨w, hw, e⟩ := one_false hc (p := p) (cap := cap) b h2
    have a : (l.any fun w => !grW p cap h b w) = true := List.any_eq_true.mpr ⟨w, hw, by rw [e]; rfl⟩
    have f : flatD (.bl false) = true := rfl
    unfold inD
    simp only [asS, asL, f, if_true, any_bl, a]
    rfl
  obtain ⟨CP, hCP⟩ : ∃ G, gComp [10] (iL (gVar 0)) (tcName 10) (fun _ cs => .ok true cs) (gA (argN 4 (callP F_grants)) (aCons (gVar 3) (aCons (gVar 1) (aCons (gVar 2) (aCons (gVar 10) (aNil)))))) = G := ⟨_, rfl⟩
  obtain ⟨G, hG⟩ : ∃ G, D.lst (l.map fun w => D.bl (grW p cap h b w)) = G := ⟨_, rfl⟩
  unfold no53
  rw [hCP] at cp ⊢
  rw [hG] at cp ii
  push_cast [n0, cp, ii]
omit R in
theorem ye53_W (hc : cgW l h = true) {a3 a4 a5 a6 a7 a9 a10 : Option D} {cs : List C} : Wn (ye53 [some (.lst (l.map wsD)), some (nD h), some (.bl b), a3, a4, a5, a6, a7, some (rfW l h), a9, a10] cs) (rk fun d _ => d = .bl true) := by
  have go : ∀ (q : Plan) (k : Option Nat), RuOk q k → rfW l h = ruD q k → (∀ w ∈ l, ∀ cs, callP F__law_least [planD q, capD k, nD h, .bl b, wsD w] cs = .ok .non cs) → Wn (ye53 [some (.lst (l.map wsD)), some (nD h), some (.bl b), a3, a4, a5, a6, a7, some (rfW l h), a9, a10] cs) (rk fun d _ => d = .bl true) := fun q k Rk e ls => by
    rw [e]
    have i1 : ∀ xs cs, isiD [.tup xs, .ty "tuple"] cs = .ok (.bl true) cs := fun xs cs => by simp [isiD, tyName, isSub]
    have l2 : ∀ (a b : D) cs, lenD [.tup [a, b]] cs = .ok (.int 2) cs := fun a b cs => rfl
    have ir := fun cs => isRule Rk cs
    have ib : ∀ cs, isBD true (.bl true) (.bl true) cs = .ok (.bl false) cs := fun cs => rfl
    have nl : ∀ cs, eqD false (.lst []) (.lst []) cs = .ok (.bl true) cs := fun cs => eq_lst false rfl (by decide)
    have n1 : ∀ cs, isD true .non .non cs = .ok (.bl false) cs := fun cs => rfl
    unfold ruD at ir ⊢
    obtain ⟨P, hP⟩ : ∃ P, planD q = P := ⟨_, rfl⟩
    obtain ⟨K, hK⟩ : ∃ P, capD k = P := ⟨_, rfl⟩
    rw [hP, hK] at ir ⊢
    have ls : ∀ w ∈ l, ∀ cs, callP F__law_least [P, K, nD h, .bl b, wsD w] cs = .ok .non cs := by rw [← hP, ← hK]; exact ls
    have cp : ∀ cs, gComp [10] (iL (gVar 0)) (tcName 10) (tE (g2 (isD true) (gA (argN 5 (callP F__law_least)) (aCons (g2 ixD (gVar 8) (gC (.int 0))) (aCons (g2 ixD (gVar 8) (gC (.int 1))) (aCons (gVar 1) (aCons (gVar 2) (aCons (gVar 10) (aNil))))))) (gC .non))) (gVar 10) [some (.lst (l.map wsD)), some (nD h), some (.bl b), a3, a4, a5, a6, a7, some (.tup [P, K]), a9, a10] cs = .ok (.lst []) cs := fun cs => by
      have := compF_eq wsD wsD (fun _ => false) l (by omega) (i := 10) (vs := [10]) (gi := iL (gVar 0)) (tt := tE (g2 (isD true) (gA (argN 5 (callP F__law_least)) (aCons (g2 ixD (gVar 8) (gC (.int 0))) (aCons (g2 ixD (gVar 8) (gC (.int 1))) (aCons (gVar 1) (aCons (gVar 2) (aCons (gVar 10) (aNil))))))) (gC .non))) (ge := gVar 10) (env := [some (.lst (l.map wsD)), some (nD h), some (.bl b), a3, a4, a5, a6, a7, some (.tup [P, K]), a9, a10]) (cs := cs) rfl (fun w hw => by
        have g := ls w hw
        show tE (g2 (isD true) (gA (argN 5 (callP F__law_least)) (aCons (g2 ixD (gVar 8) (gC (.int 0))) (aCons (g2 ixD (gVar 8) (gC (.int 1))) (aCons (gVar 1) (aCons (gVar 2) (aCons (gVar 10) (aNil))))))) (gC .non)) [some (.lst (l.map wsD)), some (nD h), some (.bl b), a3, a4, a5, a6, a7, some (.tup [P, K]), a9, some (wsD w)] cs = _
        push_cast [g, n1]) (fun w hw _ => rfl)
      rw [List.filter_eq_nil_iff.mpr (fun _ _ => by simp)] at this
      exact this
    obtain ⟨CP, hCP⟩ : ∃ G, gComp [10] (iL (gVar 0)) (tcName 10) (tE (g2 (isD true) (gA (argN 5 (callP F__law_least)) (aCons (g2 ixD (gVar 8) (gC (.int 0))) (aCons (g2 ixD (gVar 8) (gC (.int 1))) (aCons (gVar 1) (aCons (gVar 2) (aCons (gVar 10) (aNil))))))) (gC .non))) (gVar 10) = G := ⟨_, rfl⟩
    unfold ye53
    rw [hCP] at cp ⊢
    push_cast [i1, l2, ir, ib, Bool.not_true, cp, nl]
  have io : isOrder "least" := .inl rfl
  by_cases e : Ws.early ∈ l
  · by_cases f : Ws.free ∈ l
    · refine go (.pool "least") none ⟨io, fun c z => by cases z⟩ (by unfold rfW; rw [if_pos hc, if_pos e, if_pos f]; rfl) fun w hw cs => lst_pool h1 (.inl ⟨rfl, ?_⟩) b cs
      unfold cgW at hc
      simp only [decide_eq_true e, decide_eq_true f, Bool.not_true, Bool.or_false, Bool.or_eq_true, decide_eq_true_eq, Bool.not_eq_true', Bool.or_eq_false_iff, decide_eq_false_iff_not] at hc
      rcases hc with hc | ⟨⟨a1, a2⟩, a3⟩
      · exact .inr (.inr (.inr hc))
      · cases w with
        | early => exact .inl rfl
        | kept => exact .inr (.inl rfl)
        | free => exact .inr (.inr (.inl rfl))
        | full => exact (a1 hw).elim
        | rest => exact (a2 hw).elim
        | asc => exact (a3 hw).elim
    · refine go (.pool "least") (some 0) ⟨io, fun c z => by cases z; exact ⟨rfl, by omega⟩⟩ (by unfold rfW; rw [if_pos hc, if_pos e, if_neg f]; rfl) fun w hw cs => lst_pool h1 (.inr ⟨rfl, fun z => f (z ▸ hw)⟩) b cs
  · exact go .late none ⟨trivial, fun c z => by cases z⟩ (by unfold rfW; rw [if_pos hc, if_neg e]; rfl) fun w hw cs => lst_late (fun z => e (z ▸ hw)) h b cs
theorem right53 (cs : List C) : callP F__law_right [.lst (l.map wsD), nD h, .bl b, ruD p cap] cs = .ok (.bl true) cs := by
  have lw : lowL 0 [.lst (l.map wsD), nD h, .bl b, ruD p cap] = true := by simp only [lowL, low, low_ws, ru_low, Bool.and_self, nD]
  have k1 := fun cs => canHave hn (by omega : l.length ≤ 100) h1 hh b cs
  have k2 := fun cs => ruleFor hn (by omega : l.length ≤ 100) h1 hh b cs
  have so : ∀ w : Ws, sane (wsD w) = true := fun w => by cases w <;> decide +kernel
  have sl := saneL_map wsD l fun x _ => so x
  have dl := dptL_map wsD 0 l fun x _ => by simp [wsD, dpt]
  have eL : ∀ cs, eqD true (.lst (l.map wsD)) (.lst (l.map wsD)) cs = .ok (.bl false) cs := fun cs => eq_lst true sl (by omega)
  have eR : ∀ cs, eqD true (rfW l h) (rfW l h) cs = .ok (.bl false) cs := fun cs => by
    have tp : ∀ e : D, sane e = true → dpt e ≤ 64 → eqS e e = none → eqD true e e cs = .ok (.bl false) cs := fun e a d s => by
      rw [eq_sane a a d d s, eqv_self a]
      rfl
    unfold rfW
    split
    · split
      · split
        · exact tp _ (by decide +kernel) (by decide) rfl
        · exact tp _ (by decide +kernel) (by decide) rfl
      · exact tp _ (by decide +kernel) (by decide) rfl
    · rfl
  have li : ∀ cs, listD [.lst (l.map wsD)] cs = .ok (.lst (l.map wsD)) cs := fun cs => rfl
  have es : ∀ (S : Str) cs, eqD true (.str S) (.str S) cs = .ok (.bl false) cs := fun S cs => by simp [eqD, eqS]
  obtain ⟨c, hc⟩ : ∃ c, cgW l h = c := ⟨_, rfl⟩
  have rr : ∀ cs, reprD [.lst [.bl c, .bl c]] cs = .ok (.str (toPy (.lst [.bl c, .bl c])).shown) cs := fun cs => repr_sane (by rfl) (by simp [dpt, dptL]) (Nat.le_trans (by cases c <;> decide : tw (.lst [.bl c, .bl c]) ≤ 1000) (by decide))
  obtain ⟨S2, hS2⟩ : ∃ S, (toPy (.lst [.bl c, .bl c])).shown = S := ⟨_, rfl⟩
  rw [hS2] at rr
  have no := fun (z : cgW l h = false) a4 a5 a6 a7 a9 a10 cs => no53_W hn hl h1 hh R (b := b) z (a4 := a4) (a5 := a5) (a6 := a6) (a7 := a7) (a9 := a9) (a10 := a10) (cs := cs)
  have ye := fun (z : cgW l h = true) a3 a4 a5 a6 a7 a9 a10 cs => ye53_W hn hl h1 hh (b := b) z (a3 := a3) (a4 := a4) (a5 := a5) (a6 := a6) (a7 := a7) (a9 := a9) (a10 := a10) (cs := cs)
  have rfn : c = false → rfW l h = .non := fun z => by unfold rfW; rw [hc, z]; rfl
  have g5 : ∀ (e : Env') cs, a53 (some (.lst (l.map wsD)) :: e) cs = .ok (.bl (decide (.early ∈ l) && decide (.free ∈ l))) cs := fun e cs => by
    have a1 := in_ws false .early l
    have a2 := in_ws false .free l
    simp only [Bool.false_eq_true, if_false] at a1 a2
    have a1 : ∀ cs, inD false (.str "early") (.lst (l.map wsD)) cs = .ok (.bl (decide (.early ∈ l))) cs := a1
    have a2 : ∀ cs, inD false (.str "free") (.lst (l.map wsD)) cs = .ok (.bl (decide (.free ∈ l))) cs := a2
    unfold a53
    cases x : decide (Ws.early ∈ l) with
    | true =>
      rw [x] at a1
      push_cast [a1, a2]
      rfl
    | false =>
      rw [x] at a1
      push_cast [a1]
      rfl
  have g6 : ∀ (z : Bool) e0 e2 e3 e4 (e : Env') cs, o53 (e0 :: some (nD h) :: e2 :: e3 :: e4 :: some (.bl z) :: e) cs = .ok (.bl (decide (h = 1) || !z)) cs := fun z e0 e2 e3 e4 e cs => by
    have e1 := eq_one false h
    simp only [Bool.false_eq_true, if_false] at e1
    unfold o53
    cases x : decide (h = 1) with
    | true =>
      rw [x] at e1
      push_cast [e1]
      rfl
    | false =>
      rw [x] at e1
      cases z <;> push_cast [e1] <;> rfl
  have g7 : ∀ (e : Env') cs, t53 (some (.lst (l.map wsD)) :: e) cs = .ok (!decide (.full ∈ l) && (!decide (.rest ∈ l) && !decide (.asc ∈ l))) cs := fun e cs => by
    have a1 := in_ws true .full l
    have a2 := in_ws true .rest l
    have a3 := in_ws true .asc l
    simp only [if_true] at a1 a2 a3
    have a1 : ∀ cs, inD true (.str "full") (.lst (l.map wsD)) cs = .ok (.bl (!decide (.full ∈ l))) cs := a1
    have a2 : ∀ cs, inD true (.str "rest") (.lst (l.map wsD)) cs = .ok (.bl (!decide (.rest ∈ l))) cs := a2
    have a3 : ∀ cs, inD true (.str "ascending") (.lst (l.map wsD)) cs = .ok (.bl (!decide (.asc ∈ l))) cs := a3
    unfold t53
    obtain ⟨b1, hb1⟩ : ∃ z, (!decide (Ws.full ∈ l)) = z := ⟨_, rfl⟩
    obtain ⟨b2, hb2⟩ : ∃ z, (!decide (Ws.rest ∈ l)) = z := ⟨_, rfl⟩
    obtain ⟨b3, hb3⟩ : ∃ z, (!decide (Ws.asc ∈ l)) = z := ⟨_, rfl⟩
    rw [hb1] at a1 ⊢
    rw [hb2] at a2 ⊢
    rw [hb3] at a3 ⊢
    cases b1 <;> cases b2 <;> cases b3 <;> push_cast [a1, a2, a3] <;> rfl
  have ce : c = ((decide (h = 1) || !(decide (Ws.early ∈ l) && decide (Ws.free ∈ l))) || (!decide (Ws.full ∈ l) && (!decide (Ws.rest ∈ l) && !decide (Ws.asc ∈ l)))) := by
    rw [← hc]
    unfold cgW
    cases decide (h = 1) <;> cases decide (Ws.early ∈ l) <;> cases decide (Ws.free ∈ l) <;> cases decide (Ws.full ∈ l) <;> cases decide (Ws.rest ∈ l) <;> cases decide (Ws.asc ∈ l) <;> rfl
  obtain ⟨z5, hz5⟩ : ∃ z, (decide (Ws.early ∈ l) && decide (Ws.free ∈ l)) = z := ⟨_, rfl⟩
  obtain ⟨z7, hz7⟩ : ∃ z, (!decide (Ws.full ∈ l) && (!decide (Ws.rest ∈ l) && !decide (Ws.asc ∈ l))) = z := ⟨_, rfl⟩
  rw [hz5] at g5 ce
  rw [hz7] at g7 ce
  have g6 := g6 z5
  obtain ⟨z6, hz6⟩ : ∃ z, (decide (h = 1) || !z5) = z := ⟨_, rfl⟩
  rw [hz6] at g6 ce
  rw [hc] at k1 no ye
  obtain ⟨A5, hA5⟩ : ∃ G, a53 = G := ⟨_, rfl⟩
  obtain ⟨O6, hO6⟩ : ∃ G, o53 = G := ⟨_, rfl⟩
  obtain ⟨T7, hT7⟩ : ∃ G, t53 = G := ⟨_, rfl⟩
  obtain ⟨NO, hNO⟩ : ∃ G, no53 = G := ⟨_, rfl⟩
  obtain ⟨YE, hYE⟩ : ∃ G, ye53 = G := ⟨_, rfl⟩
  rw [hA5] at g5
  rw [hO6] at g6
  rw [hT7] at g7
  rw [hNO] at no
  rw [hYE] at ye
  have eq : g__law_right = sSeq (sAsg (gA listD (aCons (gVar 0) (aNil))) (tgName 4))
    (sSeq (sAsg A5 (tgName 5))
    (sSeq (sAsg O6 (tgName 6))
    (sSeq (sIf T7 (sAsg (gC (.bl true)) (tgName 6)) (sNext))
    (sSeq (sAsg (gList (aCons (gA (argN 3 (callP F_can_have)) (aCons (gVar 0) (aCons (gVar 1) (aCons (gVar 2) (aNil))))) (aCons (gKw0 3 (permG [2, 1, 0]) (argN 3 (callP F_can_have)) (aCons (gVar 2) (aCons (gVar 1) (aCons (gVar 0) (aNil))))) (aNil)))) (tgName 7))
    (sSeq (sIf (tE (g2 (eqD true) (gA reprD (aCons (gVar 7) (aNil))) (gA reprD (aCons (gList (aCons (gVar 6) (aCons (gVar 6) (aNil)))) (aNil))))) (sRet (gC (.bl false))) (sNext))
    (sSeq (sAsg (gA (argN 3 (callP F_rule_for)) (aCons (gVar 0) (aCons (gVar 1) (aCons (gVar 2) (aNil))))) (tgName 8))
    (sSeq (sIf (tOrD (tE (g2 (eqD true) (gKw0 3 (permG [2, 1, 0]) (argN 3 (callP F_rule_for)) (aCons (gVar 2) (aCons (gVar 1) (aCons (gVar 0) (aNil))))) (gVar 8))) (tE (g2 (eqD true) (gVar 0) (gVar 4)))) (sRet (gC (.bl false))) (sNext))
    (sSeq (sIf (tNotD (tE (gVar 6))) NO (sNext))
    YE)))))))) := by rw [← hA5, ← hO6, ← hT7, ← hNO, ← hYE]; rfl
  obtain ⟨RF, hRF⟩ : ∃ G, rfW l h = G := ⟨_, rfl⟩
  rw [hRF] at k2 eR ye rfn
  obtain ⟨L, hL⟩ : ∃ L, D.lst (l.map wsD) = L := ⟨_, rfl⟩
  obtain ⟨P, hP⟩ : ∃ L, ruD p cap = L := ⟨_, rfl⟩
  rw [hL] at lw k1 k2 eL li no ye g5 g7 ⊢
  rw [hP] at lw no ⊢
  have w0 : Wn (F__law_right [L, nD h, .bl b, P] []) fun d cs => d = .bl true := by
    refine wn_run [some L, some (nD h), some (.bl b), some P, none, none, none, none, none, none, none] rfl ?_
    have fin : ∀ a5 a7 : Option D, Wn ((sSeq (sAsg (gList (aCons (gA (argN 3 (callP F_can_have)) (aCons (gVar 0) (aCons (gVar 1) (aCons (gVar 2) (aNil))))) (aCons (gKw0 3 (permG [2, 1, 0]) (argN 3 (callP F_can_have)) (aCons (gVar 2) (aCons (gVar 1) (aCons (gVar 0) (aNil))))) (aNil)))) (tgName 7))
      (sSeq (sIf (tE (g2 (eqD true) (gA reprD (aCons (gVar 7) (aNil))) (gA reprD (aCons (gList (aCons (gVar 6) (aCons (gVar 6) (aNil)))) (aNil))))) (sRet (gC (.bl false))) (sNext))
      (sSeq (sAsg (gA (argN 3 (callP F_rule_for)) (aCons (gVar 0) (aCons (gVar 1) (aCons (gVar 2) (aNil))))) (tgName 8))
      (sSeq (sIf (tOrD (tE (g2 (eqD true) (gKw0 3 (permG [2, 1, 0]) (argN 3 (callP F_rule_for)) (aCons (gVar 2) (aCons (gVar 1) (aCons (gVar 0) (aNil))))) (gVar 8))) (tE (g2 (eqD true) (gVar 0) (gVar 4)))) (sRet (gC (.bl false))) (sNext))
      (sSeq (sIf (tNotD (tE (gVar 6))) NO (sNext))
      YE))))) [some L, some (nD h), some (.bl b), some P, some L, a5, some (.bl c), a7, none, none, none] []) (rk fun d cs => d = .bl true) := fun a5 a7 => by
      rw [wn_seq]
      push_cast only [k1]
      rw [sk_nx, wn_seq]
      push_cast only [rr, es]
      rw [sk_nx, wn_seq]
      push_cast only [k2]
      rw [sk_nx, wn_seq]
      push_cast only [k2, eR, eL]
      rw [sk_nx, wn_seq]
      cases c with
      | true =>
        push_cast only [Bool.not_true]
        rw [sk_nx]
        exact ye rfl _ _ _ _ _ _ _ _
      | false =>
        push_cast only [Bool.not_false]
        have z := rfn rfl
        subst z
        refine (no rfl _ _ _ _ _ _ _).mono fun r c' hr => ?_
        obtain ⟨f, e⟩ := r
        cases f with
        | rt v => exact hr
        | nx => exact absurd hr (by intro z; cases z)
        | bk => exact hr.elim
        | ct => exact hr.elim
    rw [eq, wn_seq]
    push_cast only [li]
    rw [sk_nx, wn_seq]
    push_cast only [g5]
    rw [sk_nx, wn_seq]
    push_cast only [g6]
    rw [sk_nx, wn_seq]
    cases z7 with
    | true =>
      push_cast only [g7]
      rw [sk_nx]
      have e : c = true := by rw [ce]; simp
      have := fin (some (.bl z5)) none
      rw [e] at this
      rw [e] at fin
      exact this
    | false =>
      push_cast only [g7]
      rw [sk_nx]
      have e : z6 = c := by rw [ce]; simp
      rw [e]
      exact fin _ _
  obtain ⟨d, cs', e, rfl⟩ := w0.to
  exact callP_val lw e rfl
end
end My
set_option linter.all false
set_option maxRecDepth 100000
set_option maxHeartbeats 4000000
namespace My
open PySem PySem.Spec L2 Dm
/-! k53: the law *)-/
noncomputable def b53 : Gs := (sIf (tNotD (tE (gA (argN 4 (callP F__law_right)) (aCons (gVar 7) (aCons (gVar 8) (aCons (gVar 5) (aCons (gA (argN 2 F__law_deal) (aCons (gVar 3) (aCons (gVar 8) (aNil)))) (aNil)))))))) (sRet (gC (.bl false))) (sNext))
noncomputable def m53 : Gs := (sSeq (sAsg (gA (argN 2 (callS F__law_hopes)) (aCons (gVar 3) (aCons (gVar 6) (aNil)))) (tgName 7))
  (sFor (iL (gList (aCons (gC (.int 1)) (aCons (g2 ixD (gList (aCons (gC (.int 2)) (aCons (gC (.int 3)) (aCons (gVar 4) (aCons (gC (.int 20)) (aNil)))))) (gA (argN 2 F__law_draw) (aCons (gVar 3) (aCons (gC (.int 4)) (aNil))))) (aNil))))) (tgName 8) (sScope b53)))
theorem low1_ws : ∀ l : List Ws, lowL 1 (l.map wsD) = true
  | [] => rfl
  | a :: l => by rw [List.map_cons, lowL, low1_ws l]; rfl
theorem clr_l (l : List Ws) : clearO 1 (some (.lst (l.map wsD))) = some (.lst (l.map wsD)) := by simp only [clearO, low, low1_ws, if_true]
section
variable {ns : List Int} {more : Nat} {b : Bool} {l : List Ws} (hn : l.Nodup) (hl : l.length ≤ 6)
include hn hl
theorem in53 {k : Nat} {Q : Sg → List C → Prop} (q : ∀ x e1 e2 e6 a7 a8, IsSrc k x → Q ⟨.nx, [theS ns, e1, e2, some (.cell 0), some (nD more), some (.bl b), e6, a7, a8]⟩ [x]) : ∀ (fl : List Nat) (x : C) (e1 e2 e6 a8 : Option D), (∀ h ∈ fl, 1 ≤ h ∧ h ≤ 20) → IsSrc (k + 14 * fl.length) x →
    Wn (forD (tgName 8) (sScope b53) (fl.map nD) [theS ns, e1, e2, some (.cell 0), some (nD more), some (.bl b), e6, some (.lst (l.map wsD)), a8] [x]) Q
  | [], x, e1, e2, e6, a8, _, hx => by
    rw [List.map_nil, for_nil]
    exact q x _ _ _ _ _ hx
  | h :: fl, x, e1, e2, e6, a8, hf, hx => by
    obtain ⟨h1, hh⟩ := hf h List.mem_cons_self
    rw [List.length_cons] at hx
    have ih := fun x e1 e2 e6 a8 hx => in53 (k := k) (Q := Q) q fl x e1 e2 e6 a8 (fun y hy => hf y (List.mem_cons_of_mem _ hy)) hx
    have body : Wn (b53 [theS ns, e1, e2, some (.cell 0), some (nD more), some (.bl b), e6, some (.lst (l.map wsD)), some (nD h)] [x]) fun r cs => ∃ x', r = ⟨.nx, [theS ns, e1, e2, some (.cell 0), some (nD more), some (.bl b), e6, some (.lst (l.map wsD)), some (nD h)]⟩ ∧ cs = [x'] ∧ IsSrc (k + 14 * fl.length) x' := by
      unfold b53
      obtain ⟨T, hT⟩ : ∃ T, theS ns = T := ⟨_, rfl⟩
      obtain ⟨L, hL⟩ : ∃ L, D.lst (l.map wsD) = L := ⟨_, rfl⟩
      rw [hT, hL]
      push_cast [Dm.wn_ok]
      refine deal_W h1 hh (k := k + 14 * fl.length) (hx.mono (by rw [Nat.mul_succ]; omega)) fun x p cap hx R => ?_
      have rg := fun cs => right53 hn hl h1 hh R (b := b) cs
      rw [hL] at rg
      obtain ⟨P, hP⟩ : ∃ P, ruD p cap = P := ⟨_, rfl⟩
      rw [hP] at rg ⊢
      push_cast [rg, Bool.not_true]
      exact ⟨x, by first | trivial | rfl, by first | trivial | rfl, hx⟩
    rw [List.map_cons, for_cons, tn8, wn_ok, tk_def, wn_scope]
    refine body.mono fun r cs ⟨x', q1, q2, q3⟩ => ?_
    subst q1 q2
    have hx' := q3
    obtain ⟨a, b', c, rfl, s, hc⟩ := q3
    refine ⟨rfl, ?_⟩
    rw [lk_nx]
    have z := ih (src a b' c) (clearO 1 e1) (clearO 1 e2) (clearO 1 e6) (some (nD h)) hx'
    simp only [List.length_singleton, List.map_cons, List.map_nil, clear_S, clr_l]
    exact z
end
theorem mask53 {ns : List Int} {more : Nat} {b : Bool} (hm : 2 ≤ more ∧ more ≤ 20) {k mask : Nat} {x : C} {e1 e2 a7 a8 : Option D} (hx : IsSrc (k + 35) x) {Q : Sg → List C → Prop} (q : ∀ x e1 e2 e6 a7 a8, IsSrc k x → Q ⟨.nx, [theS ns, e1, e2, some (.cell 0), some (nD more), some (.bl b), e6, a7, a8]⟩ [x]) :
    Wn (m53 [theS ns, e1, e2, some (.cell 0), some (nD more), some (.bl b), some (nD mask), a7, a8] [x]) Q := by
  obtain ⟨BB, hBB⟩ : ∃ B, sScope b53 = B := ⟨_, rfl⟩
  obtain ⟨T, hT⟩ : ∃ T, theS ns = T := ⟨_, rfl⟩
  unfold m53
  rw [hBB, hT, wn_seq]
  push_cast only [Dm.wn_ok]
  refine hopes_W (k := k + 29) hx fun x l hx hn hl => ?_
  obtain ⟨L, hL⟩ : ∃ L, D.lst (l.map wsD) = L := ⟨_, rfl⟩
  rw [hL]
  push_cast only [Dm.wn_ok]
  rw [sk_nx, wn_for]
  push_cast only [Dm.wn_ok]
  refine draw_L (k := k + 28) hx (by decide) (by decide) fun r x hr hx => ?_
  refine pick_W (fun d => ∃ h : Nat, d = nD h ∧ 1 ≤ h ∧ h ≤ 20) ?_ (by simp only [List.length_cons, List.length_nil]; omega) ?_
  · intro y hy
    simp only [List.mem_cons, List.not_mem_nil, or_false] at hy
    rcases hy with rfl | rfl | rfl | rfl
    · exact ⟨2, rfl, by omega, by omega⟩
    · exact ⟨3, rfl, by omega, by omega⟩
    · exact ⟨more, rfl, by omega, by omega⟩
    · exact ⟨20, rfl, by omega, by omega⟩
  · rintro _ ⟨h, rfl, h1, h2⟩
    push_cast only [Dm.wn_ok]
    have av : ∀ ds, asV (.lst ds) = some ds := fun _ => rfl
    rw [av]
    show Wn (Out.ok _ _) _
    rw [wn_ok, fk_def, ← hBB, ← hL, ← hT]
    exact in53 hn hl (k := k) q [1, h] x _ _ _ _ (fun y hy => by
      simp only [List.mem_cons, List.not_mem_nil, or_false] at hy
      rcases hy with rfl | rfl
      · exact ⟨by omega, by omega⟩
      · exact ⟨h1, h2⟩) hx
theorem law_true (ns : List Int) (h : ns.length ≤ 63) : ∃ cs, F_law [.fro (ns.map D.int)] [] = .ok (.bl true) cs := by
  refine law_W (n := 6) (m := 8) rfl ?_ ?_ ns h
  · intro ns k i e hk he
    match e, he with
    | [e3, e4, e5, e6, e7, e8], _ =>
      have go : ∀ {Q : D → List C → Prop}, (∀ x, IsSrc 10000000000000000 x → Q (.cell 0) [x]) → Wn (F__law_source [.int i, .int (k : Nat)] []) Q := fun hQ => source_W hk hQ
      have gi : ∀ (r : Nat), (2 : Int) + (r : Int) = ((2 + r : Nat) : Int) := fun r => by omega
      obtain ⟨MM, hMM⟩ : ∃ B, sScope m53 = B := ⟨_, rfl⟩
      show Wn ((sSeq (sAsg (gA (argN 2 F__law_source) (aCons (gVar 2) (aCons (gVar 1) (aNil)))) (tgName 3)) (sSeq (sAsg (g2 addD (gC (.int 2)) (gA (argN 2 F__law_draw) (aCons (gVar 3) (aCons (gC (.int 19)) (aNil))))) (tgName 4)) (sSeq (sAsg (g2 (eqD false) (gA (argN 2 F__law_draw) (aCons (gVar 3) (aCons (gC (.int 2)) (aNil)))) (gC (.int 0))) (tgName 5)) (sFor (iR1 (aCons (gC (.int 64)) (aNil))) (tgName 6) (sScope m53))))) _ _) _
      rw [hMM, wn_seq]
      push_cast only [Dm.wn_ok]
      refine go fun x hx => ?_
      push_cast only [Dm.wn_ok]
      rw [sk_nx, wn_seq]
      push_cast only [Dm.wn_ok]
      refine draw_L (k := 5000) (hx.mono (by omega)) (by decide) (by decide) fun r x hr hx => ?_
      push_cast only [gi]
      rw [sk_nx, wn_seq]
      push_cast only [Dm.wn_ok]
      refine draw_L (k := 4000) (hx.mono (by omega)) (by decide) (by decide) fun r2 x hr2 hx => ?_
      push_cast only [Dm.wn_ok]
      rw [sk_nx, wn_for]
      have it : ∀ (e : Env') cs, iR1 (aCons (gC (.int 64)) (aNil)) e cs = .ok (rngD 0 64) cs := fun e cs => rng_nat _ 64 (by omega) rfl
      rw [it, wn_ok, fk_def]
      obtain ⟨bb, hbb⟩ : ∃ bb : Bool, decide ((r2 : Int) = 0) = bb := ⟨_, rfl⟩
      rw [hbb]
      refine for_N (fun n env cs => n ≤ 64 ∧ ∃ (x : C) (e1 e2 a6 a7 a8 : Option D), env = [theS ns, e1, e2, some (.cell 0), some (nD (2 + r)), some (.bl bb), a6, a7, a8] ∧ cs = [x] ∧ IsSrc (35 * n) x) _ _ _ ?_ ?_ ?_
      · rw [rng_nd, List.length_map, List.length_range]
        exact ⟨Nat.le_refl _, x, _, _, _, _, _, rfl, rfl, hx.mono (by omega)⟩
      · rintro d n env cs hd ⟨hnn, x, e1, e2, a6, a7, a8, rfl, rfl, hx⟩
        rw [rng_nd] at hd
        obtain ⟨mask, _, rfl⟩ := List.mem_map.mp hd
        rw [tn6, wn_ok, tk_def, ← hMM, wn_scope]
        refine mask53 ⟨by omega, by omega⟩ (k := 35 * n) (hx.mono (by rw [Nat.mul_succ]; omega)) fun x e1 e2 e6 a7 a8 hx => ?_
        have hx' := hx
        obtain ⟨a, b', c, rfl, s, hc⟩ := hx
        refine ⟨rfl, ?_⟩
        rw [lk_nx]
        refine ⟨by omega, src a b' c, clearO 1 e1, clearO 1 e2, clearO 1 e6, clearO 1 a7, clearO 1 a8, ?_, rfl, hx'⟩
        simp only [List.length_singleton, List.map_cons, List.map_nil, clear_S]
        rfl
      · rintro env cs ⟨_, x, e1, e2, a6, a7, a8, rfl, rfl, hx⟩
        exact ⟨_, rfl, rfl⟩
  · intro ns e he
    match e, he with
    | [e1, e2, e3, e4, e5, e6, e7, e8], _ =>
      push_cast [Dm.wn_ok]
      exact ⟨_, rfl⟩
end My
open PySem PySem.W PyProof.Rows in
set_option maxRecDepth 100000 in
set_option maxHeartbeats 0 in
theorem PySem.Challenge.cw_holesleft_k53_wishes_together_holds : PySem.Challenge.rw_holesleft_k53_wishes_together.Holds := by
  w_on; o_law; k_head; (case hw => w_witness2)
  k_fill
  refine Dm.walk_end (l := PySem.Challenge.rw_holesleft_k53_wishes_together) (n := 63) (k := 10) (x := "script") (G := My.F_law) rfl (by decide) rfl ⟨rfl, by decide, by decide⟩ (fun w h Y => PySem.W.kIn_of Y) ?F My.law_true
  case F =>
    intro w mg fa h KX G hmg
    refine' My.all_mk KX G hmg ?a0 ?l0 ?cc0 ?kk0 ?a1 ?l1 ?cc1 ?kk1 ?a2 ?l2 ?cc2 ?kk2 ?a3 ?l3 ?cc3 ?kk3 ?a4 ?l4 ?cc4 ?kk4 ?a5 ?l5 ?cc5 ?kk5 ?a6 ?l6 ?cc6 ?kk6 ?a7 ?l7 ?cc7 ?kk7 ?a8 ?l8 ?cc8 ?kk8 ?a9 ?l9 ?cc9 ?kk9 ?a10 ?l10 ?cc10 ?kk10 ?a11 ?l11 ?cc11 ?kk11 ?a12 ?l12 ?cc12 ?kk12 ?a13 ?l13 ?cc13 ?kk13 ?a14 ?l14 ?cc14 ?kk14 ?a15 ?l15 ?cc15 ?kk15 ?a16 ?l16 ?cc16 ?kk16 ?a17 ?l17 ?cc17 ?kk17 ?a18 ?l18 ?cc18 ?kk18 ?a19 ?l19 ?cc19 ?kk19 ?a20 ?l20 ?cc20 ?kk20 ?a21 ?l21 ?cc21 ?kk21 ?a22 ?l22 ?cc22 ?kk22 ?a23 ?l23 ?cc23 ?kk23 ?a24 ?l24 ?cc24 ?kk24 ?a25 ?l25 ?cc25 ?kk25 ?a26 ?l26 ?cc26 ?kk26 ?a27 ?l27 ?cc27 ?kk27 ?a28 ?l28 ?cc28 ?kk28 ?a29 ?l29 ?cc29 ?kk29 ?a30 ?l30 ?cc30 ?kk30 ?z_abs ?z_all ?z_any ?z_bool ?z_enumerate ?z_int ?z_isinstance ?z_len ?z_list ?z_max ?z_min ?z_range ?z_repr ?z_set ?z_str ?z_tuple ?g_GREATEST_SIZE ?g_IN_SEQUENCE ?h_IN_SEQUENCE ?g_KINDS_WITH_BUDGET ?h_KINDS_WITH_BUDGET ?g_MOST_HOUSES ?g_ORDERS ?h_ORDERS ?g_WISHES ?h_WISHES
    (case a0 => k_is)
    (case l0 => k_is)
    (case cc0 => k_is)
    (case kk0 => k_is)
    (case a1 => k_is)
    (case l1 => k_is)
    (case cc1 => k_is)
    (case kk1 => k_is)
    (case a2 => k_is)
    (case l2 => k_is)
    (case cc2 => k_is)
    (case kk2 => k_is)
    (case a3 => k_is)
    (case l3 => k_is)
    (case cc3 => k_is)
    (case kk3 => k_is)
    (case a4 => k_is)
    (case l4 => k_is)
    (case cc4 => k_is)
    (case kk4 => k_is)
    (case a5 => k_is)
    (case l5 => k_is)
    (case cc5 => k_is)
    (case kk5 => k_is)
    (case a6 => k_is)
    (case l6 => k_is)
    (case cc6 => k_is)
    (case kk6 => k_is)
    (case a7 => k_is)
    (case l7 => k_is)
    (case cc7 => k_is)
    (case kk7 => k_is)
    (case a8 => k_is)
    (case l8 => k_is)
    (case cc8 => k_is)
    (case kk8 => k_is)
    (case a9 => k_is)
    (case l9 => k_is)
    (case cc9 => k_is)
    (case kk9 => k_is)
    (case a10 => k_is)
    (case l10 => k_is)
    (case cc10 => k_is)
    (case kk10 => k_is)
    (case a11 => k_is)
    (case l11 => k_is)
    (case cc11 => k_is)
    (case kk11 => k_is)
    (case a12 => k_is)
    (case l12 => k_is)
    (case cc12 => k_is)
    (case kk12 => k_is)
    (case a13 => k_is)
    (case l13 => k_is)
    (case cc13 => k_is)
    (case kk13 => k_is)
    (case a14 => k_is)
    (case l14 => k_is)
    (case cc14 => k_is)
    (case kk14 => k_is)
    (case a15 => k_is)
    (case l15 => k_is)
    (case cc15 => k_is)
    (case kk15 => k_is)
    (case a16 => k_is)
    (case l16 => k_is)
    (case cc16 => k_is)
    (case kk16 => k_is)
    (case a17 => k_is)
    (case l17 => k_is)
    (case cc17 => k_is)
    (case kk17 => k_is)
    (case a18 => k_is)
    (case l18 => k_is)
    (case cc18 => k_is)
    (case kk18 => k_is)
    (case a19 => k_is)
    (case l19 => k_is)
    (case cc19 => k_is)
    (case kk19 => k_is)
    (case a20 => k_is)
    (case l20 => k_is)
    (case cc20 => k_is)
    (case kk20 => k_is)
    (case a21 => k_is)
    (case l21 => k_is)
    (case cc21 => k_is)
    (case kk21 => k_is)
    (case a22 => k_is)
    (case l22 => k_is)
    (case cc22 => k_is)
    (case kk22 => k_is)
    (case a23 => k_is)
    (case l23 => k_is)
    (case cc23 => k_is)
    (case kk23 => k_is)
    (case a24 => k_is)
    (case l24 => k_is)
    (case cc24 => k_is)
    (case kk24 => k_is)
    (case a25 => k_is)
    (case l25 => k_is)
    (case cc25 => k_is)
    (case kk25 => k_is)
    (case a26 => k_is)
    (case l26 => k_is)
    (case cc26 => k_is)
    (case kk26 => k_is)
    (case a27 => k_is)
    (case l27 => k_is)
    (case cc27 => k_is)
    (case kk27 => k_is)
    (case a28 => k_is)
    (case l28 => k_is)
    (case cc28 => k_is)
    (case kk28 => k_is)
    (case a29 => k_is)
    (case l29 => k_is)
    (case cc29 => k_is)
    (case kk29 => k_is)
    (case a30 => k_is)
    (case l30 => k_is)
    (case cc30 => k_is)
    (case kk30 => k_is)
    (case z_abs => k_is)
    (case z_all => k_is)
    (case z_any => k_is)
    (case z_bool => k_is)
    (case z_enumerate => k_is)
    (case z_int => k_is)
    (case z_isinstance => k_is)
    (case z_len => k_is)
    (case z_list => k_is)
    (case z_max => k_is)
    (case z_min => k_is)
    (case z_range => k_is)
    (case z_repr => k_is)
    (case z_set => k_is)
    (case z_str => k_is)
    (case z_tuple => k_is)
    (case g_GREATEST_SIZE => k_is)
    (case g_IN_SEQUENCE => k_is)
    (case h_IN_SEQUENCE => k_is)
    (case g_KINDS_WITH_BUDGET => k_is)
    (case h_KINDS_WITH_BUDGET => k_is)
    (case g_MOST_HOUSES => k_is)
    (case g_ORDERS => k_is)
    (case h_ORDERS => k_is)
    (case g_WISHES => k_is)
    (case h_WISHES => k_is)
