import PyProof.Rows.All
import Wide.All
import OpenK.AllK
import Wide.FinOn
import HandS.CallLocal
import HandS.Deep
import HandS.ExcField
import HandS.ExcInit
import HandS.ExcIs
import HandS.Flow
import HandS.ForExc
import HandS.ForMost
import HandS.IsInst
import HandS.More
import HandS.RaiseMore
import HandS.TupAny
import HandS.TupLe
import HandS.Walk
import HandS.Wide
import HandS.Zip
import KE.KTupSum
import KE.SortData
import PySem.Challenge.RW_oncecoin_k07_shares_add_up
set_option Elab.async false
set_option linter.all false
set_option maxRecDepth 100000
set_option maxHeartbeats 2000000
/-! Pe1: data in the heap, what stays. -/
namespace Pe
open PySem L2
abbrev D := PyData
abbrev Fg := PySem.W.Frag

/-- a list that may be read, as the model lays lists: tracked, locked, or written at the top -/
def LsQ (K : Fg) (H : Hp) (a : Addr) (xs : List V) : Prop :=
  Rd H a (.lst xs) ∨ ∃ (its : Array Value) (n : Nat), K.lookup a = some { cls := .type "list", data := .seq its n } ∧ its.size ≤ sizeLine ∧ Vals xs its.toList
theorem LsQ.sq {K : Fg} {H : Hp} {a : Addr} {xs : List V} (h : LsQ K H a xs) : SqL K H a xs := by
  rcases h with h | ⟨its, n, h1, h2, h3⟩
  · exact .inl h
  · exact .inr ⟨_, its, n, h1, rfl, rfl, rfl, h2, h3⟩
mutual
inductive Dq (K : Fg) (H : Hp) : V → D → Prop
  | non : Dq K H .non .none
  | bl (b : Bool) : Dq K H (.bl b) (.bool b)
  | int (i : Int) : Dq K H (.int i) (.int i)
  | str (x : Str) : Dq K H (.str x) (.str x)
  | lst {a : Addr} {xs : List V} {ds : List D} : LsQ K H a xs → DqAll K H xs ds → Dq K H (.ref a) (.list ds)
  | tup {a : Addr} {xs : List V} {ds : List D} : SqT K H a xs → DqAll K H xs ds → Dq K H (.ref a) (.tuple ds)
inductive DqAll (K : Fg) (H : Hp) : List V → List D → Prop
  | nil : DqAll K H [] []
  | cons {v : V} {vs : List V} {d : D} {ds : List D} : Dq K H v d → DqAll K H vs ds → DqAll K H (v :: vs) (d :: ds)
end
theorem rd_same {H H' : Hp} {a : Addr} {o : HO} (e : Same H H') (h : Rd H a o) : Rd H' a o := by
  rcases h with h | ⟨u, h⟩
  · exact .inl (e _ _ h)
  · exact .inr ⟨u, e _ _ h⟩

theorem ls_same {K : Fg} {H H' : Hp} {a : Addr} {xs : List V} (e : Same H H') (h : LsQ K H a xs) : LsQ K H' a xs := by
  rcases h with h | h
  · exact .inl (rd_same e h)
  · exact .inr h
theorem seqT_same {K : Fg} {H H' : Hp} {a : Addr} {xs : List V} (e : Same H H') (h : SqT K H a xs) : SqT K H' a xs := by
  rcases h with (h | ⟨o, h⟩) | h
  · exact .inl (.inl (e _ _ h))
  · exact .inl (.inr ⟨o, e _ _ h⟩)
  · exact .inr h

section
variable {K : Fg} {H H' : Hp}
mutual
theorem dp_same (e : Same H H') : ∀ (d : D) (v : V), Dq K H v d → Dq K H' v d
  | .none, _, h => by cases h; exact .non
  | .bool b, _, h => by cases h; exact .bl b
  | .int i, _, h => by cases h; exact .int i
  | .str x, _, h => by cases h; exact .str x
  | .list ds, _, h => by
    cases h with
    | lst hs ha => exact .lst (ls_same e hs) (dpa_same e ds _ ha)
  | .tuple ds, _, h => by
    cases h with
    | tup hs ha => exact .tup (seqT_same e hs) (dpa_same e ds _ ha)
  | .dict _, _, h => by cases h
theorem dpa_same (e : Same H H') : ∀ (ds : List D) (vs : List V), DqAll K H vs ds → DqAll K H' vs ds
  | [], _, h => by cases h; exact .nil
  | d :: ds, _, h => by
    cases h with
    | cons h1 h2 => exact .cons (dp_same e d _ h1) (dpa_same e ds _ h2)
end
end

section
variable {K : Fg} {H : Hp}
mutual
theorem dq_dp : ∀ (d : D) (v : V), Dq K H v d → Dp K H v d
  | .none, _, h => by cases h; exact .non
  | .bool b, _, h => by cases h; exact .bl b
  | .int i, _, h => by cases h; exact .int i
  | .str x, _, h => by cases h; exact .str x
  | .list ds, _, h => by
    cases h with
    | lst hs ha => exact .lst hs.sq (dqa_dpa ds _ ha)
  | .tuple ds, _, h => by
    cases h with
    | tup hs ha => exact .tup hs (dqa_dpa ds _ ha)
  | .dict _, _, h => by cases h
theorem dqa_dpa : ∀ (ds : List D) (vs : List V), DqAll K H vs ds → DpAll K H vs ds
  | [], _, h => by cases h; exact .nil
  | d :: ds, _, h => by
    cases h with
    | cons h1 h2 => exact .cons (dq_dp d _ h1) (dqa_dpa ds _ h2)
end
end

/-! no list within -/
mutual
def noL : D → Bool
  | .list _ => false
  | .dict _ => false
  | .tuple xs => noLAll xs
  | .none => true
  | .bool _ => true
  | .int _ => true
  | .str _ => true
def noLAll : List D → Bool
  | [] => true
  | x :: xs => noL x && noLAll xs
end

section
variable {K : Fg} {G G' : Hp}
theorem seqT_drop (hG : ∀ a o, G a = some o → (∃ xs, o = HO.lst xs) ∨ G' a = some o) {a : Addr} {xs : List V} (h : SqT K G a xs) : SqT K G' a xs := by
  rcases h with (h | ⟨o, h⟩) | h
  · rcases hG _ _ h with ⟨_, q⟩ | q
    · cases q
    · exact .inl (.inl q)
  · rcases hG _ _ h with ⟨_, q⟩ | q
    · cases q
    · exact .inl (.inr ⟨o, q⟩)
  · exact .inr h
mutual
theorem dp_drop (hG : ∀ a o, G a = some o → (∃ xs, o = HO.lst xs) ∨ G' a = some o) : ∀ (d : D) (v : V), noL d = true → Dq K G v d → Dq K G' v d
  | .none, _, _, h => by cases h; exact .non
  | .bool b, _, _, h => by cases h; exact .bl b
  | .int i, _, _, h => by cases h; exact .int i
  | .str x, _, _, h => by cases h; exact .str x
  | .list ds, _, n, _ => by cases n
  | .tuple ds, _, n, h => by
    cases h with
    | tup hs ha => exact .tup (seqT_drop hG hs) (dpa_drop hG ds _ n ha)
  | .dict _, _, _, h => by cases h
theorem dpa_drop (hG : ∀ a o, G a = some o → (∃ xs, o = HO.lst xs) ∨ G' a = some o) : ∀ (ds : List D) (vs : List V), noLAll ds = true → DqAll K G vs ds → DqAll K G' vs ds
  | [], _, _, h => by cases h; exact .nil
  | d :: ds, _, n, h => by
    have n' : (noL d && noLAll ds) = true := n
    rw [Bool.and_eq_true] at n'
    cases h with
    | cons h1 h2 => exact .cons (dp_drop hG d _ n'.1 h1) (dpa_drop hG ds _ n'.2 h2)
end
end

section
variable {K : Fg} {G : Hp}
theorem dpa_len : ∀ {vs : List V} {ds : List D}, DqAll K G vs ds → vs.length = ds.length
  | _, _, .nil => rfl
  | _, _, .cons _ t => congrArg (· + 1) (dpa_len t)
theorem dpa_get : ∀ {vs : List V} {ds : List D} {i : Nat} {d : D}, DqAll K G vs ds → ds[i]? = some d → ∃ v, vs[i]? = some v ∧ Dq K G v d
  | _, _, _, _, .nil, h => by simp at h
  | _, _, 0, _, .cons r _, h => by simp at h; subst h; exact ⟨_, rfl, r⟩
  | _, _, i + 1, _, .cons _ t, h => by
    obtain ⟨v, h1, h2⟩ := dpa_get (i := i) t (by simpa using h)
    exact ⟨v, by simpa using h1, h2⟩
theorem dpa_get' {vs : List V} {ds : List D} {i : Nat} {v : V} (h : DqAll K G vs ds) (e : vs[i]? = some v) : ∃ d, ds[i]? = some d ∧ Dq K G v d := by
  obtain ⟨hi, _⟩ := List.getElem?_eq_some_iff.mp e
  have hd : i < ds.length := by rw [← dpa_len h]; exact hi
  obtain ⟨v', e', r⟩ := dpa_get h (List.getElem?_eq_getElem hd)
  rw [e] at e'
  cases e'
  exact ⟨ds[i], List.getElem?_eq_getElem hd, r⟩
theorem dpa_append : ∀ {vs ws : List V} {ds es : List D}, DqAll K G vs ds → DqAll K G ws es → DqAll K G (vs ++ ws) (ds ++ es)
  | _, _, _, _, .nil, s => s
  | _, _, _, _, .cons r t, s => .cons r (dpa_append t s)
theorem dpa_take : ∀ (n : Nat) {vs : List V} {ds : List D}, DqAll K G vs ds → DqAll K G (vs.take n) (ds.take n)
  | 0, _, _, _ => by simpa using DqAll.nil
  | n + 1, _, _, .nil => by simpa using DqAll.nil
  | n + 1, _, _, .cons r t => by simpa using DqAll.cons r (dpa_take n t)
theorem dpa_drop' : ∀ (n : Nat) {vs : List V} {ds : List D}, DqAll K G vs ds → DqAll K G (vs.drop n) (ds.drop n)
  | 0, _, _, h => by simpa using h
  | n + 1, _, _, .nil => by simpa using DqAll.nil
  | n + 1, _, _, .cons r t => by simpa using dpa_drop' n t
theorem dpa_nil_iff {vs : List V} {ds : List D} (h : DqAll K G vs ds) : vs = [] ↔ ds = [] := by
  cases h <;> simp
theorem dpa_rev {vs : List V} {ds : List D} (h : DqAll K G vs ds) : DqAll K G vs.reverse ds.reverse := by
  induction vs generalizing ds with
  | nil => cases h; exact .nil
  | cons v vs ih =>
    cases h with
    | cons r t =>
      simp only [List.reverse_cons]
      exact dpa_append (ih t) (.cons r .nil)
end

/-! ### results -/
/-- what is raised: its class, the names of its fields, the classes that it is of, the fields -/
structure Err where
  cls : Str
  fs : List Str
  ups : List Str
  args : List D
inductive Res (α : Type) where
  | ok (a : α)
  | err (e : Err)
  | no
namespace Res
def bind {α β : Type} (r : Res α) (f : α → Res β) : Res β := match r with
  | .ok a => f a
  | .err e => .err e
  | .no => .no
def ofO {α : Type} : Option α → Res α
  | some a => .ok a
  | none => .no
def noErr {α : Type} : Res α → Res α
  | .err _ => .no
  | r => r
@[simp] theorem bind_ok {α β : Type} (a : α) (f : α → Res β) : (Res.ok a).bind f = f a := id rfl
@[simp] theorem bind_err {α β : Type} (e : Err) (f : α → Res β) : (Res.err e).bind f = .err e := id rfl
@[simp] theorem bind_no {α β : Type} (f : α → Res β) : (Res.no).bind f = .no := id rfl
@[simp] theorem ofO_some {α : Type} (a : α) : Res.ofO (some a) = .ok a := id rfl
@[simp] theorem ofO_none {α : Type} : Res.ofO (none : Option α) = .no := id rfl
@[simp] theorem noErr_ok {α : Type} (a : α) : (Res.ok a).noErr = .ok a := id rfl
@[simp] theorem noErr_no {α : Type} : (Res.no : Res α).noErr = .no := id rfl
@[simp] theorem noErr_err {α : Type} (e : Err) : (Res.err e : Res α).noErr = .no := id rfl
end Res

/-- the heap goes on: what is told of it grows, by new things alone -/
structure Nx (G H G' H' : Hp) : Prop where
  g : Same G G'
  s : Same G' H'
  h : Same H H'
  n : ∀ a, G a = none → H a ≠ none → G' a = none
theorem Nx.refl {G H : Hp} (s : Same G H) : Nx G H G H := ⟨Same.refl G, s, Same.refl H, fun _ e _ => e⟩
theorem Nx.trans {G H G1 H1 G2 H2 : Hp} (x : Nx G H G1 H1) (y : Nx G1 H1 G2 H2) : Nx G H G2 H2 :=
  ⟨x.g.trans y.g, y.s, x.h.trans y.h, fun a e n => y.n a (x.n a e n) fun z => n (x.h.free z)⟩
/-- where the class of an error lies: by its name, its fields' names, its classes' names -/
abbrev Co := Str → List Str → List Str → Option Addr
/-- the fields of an exception's dict -/
def XdL (K : Fg) (G : Hp) (ps : List (Str × V)) (e : Err) : Prop := ∀ f d, (e.fs.zip e.args).lookup f = some d → ∃ v, ps.lookup f = some v ∧ Dq K G v d
theorem XdL.mono {K : Fg} {G G' : Hp} {ps : List (Str × V)} {e : Err} (h : XdL K G ps e) (s : Same G G') : XdL K G' ps e := fun f d q =>
  let ⟨v, h1, h2⟩ := h f d q
  ⟨v, h1, dp_same s d v h2⟩
/-- what is wanted of an error: wherever it lies, its fields told -/
def EW (K : Fg) (co : Co) (E : XK) (e : Err) (G H : Hp) : Prop :=
  ∀ (C dx : Addr) (ps : List (Str × V)) (G' H' : Hp), co e.cls e.fs e.ups = some C → Nx G H G' H' → G' dx = none → H dx = none → H' dx = some (.xd ps) → XdL K G' ps e → E (.ref C) (some dx) H'
theorem EW.mono {K : Fg} {co : Co} {E : XK} {e : Err} {G H G1 H1 : Hp} (h : EW K co E e G H) (x : Nx G H G1 H1) : EW K co E e G1 H1 :=
  fun C dx ps G' H' h1 h2 h3 h4 h5 => h C dx ps G' H' h1 (x.trans h2) h3 (x.h.free h4) h5
/-- the exception that a suite holds: the slot of its name, itself, its dict -/
structure XI where
  i : Nat
  a : Addr
  dd : Addr
  e : Err
abbrev Zx := Option XI
def XdQ (K : Fg) (G : Hp) (q : XI) : Prop := ∃ ps, G q.dd = some (.xd ps) ∧ XdL K G ps q.e
theorem XdQ.mono {K : Fg} {G G' : Hp} {q : XI} (h : XdQ K G q) (s : Same G G') : XdQ K G' q := let ⟨ps, h1, h2⟩ := h
  ⟨ps, s _ _ h1, h2.mono s⟩

/-- what is to follow a result -/
def Pst (K : Fg) (co : Co) (E : XK) (r : Res D) (G H : Hp) (Q : VK) : Prop := match r with
  | .ok d => ∀ (v : V) (G' H' : Hp), Nx G H G' H' → Dq K G' v d → Q v H'
  | .err e => EW K co E e G H
  | .no => False
section
variable {K : Fg} {co : Co} {E : XK} {G H G1 H1 : Hp} {Q Q' : VK}
theorem Pst.mono {r : Res D} (h : Pst K co E r G H Q) (x : Nx G H G1 H1) : Pst K co E r G1 H1 Q := by
  cases r with
  | ok d => exact fun v G' H' y hv => h v G' H' (x.trans y) hv
  | err e => exact EW.mono h x
  | no => exact h
end

/-- the slots as data -/
structure RepV (K : Fg) (z : Zx) (σ : St) (ν : List (Option D)) (G H : Hp) : Prop where
  same : Same G H
  len : ν.length = σ.length
  get : ∀ (i : Nat) (d : D), ν[i]? = some (some d) → ∃ v, σ[i]? = some (some v) ∧ Dq K G v d
  x : ∀ q, z = some q → (ν[q.i]? = some none → σ[q.i]? = some (some (.ref q.a))) ∧ XdQ K G q
theorem RepV.mono {K : Fg} {z : Zx} {σ : St} {ν : List (Option D)} {G H G1 H1 : Hp} (r : RepV K z σ ν G H) (x : Nx G H G1 H1) : RepV K z σ ν G1 H1 :=
  ⟨x.s, r.len, fun i d e => let ⟨v, h1, h2⟩ := r.get i d e; ⟨v, h1, dp_same x.g d v h2⟩, fun q e => ⟨(r.x q e).1, (r.x q e).2.mono x.g⟩⟩
theorem RepV.drop {K : Fg} {z : Zx} {σ : St} {ν : List (Option D)} {G H : Hp} (r : RepV K z σ ν G H) : RepV K none σ ν G H := ⟨r.same, r.len, r.get, fun q e => by cases e⟩

/-- readings may be made stronger -/
theorem pe_imp {X : Cx} {e : Expr} {t t' : TE} (h : PE X e t) (k : ∀ σ H Q, t' σ H Q → t σ H Q) : PE X e t' := ⟨fun pins s σ H Q I q => h.run pins s σ H Q I (k σ H Q q)⟩
theorem pt_imp {X : Cx} {e : Expr} {t t' : TT} (h : PT X e t) (k : ∀ σ H Q, t' σ H Q → t σ H Q) : PT X e t' := ⟨fun pins s σ H Q I q => h.run pins s σ H Q I (k σ H Q q)⟩
theorem pa_imp {X : Cx} {es : List Expr} {t t' : TA} (h : PA X es t) (k : ∀ σ H Q, t' σ H Q → t σ H Q) : PA X es t' := ⟨fun pos pins s σ H Q I q => h.run pos pins s σ H Q I (k σ H Q q)⟩
theorem ps_imp {X : Cx} {st : Stmt} {t t' : TS} (h : PS X st t) (k : ∀ D σ H, t' D σ H → t D σ H) : PS X st t' := ⟨fun pins s σ H D I q => h.run pins s σ H D I (k D σ H q)⟩
theorem pss_imp {X : Cx} {st : List Stmt} {t t' : TS} (h : PSs X st t) (k : ∀ D σ H, t' D σ H → t D σ H) : PSs X st t' := ⟨fun pins s σ H D I q => h.run pins s σ H D I (k D σ H q)⟩
theorem opR_imp {X : Cx} {f : Value → Value → Sem Value} {r r' : R2} (h : OpR X f r) (k : ∀ x y H Q, r' x y H Q → r x y H Q) : OpR X f r' := fun pins s σ H x y v u Q I rx ry q => h pins s σ H x y v u Q I rx ry (k _ _ _ _ q)

/-- a new tuple, a new list -/
theorem same_upd {H : Hp} {p : Addr} {o : HO} (h : H p = none) : Same H (upd H p o) := fun b u e => by rw [upd_ne (ne_of_none e h)]; exact e
theorem same_upd2 {G H : Hp} {p : Addr} {o : HO} (s : Same G H) : Same (upd G p o) (upd H p o) := fun b u e => by
  by_cases q : b = p
  · subst q; rw [upd_same] at e ⊢; exact e
  · rw [upd_ne q] at e ⊢; exact s _ _ e
theorem dp_newT {K : Fg} {G H : Hp} {vs : List V} {ds : List D} {p : Addr} (a : DqAll K G vs ds) (s : Same G H) (hp : H p = none) : Dq K (upd G p (.tup vs)) (.ref p) (.tuple ds) :=
  .tup (SqT.of upd_same) (dpa_same (same_upd (s.free hp)) ds vs a)
theorem dp_newL {K : Fg} {G H : Hp} {vs : List V} {ds : List D} {p : Addr} (a : DqAll K G vs ds) (s : Same G H) (hp : H p = none) : Dq K (upd G p (.lst vs)) (.ref p) (.list ds) :=
  .lst (.inl (Rd.of upd_same)) (dpa_same (same_upd (s.free hp)) ds vs a)
/-- a new thing, told -/
theorem Nx.new {G H : Hp} {p : Addr} {o : HO} (s : Same G H) (hp : H p = none) : Nx G H (upd G p o) (upd H p o) :=
  ⟨same_upd (s.free hp), same_upd2 s, same_upd hp, fun a e n => by
    by_cases q : a = p
    · subst q; exact absurd hp n
    · rw [upd_ne q]; exact e⟩
/-- a new thing, not told -/
theorem Nx.hid {G H : Hp} {p : Addr} {o : HO} (s : Same G H) (hp : H p = none) : Nx G H G (upd H p o) :=
  ⟨Same.refl G, s.trans (same_upd hp), same_upd hp, fun _ e _ => e⟩
end Pe

set_option Elab.async false
set_option linter.all false
set_option maxRecDepth 100000
set_option maxHeartbeats 4000000
/-! Pe2: the operators and the built-in functions upon data. -/
namespace Pe
open PySem L2

/-- what is to follow a value -/
def PsO (K : Fg) (d : D) (G H : Hp) (Q : VK) : Prop := ∀ (v : V) (G' H' : Hp), Nx G H G' H' → Dq K G' v d → Q v H'
section
variable {K : Fg} {G H G1 H1 : Hp} {Q : VK}
theorem PsO.now {v : V} {d : D} (h : PsO K d G H Q) (s : Same G H) (a : Dq K G v d) : Q v H := h v G H (Nx.refl s) a
theorem PsO.tup {vs : List V} {ds : List D} (h : PsO K (.tuple ds) G H Q) (s : Same G H) (a : DqAll K G vs ds) : ∀ p, H p = none → Q (.ref p) (upd H p (.tup vs)) := fun p hp =>
  h _ _ _ (Nx.new s hp) (dp_newT a s hp)
theorem PsO.lst {vs : List V} {ds : List D} (h : PsO K (.list ds) G H Q) (s : Same G H) (a : DqAll K G vs ds) : ∀ p, H p = none → Q (.ref p) (upd H p (.lst vs)) := fun p hp =>
  h _ _ _ (Nx.new s hp) (dp_newL a s hp)
end
def rD2 (K : Fg) (f : D → D → Option D) : R2 := fun x y H Q => ∃ G dx dy d, Same G H ∧ Dq K G x dx ∧ Dq K G y dy ∧ f dx dy = some d ∧ PsO K d G H Q
def rD1 (K : Fg) (f : D → Option D) : V → Hp → VK → Prop := fun x H Q => ∃ G dx d, Same G H ∧ Dq K G x dx ∧ f dx = some d ∧ PsO K d G H Q
def rDc (K : Fg) (f : List D → Option D) : List V → Hp → VK → Prop := fun xs H Q => ∃ G ds d, Same G H ∧ DqAll K G xs ds ∧ f ds = some d ∧ PsO K d G H Q

/-! ### arithmetic -/
def small (i : Int) : Bool := decide (i.natAbs < 18446744073709551616)
def addD : D → D → Option D
  | .int i, .int j => some (.int (i + j))
  | .str i, .str j => if i.length + j.length ≤ sizeLine then some (.str (i ++ j)) else none
  | .list xs, .list ys => if xs.length + ys.length ≤ sizeLine then some (.list (xs ++ ys)) else none
  | .tuple xs, .tuple ys => if xs.length + ys.length ≤ sizeLine then some (.tuple (xs ++ ys)) else none
  | _, _ => none
def subD : D → D → Option D
  | .int i, .int j => some (.int (i - j))
  | _, _ => none
def mulOk (i j : Int) : Bool := small j || small i || decide (i.natAbs.log2 + j.natAbs.log2 < 1000000)
def mulD : D → D → Option D
  | .int i, .int j => if mulOk i j = true then some (.int (i * j)) else none
  | .list xs, .int k => if -(9223372036854775808) ≤ k ∧ k < 9223372036854775808 ∧ xs.length * k.toNat ≤ sizeLine then some (.list (List.replicate k.toNat xs).flatten) else none
  | _, _ => none
def divD : D → D → Option D
  | .int i, .int j => if 0 < j ∧ j.natAbs.log2 < 9000 then some (.int (i / j)) else none
  | _, _ => none
def modD : D → D → Option D
  | .int i, .int j => if 0 < j then some (.int (i % j)) else none
  | _, _ => none
def powD : D → D → Option D
  | .int i, .int j => if 0 ≤ j ∧ j ≤ 1000000 ∧ i.natAbs < 18446744073709551616 then some (.int (i ^ j.toNat)) else none
  | _, _ => none
def binD : Operator → D → D → Option D
  | .Add => addD
  | .Sub => subD
  | .Mult => mulD
  | .FloorDiv => divD
  | .Mod => modD
  | .Pow => powD
  | _ => fun _ _ => none
def negD : D → Option D
  | .int i => some (.int (-i))
  | _ => none

theorem of_ite_some {α : Type} {c : Prop} [Decidable c] {a b : α} (h : (if c then some a else none) = some b) : c ∧ a = b := by
  by_cases q : c
  · rw [if_pos q] at h; exact ⟨q, Option.some.inj h⟩
  · rw [if_neg q] at h; cases h
theorem small_lt {i : Int} (h : small i = true) : -(2 ^ 64) < i ∧ i < 2 ^ 64 := by
  have := of_decide_eq_true h
  omega
theorem LsQ.lstM {X : Cx} {pins : List (Addr × Obj)} {σ : St} {H : Hp} {s : Shared} {a : Addr} {xs : List V} (I : Inv X pins σ H s) (h : LsQ X.K H a xs) :
    ∃ (its : List Value) (n : Nat), Vals xs its ∧ xs.length = its.length ∧ s.heap.get? a = some { cls := .type "list", data := .seq its.toArray n } := by
  rcases h with h | ⟨its, n, h1, h2, h3⟩
  · obtain ⟨z, its, n, r, e⟩ := Rd.ok h I.hok
    exact ⟨its, n, r, r.length, e⟩
  · exact ⟨its.toList, n, h3, h3.length, by simpa using I.kIn a _ h1⟩
section
variable {X : Cx}
theorem op_catD : OpR X (binaryOp .Add) (fun x y H Q => ∃ l b xs zs, x = .ref l ∧ y = .ref b ∧ LsQ X.K H l xs ∧ LsQ X.K H b zs ∧ xs.length + zs.length ≤ sizeLine ∧ ∀ p, H p = none → Q (.ref p) (upd H p (.lst (xs ++ zs)))) := by
  rintro pins s σ H _ _ v u Q I rx ry ⟨l, b, xs, zs, rfl, rfl, h1, h2, hz, q⟩
  cases rx
  cases ry
  obtain ⟨its, n, r, hl, e⟩ := LsQ.lstM I h1
  obtain ⟨jts, m, r', hl', e'⟩ := LsQ.lstM I h2
  refine PySem.P.add_list e e' ?_ (by simp only [List.size_toArray]; omega)
  rw [show its.toArray ++ jts.toArray = (its ++ jts).toArray by simp]
  refine ⟨.ref _, _, I.lnew (t' := s.toks) (r.append r') ?_, rfl, q _ I.fresh⟩
  rw [List.length_append]
  exact hz
theorem op_addD : OpR X (binaryOp .Add) (rD2 X.K addD) := by
  rintro pins s σ H x y v u Q I rx ry ⟨G, dx, dy, d, sm, hx, hy, hf, q⟩
  cases hx with
  | int i =>
    cases hy with
    | int j => cases hf; exact op_add pins s σ H _ _ v u Q I rx ry ⟨i, j, rfl, rfl, q.now sm (.int _)⟩
    | _ => cases hf
  | str i =>
    cases hy with
    | str j =>
      obtain ⟨hz, rfl⟩ := of_ite_some hf
      exact op_add_str pins s σ H _ _ v u Q I rx ry ⟨i, j, rfl, rfl, hz, q.now sm (.str _)⟩
    | _ => cases hf
  | lst h1 a1 =>
    cases hy with
    | lst h2 a2 =>
      obtain ⟨hz, rfl⟩ := of_ite_some hf
      exact op_catD pins s σ H _ _ v u Q I rx ry ⟨_, _, _, _, rfl, rfl, ls_same sm h1, ls_same sm h2, by rw [dpa_len a1, dpa_len a2]; exact hz, q.lst sm (dpa_append a1 a2)⟩
    | _ => cases hf
  | tup h1 a1 =>
    cases hy with
    | tup h2 a2 =>
      obtain ⟨hz, rfl⟩ := of_ite_some hf
      refine op_catA pins s σ H _ _ v u Q I rx ry ⟨_, _, _, _, rfl, rfl, seqT_same sm h1, seqT_same sm h2, by rw [dpa_len a1, dpa_len a2]; exact hz, fun e => ?_, fun _ e => ?_, fun _ _ => q.tup sm (dpa_append a1 a2)⟩
      · subst e
        have e1 := (dpa_nil_iff a1).mp rfl
        subst e1
        exact q.now sm (.tup h2 a2)
      · subst e
        have e2 := (dpa_nil_iff a2).mp rfl
        subst e2
        exact q.now sm (by rw [List.append_nil]; exact .tup h1 a1)
    | _ => cases hf
  | _ => cases hf
theorem op_subD : OpR X (binaryOp .Sub) (rD2 X.K subD) := by
  rintro pins s σ H x y v u Q I rx ry ⟨G, dx, dy, d, sm, hx, hy, hf, q⟩
  cases hx with
  | int i =>
    cases hy with
    | int j => cases hf; exact op_sub pins s σ H _ _ v u Q I rx ry ⟨i, j, rfl, rfl, q.now sm (.int _)⟩
    | _ => cases hf
  | _ => cases hf
theorem op_repD : OpR X (binaryOp .Mult) (fun x y H Q => ∃ l k xs, x = .ref l ∧ y = .int k ∧ LsQ X.K H l xs ∧ -(2 ^ 63) ≤ k ∧ k < 2 ^ 63 ∧ xs.length * k.toNat ≤ sizeLine ∧ ∀ p, H p = none → Q (.ref p) (upd H p (.lst (List.replicate k.toNat xs).flatten))) := by
  rintro pins s σ H _ _ v u Q I rx ry ⟨l, k, xs, rfl, rfl, h1, k1, k2, hz, q⟩
  cases rx
  obtain ⟨t, rfl⟩ := ry
  obtain ⟨its, n, r, hl, e⟩ := LsQ.lstM I h1
  have room : its.toArray.size * k.toNat ≤ sizeLine := by
    simp only [List.size_toArray]
    rw [← hl]
    exact hz
  have line : (sizeLine : Nat) ≤ (2 ^ 63 - 1) / 8 := by decide
  have fits : ¬ (!Builtin.List.listFitsIndex k) = true := by simp [fitsIndex_both k1 k2]
  have caps : ¬ its.toArray.size * k.toNat > (2 ^ 63 - 1) / 8 := by omega
  have long : ¬ Builtin.List.listTooLong (its.toArray.size * k.toNat) = true := by rw [notLongL room]; simp
  have made : List.foldl (· ++ ·) #[] (List.replicate (if its.toArray.isEmpty = true then 0 else k.toNat) its.toArray)
      = (List.replicate k.toNat its).flatten.toArray := by
    have step (m : Nat) : List.foldl (· ++ ·) #[] (List.replicate m its.toArray) = (List.replicate m its).flatten.toArray := by
      simpa using foldl_rep its m []
    rw [step]
    cases its with
    | nil => simp
    | cons a r' => rw [if_neg (by simp)]
  have inner := PySem.AutoListH.list___mul___list_int_3 l its.toArray n k t fits caps long
  refine wpAny_binaryOp_repeat_ref (T := "list") (U := "int") (by decide) ⟨_, e, rfl⟩ (fun s' => typeIs_int s' k t)
    noFill_list_mul F.fills_int_mul F.slot_int_rmul repeat_list F.slot_int_index.lookup ?_
  refine call_meets F.slot_int_rmul (typeIs_int s k t) F.entry_int_rmul (F.args_int_rmul_2 _ _)
    (int___rmul___int_list k t l its.toArray n) ⟨e, rfl, ⟨_, e, rfl⟩, ?_⟩
  refine call_meets F.slot_list_mul ⟨_, e, rfl⟩ F.entry_list_mul (F.args_list_mul_2 _ _) inner ⟨e, ?_⟩
  rw [made]
  refine ⟨.ref _, _, I.lnew (t' := s.toks) (r.rep k.toNat) ?_, rfl, q _ I.fresh⟩
  rw [PyProof.Rows.lm_len_rep_flat, Nat.mul_comm]
  exact hz
theorem op_mulD : OpR X (binaryOp .Mult) (rD2 X.K mulD) := by
  rintro pins s σ H x y v u Q I rx ry ⟨G, dx, dy, d, sm, hx, hy, hf, q⟩
  cases hx with
  | int i =>
    cases hy with
    | int j =>
      obtain ⟨hz, rfl⟩ := of_ite_some hf
      have q' := q.now sm (.int _)
      unfold mulOk at hz
      simp only [Bool.or_eq_true] at hz
      rcases hz with (hz | hz) | hz
      · exact op_mul pins s σ H _ _ v u Q I rx ry ⟨i, j, rfl, rfl, .inr (small_lt hz), q'⟩
      · exact op_mul pins s σ H _ _ v u Q I rx ry ⟨i, j, rfl, rfl, .inl (small_lt hz), q'⟩
      · exact op_mulW pins s σ H _ _ v u Q I rx ry ⟨i, j, rfl, rfl, (of_decide_eq_true hz : i.natAbs.log2 + j.natAbs.log2 < 1000000), q'⟩
    | _ => cases hf
  | lst h1 a1 =>
    cases hy with
    | int k =>
      obtain ⟨⟨k1, k2, hz⟩, rfl⟩ := of_ite_some hf
      refine op_repD pins s σ H _ _ v u Q I rx ry ⟨_, k, _, rfl, rfl, ls_same sm h1, by omega, by omega, by rw [dpa_len a1]; exact hz, q.lst sm ?_⟩
      generalize k.toNat = n
      induction n with
      | zero => exact .nil
      | succ n ih =>
        simp only [List.replicate_succ, List.flatten_cons]
        exact dpa_append a1 ih
    | _ => cases hf
  | _ => cases hf
theorem op_divD : OpR X (binaryOp .FloorDiv) (rD2 X.K divD) := by
  rintro pins s σ H x y v u Q I rx ry ⟨G, dx, dy, d, sm, hx, hy, hf, q⟩
  cases hx with
  | int i =>
    cases hy with
    | int j =>
      obtain ⟨⟨hz, hb⟩, rfl⟩ := of_ite_some hf
      exact op_fdivW pins s σ H _ _ v u Q I rx ry ⟨i, j, rfl, rfl, ⟨hz, hb⟩, q.now sm (.int _)⟩
    | _ => cases hf
  | _ => cases hf
theorem op_modD : OpR X (binaryOp .Mod) (rD2 X.K modD) := by
  rintro pins s σ H x y v u Q I rx ry ⟨G, dx, dy, d, sm, hx, hy, hf, q⟩
  cases hx with
  | int i =>
    cases hy with
    | int j =>
      obtain ⟨hz, rfl⟩ := of_ite_some hf
      exact op_mod pins s σ H _ _ v u Q I rx ry ⟨i, j, rfl, rfl, hz, q.now sm (.int _)⟩
    | _ => cases hf
  | _ => cases hf
theorem op_powD : OpR X (binaryOp .Pow) (rD2 X.K powD) := by
  rintro pins s σ H x y v u Q I rx ry ⟨G, dx, dy, d, sm, hx, hy, hf, q⟩
  cases hx with
  | int i =>
    cases hy with
    | int j =>
      obtain ⟨⟨h1, h2, h3⟩, rfl⟩ := of_ite_some hf
      exact op_pow pins s σ H _ _ v u Q I rx ry ⟨i, j, rfl, rfl, ⟨h1, h2, by simpa using h3⟩, q.now sm (.int _)⟩
    | _ => cases hf
  | _ => cases hf
theorem op_binD (op : Operator) : OpR X (binaryOp op) (rD2 X.K (binD op)) := by
  cases op with
  | Add => exact op_addD
  | Sub => exact op_subD
  | Mult => exact op_mulD
  | FloorDiv => exact op_divD
  | Mod => exact op_modD
  | Pow => exact op_powD
  | _ =>
    rintro pins s σ H x y v u Q I rx ry ⟨G, dx, dy, d, sm, hx, hy, hf, q⟩
    cases hf
theorem un_negD : UnR X (unaryOp .USub) (rD1 X.K negD) := by
  rintro pins s σ H x v Q I rx ⟨G, dx, d, sm, hx, hf, q⟩
  cases hx with
  | int i => cases hf; exact un_neg pins s σ H _ v Q I rx ⟨i, rfl, q.now sm (.int _)⟩
  | _ => cases hf
end

/-! ### comparisons -/
def scalD : D → D → Bool
  | .none, .none => true | .none, .int _ => true | .int _, .none => true | .none, .bool _ => true | .bool _, .none => true | .none, .str _ => true | .str _, .none => true
  | .int _, .int _ => true | .bool _, .bool _ => true | .str _, .str _ => true
  | .int _, .str _ => true | .str _, .int _ => true | .bool _, .str _ => true | .str _, .bool _ => true
  | _, _ => false
def eqB (x y : D) : Option Bool := if scalD x y = true then some (PyData.eqv x y) else if SeqAt.shaped x = true ∧ SeqAt.shaped y = true then some (PyData.eqv x y) else none
def ltB : D → D → Option Bool
  | .int i, .int j => some (decide (i < j))
  | .str i, .str j => some (decide (i.cps.toList < j.cps.toList))
  | _, _ => none
def leB : D → D → Option Bool
  | .int i, .int j => some (decide (i ≤ j))
  | .str i, .str j => some (!decide (j.cps.toList < i.cps.toList))
  | _, _ => none
def isB : D → D → Option Bool
  | .none, .none => some true
  | .bool a, .bool b => some (decide (a = b))
  | _, .none => some false
  | _, _ => none
def inB (d c : D) : Option Bool := match c with
  | .str y => match d with
    | .str x => some (!(Builtin.Str.occurrences y x 0 y.length 1).isEmpty)
    | _ => none
  | .list ds => if SeqAt.shaped d = true ∧ SeqAt.shaped (.list ds) = true then some (ds.any fun z => PyData.eqv z d) else none
  | .tuple ds => if SeqAt.shaped d = true ∧ SeqAt.shaped (.tuple ds) = true then some (ds.any fun z => PyData.eqv z d) else none
  | _ => none
def bD : Option Bool → Option D
  | some b => some (.bool b)
  | none => none
def nD : Option Bool → Option D
  | some b => some (.bool (!b))
  | none => none
def cmpD : CmpOp → D → D → Option D
  | .Eq => fun x y => bD (eqB x y)
  | .NotEq => fun x y => nD (eqB x y)
  | .Lt => fun x y => bD (ltB x y)
  | .LtE => fun x y => bD (leB x y)
  | .Gt => fun x y => bD (ltB y x)
  | .GtE => fun x y => bD (leB y x)
  | .Is => fun x y => bD (isB x y)
  | .IsNot => fun x y => nD (isB x y)
  | .In => fun x y => bD (inB x y)
  | .NotIn => fun x y => nD (inB x y)
theorem of_bD {o : Option Bool} {d : D} (h : bD o = some d) : ∃ b, o = some b ∧ d = .bool b := by
  cases o with
  | none => cases h
  | some b => cases h; exact ⟨b, rfl, rfl⟩
theorem of_nD {o : Option Bool} {d : D} (h : nD o = some d) : ∃ b, o = some b ∧ d = .bool (!b) := by
  cases o with
  | none => cases h
  | some b => cases h; exact ⟨b, rfl, rfl⟩

section
variable {X : Cx}
theorem scal_of {K : Fg} {G : Hp} {x y : V} {dx dy : D} (hx : Dq K G x dx) (hy : Dq K G y dy) (h : scalD dx dy = true) : scal x y = true ∧ decide (x = y) = PyData.eqv dx dy := by
  cases hx <;> cases hy <;> first
    | (exact absurd (show false = true from h) Bool.false_ne_true)
    | (refine ⟨rfl, ?_⟩; first | exact dec_int | exact dec_bl | exact dec_str | simp [PyData.eqv])
theorem op_eqD' (hu : X.A.units + 64 < cLine) : OpR X (compareOp .Eq) (rD2 X.K (cmpD .Eq)) := by
  rintro pins s σ H x y v u Q I rx ry ⟨G, dx, dy, d, sm, hx, hy, hf, q⟩
  obtain ⟨b, hb, rfl⟩ := of_bD hf
  unfold eqB at hb
  have q' := q.now sm (.bl b)
  by_cases hs : scalD dx dy = true
  · rw [if_pos hs] at hb
    cases hb
    obtain ⟨h1, h2⟩ := scal_of hx hy hs
    exact op_eq pins s σ H _ _ v u Q I rx ry ⟨h1, by rw [h2]; exact q'⟩
  · rw [if_neg hs] at hb
    obtain ⟨⟨h1, h2⟩, rfl⟩ := of_ite_some hb
    exact op_eqD hu pins s σ H _ _ v u Q I rx ry ⟨dx, dy, dq_dp _ _ (dp_same sm _ _ hx), dq_dp _ _ (dp_same sm _ _ hy), h1, h2, q'⟩
theorem op_neD' (hu : X.A.units + 64 < cLine) : OpR X (compareOp .NotEq) (rD2 X.K (cmpD .NotEq)) := by
  rintro pins s σ H x y v u Q I rx ry ⟨G, dx, dy, d, sm, hx, hy, hf, q⟩
  obtain ⟨b, hb, rfl⟩ := of_nD hf
  unfold eqB at hb
  have q' := q.now sm (.bl (!b))
  by_cases hs : scalD dx dy = true
  · rw [if_pos hs] at hb
    cases hb
    obtain ⟨h1, h2⟩ := scal_of hx hy hs
    exact op_ne pins s σ H _ _ v u Q I rx ry ⟨h1, by rw [h2]; exact q'⟩
  · rw [if_neg hs] at hb
    obtain ⟨⟨h1, h2⟩, rfl⟩ := of_ite_some hb
    exact op_neD hu pins s σ H _ _ v u Q I rx ry ⟨dx, dy, dq_dp _ _ (dp_same sm _ _ hx), dq_dp _ _ (dp_same sm _ _ hy), h1, h2, q'⟩
theorem op_ltD : OpR X (compareOp .Lt) (rD2 X.K (cmpD .Lt)) := by
  rintro pins s σ H x y v u Q I rx ry ⟨G, dx, dy, d, sm, hx, hy, hf, q⟩
  obtain ⟨b, hb, rfl⟩ := of_bD hf
  have q' := q.now sm (.bl b)
  cases hx <;> cases hy <;> first
    | (cases hb; exact op_lt pins s σ H _ _ v u Q I rx ry ⟨_, _, rfl, rfl, q'⟩)
    | (cases hb; exact op_lt_str pins s σ H _ _ v u Q I rx ry ⟨_, _, rfl, rfl, q'⟩)
    | cases hb
theorem op_gtD : OpR X (compareOp .Gt) (rD2 X.K (cmpD .Gt)) := by
  rintro pins s σ H x y v u Q I rx ry ⟨G, dx, dy, d, sm, hx, hy, hf, q⟩
  obtain ⟨b, hb, rfl⟩ := of_bD hf
  have q' := q.now sm (.bl b)
  cases hx <;> cases hy <;> first
    | (cases hb; exact op_gt pins s σ H _ _ v u Q I rx ry ⟨_, _, rfl, rfl, q'⟩)
    | (cases hb; obtain ⟨t, rfl⟩ := rx; obtain ⟨t', rfl⟩ := ry; exact PySem.P.gt_str (fin_bl I q' rfl))
    | cases hb
theorem op_leD : OpR X (compareOp .LtE) (rD2 X.K (cmpD .LtE)) := by
  rintro pins s σ H x y v u Q I rx ry ⟨G, dx, dy, d, sm, hx, hy, hf, q⟩
  obtain ⟨b, hb, rfl⟩ := of_bD hf
  have q' := q.now sm (.bl b)
  cases hx <;> cases hy <;> first
    | (cases hb; exact op_le pins s σ H _ _ v u Q I rx ry ⟨_, _, rfl, rfl, q'⟩)
    | (cases hb; obtain ⟨t, rfl⟩ := rx; obtain ⟨t', rfl⟩ := ry; exact PySem.P.le_str (fin_bl I q' rfl))
    | cases hb
theorem op_geD : OpR X (compareOp .GtE) (rD2 X.K (cmpD .GtE)) := by
  rintro pins s σ H x y v u Q I rx ry ⟨G, dx, dy, d, sm, hx, hy, hf, q⟩
  obtain ⟨b, hb, rfl⟩ := of_bD hf
  have q' := q.now sm (.bl b)
  cases hx <;> cases hy <;> first
    | (cases hb; exact op_ge pins s σ H _ _ v u Q I rx ry ⟨_, _, rfl, rfl, q'⟩)
    | (cases hb; obtain ⟨t, rfl⟩ := rx; obtain ⟨t', rfl⟩ := ry; exact PySem.P.ge_str (fin_bl I q' rfl))
    | cases hb
theorem op_isD : OpR X (compareOp .Is) (rD2 X.K (cmpD .Is)) := by
  rintro pins s σ H x y v u Q I rx ry ⟨G, dx, dy, d, sm, hx, hy, hf, q⟩
  obtain ⟨b, hb, rfl⟩ := of_bD hf
  have q' := q.now sm (.bl b)
  cases hx <;> cases hy <;> first
    | (cases hb; exact op_isN pins s σ H _ _ v u Q I rx ry ⟨rfl, q'⟩)
    | (cases hb; exact op_is_bl pins s σ H _ _ v u Q I rx ry ⟨_, _, rfl, rfl, q'⟩)
    | cases hb
theorem op_isntD : OpR X (compareOp .IsNot) (rD2 X.K (cmpD .IsNot)) := by
  rintro pins s σ H x y v u Q I rx ry ⟨G, dx, dy, d, sm, hx, hy, hf, q⟩
  obtain ⟨b, hb, rfl⟩ := of_nD hf
  have q' := q.now sm (.bl (!b))
  cases hx <;> cases hy <;> first
    | (cases hb; exact op_notN pins s σ H _ _ v u Q I rx ry ⟨rfl, q'⟩)
    | (cases hb; exact op_isnot_bl pins s σ H _ _ v u Q I rx ry ⟨_, _, rfl, rfl, q'⟩)
    | cases hb
end
end Pe

set_option Elab.async false
set_option linter.all false
set_option maxRecDepth 100000
set_option maxHeartbeats 4000000
/-! Pe3: in, subscripts, slices, built-in functions upon data. -/
namespace Pe
open PySem L2
section
variable {X : Cx}
theorem op_inDD (hu : X.A.units + 65 < cLine) : OpR X (compareOp .In) (rD2 X.K (cmpD .In)) := by
  rintro pins s σ H x y v u Q I rx ry ⟨G, dx, dy, d, sm, hx, hy, hf, q⟩
  obtain ⟨b, hb, rfl⟩ := of_bD hf
  have q' := q.now sm (.bl b)
  have px := dq_dp _ _ (dp_same sm _ _ hx)
  have py := dq_dp _ _ (dp_same sm _ _ hy)
  cases hy with
  | lst h2 a2 =>
    obtain ⟨⟨h1, h3⟩, rfl⟩ := of_ite_some hb
    exact op_inD hu pins s σ H _ _ v u Q I rx ry ⟨dx, _, px, py, h1, h3, q'⟩
  | tup h2 a2 =>
    obtain ⟨⟨h1, h3⟩, rfl⟩ := of_ite_some hb
    obtain ⟨as, r1⟩ := Dp.reads I _ _ v px rx
    obtain ⟨bs, r2⟩ := Dp.reads I _ _ u py ry
    refine SeqAt.in_tuple_reads r2 r1 (SeqAt.canLay_of_shaped h3) (SeqAt.canLay_of_shaped h1) ?_ ⟨.bl _, H, I, rfl, q'⟩
    have e1 := SeqAt.depth_of_shaped h1
    have e2 := Nat.min_le_right (PyData.depthAll ‹List PyData›) dx.depth
    omega
  | str y' =>
    cases hx with
    | str x' => cases hb; exact op_in_str pins s σ H _ _ v u Q I rx ry ⟨_, _, rfl, rfl, q'⟩
    | _ => cases hb
  | _ => cases hb
theorem op_notinDD (hu : X.A.units + 65 < cLine) : OpR X (compareOp .NotIn) (rD2 X.K (cmpD .NotIn)) := by
  rintro pins s σ H x y v u Q I rx ry ⟨G, dx, dy, d, sm, hx, hy, hf, q⟩
  obtain ⟨b, hb, rfl⟩ := of_nD hf
  have q' := q.now sm (.bl (!b))
  have px := dq_dp _ _ (dp_same sm _ _ hx)
  have py := dq_dp _ _ (dp_same sm _ _ hy)
  cases hy with
  | lst h2 a2 =>
    obtain ⟨⟨h1, h3⟩, rfl⟩ := of_ite_some hb
    exact op_notInD hu pins s σ H _ _ v u Q I rx ry ⟨dx, _, px, py, h1, h3, q'⟩
  | tup h2 a2 =>
    obtain ⟨⟨h1, h3⟩, rfl⟩ := of_ite_some hb
    obtain ⟨as, r1⟩ := Dp.reads I _ _ v px rx
    obtain ⟨bs, r2⟩ := Dp.reads I _ _ u py ry
    refine SeqAt.notIn_tuple_reads r2 r1 (SeqAt.canLay_of_shaped h3) (SeqAt.canLay_of_shaped h1) ?_ ⟨.bl _, H, I, rfl, q'⟩
    have e1 := SeqAt.depth_of_shaped h1
    have e2 := Nat.min_le_right (PyData.depthAll ‹List PyData›) dx.depth
    omega
  | str y' =>
    cases hx with
    | str x' => cases hb; exact op_notin_str pins s σ H _ _ v u Q I rx ry ⟨_, _, rfl, rfl, q'⟩
    | _ => cases hb
  | _ => cases hb
theorem op_cmpD (hu : X.A.units + 65 < cLine) (op : CmpOp) : OpR X (compareOp op) (rD2 X.K (cmpD op)) := by
  cases op with
  | Eq => exact op_eqD' (by omega)
  | NotEq => exact op_neD' (by omega)
  | Lt => exact op_ltD
  | LtE => exact op_leD
  | Gt => exact op_gtD
  | GtE => exact op_geD
  | Is => exact op_isD
  | IsNot => exact op_isntD
  | In => exact op_inDD hu
  | NotIn => exact op_notinDD hu
end

/-! ### subscripts, slices -/
def idxD : D → D → Option D
  | .list ds, .int i => atI ds i
  | .tuple ds, .int i => atI ds i
  | .str z, .int i => if z.length ≤ sizeLine then (atI z.cps.toList i).map fun c => .str ⟨#[c]⟩ else none
  | _, _ => none
theorem dqa_at {K : Fg} {G : Hp} {vs : List V} {ds : List D} {i : Int} {d : D} (a : DqAll K G vs ds) (h : atI ds i = some d) : ∃ v, atI vs i = some v ∧ Dq K G v d := by
  unfold atI at h ⊢
  rw [dpa_len a]
  cases e : ixN ds.length i with
  | none => rw [e] at h; cases h
  | some j =>
    rw [e] at h
    exact dpa_get a h
def partI : Option D → Option (Option Int)
  | none => some none
  | some (.int i) => some (some i)
  | _ => none
def cutL {α : Type} (xs : List α) (lo hi : Option Int) : List α := (xs.drop (HT.sIx xs.length 0 lo)).take (HT.sIx xs.length xs.length hi - HT.sIx xs.length 0 lo)
def slcD (x : D) (lo hi : Option Int) : Option D := match x with
  | .list ds => some (.list (cutL ds lo hi))
  | .tuple ds => some (.tuple (cutL ds lo hi))
  | .str z => if z.length ≤ sizeLine then some (.str (cutS z lo hi)) else none
  | _ => none
theorem dqa_cut {K : Fg} {G : Hp} {vs : List V} {ds : List D} (a : DqAll K G vs ds) (lo hi : Option Int) : DqAll K G (cutV vs lo hi) (cutL ds lo hi) := by
  unfold cutV cutL
  rw [dpa_len a]
  exact dpa_take _ (dpa_drop' _ a)
def rSlD (K : Fg) : V → Option Int → Option Int → Hp → VK → Prop := fun x lo hi H Q => ∃ G dx d, Same G H ∧ Dq K G x dx ∧ slcD dx lo hi = some d ∧ PsO K d G H Q
section
variable {X : Cx}
theorem ix_D : IxR X (rD2 X.K idxD) := by
  rintro va sl pins s σ H x y v u Q I rx ry ⟨G, dx, dy, d, sm, hx, hy, hf, q⟩ hs
  cases hx with
  | lst h1 a1 =>
    cases hy with
    | int i =>
      obtain ⟨w, e, r⟩ := dqa_at a1 hf
      exact ix_list va sl pins s σ H _ _ v u Q I rx ry ⟨_, _, i, w, rfl, rfl, (ls_same sm h1).sq, e, q.now sm r⟩ hs
    | _ => cases hf
  | tup h1 a1 =>
    cases hy with
    | int i =>
      obtain ⟨w, e, r⟩ := dqa_at a1 hf
      exact ix_tup va sl pins s σ H _ _ v u Q I rx ry ⟨_, _, i, w, rfl, rfl, seqT_same sm h1, e, q.now sm r⟩ hs
    | _ => cases hf
  | str z =>
    cases hy with
    | int i =>
      have hf' : (if z.length ≤ sizeLine then (atI z.cps.toList i).map (fun c => PyData.str ⟨#[c]⟩) else none) = some d := hf
      by_cases hz : z.length ≤ sizeLine
      · rw [if_pos hz] at hf'
        cases e : atI z.cps.toList i with
        | none => rw [e] at hf'; cases hf'
        | some c =>
          rw [e] at hf'
          cases hf'
          exact ix_str va sl pins s σ H _ _ v u Q I rx ry ⟨z, i, c, rfl, rfl, hz, e, q.now sm (.str _)⟩ hs
      · rw [if_neg hz] at hf'; cases hf'
    | _ => cases hf
  | _ => cases hf
theorem sl_listD : SlR X (fun x lo hi H Q => ∃ a xs, x = .ref a ∧ LsQ X.K H a xs ∧ ∀ p, H p = none → Q (.ref p) (upd H p (.lst (cutV xs lo hi)))) := by
  rintro pins s σ H x v vl vu lo hi sl Q I rx hs pl pu ⟨a, xs, rfl, h, q⟩
  exact sl_list pins s σ H _ v vl vu lo hi sl Q I rx hs pl pu ⟨a, xs, rfl, h.sq, q⟩
theorem sl_D : SlR X (rSlD X.K) := by
  rintro pins s σ H x v vl vu lo hi sl Q I rx hs pl pu ⟨G, dx, d, sm, hx, hf, q⟩
  cases hx with
  | lst h1 a1 =>
    cases hf
    exact sl_list pins s σ H _ v vl vu lo hi sl Q I rx hs pl pu ⟨_, _, rfl, (ls_same sm h1).sq, q.lst sm (dqa_cut a1 lo hi)⟩
  | tup h1 a1 =>
    cases hf
    refine sl_tupA pins s σ H _ v vl vu lo hi sl Q I rx hs pl pu ⟨_, _, rfl, seqT_same sm h1, fun e => ?_, fun _ => q.tup sm (dqa_cut a1 lo hi)⟩
    refine q.now sm ?_
    have e2 := dpa_len a1
    rw [e2] at e
    unfold cutL
    rw [e.1, e.2]
    simpa using Dq.tup h1 a1
  | str z =>
    have hf' : (if z.length ≤ sizeLine then some (PyData.str (cutS z lo hi)) else none) = some d := hf
    obtain ⟨hz, rfl⟩ := of_ite_some hf'
    exact sl_str pins s σ H _ v vl vu lo hi sl Q I rx hs pl pu ⟨z, rfl, hz, q.now sm (.str _)⟩
  | _ => cases hf
end

/-! ### kinds -/
inductive Ty where
  | int | str | bool | tuple | list
  deriving DecidableEq
def Ty.nm : Ty → String
  | .int => "int" | .str => "str" | .bool => "bool" | .tuple => "tuple" | .list => "list"
def tyD : D → String
  | .none => "NoneType" | .bool _ => "bool" | .int _ => "int" | .str _ => "str" | .list _ => "list" | .tuple _ => "tuple" | .dict _ => "dict"
def isT : Ty → D → Bool
  | .int, .int _ => true
  | .int, .bool _ => true
  | .str, .str _ => true
  | .bool, .bool _ => true
  | .tuple, .tuple _ => true
  | .list, .list _ => true
  | _, _ => false
theorem kit_none : ∀ t : Ty, kitB "NoneType" t.nm = some (isT t .none) := by intro t; cases t <;> decide +kernel
theorem kit_bool : ∀ t : Ty, kitB "bool" t.nm = some (isT t (.bool true)) := by intro t; cases t <;> decide +kernel
theorem kit_int : ∀ t : Ty, kitB "int" t.nm = some (isT t (.int 0)) := by intro t; cases t <;> decide +kernel
theorem kit_str : ∀ t : Ty, kitB "str" t.nm = some (isT t (.str Str.empty)) := by intro t; cases t <;> decide +kernel
theorem kit_list : ∀ t : Ty, kitB "list" t.nm = some (isT t (.list [])) := by intro t; cases t <;> decide +kernel
theorem kit_tuple : ∀ t : Ty, kitB "tuple" t.nm = some (isT t (.tuple [])) := by intro t; cases t <;> decide +kernel
theorem kit_isT (t : Ty) : ∀ d : D, (∀ kvs, d ≠ .dict kvs) → kitB (tyD d) t.nm = some (isT t d) := by
  intro d hd
  cases d with
  | dict kvs => exact absurd rfl (hd kvs)
  | none => exact kit_none t
  | bool b => exact (kit_bool t).trans (by cases t <;> rfl)
  | int b => exact (kit_int t).trans (by cases t <;> rfl)
  | str b => exact (kit_str t).trans (by cases t <;> rfl)
  | list b => exact (kit_list t).trans (by cases t <;> rfl)
  | tuple b => exact (kit_tuple t).trans (by cases t <;> rfl)
theorem ty_of {X : Cx} {H : Hp} {x : V} {d : D} (h : Dq X.K H x d) : TyX X.K H x (.type (tyD d)) ∧ ∀ kvs, d ≠ .dict kvs := by
  cases h with
  | non => exact ⟨.base .non, fun _ e => by cases e⟩
  | bl b => exact ⟨.base (.bl b), fun _ e => by cases e⟩
  | int i => exact ⟨.base (.int i), fun _ e => by cases e⟩
  | str z => exact ⟨.base (.str z), fun _ e => by cases e⟩
  | lst h a =>
    refine ⟨?_, fun _ e => by cases e⟩
    rcases h with (h | ⟨o, h⟩) | ⟨its, n, h1, _⟩
    · exact .base (.lst h)
    · exact .base (.frz h)
    · exact .kList h1 rfl
  | tup h a =>
    refine ⟨?_, fun _ e => by cases e⟩
    rcases h with (h | ⟨o, h⟩) | ⟨o, its, n, hk, hc, _⟩
    · exact .base (.tup h)
    · exact .fTuple h
    · exact .kTuple hk hc
section
variable {X : Cx}
/-- isinstance(x, T) -/
theorem call_isD (t : Ty) : CallR X (.builtin "isinstance") (fun xs H Q => ∃ G x d, xs = [x, .ty t.nm] ∧ Same G H ∧ Dq X.K G x d ∧ Q (.bl (isT t d)) H) := by
  rintro pins s σ H xs us Q I r ⟨G, x, d, rfl, sm, hx, q⟩
  obtain ⟨h1, h2⟩ := ty_of (dp_same sm _ _ hx)
  exact call_isi pins s σ H _ us Q I r ⟨x, .ty t.nm, .type (tyD d), .type t.nm, isT t d, rfl, .ty _, h1, kit_ty (kit_isT t d h2), q⟩
/-- isinstance(x, (T1, T2)) -/
def anyT (ts : List Ty) (d : D) : Bool := ts.any fun t => isT t d
theorem kit_anyT {K : Fg} {d : D} (h : ∀ kvs, d ≠ .dict kvs) : ∀ ts : List Ty, PySem.W.kitAny K (.type (tyD d)) (ts.map fun t => Value.type t.nm) = some (anyT ts d)
  | [] => rfl
  | t :: ts => by
    refine kitAny_cons (kit_ty (kit_isT t d h)) (fun e => ?_) (fun e => ?_)
    · rw [kit_anyT h ts]
      simp [anyT, e]
    · simp [anyT, e]
end

/-! ### what may be sorted -/
/-- all of one kind, tuples that are not empty, or none of them -/
def alikeB (xs : List D) : Bool := xs.all fun d => xs.all fun d' => PySem.W.alike d d'
def tupB : D → Bool
  | .tuple (_ :: _) => true
  | _ => false
def othB : D → Bool
  | .none => false
  | .tuple _ => false
  | _ => true
def sortOk (xs : List D) : Bool := alikeB xs && ((xs.all tupB) || xs.all othB) && (xs.all fun d => decide (d.depth ≤ 60))
def sortD (xs : List D) : List D := xs.mergeSort (PySem.W.dataLe false id)
def sorD : List D → Option D
  | [.list xs] => if sortOk xs = true then some (.list (sortD xs)) else none
  | _ => none
/-! ### built-in functions -/
def blsOf : List D → Option (List Bool)
  | [] => some []
  | .bool b :: r => (blsOf r).map (b :: ·)
  | _ => none
def intsOf : List D → Option (List Int)
  | [] => some []
  | .int b :: r => (intsOf r).map (b :: ·)
  | _ => none
def strsOf : List D → Option (List Str)
  | [] => some []
  | .str b :: r => (strsOf r).map (b :: ·)
  | _ => none
theorem vs_bls {K : Fg} {G : Hp} : ∀ {vs : List V} {ds : List D} {bs : List Bool}, DqAll K G vs ds → blsOf ds = some bs → vs = bs.map V.bl
  | _, [], _, .nil, h => by cases h; rfl
  | _, d :: ds, bs, .cons r t, h => by
    cases d with
    | bool b =>
      have h' : (blsOf ds).map (b :: ·) = some bs := h
      cases e : blsOf ds with
      | none => rw [e] at h'; cases h'
      | some cs =>
        rw [e] at h'
        cases h'
        cases r
        rw [vs_bls t e]
        rfl
    | _ => cases h
theorem vs_ints {K : Fg} {G : Hp} : ∀ {vs : List V} {ds : List D} {bs : List Int}, DqAll K G vs ds → intsOf ds = some bs → vs = bs.map V.int
  | _, [], _, .nil, h => by cases h; rfl
  | _, d :: ds, bs, .cons r t, h => by
    cases d with
    | int b =>
      have h' : (intsOf ds).map (b :: ·) = some bs := h
      cases e : intsOf ds with
      | none => rw [e] at h'; cases h'
      | some cs =>
        rw [e] at h'
        cases h'
        cases r
        rw [vs_ints t e]
        rfl
    | _ => cases h
theorem vs_strs {K : Fg} {G : Hp} : ∀ {vs : List V} {ds : List D} {bs : List Str}, DqAll K G vs ds → strsOf ds = some bs → vs = bs.map V.str
  | _, [], _, .nil, h => by cases h; rfl
  | _, d :: ds, bs, .cons r t, h => by
    cases d with
    | str b =>
      have h' : (strsOf ds).map (b :: ·) = some bs := h
      cases e : strsOf ds with
      | none => rw [e] at h'; cases h'
      | some cs =>
        rw [e] at h'
        cases h'
        cases r
        rw [vs_strs t e]
        rfl
    | _ => cases h
def seqOf : D → Option (List D)
  | .list ds => some ds
  | .tuple ds => some ds
  | _ => none
inductive Bf where
  | len | abs | int | max2 | min2 | repr | str | all | any | tuple | list | sum | sorted
  deriving DecidableEq
def bfD : Bf → List D → Option D
  | .len, [.str z] => if z.length ≤ sizeLine then some (.int z.length) else none
  | .len, [.list ds] => some (.int ds.length)
  | .len, [.tuple ds] => some (.int ds.length)
  | .abs, [.int i] => some (.int (if i < 0 then -i else i))
  | .int, [.int i] => some (.int i)
  | .int, [.bool b] => some (.int (if b = true then 1 else 0))
  | .max2, [.int i, .int j] => some (.int (if j > i then j else i))
  | .min2, [.int i, .int j] => some (.int (if j < i then j else i))
  | .repr, [d] => if d.showable = true ∧ d.shown.length ≤ sizeLine ∧ d.depth ≤ 64 then some (.str d.shown) else none
  | .str, [.int i] => if i.natAbs.log2 < 1920 then some (.str (toString i)) else none
  | .str, [.str z] => some (.str z)
  | .all, [.list ds] => (blsOf ds).map fun bs => .bool (bs.all id)
  | .any, [.list ds] => (blsOf ds).map fun bs => .bool (bs.any id)
  | .tuple, [.list ds] => some (.tuple ds)
  | .tuple, [.tuple ds] => some (.tuple ds)
  | .list, [.list ds] => some (.list ds)
  | .list, [.tuple ds] => some (.list ds)
  | .sum, [.list ds] => (intsOf ds).map fun ns => .int ns.sum
  | .sum, [.tuple ds] => (intsOf ds).map fun ns => .int ns.sum
  | .sorted, ds => sorD ds
  | _, _ => none
def Bf.val : Bf → Value
  | .len => .builtin "len" | .abs => .builtin "abs" | .int => .type "int" | .max2 => .builtin "max" | .min2 => .builtin "min" | .repr => .builtin "repr" | .str => .type "str"
  | .all => .builtin "all" | .any => .builtin "any" | .tuple => .type "tuple" | .list => .type "list" | .sum => .builtin "sum" | .sorted => .builtin "sorted"
end Pe

set_option Elab.async false
set_option linter.all false
set_option maxRecDepth 100000
set_option maxHeartbeats 4000000
/-! Rv: tuples and lists turned round; sorted. -/
namespace Pe
open PySem L2 PySem.Spec PyProof.Rows
section
variable {prog : Program} {w : World} {A : Around} {E : Value → Shared → Prop} {s : Shared}
theorem adjust_back (n : Nat) : Builtin.Slice.sliceAdjust none none (-1) (n : Int) = ((n : Int) - 1, -1) := by
  unfold Builtin.Slice.sliceAdjust
  rfl
theorem places_back (n : Nat) : Builtin.Slice.slicePlaces ((n : Int) - 1) (-1) (-1) = n := by
  unfold Builtin.Slice.slicePlaces
  have h1 : ¬ ((-1 : Int) > 0) := by omega
  simp only [h1, if_false, Int.neg_neg, Int.ediv_one]
  split <;> omega
theorem back_of {sl : Addr} {vs : Value} {n : Nat} {Q : Int × Int × Nat → Shared → Prop} (hs : s.heap.IsSliceOf sl .none .none vs) (ps : IsPart vs (some (-1))) (h : Q ((n : Int) - 1, -1, n) s) :
    wpAny (model prog w) A (Builtin.Slice.sliceApplied (.ref sl) (pure (n : Int))) Q E s := by
  obtain ⟨os, k1, k2, k3⟩ := id hs
  unfold Builtin.Slice.sliceApplied Builtin.Slice.sliceFields
  refine wpAny_bind (wpAny_bind (wpAny_field k1 k3 (x := .none) rfl (wpAny_bind (wpAny_field k1 k3 (x := .none) rfl (wpAny_bind (wpAny_field k1 k3 (x := vs) rfl (wpAny_pure ?_)))))))
  refine wpAny_bind (HT.slicePart_ ps ?_)
  show wpAny _ _ (if ((-1 : Int) == 0) = true then _ else _) _ _ s
  rw [if_neg (by decide)]
  refine wpAny_bind (HT.slicePart_ .none (wpAny_bind (HT.slicePart_ .none (wpAny_bind (wpAny_pure ?_)))))
  show wpAny _ _ (match Builtin.Slice.sliceAdjust none none (-1) (n : Int) with | (lo, hi) => pure (lo, (-1 : Int), Builtin.Slice.slicePlaces lo hi (-1))) _ _ s
  rw [adjust_back n]
  show wpAny _ _ (pure ((n : Int) - 1, (-1 : Int), Builtin.Slice.slicePlaces ((n : Int) - 1) (-1) (-1))) _ _ s
  rw [places_back]
  exact wpAny_pure h
theorem pick_back (xs : List Value) : ((List.range xs.length).filterMap fun (k : Nat) => xs.toArray[(((xs.length : Nat) : Int) - 1 + (k : Int) * (-1)).toNat]?) = xs.reverse := by
  have e : ∀ n, n ≤ xs.length → ((List.range n).filterMap fun (k : Nat) => xs.toArray[(((xs.length : Nat) : Int) - 1 + (k : Int) * (-1)).toNat]?) = xs.reverse.take n := by
    intro n
    induction n with
    | zero => intro _; simp
    | succ n ih =>
      intro h
      rw [List.range_succ, List.filterMap_append, ih (by omega), List.take_add_one]
      congr 1
      have i1 : (((xs.length : Nat) : Int) - 1 + (n : Int) * (-1)).toNat = xs.length - 1 - n := by omega
      have i2 : xs.length - 1 - n < xs.length := by omega
      simp only [List.filterMap_cons, List.filterMap_nil, i1, List.getElem?_toArray]
      rw [List.getElem?_reverse (by omega), List.getElem?_eq_getElem i2]
      rfl
  have := e xs.length (Nat.le_refl _)
  rw [this, List.take_of_length_le (by simp)]
theorem item_back {t sl : Addr} {xs : List Value} {vs : Value} {Q : Value → Shared → Prop} (ht : IsTup s.heap t xs.toArray) (hs : s.heap.IsSliceOf sl .none .none vs) (ps : IsPart vs (some (-1)))
    (hz : xs.length ≤ sizeLine) (h : Q (.ref s.heap.objs.size) { s with heap := s.heap.push { cls := .type "tuple", data := .seq xs.reverse.toArray } }) : wpAny (model prog w) A (getItem (.ref t) (.ref sl)) Q E s := by
  have room : sizeOk (.seq xs.reverse.toArray) := by
    show xs.reverse.toArray.size ≤ sizeLine
    simpa using hz
  obtain ⟨os, k1, k2, k3⟩ := id hs
  have kind : s.TypeIs (.ref sl) "slice" := ⟨os, k1, k2⟩
  unfold getItem
  try with_reducible refine wpAny_holding ?_
  first | refine wpAny_bind (wpAny_pure ?_) | skip
  refine wpAny_bind (wpAny_sequenceKey ht.typeIs (by decide) ?_)
  refine wpAny_bind (wpAny_callSpecial?_slot (name := Str.ofString "__getitem__") ht.typeIs PyProof.Rows.slot_tuple_getitem (wpAny_call_entry PyProof.Rows.slot_tuple_getitem ht.typeIs entry_tuple_getitem ?_ (args_tuple_getitem _ _)))
  show wpAny _ _ (Builtin.Tuple.tupleItemsOf (.ref t) >>= _) _ _ s
  refine wpAny_bind (tupleItemsOf_ ht ?_)
  refine wpAny_bind (wpAny_typeOf kind ?_)
  rw [if_pos (by decide)]
  refine wpAny_bind (back_of hs ps ?_)
  have no : ¬ ((((xs.toArray.size : Nat) : Int) - 1 == 0 && (-1 : Int) == 1 && xs.toArray.size == xs.toArray.size) = true) := by
    intro q
    rw [Bool.and_eq_true, Bool.and_eq_true] at q
    exact absurd q.1.2 (by decide)
  show wpAny _ _ (if (((xs.toArray.size : Nat) : Int) - 1 == 0 && (-1 : Int) == 1 && xs.toArray.size == xs.toArray.size) = true then _ else _) _ _ s
  rw [if_neg no]
  have e := pick_back xs
  rw [show xs.length = xs.toArray.size by simp] at e
  rw [e]
  first
    | exact wpAny_bind (m := Builtin.Tuple.tupleExact _) (wpAny_newObj_type (wpAny_pure ⟨_, rfl, wpAny_pure h⟩) room)
    | exact wpAny_bind (m := Builtin.Tuple.tupleExact _) (wpAny_newObj_type (wpAny_bind (wpAny_pure (wpAny_pure ⟨_, rfl, wpAny_pure h⟩))) room)
    | exact wpAny_bind (wpAny_bind (m := Builtin.Tuple.tupleExact _) (wpAny_newObj_type (wpAny_pure (wpAny_pure ⟨_, rfl, wpAny_pure h⟩)) room))
    | exact wpAny_bind (wpAny_bind (m := Builtin.Tuple.tupleExact _) (wpAny_newObj_type (wpAny_pure ⟨_, rfl, wpAny_pure h⟩) room))
end
/-- turned round: a list, a tuple -/
def revD : D → Option D
  | .list ds => some (.list ds.reverse)
  | .tuple ds => some (.tuple ds.reverse)
  | _ => none
def tRevD (K : Fg) (te : TE) : TE := fun σ H Q => te σ H fun x H1 => ∃ G dx d, Same G H1 ∧ Dq K G x dx ∧ revD dx = some d ∧ PsO K d G H1 Q
theorem pe_revD {X : Cx} {e : Expr} {te : TE} {k : Nat} {p1 p2 p3 pos : Pos} (he : PE X e te) : PE X (.Subscript e (.Slice none none (some (.UnaryOp .USub (.Constant (.int 1) k p1) p2)) p3) pos) (tRevD X.K te) := by
  refine ⟨fun pins s σ H Q I h => ?_⟩
  refine Subscript_ (thn (he.run pins s σ H _ I h) fun v s1 ⟨x, H1, I1, r1, G, dx, d, sm, hx, hf, q⟩ => ?_)
  have part : PO X (some (.UnaryOp .USub (.Constant (.int 1) k p1) p2)) (tPart (tUn (rU fun i => .int (-i)) (tC (.int 1)))) := po_some (pe_un un_neg pe_int)
  refine wpAny_Slice (thn (po_none.run pins s1 σ H1 (fun o H2 => o = none ∧ H2 = H1) I1 ⟨rfl, rfl⟩) fun vl s2 ⟨l, H2, I2, pl, el, e2⟩ => ?_)
  subst el e2
  refine thn (po_none.run pins s2 σ H2 (fun o H3 => o = none ∧ H3 = H2) I2 ⟨rfl, rfl⟩) fun vu s3 ⟨u, H3, I3, pu, eu, e3⟩ => ?_
  subst eu e3
  refine thn (part.run pins s3 σ H3 (fun o H4 => o = some (-1) ∧ H4 = H3) I3 ⟨1, rfl, -1, rfl, rfl, rfl⟩) fun vs s4 ⟨o, H4, I4, ps, eo, e4⟩ => ?_
  subst eo e4
  cases pl
  cases pu
  have I5 : Inv X pins σ H4 { s4 with heap := s4.heap.push { cls := .type "slice", data := .fields #[.none, .none, vs] } } := I4.kept (t' := s4.toks) fun b ob q => Heap.get?_push_of_some _ q
  cases hx with
  | lst h1 a1 =>
    cases hf
    cases r1
    obtain ⟨its, r, ht, hz⟩ := I5.list (ls_same sm h1).sq
    have hlen := r.length
    show wpAny (model X.prog X.w) X.A (subscriptTail e (.Slice none none (some (.UnaryOp .USub (.Constant (.int 1) k p1) p2)) p3) (.ref _) (.ref s4.heap.objs.size)) (EP X pins σ Q) X.xe { s4 with heap := s4.heap.push { cls := .type "slice", data := .fields #[.none, .none, vs] } }
    refine tail_any (ops := [.ref _, .ref s4.heap.objs.size]) ht.isList.typeIs (PySem.slot_list_getitem.lookup) ?_ (by with_unfolding_all rfl)
    refine wpAny_getItem_list_slice ht.isList (Heap.IsSliceOf.new _ .none .none vs) .none .none ps (by decide) ?_ (by rw [List.size_toArray]; omega)
    rw [PySem.W.krv_pick]
    refine ⟨.ref _, _, I5.laid (t' := s4.toks) (o := .lst _) (fun b ob q => Heap.get?_push_of_some _ q) (Nat.le_refl _) ?_, rfl, q.lst sm (dpa_rev a1) _ (I5.hok.fresh (Nat.le_refl _))⟩
    refine ⟨by rw [List.length_reverse]; omega, its.reverse, 0, r.reverse, ?_⟩
    first
      | exact Heap.get?_push_size _ rfl
      | (rw [show its.toArray.toList = its by simp]; exact Heap.get?_push_size _ rfl)
  | tup h1 a1 =>
    cases hf
    cases r1
    obtain ⟨its, r, ht, hz⟩ := I5.tuple (seqT_same sm h1)
    have hlen := r.length
    show wpAny (model X.prog X.w) X.A (subscriptTail e (.Slice none none (some (.UnaryOp .USub (.Constant (.int 1) k p1) p2)) p3) (.ref _) (.ref s4.heap.objs.size)) (EP X pins σ Q) X.xe { s4 with heap := s4.heap.push { cls := .type "slice", data := .fields #[.none, .none, vs] } }
    refine tail_any (ops := [.ref _, .ref s4.heap.objs.size]) ht.typeIs (PyProof.Rows.slot_tuple_getitem.lookup) ?_ (by with_unfolding_all rfl)
    refine item_back ht (Heap.IsSliceOf.new _ .none .none vs) ps (by omega) ?_
    refine ⟨.ref _, _, I5.laid (t' := s4.toks) (o := .tup _) (fun b ob q => Heap.get?_push_of_some _ q) (Nat.le_refl _) ?_, rfl, q.tup sm (dpa_rev a1) _ (I5.hok.fresh (Nat.le_refl _))⟩
    exact ⟨by rw [List.length_reverse]; omega, _, r.reverse, IsTup.new _ _⟩
  | _ => cases hf
end Pe

set_option Elab.async false
set_option linter.all false
set_option maxRecDepth 100000
set_option maxHeartbeats 4000000
/-! So: sorted, of data of one kind. -/
namespace Pe
open PySem L2 PySem.Spec PyProof.Rows PySem.W
theorem dq1 {K : Fg} {G : Hp} {xs : List V} {d : D} (h : DqAll K G xs [d]) : ∃ x, xs = [x] ∧ Dq K G x d := by
  cases h with
  | cons r t => cases t; exact ⟨_, rfl, r⟩
theorem dq2 {K : Fg} {G : Hp} {xs : List V} {d e : D} (h : DqAll K G xs [d, e]) : ∃ x y, xs = [x, y] ∧ Dq K G x d ∧ Dq K G y e := by
  cases h with
  | cons r t =>
    obtain ⟨y, rfl, r'⟩ := dq1 t
    exact ⟨_, _, rfl, r, r'⟩
theorem alikeB_of {xs : List D} (h : alikeB xs = true) : AllAlike xs := fun d hd d' hd' => List.all_eq_true.mp (List.all_eq_true.mp h d hd) d' hd'
theorem sortable_of {xs : List D} (h : ((xs.all tupB) || xs.all othB) = true) : Sortable xs := by
  rcases Bool.or_eq_true_iff.mp h with h | h
  · refine .inl fun d hd => ?_
    have q := List.all_eq_true.mp h d hd
    cases d with
    | tuple zs => cases zs with
      | nil => cases q
      | cons x r => exact ⟨x, r, rfl⟩
    | _ => cases q
  · refine .inr fun d hd => ?_
    have q := List.all_eq_true.mp h d hd
    cases d with
    | none => cases q
    | tuple _ => cases q
    | _ => exact ⟨(fun z => by cases z), (fun xs z => by cases z)⟩
theorem fst_zip {α β : Type} : ∀ {xs : List α} {ys : List β}, ys.length = xs.length → (xs.zip ys).map Prod.fst = xs
  | [], _, _ => by simp
  | x :: xs, [], h => by cases h
  | x :: xs, y :: ys, h => by
    rw [List.zip_cons_cons, List.map_cons, fst_zip (by simpa using h)]
theorem each_zip {K : Fg} {G : Hp} : ∀ {ds : List D} {xs : List V} {us : List Value}, DqAll K G xs ds → Vals xs us → EachIs (fun (v : Value) (b : D × V) => RelV b.2 v) us (ds.zip xs)
  | _, _, _, .nil, r => by cases r; exact .nil
  | _, _, _, .cons _ t, r => by
    cases r with
    | cons r1 r2 => exact .cons r1 (each_zip t r2)
theorem each_rd {X : Cx} {pins : List (Addr × Obj)} {σ : L2.St} {H : Hp} {s : Shared} (I : Inv X pins σ H s) : ∀ {ds : List D} {xs : List V} {us : List Value}, DqAll X.K H xs ds → Vals xs us → EachIs (fun (v : Value) (b : D × V) => ∃ as, Reads s.heap v b.1 as) us (ds.zip xs)
  | _, _, _, .nil, r => by cases r; exact .nil
  | _, _, _, .cons q t, r => by
    cases r with
    | cons r1 r2 => exact .cons (Dp.reads I _ _ _ (dq_dp _ _ q) r1) (each_rd I t r2)
theorem each_vals : ∀ {us : List Value} {bs : List (D × V)}, EachIs (fun (v : Value) (b : D × V) => RelV b.2 v) us bs → Vals (bs.map Prod.snd) us
  | _, _, .nil => .nil
  | _, _, .cons h t => .cons h (each_vals t)
theorem dqa_of {K : Fg} {G : Hp} : ∀ {bs : List (D × V)}, (∀ b ∈ bs, Dq K G b.2 b.1) → DqAll K G (bs.map Prod.snd) (bs.map Prod.fst)
  | [], _ => .nil
  | b :: bs, h => .cons (h b List.mem_cons_self) (dqa_of fun c hc => h c (List.mem_cons_of_mem _ hc))
theorem dqa_mem {K : Fg} {G : Hp} : ∀ {ds : List D} {xs : List V}, DqAll K G xs ds → ∀ b ∈ ds.zip xs, Dq K G b.2 b.1
  | _, _, .nil, b, hb => by simp at hb
  | _, _, .cons q t, b, hb => by
    rw [List.zip_cons_cons] at hb
    rcases List.mem_cons.mp hb with e | hb
    · subst e; exact q
    · exact dqa_mem t b hb
theorem call_sortD {X : Cx} (hu : X.A.units + 65 < cLine) : CallR X (.builtin "sorted") (rDc X.K sorD) := by
  rintro pins s σ H xs us Q I r ⟨G, ds, d, sm, a, hf, q⟩
  match ds, hf with
  | [.list zs], hf =>
    obtain ⟨ok, rfl⟩ := of_ite_some hf
    obtain ⟨x, rfl, hx⟩ := dq1 a
    obtain ⟨u, rfl, ru⟩ := vals1 r
    cases hx with
    | lst h1 a1 =>
      cases ru
      rename_i l ws
      obtain ⟨its, rv, ht, hz⟩ := I.list (ls_same sm h1).sq
      have ol : ws.length = zs.length := dpa_len a1
      have ez := each_zip a1 rv
      have er := each_rd I (dpa_same sm _ _ a1) rv
      have em : (zs.zip ws).map Prod.fst = zs := fst_zip ol
      unfold sortOk at ok
      rw [Bool.and_eq_true, Bool.and_eq_true] at ok
      refine sorted_data (enc := Prod.fst) ht.isList ez er (by rw [em]; exact alikeB_of ok.1.1) (by rw [em]; exact sortable_of ok.1.2) (by rw [List.length_zip]; omega) (fun b hb => ?_) fun out ho eo => ?_
      · have m : b.1 ∈ zs := by rw [← em]; exact List.mem_map.mpr ⟨b, hb, rfl⟩
        have := of_decide_eq_true (List.all_eq_true.mp ok.2 _ m)
        omega
      · obtain ⟨c, hc⟩ := sortedAll_at s.heap its out.toArray
        have hs : ((zs.zip ws).mergeSort (dataLe false Prod.fst)).map Prod.fst = sortD zs := by
          have e := sort_maps (r := dataLe false (Prod.fst : D × V → D)) (s := dataLe false (id : D → D)) Prod.fst (l := zs.zip ws) (fun _ _ _ _ => rfl)
          rw [em] at e
          exact e
        have da : DqAll X.K G (((zs.zip ws).mergeSort (dataLe false Prod.fst)).map Prod.snd) (sortD zs) := by
          rw [← hs]
          exact dqa_of fun b hb => dqa_mem a1 b ((List.mergeSort_perm _ _).mem_iff.mp hb)
        have vo := each_vals eo
        have hl := vo.length
        refine ⟨.ref _, _, I.laid (t' := s.toks) (o := .lst _) (fun b o q => sortedAll_old q) (Nat.le_succ _) ?_, rfl, q.lst sm da _ (I.hok.fresh (Nat.le_succ _))⟩
        refine ⟨?_, out, c, vo, ?_⟩
        · rw [hl, ho, List.length_zip]
          omega
        · exact hc
end Pe

set_option Elab.async false
set_option linter.all false
set_option maxRecDepth 100000
set_option maxHeartbeats 4000000
/-! Pe4: the built-in functions' rules. -/
namespace Pe
open PySem L2
section
variable {X : Cx}
mutual
theorem noDict {K : Fg} {G : Hp} : ∀ (d : D) {x : V}, Dq K G x d → d.hasDict = false
  | .none, _, _ => rfl
  | .bool _, _, _ => rfl
  | .int _, _, _ => rfl
  | .str _, _, _ => rfl
  | .list ds, _, h => by
    cases h with
    | lst h a => exact noDictAll ds a
  | .tuple ds, _, h => by
    cases h with
    | tup h a => exact noDictAll ds a
  | .dict _, _, h => by cases h
theorem noDictAll {K : Fg} {G : Hp} : ∀ (ds : List D) {xs : List V}, DqAll K G xs ds → PyData.hasDictAll ds = false
  | [], _, _ => rfl
  | d :: ds, _, h => by
    cases h with
    | cons r t =>
      show (d.hasDict || PyData.hasDictAll ds) = false
      rw [noDict d r, noDictAll ds t]
      rfl
end
theorem call_reprD (hg : X.A.guards = some []) (hu : X.A.units + 65 < cLine) : CallR X (.builtin "repr") (rDc X.K (bfD .repr)) := by
  rintro pins s σ H xs us Q I r ⟨G, ds, d, sm, a, hf, q⟩
  match ds, hf with
  | [d0], hf =>
    obtain ⟨⟨h1, h2, h3⟩, rfl⟩ := of_ite_some hf
    obtain ⟨x, rfl, hx⟩ := dq1 a
    have q' := q.now sm (.str _)
    have nd := noDict d0 hx
    have px := dq_dp _ _ (dp_same sm _ _ hx)
    obtain ⟨u, rfl, ru⟩ := vals1 r
    have fin : ∀ {h' : Heap} {u' : Tok} {tk : Nat}, (∀ b o, s.heap.get? b = some o → h'.get? b = some o) → EP X pins σ Q (.str d0.shown u') { s with heap := h', toks := tk } := fun k =>
      ⟨.str _, H, I.kept k, ⟨_, rfl⟩, q'⟩
    cases hx with
    | non =>
      cases ru
      exact PySem.P.repr_of_none (fin (h' := s.heap) fun _ _ e => e)
    | bl b =>
      cases ru
      refine PySem.P.repr_of_bool ?_
      have e := fin (h' := s.heap) (u' := s.toks) (tk := s.toks + 1) fun _ _ e => e
      rw [PyData.shown_bool] at e
      exact e
    | int i =>
      obtain ⟨t, rfl⟩ := ru
      refine PySem.P.repr_of_int (by simpa [PyData.showable] using h1) ?_
      have e := fin (h' := s.heap) (u' := s.toks) (tk := s.toks + 1) fun _ _ e => e
      rw [PyData.shown_int] at e
      exact e
    | str z =>
      obtain ⟨t, rfl⟩ := ru
      rw [PyData.shown_str] at h2
      refine PySem.P.repr_of_str ?_ h2
      have e := fin (h' := s.heap) (u' := s.toks) (tk := s.toks + 1) fun _ _ e => e
      rw [PyData.shown_str] at e
      exact e
    | lst hh aa =>
      obtain ⟨as, rd⟩ := Dp.reads I _ _ u px ru
      cases ru
      exact PySem.repr_of_reads' rd h1 (fun e => by rw [nd] at e; cases e) hg (by omega) (fun _ _ e => e) (fun h' u' tk k => fin k) h2
    | tup hh aa =>
      obtain ⟨as, rd⟩ := Dp.reads I _ _ u px ru
      cases ru
      exact PySem.repr_of_reads' rd h1 (fun e => by rw [nd] at e; cases e) hg (by omega) (fun _ _ e => e) (fun h' u' tk k => fin k) h2
/-- sum(t), a tuple -/
theorem cr_sumT (hc : X.calm = true) : CallR X (.builtin "sum") (fun vs H Q => ∃ (a : Addr) (ns : List Int), vs = [V.ref a] ∧ SqT X.K H a (ns.map V.int) ∧ Q (.int ns.sum) H) := by
  intro pins s σ H vs us Q I r h
  obtain ⟨a, ns, rfl, hs, q⟩ := h
  obtain ⟨its, rv, ⟨o, ho, hcl, n, hd⟩, _⟩ := I.tuple hs
  rw [Vals.ref1 r]
  have hi := rv.ints
  obtain ⟨xs, e⟩ := hi.allInts.items
  have hn : numsOf (intItems xs).toList = ns := by rw [← e]; exact hi.numsOf
  rw [nums_intItems] at hn
  refine PySem.W.ktm_sumG (xs := xs) (I.ok.hd hc) ⟨o, ho, hcl, n, by rw [← e]; exact hd⟩ fun h' tk t' hk => ?_
  rw [preSum_eq, List.take_of_length_le (by simp), hn]
  exact ⟨.int _, H, I.kept hk, ⟨_, rfl⟩, q⟩
/-- not within an except suite -/
def Bf.cold : Bf → Bool
  | .max2 => true | .min2 => true | .all => true | .any => true | .sum => true
  | _ => false
theorem call_bfD (f : Bf) (hcc : f.cold = true → X.calm = true) (hg : X.A.guards = some []) (hu : X.A.units + 65 < cLine) : CallR X f.val (rDc X.K (bfD f)) := by
  cases f with
  | sorted => exact call_sortD hu
  | repr => exact call_reprD hg hu
  | len =>
    rintro pins s σ H xs us Q I r ⟨G, ds, d, sm, a, hf, q⟩
    match ds, hf with
    | [.str z], hf =>
      obtain ⟨hz, rfl⟩ := of_ite_some hf
      obtain ⟨x, rfl, hx⟩ := dq1 a
      cases hx
      exact call_len_str pins s σ H _ us Q I r ⟨z, rfl, hz, q.now sm (.int _)⟩
    | [.list es], hf =>
      cases hf
      obtain ⟨x, rfl, hx⟩ := dq1 a
      cases hx with
      | lst h1 a1 => exact call_len_seq pins s σ H _ us Q I r ⟨_, _, rfl, .inl (ls_same sm h1).sq, by rw [dpa_len a1]; exact q.now sm (.int _)⟩
    | [.tuple es], hf =>
      cases hf
      obtain ⟨x, rfl, hx⟩ := dq1 a
      cases hx with
      | tup h1 a1 => exact call_len_seq pins s σ H _ us Q I r ⟨_, _, rfl, .inr (seqT_same sm h1), by rw [dpa_len a1]; exact q.now sm (.int _)⟩
  | abs =>
    rintro pins s σ H xs us Q I r ⟨G, ds, d, sm, a, hf, q⟩
    match ds, hf with
    | [.int i], hf =>
      cases hf
      obtain ⟨x, rfl, hx⟩ := dq1 a
      cases hx
      exact call_abs pins s σ H _ us Q I r ⟨i, rfl, q.now sm (.int _)⟩
  | int =>
    rintro pins s σ H xs us Q I r ⟨G, ds, d, sm, a, hf, q⟩
    match ds, hf with
    | [.int i], hf =>
      cases hf
      obtain ⟨x, rfl, hx⟩ := dq1 a
      cases hx
      exact call_int1 pins s σ H _ us Q I r (.inl ⟨i, rfl, q.now sm (.int _)⟩)
    | [.bool b], hf =>
      cases hf
      obtain ⟨x, rfl, hx⟩ := dq1 a
      cases hx
      exact call_int1 pins s σ H _ us Q I r (.inr ⟨b, rfl, q.now sm (.int _)⟩)
  | max2 =>
    have hc := hcc rfl
    rintro pins s σ H xs us Q I r ⟨G, ds, d, sm, a, hf, q⟩
    match ds, hf with
    | [.int i, .int j], hf =>
      cases hf
      obtain ⟨x, y, rfl, hx, hy⟩ := dq2 a
      cases hx
      cases hy
      exact call_max2 hc pins s σ H _ us Q I r ⟨i, j, rfl, q.now sm (.int _)⟩
  | min2 =>
    have hc := hcc rfl
    rintro pins s σ H xs us Q I r ⟨G, ds, d, sm, a, hf, q⟩
    match ds, hf with
    | [.int i, .int j], hf =>
      cases hf
      obtain ⟨x, y, rfl, hx, hy⟩ := dq2 a
      cases hx
      cases hy
      exact call_min2 hc pins s σ H _ us Q I r ⟨i, j, rfl, q.now sm (.int _)⟩
  | str =>
    rintro pins s σ H xs us Q I r ⟨G, ds, d, sm, a, hf, q⟩
    match ds, hf with
    | [.int i], hf =>
      obtain ⟨hz, rfl⟩ := of_ite_some hf
      obtain ⟨x, rfl, hx⟩ := dq1 a
      cases hx
      exact call_str_int pins s σ H _ us Q I r ⟨i, rfl, hz, q.now sm (.str _)⟩
    | [.str z], hf =>
      cases hf
      obtain ⟨x, rfl, hx⟩ := dq1 a
      cases hx
      exact SkE.call_str_str pins s σ H _ us Q I r ⟨z, rfl, q.now sm (.str _)⟩
  | all =>
    have hc := hcc rfl
    rintro pins s σ H xs us Q I r ⟨G, ds, d, sm, a, hf, q⟩
    match ds, hf with
    | [.list es], hf =>
      obtain ⟨x, rfl, hx⟩ := dq1 a
      have hf' : (blsOf es).map (fun bs => PyData.bool (bs.all id)) = some d := hf
      cases e : blsOf es with
      | none => rw [e] at hf'; cases hf'
      | some bs =>
        rw [e] at hf'
        cases hf'
        cases hx with
        | lst h1 a1 =>
          have ev := vs_bls a1 e
          exact cr_all hc pins s σ H _ us Q I r ⟨_, bs, rfl, by rw [← ev]; exact (ls_same sm h1).sq, q.now sm (.bl _)⟩
  | any =>
    have hc := hcc rfl
    rintro pins s σ H xs us Q I r ⟨G, ds, d, sm, a, hf, q⟩
    match ds, hf with
    | [.list es], hf =>
      obtain ⟨x, rfl, hx⟩ := dq1 a
      have hf' : (blsOf es).map (fun bs => PyData.bool (bs.any id)) = some d := hf
      cases e : blsOf es with
      | none => rw [e] at hf'; cases hf'
      | some bs =>
        rw [e] at hf'
        cases hf'
        cases hx with
        | lst h1 a1 =>
          have ev := vs_bls a1 e
          exact cr_any hc pins s σ H _ us Q I r ⟨_, bs, rfl, by rw [← ev]; exact (ls_same sm h1).sq, q.now sm (.bl _)⟩
  | sum =>
    have hc := hcc rfl
    rintro pins s σ H xs us Q I r ⟨G, ds, d, sm, a, hf, q⟩
    match ds, hf with
    | [.list es], hf =>
      obtain ⟨x, rfl, hx⟩ := dq1 a
      have hf' : (intsOf es).map (fun bs => PyData.int bs.sum) = some d := hf
      cases e : intsOf es with
      | none => rw [e] at hf'; cases hf'
      | some bs =>
        rw [e] at hf'
        cases hf'
        cases hx with
        | lst h1 a1 =>
          have ev := vs_ints a1 e
          exact cr_sum hc pins s σ H _ us Q I r ⟨_, bs, rfl, by rw [← ev]; exact (ls_same sm h1).sq, q.now sm (.int _)⟩
    | [.tuple es], hf =>
      obtain ⟨x, rfl, hx⟩ := dq1 a
      have hf' : (intsOf es).map (fun bs => PyData.int bs.sum) = some d := hf
      cases e : intsOf es with
      | none => rw [e] at hf'; cases hf'
      | some bs =>
        rw [e] at hf'
        cases hf'
        cases hx with
        | tup h1 a1 =>
          have ev := vs_ints a1 e
          exact cr_sumT hc pins s σ H _ us Q I r ⟨_, bs, rfl, by rw [← ev]; exact seqT_same sm h1, q.now sm (.int _)⟩
  | tuple =>
    rintro pins s σ H xs us Q I r ⟨G, ds, d, sm, a, hf, q⟩
    match ds, hf with
    | [.list es], hf =>
      cases hf
      obtain ⟨x, rfl, hx⟩ := dq1 a
      cases hx with
      | lst h1 a1 => exact call_tuple_of pins s σ H _ us Q I r ⟨_, _, rfl, .inl ⟨(ls_same sm h1).sq, q.tup sm a1⟩⟩
    | [.tuple es], hf =>
      cases hf
      obtain ⟨x, rfl, hx⟩ := dq1 a
      cases hx with
      | tup h1 a1 => exact call_tuple_of pins s σ H _ us Q I r ⟨_, _, rfl, .inr ⟨seqT_same sm h1, q.now sm (.tup h1 a1)⟩⟩
  | list =>
    rintro pins s σ H xs us Q I r ⟨G, ds, d, sm, a, hf, q⟩
    match ds, hf with
    | [.list es], hf =>
      cases hf
      obtain ⟨x, rfl, hx⟩ := dq1 a
      cases hx with
      | lst h1 a1 => exact call_list_of pins s σ H _ us Q I r ⟨_, _, rfl, .inl (ls_same sm h1).sq, q.lst sm a1⟩
    | [.tuple es], hf =>
      cases hf
      obtain ⟨x, rfl, hx⟩ := dq1 a
      cases hx with
      | tup h1 a1 => exact call_list_of pins s σ H _ us Q I r ⟨_, _, rfl, .inr (seqT_same sm h1), q.lst sm a1⟩
/-- y.join(xs) -/
def joinD : D → D → Option D
  | .str y, .list ds => match strsOf ds with
    | some ts => if (ts.map (·.length)).sum + ts.length * y.length ≤ 16777216 then some (.str (Txt.join y ts)) else none
    | none => none
  | _, _ => none
theorem mt_joinD : MtR X "str.join" (fun x xs H Q => ∃ G dx dy y d, xs = [y] ∧ Same G H ∧ Dq X.K G x dx ∧ Dq X.K G y dy ∧ joinD dx dy = some d ∧ PsO X.K d G H Q) := by
  rintro pins s σ H x xs v us Q I rx rxs ⟨G, dx, dy, y, d, rfl, sm, hx, hy, hf, q⟩
  cases hx with
  | str z =>
    cases hy with
    | lst h1 a1 =>
      rename_i es
      have hf' : (match strsOf es with
        | some ts => if (ts.map (·.length)).sum + ts.length * z.length ≤ 16777216 then some (PyData.str (Txt.join z ts)) else none
        | none => none) = some d := hf
      cases e : strsOf es with
      | none => rw [e] at hf'; cases hf'
      | some ts =>
        rw [e] at hf'
        obtain ⟨hz, rfl⟩ := of_ite_some hf'
        have ev := vs_strs a1 e
        exact mt_join pins s σ H _ _ v us Q I rx rxs ⟨z, _, ts, rfl, rfl, .inl (by rw [← ev]; exact (ls_same sm h1).sq), hz, q.now sm (.str _)⟩
    | _ => cases hf
  | _ => cases hf
end
end Pe

set_option Elab.async false
set_option linter.all false
set_option maxRecDepth 100000
set_option maxHeartbeats 4000000
/-! Pe5: expressions as data makers; how they are evaluated; how they are read off a text. -/
namespace Pe
open PySem L2

inductive Ex where
  | cst (d : D)
  | var (i : Nat)
  | bin (op : Operator) (a b : Ex)
  | neg (a : Ex)
  | cmp (op : CmpOp) (a b : Ex)
  | chn (op op' : CmpOp) (a b c : Ex)
  | and (a b : Ex)
  | or (a b : Ex)
  | not (a : Ex)
  | ite (c a b : Ex)
  | anil
  | acons (a r : Ex)
  | tup (as : Ex)
  | lst (as : Ex)
  | idx (a b : Ex)
  | slc (a lo hi : Ex)
  | nopart
  | call (f : Str) (as : Ex)
  | bf (f : Bf) (as : Ex)
  | isi (a : Ex) (t : Ty)
  | isis (a : Ex) (ts : List Ty)
  | join (a b : Ex)
  | seq (a : Ex)
  | rng (a b : Ex)
  | zip (a b : Ex)
  | enu (a : Ex)
  | comp (elt it cond : Ex) (tg : Sum Nat (List Nat)) (own : List Nat)
  | inT (a : Ex) (es : List (Str × D))
  | atT (a : Ex) (es : List (Str × D))
  | rev (a : Ex)
  | xis (i : Nat) (cs : List Str)
  | xat (i : Nat) (f : Str)

/-- a value's truth -/
def truD : D → Option Bool
  | .none => some false
  | .bool b => some b
  | .int i => some (i != 0)
  | .str y => if y.length ≤ sizeLine then some ((y.length : Int) != 0) else none
  | .list xs => some (!xs.isEmpty)
  | .tuple xs => some (!xs.isEmpty)
  | .dict _ => none
def signs (z : Str) : List D := z.cps.toList.map fun c => .str ⟨#[c]⟩
def boolR {α : Type} (d : D) (t f : Res α) : Res α := match d with
  | .bool true => t
  | .bool false => f
  | _ => .no
def setAll (ν : List (Option D)) : List Nat → List D → Option (List (Option D))
  | [], [] => some ν
  | i :: is, d :: ds => setAll (ν.set i (some d)) is ds
  | _, _ => none
def setTg (ν : List (Option D)) (tg : Sum Nat (List Nat)) (d : D) : Option (List (Option D)) := match tg with
  | .inl i => some (ν.set i (some d))
  | .inr is => match d with
    | .tuple ds => setAll ν is ds
    | _ => none
def wipeD (ν : List (Option D)) : List Nat → List (Option D)
  | [] => ν
  | v :: vs => (wipeD ν vs).set v none
/-- item by item: none is left out -/
def compL (f : D → Res (Option D)) : List D → Res (List D)
  | [] => .ok []
  | d :: ds => (f d).bind fun o => (compL f ds).bind fun r => .ok (match o with
    | some x => x :: r
    | none => r)
def listR {α : Type} (d : D) (f : List D → Res α) : Res α := match d with
  | .list ds => f ds
  | _ => .no
def rangeL (i j : Int) : List D := (List.range (j - i).toNat).map fun k => .int (i + (k : Nat))
def near (i : Int) : Bool := decide (-4611686018427387904 ≤ i ∧ i < 4611686018427387904)
def pairs : List D → List D → List D
  | x :: xs, y :: ys => .tuple [x, y] :: pairs xs ys
  | _, _ => []
def countL : Nat → List D → List D
  | _, [] => []
  | k, x :: xs => .tuple [.int (k : Nat), x] :: countL (k + 1) xs

/-- a slice's part -/
def partE (x : Ex) (r : Res D) : Res (Option Int) := match x with
  | .nopart => .ok none
  | _ => r.bind fun d => match d with
    | .int i => .ok (some i)
    | _ => .no
def isPart : Ex → Bool
  | .nopart => false
  | _ => true

/-- a module's table: is it a key, what stands there -/
def inTD (es : List (Str × D)) : D → Option D
  | .str z => some (.bool (es.lookup z).isSome)
  | _ => none
def atTD (es : List (Str × D)) : D → Option D
  | .str z => es.lookup z
  | _ => none
def evE (F : Str → List D → Res D) : List (Option D) → Ex → Res D
  | _, .cst d => .ok d
  | ν, .var i => match ν[i]? with
    | some (some d) => .ok d
    | _ => .no
  | ν, .bin op a b => (evE F ν a).bind fun x => (evE F ν b).bind fun y => .ofO (binD op x y)
  | ν, .neg a => (evE F ν a).bind fun x => .ofO (negD x)
  | ν, .cmp op a b => (evE F ν a).bind fun x => (evE F ν b).bind fun y => .ofO (cmpD op x y)
  | ν, .chn op op' a b c => (evE F ν a).bind fun x => (evE F ν b).bind fun y => (Res.ofO (cmpD op x y)).bind fun r => boolR r ((evE F ν c).bind fun z => .ofO (cmpD op' y z)) (.ok (.bool false))
  | ν, .and a b => (evE F ν a).bind fun x => boolR x (evE F ν b) (.ok (.bool false))
  | ν, .or a b => (evE F ν a).bind fun x => boolR x (.ok (.bool true)) (evE F ν b)
  | ν, .not a => (evE F ν a).bind fun x => (Res.ofO (truD x)).bind fun k => .ok (.bool (!k))
  | ν, .ite c a b => (evE F ν c).bind fun x => (Res.ofO (truD x)).bind fun k => if k = true then evE F ν a else evE F ν b
  | _, .anil => .ok (.list [])
  | ν, .acons a r => (evE F ν a).bind fun x => (evE F ν r).bind fun y => listR y fun ds => .ok (.list (x :: ds))
  | ν, .tup as => (evE F ν as).bind fun y => listR y fun ds => if ds.length ≤ sizeLine then .ok (.tuple ds) else .no
  | ν, .lst as => (evE F ν as).bind fun y => listR y fun ds => if ds.length ≤ sizeLine then .ok (.list ds) else .no
  | ν, .idx a b => (evE F ν a).bind fun x => (evE F ν b).bind fun y => .ofO (idxD x y)
  | ν, .slc a lo hi => (evE F ν a).bind fun x => (partE lo (evE F ν lo)).bind fun l => (partE hi (evE F ν hi)).bind fun h => .ofO (slcD x l h)
  | _, .nopart => .ok .none
  | ν, .call f as => (evE F ν as).bind fun y => listR y fun ds => F f ds
  | ν, .bf f as => (evE F ν as).bind fun y => listR y fun ds => .ofO (bfD f ds)
  | ν, .isi a t => (evE F ν a).bind fun x => .ok (.bool (isT t x))
  | ν, .isis a ts => (evE F ν a).bind fun x => .ok (.bool (anyT ts x))
  | ν, .join a b => (evE F ν a).bind fun x => (evE F ν b).bind fun y => .ofO (joinD x y)
  | ν, .seq a => (evE F ν a).bind fun x => match x with
    | .list ds => .ok (.list ds)
    | .tuple ds => .ok (.list ds)
    | .str z => .ok (.list (signs z))
    | _ => .no
  | ν, .rng a b => (evE F ν a).bind fun x => (evE F ν b).bind fun y => match x, y with
    | .int i, .int j => if near i = true ∧ near j = true then .ok (.list (rangeL i j)) else .no
    | _, _ => .no
  | ν, .zip a b => (evE F ν a).bind fun x => (evE F ν b).bind fun y => match x, y with
    | .list xs, .list ys => .ok (.list (pairs xs ys))
    | .tuple xs, .tuple ys => .ok (.list (pairs xs ys))
    | _, _ => .no
  | ν, .enu a => (evE F ν a).bind fun x => listR x fun xs => .ok (.list (countL 0 xs))
  | ν, .comp elt it cond tg own => (evE F ν it).bind fun y => listR y fun ds => if ds.length ≤ sizeLine then
      (compL (fun d => match setTg (wipeD ν own) tg d with
        | some ν' => (evE F ν' cond).noErr.bind fun c => (Res.ofO (truD c)).bind fun k => if k = true then (evE F ν' elt).noErr.bind fun x => .ok (some x) else .ok none
        | none => .no) ds).bind fun r => .ok (.list r) else .no
  | ν, .inT a es => (evE F ν a).bind fun x => .ofO (inTD es x)
  | ν, .atT a es => (evE F ν a).bind fun x => .ofO (atTD es x)
  | ν, .rev a => (evE F ν a).bind fun x => .ofO (revD x)
  | ν, .xis i cs => match ν[i]? with
    | some none => F "<is>" (cs.map .str)
    | _ => .no
  | ν, .xat i f => match ν[i]? with
    | some none => F "<at>" [.str f]
    | _ => .no

/-! ### from the text -/
structure ErI where
  fs : List Str
  ups : List Str
/-- the module: its defs and their numbers of parameters; constants; tables of data, of defs; own errors; classes that may be asked for; whether it is an except suite, and its name -/
structure Tbl where
  fns : List (Str × Nat)
  cons : List (Str × D)
  dcts : List (Str × List (Str × D)) := []
  ftabs : List (Str × List (Str × Str)) := []
  ers : List (Str × ErI) := []
  cls : List Str := []
  hot : Bool := false
  xv : Option Str := none
def visB (nm : List (Str × NameKind)) (x : Str) : Bool := match nm.lookup x with
  | some .local => true
  | some .cell => true
  | some .free => true
  | _ => false
def locB (nm : List (Str × NameKind)) (x : Str) : Bool := match nm.lookup x with
  | some .local => true
  | some .cell => true
  | _ => false
def glB (nm : List (Str × NameKind)) (x : Str) : Bool := match nm.lookup x with
  | some .globalImplicit => true
  | _ => false
def ixOf (x : Str) : List Str → Nat → Option Nat
  | [], _ => none
  | y :: ys, k => if y = x then some k else ixOf x ys (k + 1)
def bfOf (x : Str) (n : Nat) : Option Bf :=
  if x = "len" ∧ n = 1 then some .len else if x = "abs" ∧ n = 1 then some .abs else if x = "int" ∧ n = 1 then some .int else if x = "max" ∧ n = 2 then some .max2
  else if x = "min" ∧ n = 2 then some .min2 else if x = "repr" ∧ n = 1 then some .repr else if x = "str" ∧ n = 1 then some .str else if x = "all" ∧ n = 1 then some .all
  else if x = "any" ∧ n = 1 then some .any else if x = "tuple" ∧ n = 1 then some .tuple else if x = "list" ∧ n = 1 then some .list else if x = "sum" ∧ n = 1 then some .sum else if x = "sorted" ∧ n = 1 then some .sorted else none
def tyOf (x : Str) : Option Ty :=
  if x = "int" then some .int else if x = "str" then some .str else if x = "bool" then some .bool else if x = "tuple" then some .tuple else if x = "list" then some .list else none
def bltNames : List Str := ["len", "abs", "int", "max", "min", "repr", "str", "all", "any", "tuple", "list", "sum", "sorted", "isinstance", "bool", "range", "zip", "enumerate"]
def cArgs (f : Expr → Option Ex) : List Expr → Option Ex
  | [] => some .anil
  | e :: es => match f e, cArgs f es with
    | some a, some r => some (.acons a r)
    | _, _ => none
def cConst : Const → Option Ex
  | .none => some (.cst .none)
  | .bool b => some (.cst (.bool b))
  | .int i => some (.cst (.int i))
  | .str s => some (.cst (.str s))
  | _ => none
def cName (N : List Str) (nm : List (Str × NameKind)) (T : Tbl) (x : Str) : Option Ex :=
  if visB nm x = true then (if x = "__debug__" ∨ x = "__classdict__" then none else (ixOf x N 0).map .var)
  else if glB nm x = true ∧ x ≠ "__debug__" then (T.cons.lookup x).map .cst else none
def notSlice : Expr → Bool
  | .Slice _ _ _ _ => false
  | _ => true
def notSet : Expr → Bool
  | .Set _ _ _ => false
  | _ => true
def plainT : Expr → Bool
  | .BoolOp _ _ _ => false
  | .UnaryOp .Not _ _ => false
  | .IfExp _ _ _ _ => false
  | .Compare _ _ _ _ => false
  | _ => true
def testOk : Expr → Bool
  | .IfExp _ _ _ _ => false
  | _ => true
def cPart (f : Expr → Option Ex) : Option Expr → Option Ex
  | none => some .nopart
  | some e => match f e with
    | some x => if isPart x = true then some x else none
    | none => none
def cTys (nm : List (Str × NameKind)) : List Expr → Option (List Ty)
  | [] => some []
  | .Name x _ :: es => if glB nm x = true then (match tyOf x, cTys nm es with
    | some t, some r => some (t :: r)
    | _, _ => none) else none
  | _ => none
def tabOf (nm : List (Str × NameKind)) (T : Tbl) : Expr → Option (List (Str × D))
  | .Name y _ => if glB nm y = true ∧ y ≠ "__debug__" then T.dcts.lookup y else none
  | _ => none
/-- what is asked of an exception: its class, a field -/
def cClss (nm : List (Str × NameKind)) (T : Tbl) : List Expr → Option (List Str)
  | [] => some []
  | .Name c _ :: es => if glB nm c = true ∧ T.cls.contains c = true then (cClss nm T es).map (c :: ·) else none
  | _ => none
def cXq (N : List Str) (nm : List (Str × NameKind)) (T : Tbl) : Expr → Option Ex
  | .Call (.Name g _) [.Name y _, c] [] _ => if g = "isinstance" ∧ glB nm g = true ∧ T.xv = some y ∧ visB nm y = true ∧ y ≠ "__debug__" ∧ y ≠ "__classdict__" then (match ixOf y N 0, (match c with
      | .Tuple es _ _ => cClss nm T es
      | c => cClss nm T [c]) with
    | some i, some cs => if cs.length ≤ 1000 then some (.xis i cs) else none
    | _, _ => none) else none
  | .Attribute (.Name y _) f _ => if T.xv = some y ∧ visB nm y = true ∧ y ≠ "__debug__" ∧ y ≠ "__classdict__" then (ixOf y N 0).map fun i => .xat i f else none
  | _ => none
def cCall (N : List Str) (nm : List (Str × NameKind)) (T : Tbl) (f : Expr → Option Ex) (x : Str) (as : List Expr) : Option Ex :=
  if glB nm x = true ∧ x ≠ "__debug__" ∧ x ≠ "__name__" then
    (match T.fns.lookup x with
    | some n => if as.length = n ∧ as ≠ [] ∧ T.hot = false then (cArgs f as).map (.call x) else none
    | none => if x = "isinstance" then (match as with
        | [a, .Name t _] => if glB nm t = true then (match f a, tyOf t with
            | some a', some t' => some (.isi a' t')
            | _, _ => none) else none
        | [a, .Tuple ts _ _] => (match f a, cTys nm ts with
            | some a', some ts' => if ts'.length ≤ 1000 then some (.isis a' ts') else none
            | _, _ => none)
        | _ => none)
      else match bfOf x as.length with
        | some b => if b.cold = true ∧ T.hot = true then none else (cArgs f as).map (.bf b)
        | none => none)
  else none
def cMeth (f : Expr → Option Ex) (o : Expr) (m : Str) (as : List Expr) (ln : Bool) : Option Ex :=
  match o, as with
  | .Constant (.str y) _ _, [a] => if m = "join" ∧ ln = true then (f a).map (.join (.cst (.str y))) else none
  | _, _ => none
def cTgs (N : List Str) (nm : List (Str × NameKind)) : List Expr → Option (List Nat)
  | [] => some []
  | .Name x _ :: es => if locB nm x = true then (match ixOf x N 0, cTgs N nm es with
    | some i, some r => some (i :: r)
    | _, _ => none) else none
  | _ => none
def cTg (N : List Str) (nm : List (Str × NameKind)) : Expr → Option (Sum Nat (List Nat))
  | .Name x _ => if locB nm x = true then (ixOf x N 0).map .inl else none
  | .Tuple es _ _ => (cTgs N nm es).map .inr
  | _ => none
def tgIn (own : List Nat) : Sum Nat (List Nat) → Bool
  | .inl i => own.contains i
  | .inr is => is.all fun i => own.contains i
def isTupE : Expr → Bool
  | .Tuple _ _ _ => true
  | _ => false
def cIter (nm : List (Str × NameKind)) (T : Tbl) (f : Expr → Option Ex) (tg e : Expr) : Option Ex :=
  match e with
  | .Call (.Name x _) as [] _ => if x = "range" then (if glB nm x = true then (match as with
      | [a] => (f a).map (.rng (.cst (.int 0)))
      | [a, b] => (match f a, f b with
        | some a', some b' => some (.rng a' b')
        | _, _ => none)
      | _ => none) else none)
    else if x = "zip" then (if glB nm x = true ∧ isTupE tg = true then (match as with
      | [a, b] => (match f a, f b with
        | some a', some b' => some (.zip a' b')
        | _, _ => none)
      | _ => none) else none)
    else if x = "enumerate" then (if glB nm x = true ∧ isTupE tg = true then (match as with
      | [a] => (f a).map .enu
      | _ => none) else none)
    else (f e).map .seq
  | _ => if notSet e = true then (f e).map .seq else none
def ownOf (N : List Str) : List (Str × NameKind) → List (Str × Nat)
  | [] => []
  | (x, k) :: r => if k = .local ∨ k = .cell then (match ixOf x N 0 with
    | some i => (x, i) :: ownOf N r
    | none => ownOf N r) else ownOf N r
def cBool (f : Expr → Option Ex) (op : BoolOp) : List Expr → Option Ex
  | [] => none
  | [a] => f a
  | a :: b :: es => match f a, cBool f op (b :: es) with
    | some a', some r => some (match op with
      | .And => .and a' r
      | .Or => .or a' r)
    | _, _ => none
def cE (N : List Str) (T : Tbl) : Nat → Scope → Expr → Option Ex
  | 0, _, _ => none
  | n + 1, sc, e => match e with
    | .Constant c _ _ => cConst c
    | .Name x _ => cName N sc.names T x
    | .BinOp a op b _ => (match cE N T n sc a, cE N T n sc b with
      | some a', some b' => some (.bin op a' b')
      | _, _ => none)
    | .UnaryOp .USub a _ => (cE N T n sc a).map .neg
    | .UnaryOp .Not a _ => if testOk a = true then (cE N T n sc a).map .not else none
    | .BoolOp op vs _ => if vs.all testOk = true ∧ 2 ≤ vs.length then cBool (cE N T n sc) op vs else none
    | .Compare a [op] [b] _ => match tabOf sc.names T b with
      | some es => (match op with
        | .In => (cE N T n sc a).map fun a' => .inT a' es
        | .NotIn => (cE N T n sc a).map fun a' => .not (.inT a' es)
        | _ => none)
      | none => if behindInMarks op b = false then (match cE N T n sc a, cE N T n sc b with
      | some a', some b' => some (.cmp op a' b')
      | _, _ => none) else none
    | .Compare a [op, op'] [b, c] _ => if lastMarks [op, op'] [b, c] = false then (match cE N T n sc a, cE N T n sc b, cE N T n sc c with
      | some a', some b', some c' => some (.chn op op' a' b' c')
      | _, _, _ => none) else none
    | .IfExp c a b _ => if testOk c = true then (match cE N T n sc c, cE N T n sc a, cE N T n sc b with
      | some c', some a', some b' => some (.ite c' a' b')
      | _, _, _ => none) else none
    | .Tuple es _ _ => (cArgs (cE N T n sc) es).map .tup
    | .List es _ => (cArgs (cE N T n sc) es).map .lst
    | .Subscript a (.Slice none none (some (.UnaryOp .USub (.Constant (.int 1) _ _) _)) _) _ => (cE N T n sc a).map .rev
    | .Subscript a (.Slice lo hi none _) _ => (match cE N T n sc a, cPart (cE N T n sc) lo, cPart (cE N T n sc) hi with
      | some a', some l', some h' => some (.slc a' l' h')
      | _, _, _ => none)
    | .Subscript a b _ => match tabOf sc.names T a with
      | some es => if notSlice b = true then (cE N T n sc b).map fun b' => .atT b' es else none
      | none => if notSlice b = true then (match cE N T n sc a, cE N T n sc b with
      | some a', some b' => some (.idx a' b')
      | _, _ => none) else none
    | .Call (.Name x p) as [] pos => match cXq N sc.names T (.Call (.Name x p) as [] pos) with
      | some y => some y
      | none => cCall N sc.names T (cE N T n sc) x as
    | .Attribute o m p => cXq N sc.names T (.Attribute o m p)
    | .Call (.Attribute o m ap) as [] cp => cMeth (cE N T n sc) o m as (ap.endLine == cp.line)
    | .ListComp elt [⟨tg, iter, ifs, 0⟩] scope _ => if notSet iter = true ∧ blkC N sc scope (ownOf N scope.names) = true ∧ T.hot = false then
        (match cIter sc.names T (cE N T n sc) tg iter, cTg N scope.names tg, cE N T n (relS scope sc) elt with
        | some it', some tg', some el' => if tgIn ((ownOf N scope.names).map (·.2)) tg' = true then (match ifs with
          | [] => some (.comp el' it' (.cst (.bool true)) tg' ((ownOf N scope.names).map (·.2)))
          | [c] => if testOk c = true then (cE N T n (relS scope sc) c).map fun c' => .comp el' it' c' tg' ((ownOf N scope.names).map (·.2)) else none
          | _ => none) else none
        | _, _, _ => none) else none
    | _ => none
end Pe

set_option Elab.async false
set_option linter.all false
set_option maxRecDepth 100000
set_option maxHeartbeats 4000000
/-! Pe6: what is read off a text is what the machine does: expressions. -/
namespace Pe
open PySem L2

/-- a def's promise where no repr runs around -/
structure FnG (P : Program) (w : World) (K : Fg) (mg : Str → Option Value) (base : Heap) (k : Nat) (f : Addr) (fd : FuncData) (ps : List Str) (sp : Sp) : Prop where
  len : ∀ vs H Q E, sp vs H Q E → vs.length = ps.length
  run : ∀ (A : Around) (outer : List Env) (s : Shared) (H : Hp) (args : Args) (us : List Value) (vs : List V) (Q : VK) (E : XK),
    Room k A → A.guards = some [] → Env0 P w K mg base A outer s H → BindsTo s fd args (ps.zip us) → Vals vs us → sp vs H Q E →
    codeAny (model P w) A (.call (.ref f) args) (CR (L2.CX P w) outer P w H s Q E) s

/-- what a def of data promises -/
def spD (K : Fg) (co : Co) (n : Nat) (f : List D → Res D) : Sp := fun vs H Q E => ∃ G ds, Same G H ∧ DqAll K G vs ds ∧ ds.length = n ∧ Pst K co E (f ds) G H Q
structure Held1 (X : Cx) (co : Co) (n : Nat) (f : List D → Res D) (x : Str) : Prop where
  ex : ∃ (a : Addr) (fd : FuncData) (ps : List Str) (k : Nat), FnG X.prog X.w X.K X.mg X.base k a fd ps (spD X.K co n f) ∧ Room k X.A ∧ X.mg x = some (.ref a) ∧ PySem.W.keepIn X.K (.ref a) = true ∧ Binds X.K fd ps []
/-- a module's dict with text keys: of data, of defs -/
structure TabD (K : Fg) (w : World) (d : Addr) (es : List (Str × D)) : Prop where
  kd : ∃ en n, KDict K w d en n
  get : ∀ z x, es.lookup z = some x → ∃ u v, PySem.W.nsIn K d z = some (some u) ∧ RelV v u ∧ ∀ G, Dq K G v x
  non : ∀ z, es.lookup z = none → PySem.W.nsIn K d z = some none
structure TabF (K : Fg) (mg : Str → Option Value) (w : World) (d : Addr) (es : List (Str × Str)) : Prop where
  kd : ∃ en n, KDict K w d en n
  get : ∀ z g, es.lookup z = some g → ∃ a, PySem.W.nsIn K d z = some (some (.ref a)) ∧ mg g = some (.ref a)
def tE (K : Fg) (z : Zx) (co : Co) (F : Str → List D → Res D) (E : St → XK) (x : Ex) : TE := fun σ H Q => ∃ ν G, RepV K z σ ν G H ∧ Pst K co (E σ) (evE F ν x) G H Q
structure Ok1 (X : Cx) (T : Tbl) (F : Str → List D → Res D) (z : Zx) (co : Co) (E : St → XK) : Prop where
  nd : X.N.Nodup
  calm : T.hot = false → X.calm = true
  gd : X.A.guards = some []
  hu : X.A.units + 65 < cLine
  blt : ∀ x ∈ bltNames, X.mg x = none
  call : T.hot = false → ∀ f n, T.fns.lookup f = some n → Held1 X co n (F f) f
  gl : ∀ x d, T.cons.lookup x = some d → ∃ u v, X.mg x = some u ∧ RelV v u ∧ ∀ G, Dq X.K G v d
  dct : ∀ y es, T.dcts.lookup y = some es → ∃ d : Addr, X.mg y = some (.ref d) ∧ TabD X.K X.w d es
  ftb : ∀ y es, T.ftabs.lookup y = some es → ∃ d : Addr, X.mg y = some (.ref d) ∧ TabF X.K X.mg X.w d es
  pas : T.hot = false → ∀ σ, PassesAt (L2.CX X.prog X.w) X σ (E σ)
  cool : T.hot = false → T.xv = none
  xq : ∀ e x, cXq X.N X.env.scope.names T e = some x → PE X e (tE X.K z co F E x)
theorem xq_cool {N : List Str} {nm : List (Str × NameKind)} {T : Tbl} {e : Expr} (h : T.xv = none) : cXq N nm T e = none := by
  unfold cXq
  split
  · rw [h, if_neg (fun q => by cases q.2.2.1)]
  · rw [h, if_neg (fun q => by cases q.1)]
  · rfl

/-- a result and what is to follow, of any kind -/
def PsR {α : Type} (K : Fg) (co : Co) (E : XK) (r : Res α) (G H : Hp) (k : α → Prop) : Prop := match r with
  | .ok a => k a
  | .err e => EW K co E e G H
  | .no => False
def tT (K : Fg) (z : Zx) (co : Co) (F : Str → List D → Res D) (E : St → XK) (x : Ex) : TT := fun σ H Q => ∃ ν G, RepV K z σ ν G H ∧
  PsR K co (E σ) ((evE F ν x).bind fun d => Res.ofO (truD d)) G H fun b => ∀ G' H', Nx G H G' H' → Q b H'
def tA (K : Fg) (z : Zx) (co : Co) (F : Str → List D → Res D) (E : St → XK) (x : Ex) : TA := fun σ H Q => ∃ ν G, RepV K z σ ν G H ∧
  PsR K co (E σ) ((evE F ν x).bind fun d => listR d .ok) G H fun ds => ∀ vs G' H', Nx G H G' H' → DqAll K G' vs ds → Q vs H'
/-- a walk that gives these data -/
def WalkD (K : Fg) (J : It) (ds : List D) (G : Hp) : Prop := ∃ Y, Walk J ds.length (fun H => Same G H) Y ∧
  ∀ (i : Nat) (d : D) (G1 H1 H2 : Hp) (v : V), ds[i]? = some d → Same G G1 → Same G1 H1 → Y i H1 v H2 → ∃ G2, Nx G1 H1 G2 H2 ∧ Dq K G2 v d
def tI (K : Fg) (z : Zx) (co : Co) (F : Str → List D → Res D) (E : St → XK) (x : Ex) : TI := fun σ H R => ∃ ν G, RepV K z σ ν G H ∧
  PsR K co (E σ) ((evE F ν x).bind fun d => listR d .ok) G H fun ds => ∀ J G' H', Nx G H G' H' → WalkD K J ds G' → R J H'

section
variable {K : Fg} {z : Zx} {co : Co} {E : XK} {G H : Hp}
theorem PsR.mono {α : Type} {r : Res α} {k k' : α → Prop} {G1 H1 : Hp} (h : PsR K co E r G H k) (x : Nx G H G1 H1) (kk : ∀ x, r = .ok x → k x → k' x) : PsR K co E r G1 H1 k' := by
  cases r with
  | ok x => exact kk x rfl h
  | err e => exact EW.mono h x
  | no => exact h
theorem Pst.toR {r : Res D} {Q : VK} (h : Pst K co E r G H Q) : PsR K co E r G H fun d => ∀ v G' H', Nx G H G' H' → Dq K G' v d → Q v H' := by
  cases r <;> exact h
theorem PsR.toP {r : Res D} {Q : VK} (h : PsR K co E r G H fun d => ∀ v G' H', Nx G H G' H' → Dq K G' v d → Q v H') : Pst K co E r G H Q := by
  cases r <;> exact h
/-- an expression, then something with its value -/
theorem tE.then {E : St → XK} {F : Str → List D → Res D} {x : Ex} {σ : St} {ν : List (Option D)} {α : Type} {f : D → Res α} {k : α → Prop} {Q : VK} (R : RepV K z σ ν G H) (h : PsR K co (E σ) ((evE F ν x).bind f) G H k)
    (kk : ∀ (d : D) (v : V) (G' H' : Hp), evE F ν x = .ok d → Nx G H G' H' → Dq K G' v d → RepV K z σ ν G' H' → PsR K co (E σ) (f d) G' H' k → Q v H') : tE K z co F E x σ H Q := by
  refine ⟨ν, G, R, ?_⟩
  cases e : evE F ν x with
  | ok d =>
    rw [e] at h
    exact fun v G' H' h1 h4 => kk d v G' H' e h1 h4 (R.mono h1) (PsR.mono (r := f d) h h1 fun _ _ z => z)
  | err e' =>
    rw [e] at h
    exact h
  | no =>
    rw [e] at h
    exact h
theorem PsR.ofO {α : Type} {o : Option α} {k : α → Prop} (h : PsR K co E (Res.ofO o) G H k) : ∃ a, o = some a ∧ k a := by
  cases o with
  | none => exact h.elim
  | some a => exact ⟨a, rfl, h⟩
theorem Pst.ofO {o : Option D} {Q : VK} (h : Pst K co E (Res.ofO o) G H Q) : ∃ d, o = some d ∧ PsO K d G H Q := by
  cases o with
  | none => exact h.elim
  | some a => exact ⟨a, rfl, h⟩
end

section
variable {X : Cx} {T : Tbl} {F : Str → List D → Res D} {z : Zx} {co : Co} {E : St → XK}

/-! ### names -/
theorem vis_of {nm : List (Str × NameKind)} {sc : Scope} {x : Str} (e : sc.names = nm) (h : visB nm x = true) : Vis sc x := by
  subst e
  unfold visB at h
  unfold Vis
  cases q : sc.names.lookup x with
  | none => rw [q] at h; cases h
  | some k => cases k <;> simp_all
theorem loc_of {sc : Scope} {x : Str} (h : locB sc.names x = true) : L2.Loc sc x := by
  unfold locB at h
  unfold L2.Loc
  cases q : sc.names.lookup x with
  | none => rw [q] at h; cases h
  | some k => cases k <;> simp_all
theorem gl_of {x : Str} (h : glB X.env.scope.names x = true) : Gl X x := by
  unfold glB at h
  show X.env.scope.names.lookup x = some .globalImplicit
  cases q : X.env.scope.names.lookup x with
  | none => rw [q] at h; cases h
  | some k => cases k <;> simp_all
theorem ixOf_some {x : Str} : ∀ {N : List Str} {k i : Nat}, ixOf x N k = some i → k ≤ i ∧ N[i - k]? = some x
  | [], _, _, h => by cases h
  | y :: ys, k, i, h => by
    unfold ixOf at h
    by_cases e : y = x
    · rw [if_pos e] at h
      cases h
      exact ⟨Nat.le_refl _, by simp [e]⟩
    · rw [if_neg e] at h
      obtain ⟨h1, h2⟩ := ixOf_some h
      refine ⟨by omega, ?_⟩
      rw [show i - k = (i - (k + 1)) + 1 by omega]
      simpa using h2
theorem ixOf_get {x : Str} {N : List Str} {i : Nat} (h : ixOf x N 0 = some i) : N[i]? = some x := (ixOf_some h).2
theorem pe_cst {e : Expr} {v : V} {d : D} (h : PE X e (tC v)) (r : ∀ G, Dq X.K G v d) : PE X e (tE X.K z co F E (.cst d)) :=
  pe_imp h fun σ H Q ⟨ν, G, R, p⟩ => p v G H (Nx.refl R.same) (r G)
theorem snd_const {c : Const} {k : Nat} {p : Pos} {x : Ex} (h : cConst c = some x) : PE X (.Constant c k p) (tE X.K z co F E x) := by
  cases c with
  | none => cases h; exact pe_cst pe_non fun _ => .non
  | bool b => cases h; exact pe_cst pe_bl fun _ => .bl b
  | int b => cases h; exact pe_cst pe_int fun _ => .int b
  | str b => cases h; exact pe_cst pe_str fun _ => .str b
  | _ => cases h
theorem ne_beq {a b : Str} (h : a ≠ b) : (a == b) = false := by simp [h]
theorem snd_name (O : Ok1 X T F z co E) {y : Str} {p : Pos} {x : Ex} (h : cName X.N X.env.scope.names T y = some x) : PE X (.Name y p) (tE X.K z co F E x) := by
  unfold cName at h
  by_cases hv : visB X.env.scope.names y = true
  · rw [if_pos hv] at h
    by_cases hd : y = "__debug__" ∨ y = "__classdict__"
    · rw [if_pos hd] at h; cases h
    · rw [if_neg hd] at h
      rw [not_or] at hd
      cases e : ixOf y X.N 0 with
      | none => rw [e] at h; cases h
      | some i =>
        rw [e] at h
        cases h
        refine pe_imp (pe_var (ixOf_get e) (vis_of rfl hv) (ne_beq hd.1) (ne_beq hd.2)) fun σ H Q ⟨ν, G, R, p⟩ => ?_
        simp only [evE] at p
        split at p
        · rename_i d q
          obtain ⟨v, h1, h2⟩ := R.get i d q
          exact ⟨v, h1, p v G H (Nx.refl R.same) h2⟩
        · exact p.elim
  · rw [if_neg hv] at h
    by_cases hg : glB X.env.scope.names y = true ∧ y ≠ "__debug__"
    · rw [if_pos hg] at h
      cases e : T.cons.lookup y with
      | none => rw [e] at h; cases h
      | some d =>
        rw [e] at h
        cases h
        obtain ⟨u, v, h1, h2, h3⟩ := O.gl y d e
        exact pe_cst (pe_glob (gl_of hg.1) h1 h2 (ne_beq hg.2)) h3
    · rw [if_neg hg] at h; cases h

/-! ### argument lists -/
theorem star_of {e : Expr} {es : List Expr} {env : Env} (h : ∀ a p, e ≠ .Starred a p) : starEach (e :: es) env = (false, eval e env) :: starEach es env := by
  cases e with
  | Starred a p => exact absurd rfl (h a p)
  | _ => rfl
theorem cE_star {N : List Str} {n : Nat} {sc : Scope} {e : Expr} {x : Ex} (h : cE N T n sc e = some x) : ∀ a p, e ≠ .Starred a p := by
  rintro a p rfl
  cases n <;> cases h
/-- what holds of the parts -/
structure Snd (X : Cx) (T : Tbl) (F : Str → List D → Res D) (z : Zx) (co : Co) (E : St → XK) (f : Expr → Option Ex) : Prop where
  e : ∀ a x, f a = some x → PE X a (tE X.K z co F E x)
  t : ∀ a x, f a = some x → testOk a = true → PT X a (tT X.K z co F E x)
  star : ∀ a x, f a = some x → ∀ b p, a ≠ .Starred b p
theorem args_star {f : Expr → Option Ex} (S : Snd X T F z co E f) : ∀ {es : List Expr} {x : Ex}, cArgs f es = some x → ∀ a ∈ es, ∀ b p, a ≠ .Starred b p
  | [], _, _, a, ha => by cases ha
  | e :: es, x, h, a, ha => by
    unfold cArgs at h
    cases e1 : f e with
    | none => rw [e1] at h; cases h
    | some a1 =>
      cases e2 : cArgs f es with
      | none => rw [e1, e2] at h; cases h
      | some r =>
        rcases List.mem_cons.mp ha with rfl | ha
        · exact S.star _ _ e1
        · exact args_star S e2 a ha
theorem snd_args {f : Expr → Option Ex} (S : Snd X T F z co E f) : ∀ {es : List Expr} {x : Ex}, cArgs f es = some x → PA X es (tA X.K z co F E x)
  | [], x, h => by
    cases h
    exact pa_imp pa_nil fun σ H Q ⟨ν, G, R, p⟩ => p [] G H (Nx.refl R.same) .nil
  | e :: es, x, h => by
    have hs := args_star S h e List.mem_cons_self
    unfold cArgs at h
    cases e1 : f e with
    | none => rw [e1] at h; cases h
    | some a1 =>
      cases e2 : cArgs f es with
      | none => rw [e1, e2] at h; cases h
      | some r =>
        rw [e1, e2] at h
        cases h
        refine pa_imp (pa_cons (S.e _ _ e1) (snd_args S e2) (star_of hs)) fun σ H Q ⟨ν, G, R, p⟩ => ?_
        have p' : PsR X.K co (E σ) ((evE F ν a1).bind fun x => (evE F ν r).bind fun y => listR y fun ds => .ok (x :: ds)) G H fun ds => ∀ vs G' H', Nx G H G' H' → DqAll X.K G' vs ds → Q vs H' := by
          revert p
          simp only [evE]
          cases evE F ν a1 with
          | ok d =>
            cases evE F ν r with
            | ok y => cases y <;> exact id
            | err _ => exact id
            | no => exact id
          | err _ => exact id
          | no => exact id
        refine tE.then R p' fun d v G1 H1 _ s hv R1 p1 => ⟨ν, G1, R1, ?_⟩
        revert p1
        cases evE F ν r with
        | ok y =>
          cases y with
          | list ds => exact fun p1 vs G2 H2 t ha => p1 (v :: vs) G2 H2 (s.trans t) (.cons (dp_same t.g _ _ hv) ha)
          | _ => exact id
        | err _ => exact id
        | no => exact id
end
end Pe

set_option Elab.async false
set_option linter.all false
set_option maxRecDepth 100000
set_option maxHeartbeats 4000000
/-! Pe7: expressions, by their forms. -/
namespace Pe
open PySem L2
section
variable {X : Cx} {T : Tbl} {F : Str → List D → Res D} {z : Zx} {co : Co} {E : St → XK} {f : Expr → Option Ex}

theorem tru_of {K : Fg} {G H : Hp} {v : V} {d : D} {k : Bool} (h : Dq K G v d) (s : Same G H) (e : truD d = some k) : TruV K v H k := by
  cases h with
  | non => cases e; rfl
  | bl b => cases e; rfl
  | int i => cases e; rfl
  | str z =>
    obtain ⟨h1, rfl⟩ := of_ite_some e
    exact ⟨h1, rfl⟩
  | lst h a =>
    cases e
    refine .inl ⟨_, (ls_same s h).sq, ?_⟩
    have := dpa_nil_iff a
    cases a <;> rfl
  | tup h a =>
    cases e
    refine .inr (.inl ⟨_, seqT_same s h, ?_⟩)
    cases a <;> rfl

/-! ### forms of values -/
theorem snd_bin (S : Snd X T F z co E f) {op : Operator} {a b : Expr} {p : Pos} {a' b' : Ex} (h1 : f a = some a') (h2 : f b = some b') : PE X (.BinOp a op b p) (tE X.K z co F E (.bin op a' b')) := by
  refine pe_imp (pe_op (op_binD op) (S.e _ _ h1) (S.e _ _ h2)) fun σ H Q ⟨ν, G, R, q⟩ => ?_
  simp only [evE] at q
  refine tE.then R q.toR fun d v G1 H1 _ s hv R1 q1 => tE.then R1 q1 fun d2 v2 G2 H2 _ t hv2 R2 q2 => ?_
  obtain ⟨r, e, k⟩ := q2.ofO
  exact ⟨G2, d, d2, r, t.s, dp_same t.g _ _ hv, hv2, e, fun v3 G3 H3 u hv3 => k v3 G3 H3 (s.trans (t.trans u)) hv3⟩
theorem snd_cmp (O : Ok1 X T F z co E) (S : Snd X T F z co E f) {op : CmpOp} {a b : Expr} {p : Pos} {a' b' : Ex} (hm : behindInMarks op b = false) (h1 : f a = some a') (h2 : f b = some b') : PE X (.Compare a [op] [b] p) (tE X.K z co F E (.cmp op a' b')) := by
  refine pe_imp (pe_cmpR (op_cmpD O.hu op) (S.e _ _ h1) (S.e _ _ h2) hm) fun σ H Q ⟨ν, G, R, q⟩ => ?_
  simp only [evE] at q
  refine tE.then R q.toR fun d v G1 H1 _ s hv R1 q1 => tE.then R1 q1 fun d2 v2 G2 H2 _ t hv2 R2 q2 => ?_
  obtain ⟨r, e, k⟩ := q2.ofO
  exact ⟨G2, d, d2, r, t.s, dp_same t.g _ _ hv, hv2, e, fun v3 G3 H3 u hv3 => k v3 G3 H3 (s.trans (t.trans u)) hv3⟩
theorem cmp_bool {op : CmpOp} {x y r : D} (h : cmpD op x y = some r) : ∃ b, r = .bool b := by
  cases op with
  | NotEq => obtain ⟨b, _, e⟩ := of_nD h; exact ⟨_, e⟩
  | IsNot => obtain ⟨b, _, e⟩ := of_nD h; exact ⟨_, e⟩
  | NotIn => obtain ⟨b, _, e⟩ := of_nD h; exact ⟨_, e⟩
  | _ => obtain ⟨b, _, e⟩ := of_bD h; exact ⟨_, e⟩
/-- the chain's reading, whatever is to follow -/
theorem chn_go (O : Ok1 X T F z co E) (S : Snd X T F z co E f) {op op' : CmpOp} {a b c : Expr} {a' b' c' : Ex} {σ : St} {ν : List (Option D)} {G H : Hp} {Q : VK} (h1 : f a = some a') (h2 : f b = some b') (h3 : f c = some c') (R : RepV X.K z σ ν G H)
    (q : PsR X.K co (E σ) (evE F ν (.chn op op' a' b' c')) G H fun d => ∀ v G' H', Nx G H G' H' → Dq X.K G' v d → Q v H') :
    tChain (rD2 X.K (cmpD op)) (rD2 X.K (cmpD op')) (tE X.K z co F E a') (tE X.K z co F E b') (tE X.K z co F E c') σ H Q := by
  simp only [evE] at q
  refine tE.then R q fun d v G1 H1 _ s hv R1 q1 => tE.then R1 q1 fun d2 v2 G2 H2 _ t hv2 R2 q2 => ?_
  cases e : cmpD op d d2 with
  | none => rw [e] at q2; exact q2.elim
  | some r =>
    rw [e] at q2
    obtain ⟨k, rfl⟩ := cmp_bool e
    refine ⟨G2, d, d2, .bool k, t.s, dp_same t.g _ _ hv, hv2, e, fun v3 G3 H3 u hv3 => ?_⟩
    cases hv3
    refine ⟨k, rfl, ?_⟩
    cases k with
    | false => exact iteF (q2 _ G3 H3 (s.trans (t.trans u)) (.bl false))
    | true =>
      refine iteT ?_
      have q3 : PsR X.K co (E σ) ((evE F ν c').bind fun z => Res.ofO (cmpD op' d2 z)) G2 H2 _ := q2
      refine tE.then (R2.mono u) (PsR.mono q3 u fun _ _ z => z) fun d4 v4 G4 H4 _ w hv4 _ q4 => ?_
      obtain ⟨r', e', k'⟩ := q4.ofO
      exact ⟨G4, d2, d4, r', w.s, dp_same (u.trans w).g _ _ hv2, hv4, e', fun v5 G5 H5 x hv5 => k' v5 G5 H5 (s.trans (t.trans (u.trans (w.trans x)))) hv5⟩
theorem snd_chn (O : Ok1 X T F z co E) (S : Snd X T F z co E f) {op op' : CmpOp} {a b c : Expr} {p : Pos} {a' b' c' : Ex} (hm : lastMarks [op, op'] [b, c] = false) (h1 : f a = some a') (h2 : f b = some b') (h3 : f c = some c') :
    PE X (.Compare a [op, op'] [b, c] p) (tE X.K z co F E (.chn op op' a' b' c')) :=
  pe_imp (pe_chain (op_cmpD O.hu op) (op_cmpD O.hu op') (S.e _ _ h1) (S.e _ _ h2) (S.e _ _ h3) hm) fun σ H Q ⟨ν, G, R, q⟩ => chn_go O S h1 h2 h3 R q.toR
theorem snd_neg (S : Snd X T F z co E f) {a : Expr} {p : Pos} {a' : Ex} (h1 : f a = some a') : PE X (.UnaryOp .USub a p) (tE X.K z co F E (.neg a')) := by
  refine pe_imp (pe_un un_negD (S.e _ _ h1)) fun σ H Q ⟨ν, G, R, q⟩ => ?_
  simp only [evE] at q
  refine tE.then R q.toR fun d v G1 H1 _ s hv R1 q1 => ?_
  obtain ⟨r, e, k⟩ := q1.ofO
  exact ⟨G1, d, r, s.s, hv, e, fun v3 G3 H3 u hv3 => k v3 G3 H3 (s.trans u) hv3⟩
theorem snd_not (S : Snd X T F z co E f) {a : Expr} {p : Pos} {a' : Ex} (h1 : f a = some a') : PE X (.UnaryOp .Not a p) (tE X.K z co F E (.not a')) := by
  refine pe_imp (pe_notT (S.e _ _ h1)) fun σ H Q ⟨ν, G, R, q⟩ => ?_
  simp only [evE] at q
  refine tE.then R q.toR fun d v G1 H1 _ s hv R1 q1 => ?_
  cases e : truD d with
  | none => rw [e] at q1; exact q1.elim
  | some k =>
    rw [e] at q1
    exact ⟨k, tru_of hv s.s e, q1 _ G1 H1 s (.bl _)⟩
theorem boolR_cases {α : Type} {E : XK} {K : Fg} {G H : Hp} {d : D} {t e : Res α} {k : α → Prop} (h : PsR K co E (boolR d t e) G H k) : (d = .bool true ∧ PsR K co E t G H k) ∨ (d = .bool false ∧ PsR K co E e G H k) := by
  cases d with
  | bool b => cases b with
    | true => exact .inl ⟨rfl, h⟩
    | false => exact .inr ⟨rfl, h⟩
  | _ => exact h.elim
theorem snd_bool (S : Snd X T F z co E f) {op : BoolOp} {p : Pos} : ∀ {vs : List Expr} {x : Ex}, cBool f op vs = some x → PE X (.BoolOp op vs p) (tE X.K z co F E x)
  | [], _, h => by cases h
  | [a], x, h => pe_one (S.e _ _ h)
  | a :: b :: es, x, h => by
    unfold cBool at h
    cases e1 : f a with
    | none => rw [e1] at h; cases h
    | some a' =>
      cases e2 : cBool f op (b :: es) with
      | none => rw [e1, e2] at h; cases h
      | some r =>
        rw [e1, e2] at h
        have ih := snd_bool S (p := p) e2
        cases op with
        | And =>
          cases h
          refine pe_imp (pe_and (S.e _ _ e1) ih) fun σ H Q ⟨ν, G, R, q⟩ => ?_
          simp only [evE] at q
          refine tE.then R q.toR fun d v G1 H1 _ s hv R1 q1 => ?_
          rcases boolR_cases q1 with ⟨rfl, q2⟩ | ⟨rfl, q2⟩
          · cases hv
            exact ⟨true, rfl, iteT ⟨ν, G1, R1, PsR.toP (PsR.mono q2 (Nx.refl R1.same) fun _ _ z v G' H' a => z v G' H' (s.trans a))⟩⟩
          · cases hv
            exact ⟨false, rfl, iteF (q2 _ G1 H1 s (.bl false))⟩
        | Or =>
          cases h
          refine pe_imp (pe_or (S.e _ _ e1) ih) fun σ H Q ⟨ν, G, R, q⟩ => ?_
          simp only [evE] at q
          refine tE.then R q.toR fun d v G1 H1 _ s hv R1 q1 => ?_
          rcases boolR_cases q1 with ⟨rfl, q2⟩ | ⟨rfl, q2⟩
          · cases hv
            exact ⟨true, rfl, iteT (q2 _ G1 H1 s (.bl true))⟩
          · cases hv
            exact ⟨false, rfl, iteF ⟨ν, G1, R1, PsR.toP (PsR.mono q2 (Nx.refl R1.same) fun _ _ z v G' H' a => z v G' H' (s.trans a))⟩⟩
/-- a test, then something -/
theorem tT.then {K : Fg} {G H : Hp} {x : Ex} {σ : St} {ν : List (Option D)} {α : Type} {g : Bool → Res α} {k : α → Prop} {Q : Bool → Hp → Prop} (R : RepV K z σ ν G H) (h : PsR K co (E σ) ((evE F ν x).bind fun d => (Res.ofO (truD d)).bind g) G H k)
    (kk : ∀ (b : Bool) (G' H' : Hp), Nx G H G' H' → RepV K z σ ν G' H' → PsR K co (E σ) (g b) G' H' k → Q b H') : tT K z co F E x σ H Q := by
  refine ⟨ν, G, R, ?_⟩
  cases e : evE F ν x with
  | ok d =>
    rw [e] at h
    have h' : PsR K co (E σ) ((Res.ofO (truD d)).bind g) G H k := h
    show PsR K co (E σ) (Res.ofO (truD d)) G H _
    cases e2 : truD d with
    | none => rw [e2] at h'; exact h'
    | some b =>
      rw [e2] at h'
      exact fun G' H' h1 => kk b G' H' h1 (R.mono h1) (PsR.mono (r := g b) h' h1 fun _ _ z => z)
  | err e' => rw [e] at h; exact h
  | no => rw [e] at h; exact h
theorem snd_ite (S : Snd X T F z co E f) {c a b : Expr} {p : Pos} {c' a' b' : Ex} (ht : testOk c = true) (h0 : f c = some c') (h1 : f a = some a') (h2 : f b = some b') : PE X (.IfExp c a b p) (tE X.K z co F E (.ite c' a' b')) := by
  refine pe_imp (pe_ifExp (S.t _ _ h0 ht) (S.e _ _ h1) (S.e _ _ h2)) fun σ H Q ⟨ν, G, R, q⟩ => ?_
  simp only [evE] at q
  refine tT.then R q.toR fun k G1 H1 s R1 q1 => ?_
  cases k with
  | true => exact iteT ⟨ν, G1, R1, PsR.toP (PsR.mono q1 (Nx.refl R1.same) fun _ _ z v G' H' a => z v G' H' (s.trans a))⟩
  | false => exact iteF ⟨ν, G1, R1, PsR.toP (PsR.mono q1 (Nx.refl R1.same) fun _ _ z v G' H' a => z v G' H' (s.trans a))⟩
/-- arguments, then something -/
theorem tA.then {K : Fg} {G H : Hp} {x : Ex} {σ : St} {ν : List (Option D)} {α : Type} {g : List D → Res α} {k : α → Prop} {Q : List V → Hp → Prop} (R : RepV K z σ ν G H) (h : PsR K co (E σ) ((evE F ν x).bind fun d => listR d g) G H k)
    (kk : ∀ (ds : List D) (vs : List V) (G' H' : Hp), Nx G H G' H' → DqAll K G' vs ds → RepV K z σ ν G' H' → PsR K co (E σ) (g ds) G' H' k → Q vs H') : tA K z co F E x σ H Q := by
  refine ⟨ν, G, R, ?_⟩
  cases e : evE F ν x with
  | ok d =>
    rw [e] at h
    cases d with
    | list ds => exact fun vs G' H' h1 h4 => kk ds vs G' H' h1 h4 (R.mono h1) (PsR.mono (r := g ds) h h1 fun _ _ z => z)
    | _ => exact h
  | err e' => rw [e] at h; exact h
  | no => rw [e] at h; exact h
theorem snd_tup (S : Snd X T F z co E f) {es : List Expr} {j : Nat} {p : Pos} {x : Ex} (h : cArgs f es = some x) : PE X (.Tuple es j p) (tE X.K z co F E (.tup x)) := by
  refine pe_imp (pe_tup (snd_args S h)) fun σ H Q ⟨ν, G, R, q⟩ => ?_
  simp only [evE] at q
  refine tA.then R q.toR fun ds vs G1 H1 s ha R1 q1 => ?_
  by_cases hz : ds.length ≤ sizeLine
  · rw [if_pos hz] at q1
    exact ⟨by rw [dpa_len ha]; exact hz, fun p' hp => q1 (.ref p') _ _ (s.trans (Nx.new s.s hp)) (dp_newT ha s.s hp)⟩
  · rw [if_neg hz] at q1; exact q1.elim
theorem snd_lst (S : Snd X T F z co E f) {es : List Expr} {p : Pos} {x : Ex} (h : cArgs f es = some x) : PE X (.List es p) (tE X.K z co F E (.lst x)) := by
  refine pe_imp (pe_lst (snd_args S h)) fun σ H Q ⟨ν, G, R, q⟩ => ?_
  simp only [evE] at q
  refine tA.then R q.toR fun ds vs G1 H1 s ha R1 q1 => ?_
  by_cases hz : ds.length ≤ sizeLine
  · rw [if_pos hz] at q1
    exact ⟨by rw [dpa_len ha]; exact hz, fun p' hp => q1 (.ref p') _ _ (s.trans (Nx.new s.s hp)) (dp_newL ha s.s hp)⟩
  · rw [if_neg hz] at q1; exact q1.elim
theorem plainIx_of {b : Expr} (h : notSlice b = true) : PlainIx b := by
  intro o i
  cases b with
  | Slice _ _ _ _ => cases h
  | _ => rfl
theorem snd_idx (S : Snd X T F z co E f) {a b : Expr} {p : Pos} {a' b' : Ex} (hm : notSlice b = true) (h1 : f a = some a') (h2 : f b = some b') : PE X (.Subscript a b p) (tE X.K z co F E (.idx a' b')) := by
  refine pe_imp (pe_ix ix_D (S.e _ _ h1) (S.e _ _ h2) (plainIx_of hm)) fun σ H Q ⟨ν, G, R, q⟩ => ?_
  simp only [evE] at q
  refine tE.then R q.toR fun d v G1 H1 _ s hv R1 q1 => tE.then R1 q1 fun d2 v2 G2 H2 _ t hv2 R2 q2 => ?_
  obtain ⟨r, e, k⟩ := q2.ofO
  exact ⟨G2, d, d2, r, t.s, dp_same t.g _ _ hv, hv2, e, fun v3 G3 H3 u hv3 => k v3 G3 H3 (s.trans (t.trans u)) hv3⟩
def tP (K : Fg) (z : Zx) (co : Co) (F : Str → List D → Res D) (E : St → XK) (x : Ex) : TO := fun σ H Q => ∃ ν G, RepV K z σ ν G H ∧
  PsR K co (E σ) (partE x (evE F ν x)) G H fun o => ∀ G' H', Nx G H G' H' → Q o H'
theorem tP.then {K : Fg} {G H : Hp} {x : Ex} {σ : St} {ν : List (Option D)} {α : Type} {g : Option Int → Res α} {k : α → Prop} {Q : Option Int → Hp → Prop} (R : RepV K z σ ν G H) (h : PsR K co (E σ) ((partE x (evE F ν x)).bind g) G H k)
    (kk : ∀ (o : Option Int) (G' H' : Hp), Nx G H G' H' → RepV K z σ ν G' H' → PsR K co (E σ) (g o) G' H' k → Q o H') : tP K z co F E x σ H Q := by
  refine ⟨ν, G, R, ?_⟩
  cases e : partE x (evE F ν x) with
  | ok o =>
    rw [e] at h
    exact fun G' H' h1 => kk o G' H' h1 (R.mono h1) (PsR.mono (r := g o) h h1 fun _ _ z => z)
  | err e' => rw [e] at h; exact h
  | no => rw [e] at h; exact h
theorem partE_is {x : Ex} {r : Res D} (h : isPart x = true) : partE x r = r.bind fun d => match d with
    | .int i => .ok (some i)
    | _ => .no := by
  cases x <;> first | rfl | cases h
theorem snd_part (S : Snd X T F z co E f) {o : Option Expr} {x : Ex} (h : cPart f o = some x) : PO X o (tP X.K z co F E x) := by
  cases o with
  | none =>
    cases h
    refine ⟨fun pins s σ H Q I q => po_none.run pins s σ H Q I ?_⟩
    obtain ⟨ν, G, R, q⟩ := q
    exact q G H (Nx.refl R.same)
  | some e =>
    unfold cPart at h
    cases e1 : f e with
    | none => simp only [e1] at h; cases h
    | some y =>
      simp only [e1] at h
      by_cases hp : isPart y = true
      · rw [if_pos hp] at h
        cases h
        refine ⟨fun pins s σ H Q I q => (po_some (S.e _ _ e1)).run pins s σ H Q I ?_⟩
        obtain ⟨ν, G, R, q⟩ := q
        rw [partE_is hp] at q
        refine tE.then R q fun d v G1 H1 _ s hv R1 q1 => ?_
        cases hv with
        | int i => exact ⟨i, rfl, q1 G1 H1 s⟩
        | _ => exact q1.elim
      · rw [if_neg hp] at h; cases h
theorem snd_slc (S : Snd X T F z co E f) {a : Expr} {lo hi : Option Expr} {p p2 : Pos} {a' l' h' : Ex} (h1 : f a = some a') (h2 : cPart f lo = some l') (h3 : cPart f hi = some h') : PE X (.Subscript a (.Slice lo hi none p2) p) (tE X.K z co F E (.slc a' l' h')) := by
  refine pe_imp (pe_slice sl_D (S.e _ _ h1) (snd_part S h2) (snd_part S h3)) fun σ H Q ⟨ν, G, R, q⟩ => ?_
  simp only [evE] at q
  refine tE.then R q.toR fun d v G1 H1 _ s hv R1 q1 => tP.then R1 q1 fun l G2 H2 t R2 q2 => tP.then R2 q2 fun u G3 H3 u R3 q3 => ?_
  obtain ⟨r, e, k⟩ := q3.ofO
  exact ⟨G3, d, r, u.s, dp_same (t.trans u).g _ _ hv, e, fun v4 G4 H4 w hv4 => k v4 G4 H4 (s.trans (t.trans (u.trans w))) hv4⟩

/-! ### calls -/
/-- an own def runs -/
theorem run_G {pins : List (Addr × Obj)} {σ : St} {H : Hp} {s : Shared} {Q : VK} {us : List Value} {vs : List V} {k : Nat} {a : Addr} {fd : FuncData} {ps : List Str} {sp : Sp} (P : FnG X.prog X.w X.K X.mg X.base k a fd ps sp)
    (room : Room k X.A) (gd : X.A.guards = some []) (b : Binds X.K fd ps []) (pas : PassesAt (L2.CX X.prog X.w) X σ (E σ)) (I : Inv X pins σ H s) (r : Vals vs us) (want : sp vs H Q (E σ)) :
    wpAny (model X.prog X.w) X.A (call (.ref a) us) (EP X pins σ Q) X.xe s := by
  have n : (us ++ []).length = ps.length := by
    rw [List.append_nil, ← r.length]
    exact P.len _ _ _ _ want
  have bound := b s us I.kIn n
  rw [List.append_nil] at bound
  refine wpAny_call (codeAny_mono (P.run X.A X.stack s H ⟨us, []⟩ us vs Q (E σ) room gd I.env0 bound r want) ?_)
  intro res s' end_
  match res, end_ with
  | .ok (.ret u), end_ => exact I.after end_
  | .error e, end_ => exact pas pins H s e s' I end_
theorem pe_callG {k : Nat} {a : Addr} {fd : FuncData} {ps : List Str} {sp : Sp} {x : Str} {e : Expr} {es : List Expr} {p pos : Pos} {t : TA} (P : FnG X.prog X.w X.K X.mg X.base k a fd ps sp)
    (room : Room k X.A) (gd : X.A.guards = some []) (g : Gl X x) (m : X.mg x = some (.ref a)) (kp : PySem.W.keepIn X.K (.ref a) = true) (b : Binds X.K fd ps []) (pas : ∀ σ, PassesAt (L2.CX X.prog X.w) X σ (E σ))
    (args : PA X (e :: es) t) (dbg : (x == ("__debug__" : Str)) = false) (st : starEach (e :: es) X.env = (false, eval e X.env) :: starEach es X.env) (pl : (backTo pos (starEach es X.env)).any (·.1) = false) :
    PE X (.Call (.Name x p) (e :: es) [] pos) (fun σ H Q => t σ H fun vs H1 => sp vs H1 Q (E σ)) := by
  constructor
  intro pins s σ H Q I want
  apply wpAny_Call_Name_kw
  refine ld_glob I g m ?_ dbg
  refine PySem.W.callWith_K (h₀ := X.base) I.ok.mod.kin kp ?_ st pl
  exact thn (args.run pos pins s σ H _ I want) fun us s1 ⟨vs, H1, I1, r, q⟩ => ⟨I1.kIn, run_G P room gd b (pas σ) I1 r q⟩
theorem noStars {es : List Expr} {env : Env} {pos : Pos} (h : ∀ a ∈ es, ∀ b p, a ≠ .Starred b p) : (backTo pos (starEach es env)).any (·.1) = false := by
  induction es with
  | nil => rfl
  | cons e es ih =>
    rw [star_of (h e List.mem_cons_self)]
    show (false || (backTo pos (starEach es env)).any (·.1)) = false
    rw [ih fun a ha => h a (List.mem_cons_of_mem _ ha)]
    rfl
theorem args_len {ν : List (Option D)} : ∀ {es : List Expr} {x : Ex} {ds : List D}, cArgs f es = some x → evE F ν x = .ok (.list ds) → ds.length = es.length
  | [], x, ds, h, hev => by
    cases h
    simp only [evE] at hev
    cases hev
    rfl
  | e :: es, x, ds, h, hev => by
    unfold cArgs at h
    cases e1 : f e with
    | none => rw [e1] at h; cases h
    | some a1 =>
      cases e2 : cArgs f es with
      | none => rw [e1, e2] at h; cases h
      | some r =>
        rw [e1, e2] at h
        cases h
        simp only [evE] at hev
        cases e3 : evE F ν a1 with
        | ok d =>
          rw [e3] at hev
          cases e4 : evE F ν r with
          | ok y =>
            simp only [e4, Res.bind_ok] at hev
            cases y with
            | list ys =>
              cases hev
              exact congrArg (· + 1) (args_len e2 e4)
            | _ => cases hev
          | err _ => simp only [e4, Res.bind_ok, Res.bind_err] at hev; cases hev
          | no => simp only [e4, Res.bind_ok, Res.bind_no] at hev; cases hev
        | err _ => rw [e3] at hev; cases hev
        | no => rw [e3] at hev; cases hev
theorem snd_own (O : Ok1 X T F z co E) (S : Snd X T F z co E f) {y : Str} {as : List Expr} {x : Ex} {n : Nat} {p pos : Pos} (g : glB X.env.scope.names y = true) (hd : y ≠ "__debug__") (hf : T.fns.lookup y = some n) (hl : as.length = n) (hne : as ≠ []) (cool : T.hot = false) (h : cArgs f as = some x) :
    PE X (.Call (.Name y p) as [] pos) (tE X.K z co F E (.call y x)) := by
  obtain ⟨a, fd, ps, k, P, room, m, kp, b⟩ := (O.call cool y n hf).ex
  cases as with
  | nil => exact absurd rfl hne
  | cons e es =>
    have st := args_star S h
    refine pe_imp (pe_callG P room O.gd (gl_of g) m kp b (O.pas cool) (snd_args S h) (ne_beq hd) (star_of (st e List.mem_cons_self)) (noStars fun a ha => st a (List.mem_cons_of_mem _ ha))) fun σ H Q ⟨ν, G, R, q⟩ => ?_
    simp only [evE] at q
    refine ⟨ν, G, R, ?_⟩
    cases ev : evE F ν x with
    | ok d =>
      rw [ev] at q
      cases d with
      | list ds => exact fun vs G1 H1 s ha => ⟨G1, ds, s.s, ha, (args_len h ev).trans hl, Pst.mono (r := F y ds) q s⟩
      | _ => exact q
    | err _ => rw [ev] at q; exact q
    | no => rw [ev] at q; exact q
theorem bf_boot : ∀ (y : Str) (n : Nat) (b : Bf), bfOf y n = some b → y ∈ bltNames ∧ y ≠ "__name__" ∧ y ≠ "__debug__" ∧ ((∃ id, b.val = .builtin id ∧ bootBuiltins y = some (.builtin id)) ∨ (∃ id, b.val = .type id ∧ bootBuiltins y = some (.type id))) ∧ 0 < n := by
  intro y n b h
  unfold bfOf at h
  by_cases c0 : y = "len" ∧ n = 1
  · rw [if_pos c0] at h
    cases h
    obtain ⟨rfl, rfl⟩ := c0
    exact ⟨by decide +kernel, by decide +kernel, by decide +kernel, .inl ⟨_, rfl, by decide +kernel⟩, by decide⟩
  rw [if_neg c0] at h
  by_cases c1 : y = "abs" ∧ n = 1
  · rw [if_pos c1] at h
    cases h
    obtain ⟨rfl, rfl⟩ := c1
    exact ⟨by decide +kernel, by decide +kernel, by decide +kernel, .inl ⟨_, rfl, by decide +kernel⟩, by decide⟩
  rw [if_neg c1] at h
  by_cases c2 : y = "int" ∧ n = 1
  · rw [if_pos c2] at h
    cases h
    obtain ⟨rfl, rfl⟩ := c2
    exact ⟨by decide +kernel, by decide +kernel, by decide +kernel, .inr ⟨_, rfl, by decide +kernel⟩, by decide⟩
  rw [if_neg c2] at h
  by_cases c3 : y = "max" ∧ n = 2
  · rw [if_pos c3] at h
    cases h
    obtain ⟨rfl, rfl⟩ := c3
    exact ⟨by decide +kernel, by decide +kernel, by decide +kernel, .inl ⟨_, rfl, by decide +kernel⟩, by decide⟩
  rw [if_neg c3] at h
  by_cases c4 : y = "min" ∧ n = 2
  · rw [if_pos c4] at h
    cases h
    obtain ⟨rfl, rfl⟩ := c4
    exact ⟨by decide +kernel, by decide +kernel, by decide +kernel, .inl ⟨_, rfl, by decide +kernel⟩, by decide⟩
  rw [if_neg c4] at h
  by_cases c5 : y = "repr" ∧ n = 1
  · rw [if_pos c5] at h
    cases h
    obtain ⟨rfl, rfl⟩ := c5
    exact ⟨by decide +kernel, by decide +kernel, by decide +kernel, .inl ⟨_, rfl, by decide +kernel⟩, by decide⟩
  rw [if_neg c5] at h
  by_cases c6 : y = "str" ∧ n = 1
  · rw [if_pos c6] at h
    cases h
    obtain ⟨rfl, rfl⟩ := c6
    exact ⟨by decide +kernel, by decide +kernel, by decide +kernel, .inr ⟨_, rfl, by decide +kernel⟩, by decide⟩
  rw [if_neg c6] at h
  by_cases c7 : y = "all" ∧ n = 1
  · rw [if_pos c7] at h
    cases h
    obtain ⟨rfl, rfl⟩ := c7
    exact ⟨by decide +kernel, by decide +kernel, by decide +kernel, .inl ⟨_, rfl, by decide +kernel⟩, by decide⟩
  rw [if_neg c7] at h
  by_cases c8 : y = "any" ∧ n = 1
  · rw [if_pos c8] at h
    cases h
    obtain ⟨rfl, rfl⟩ := c8
    exact ⟨by decide +kernel, by decide +kernel, by decide +kernel, .inl ⟨_, rfl, by decide +kernel⟩, by decide⟩
  rw [if_neg c8] at h
  by_cases c9 : y = "tuple" ∧ n = 1
  · rw [if_pos c9] at h
    cases h
    obtain ⟨rfl, rfl⟩ := c9
    exact ⟨by decide +kernel, by decide +kernel, by decide +kernel, .inr ⟨_, rfl, by decide +kernel⟩, by decide⟩
  rw [if_neg c9] at h
  by_cases c10 : y = "list" ∧ n = 1
  · rw [if_pos c10] at h
    cases h
    obtain ⟨rfl, rfl⟩ := c10
    exact ⟨by decide +kernel, by decide +kernel, by decide +kernel, .inr ⟨_, rfl, by decide +kernel⟩, by decide⟩
  rw [if_neg c10] at h
  by_cases c11 : y = "sum" ∧ n = 1
  · rw [if_pos c11] at h
    cases h
    obtain ⟨rfl, rfl⟩ := c11
    exact ⟨by decide +kernel, by decide +kernel, by decide +kernel, .inl ⟨_, rfl, by decide +kernel⟩, by decide⟩
  rw [if_neg c11] at h
  by_cases c12 : y = "sorted" ∧ n = 1
  · rw [if_pos c12] at h
    cases h
    obtain ⟨rfl, rfl⟩ := c12
    exact ⟨by decide +kernel, by decide +kernel, by decide +kernel, .inl ⟨_, rfl, by decide +kernel⟩, by decide⟩
  rw [if_neg c12] at h
  cases h
/-! ### a module's tables; turned round -/
theorem tab_is {nm : List (Str × NameKind)} {T : Tbl} {b : Expr} {es : List (Str × D)} (h : tabOf nm T b = some es) : ∃ y p, b = .Name y p ∧ glB nm y = true ∧ y ≠ "__debug__" ∧ T.dcts.lookup y = some es := by
  unfold tabOf at h
  split at h
  · rename_i y p
    by_cases c : glB nm y = true ∧ y ≠ "__debug__"
    · rw [if_pos c] at h; exact ⟨y, p, rfl, c.1, c.2, h⟩
    · rw [if_neg c] at h; cases h
  · cases h
theorem op_inT {d : Addr} {es : List (Str × D)} (t : TabD X.K X.w d es) : OpR X (compareOp .In) (fun x y H Q => y = .ref d ∧ rD1 X.K (inTD es) x H Q) := by
  rintro pins s σ H x y v u Q I rx ry ⟨rfl, G, dx, r, sm, hx, hf, q⟩
  obtain ⟨en, n, kd⟩ := t.kd
  cases hx with
  | str y0 =>
    cases hf
    refine op_in_kd kd pins s σ H _ _ v u Q I rx ry ?_
    cases e : es.lookup y0 with
    | some x =>
      obtain ⟨u1, v1, h1, _⟩ := t.get y0 x e
      rw [e] at q
      exact ⟨y0, _, rfl, rfl, h1, q.now sm (.bl true)⟩
    | none =>
      rw [e] at q
      exact ⟨y0, _, rfl, rfl, t.non y0 e, q.now sm (.bl false)⟩
  | _ => cases hf
theorem pe_tabName {d : Addr} {y : Str} {p : Pos} (g : glB X.env.scope.names y = true) (m : X.mg y = some (.ref d)) (hd : y ≠ "__debug__") : PE X (.Name y p) (tC (.ref d)) := pe_glob (gl_of g) m rfl (ne_beq hd)
theorem tE1 {a' x : Ex} {h : D → Option D} {d0 : Addr} {σ : St} {H : Hp} {Q : VK} (ev : ∀ ν, evE F ν x = (evE F ν a').bind fun d => Res.ofO (h d)) (q : tE X.K z co F E x σ H Q) : tE X.K z co F E a' σ H fun v H1 => rD1 X.K h v H1 Q := by
  obtain ⟨ν, G, R, q⟩ := q
  rw [ev] at q
  refine tE.then R q.toR fun d v G1 H1 _ s hv R1 q1 => ?_
  obtain ⟨r, e, k⟩ := q1.ofO
  exact ⟨G1, d, r, s.s, hv, e, fun v3 G3 H3 u hv3 => k v3 G3 H3 (s.trans u) hv3⟩
theorem marks_name {op : CmpOp} {y : Str} {p : Pos} : behindInMarks op (.Name y p) = false := by cases op <;> rfl
theorem snd_inT (O : Ok1 X T F z co E) (S : Snd X T F z co E f) {a b : Expr} {a' : Ex} {es : List (Str × D)} {p : Pos} (ht : tabOf X.env.scope.names T b = some es) (h : f a = some a') : PE X (.Compare a [.In] [b] p) (tE X.K z co F E (.inT a' es)) := by
  obtain ⟨y, q, rfl, g, hd, e⟩ := tab_is ht
  obtain ⟨d, m, t⟩ := O.dct y es e
  exact pe_imp (pe_cmpR (op_inT t) (S.e _ _ h) (pe_tabName g m hd) marks_name) fun σ H Q q => by
    obtain ⟨ν, G, R, q⟩ := tE1 (a' := a') (d0 := d) (h := inTD es) (fun ν => by simp only [evE]) q
    exact ⟨ν, G, R, by cases ev : evE F ν a' <;> rw [ev] at q <;> first | exact fun v G1 H1 s hv => ⟨rfl, q v G1 H1 s hv⟩ | exact q⟩
theorem tst_inT (O : Ok1 X T F z co E) (S : Snd X T F z co E f) {a b : Expr} {a' : Ex} {es : List (Str × D)} {p : Pos} (ht : tabOf X.env.scope.names T b = some es) (h : f a = some a') : PT X (.Compare a [.In] [b] p) (tT X.K z co F E (.inT a' es)) := by
  obtain ⟨y, q, rfl, g, hd, e⟩ := tab_is ht
  obtain ⟨d, m, t⟩ := O.dct y es e
  refine pt_imp (pt_cmpR (op_inT t) (S.e _ _ h) (pe_tabName g m hd) marks_name) fun σ H Q ⟨ν, G, R, q⟩ => ?_
  simp only [evE] at q
  have q' : PsR X.K co (E σ) ((evE F ν a').bind fun x => (Res.ofO (inTD es x)).bind fun d => Res.ofO (truD d)) G H fun b => ∀ G' H', Nx G H G' H' → Q b H' := by
    revert q
    cases evE F ν a' <;> exact id
  show tOp _ _ _ σ H _
  refine tE.then R q' fun d1 v G1 H1 _ s hv R1 q1 => ?_
  cases e : inTD es d1 with
  | none => rw [e] at q1; exact q1.elim
  | some r =>
    rw [e] at q1
    cases d1 with
    | str y0 =>
      cases e
      refine ⟨rfl, G1, .str y0, _, s.s, hv, rfl, fun v3 G3 H3 u hv3 => ?_⟩
      cases hv3
      exact ⟨_, rfl, q1 G3 H3 (s.trans u)⟩
    | _ => cases e
theorem op_ninT {d : Addr} {es : List (Str × D)} (t : TabD X.K X.w d es) : OpR X (compareOp .NotIn) (fun x y H Q => y = .ref d ∧ rD1 X.K (fun v => (inTD es v).bind fun r => match r with
    | .bool b => some (.bool (!b))
    | _ => none) x H Q) := by
  rintro pins s σ H x y v u Q I rx ry ⟨rfl, G, dx, r, sm, hx, hf, q⟩
  obtain ⟨en, n, kd⟩ := t.kd
  cases hx with
  | str y0 =>
    cases hf
    refine op_notIn_kd kd pins s σ H _ _ v u Q I rx ry ?_
    cases e : es.lookup y0 with
    | some x =>
      obtain ⟨u1, v1, h1, _⟩ := t.get y0 x e
      rw [e] at q
      exact ⟨y0, _, rfl, rfl, h1, q.now sm (.bl false)⟩
    | none =>
      rw [e] at q
      exact ⟨y0, _, rfl, rfl, t.non y0 e, q.now sm (.bl true)⟩
  | _ => cases hf
def ninD (es : List (Str × D)) (v : D) : Option D := (inTD es v).bind fun r => match r with
    | .bool b => some (.bool (!b))
    | _ => none
theorem ev_nin {a' : Ex} {es : List (Str × D)} (ν : List (Option D)) : evE F ν (.not (.inT a' es)) = (evE F ν a').bind fun d => Res.ofO (ninD es d) := by
  simp only [evE]
  cases evE F ν a' with
  | ok d =>
    cases d with
    | str y => rfl
    | _ => rfl
  | err _ => rfl
  | no => rfl
theorem snd_ninT (O : Ok1 X T F z co E) (S : Snd X T F z co E f) {a b : Expr} {a' : Ex} {es : List (Str × D)} {p : Pos} (ht : tabOf X.env.scope.names T b = some es) (h : f a = some a') : PE X (.Compare a [.NotIn] [b] p) (tE X.K z co F E (.not (.inT a' es))) := by
  obtain ⟨y, q, rfl, g, hd, e⟩ := tab_is ht
  obtain ⟨d, m, t⟩ := O.dct y es e
  exact pe_imp (pe_cmpR (op_ninT t) (S.e _ _ h) (pe_tabName g m hd) marks_name) fun σ H Q q => by
    obtain ⟨ν, G, R, q⟩ := tE1 (a' := a') (d0 := d) (h := ninD es) ev_nin q
    exact ⟨ν, G, R, by cases ev : evE F ν a' <;> rw [ev] at q <;> first | exact fun v G1 H1 s hv => ⟨rfl, q v G1 H1 s hv⟩ | exact q⟩
theorem tst_ninT (O : Ok1 X T F z co E) (S : Snd X T F z co E f) {a b : Expr} {a' : Ex} {es : List (Str × D)} {p : Pos} (ht : tabOf X.env.scope.names T b = some es) (h : f a = some a') : PT X (.Compare a [.NotIn] [b] p) (tT X.K z co F E (.not (.inT a' es))) := by
  obtain ⟨y, q, rfl, g, hd, e⟩ := tab_is ht
  obtain ⟨d, m, t⟩ := O.dct y es e
  refine pt_imp (pt_cmpR (op_ninT t) (S.e _ _ h) (pe_tabName g m hd) marks_name) fun σ H Q ⟨ν, G, R, q⟩ => ?_
  rw [ev_nin] at q
  have q' : PsR X.K co (E σ) ((evE F ν a').bind fun x => (Res.ofO (ninD es x)).bind fun d => Res.ofO (truD d)) G H fun b => ∀ G' H', Nx G H G' H' → Q b H' := by
    revert q
    cases evE F ν a' <;> exact id
  show tOp _ _ _ σ H _
  refine tE.then R q' fun d1 v G1 H1 _ s hv R1 q1 => ?_
  cases e : ninD es d1 with
  | none => rw [e] at q1; exact q1.elim
  | some r =>
    rw [e] at q1
    cases d1 with
    | str y0 =>
      cases e
      refine ⟨rfl, G1, .str y0, _, s.s, hv, rfl, fun v3 G3 H3 u hv3 => ?_⟩
      cases hv3
      exact ⟨_, rfl, q1 G3 H3 (s.trans u)⟩
    | _ => cases e
theorem ix_tabD {d : Addr} {es : List (Str × D)} (t : TabD X.K X.w d es) : IxR X (fun x y H Q => x = .ref d ∧ rD1 X.K (atTD es) y H Q) := by
  rintro va sl pins s σ H x y v u Q I rx ry ⟨rfl, G, dx, r, sm, hx, hf, q⟩ hs
  obtain ⟨en, n, kd⟩ := t.kd
  cases hx with
  | str y0 =>
    obtain ⟨u1, v1, h1, h2, h3⟩ := t.get y0 r hf
    exact ix_kdict va sl pins s σ H _ _ v u Q I rx ry ⟨d, y0, v1, rfl, rfl, ⟨en, n, u1, kd.at_, kd.lit, h1, h2⟩, q.now sm (h3 G)⟩ hs
  | _ => cases hf
theorem snd_atT (O : Ok1 X T F z co E) (S : Snd X T F z co E f) {a b : Expr} {b' : Ex} {es : List (Str × D)} {p : Pos} (ht : tabOf X.env.scope.names T a = some es) (hm : notSlice b = true) (h : f b = some b') : PE X (.Subscript a b p) (tE X.K z co F E (.atT b' es)) := by
  obtain ⟨y, q, rfl, g, hd, e⟩ := tab_is ht
  obtain ⟨d, m, t⟩ := O.dct y es e
  exact pe_imp (pe_ix (ix_tabD t) (pe_tabName g m hd) (S.e _ _ h) (plainIx_of hm)) fun σ H Q q => by
    obtain ⟨ν, G, R, q⟩ := tE1 (a' := b') (d0 := d) (h := atTD es) (fun ν => by simp only [evE]) q
    exact ⟨ν, G, R, by cases ev : evE F ν b' <;> rw [ev] at q <;> first | exact fun v G1 H1 s hv => ⟨rfl, q v G1 H1 s hv⟩ | exact q⟩
theorem snd_rev (S : Snd X T F z co E f) {a : Expr} {a' : Ex} {k : Nat} {p1 p2 p3 p : Pos} (h : f a = some a') : PE X (.Subscript a (.Slice none none (some (.UnaryOp .USub (.Constant (.int 1) k p1) p2)) p3) p) (tE X.K z co F E (.rev a')) :=
  pe_imp (pe_revD (S.e _ _ h)) fun σ H Q q => tE1 (d0 := 0) (h := revD) (fun ν => by simp only [evE]) q
end
end Pe

set_option Elab.async false
set_option linter.all false
set_option maxRecDepth 100000
set_option maxHeartbeats 4000000
/-! Pe8: built-in calls, isinstance, join; what a for walks. -/
namespace Pe
open PySem L2
section
variable {X : Cx} {T : Tbl} {F : Str → List D → Res D} {z : Zx} {co : Co} {E : St → XK} {f : Expr → Option Ex}

theorem snd_bf (O : Ok1 X T F z co E) (S : Snd X T F z co E f) {y : Str} {as : List Expr} {x : Ex} {b : Bf} {p pos : Pos} (g : glB X.env.scope.names y = true) (hb : bfOf y as.length = some b) (hc : ¬ (b.cold = true ∧ T.hot = true)) (h : cArgs f as = some x) :
    PE X (.Call (.Name y p) as [] pos) (tE X.K z co F E (.bf b x)) := by
  obtain ⟨k1, k2, k3, k4, k5⟩ := bf_boot _ _ _ hb
  have m := O.blt y k1
  cases as with
  | nil => exact absurd k5 (Nat.lt_irrefl 0)
  | cons e es =>
    have st := args_star S h
    have rd : ∀ (σ : St) (H : Hp) (Q : VK), tE X.K z co F E (.bf b x) σ H Q → tCB (rDc X.K (bfD b)) (tA X.K z co F E x) σ H Q := fun σ H Q ⟨ν, G, R, q⟩ => by
      simp only [evE] at q
      refine tA.then R q.toR fun ds vs G1 H1 s ha R1 q1 => ?_
      obtain ⟨r, er, k⟩ := q1.ofO
      exact ⟨G1, ds, r, s.s, ha, er, fun v3 G3 H3 u hv3 => k v3 G3 H3 (s.trans u) hv3⟩
    have c := call_bfD (X := X) b (fun z => O.calm (by
      cases e : T.hot with
      | false => rfl
      | true => exact absurd ⟨z, e⟩ hc)) O.gd O.hu
    rcases k4 with ⟨id, e1, e2⟩ | ⟨id, e1, e2⟩
    · rw [e1] at c
      exact pe_imp (pe_callB c (gl_of g) m e2 (snd_args S h) k2 (ne_beq k3) (star_of (st e List.mem_cons_self)) (noStars fun a ha => st a (List.mem_cons_of_mem _ ha))) rd
    · rw [e1] at c
      exact pe_imp (pe_callTy c (gl_of g) m e2 (snd_args S h) k2 (ne_beq k3) (star_of (st e List.mem_cons_self)) (noStars fun a ha => st a (List.mem_cons_of_mem _ ha))) rd

/-! ### isinstance -/
theorem ty_boot {y : Str} {t : Ty} (h : tyOf y = some t) : y ∈ bltNames ∧ y ≠ "__name__" ∧ y ≠ "__debug__" ∧ bootBuiltins y = some (.type t.nm) := by
  unfold tyOf at h
  by_cases c : y = "int"
  · rw [if_pos c] at h; cases h; subst c; exact ⟨by decide +kernel, by decide +kernel, by decide +kernel, by decide +kernel⟩
  rw [if_neg c] at h; clear c
  by_cases c : y = "str"
  · rw [if_pos c] at h; cases h; subst c; exact ⟨by decide +kernel, by decide +kernel, by decide +kernel, by decide +kernel⟩
  rw [if_neg c] at h; clear c
  by_cases c : y = "bool"
  · rw [if_pos c] at h; cases h; subst c; exact ⟨by decide +kernel, by decide +kernel, by decide +kernel, by decide +kernel⟩
  rw [if_neg c] at h; clear c
  by_cases c : y = "tuple"
  · rw [if_pos c] at h; cases h; subst c; exact ⟨by decide +kernel, by decide +kernel, by decide +kernel, by decide +kernel⟩
  rw [if_neg c] at h; clear c
  by_cases c : y = "list"
  · rw [if_pos c] at h; cases h; subst c; exact ⟨by decide +kernel, by decide +kernel, by decide +kernel, by decide +kernel⟩
  rw [if_neg c] at h; cases h
theorem pe_ty (O : Ok1 X T F z co E) {y : Str} {t : Ty} {p : Pos} (g : glB X.env.scope.names y = true) (h : tyOf y = some t) : PE X (.Name y p) (tC (.ty t.nm)) := by
  obtain ⟨k1, k2, k3, k4⟩ := ty_boot h
  exact pe_bltn (gl_of g) (O.blt y k1) k4 rfl k2 (ne_beq k3)
theorem snd_isi (O : Ok1 X T F z co E) (S : Snd X T F z co E f) {a : Expr} {ty : Str} {a' : Ex} {t : Ty} {p p1 pos : Pos} (g : glB X.env.scope.names "isinstance" = true) (gt : glB X.env.scope.names ty = true) (h : f a = some a') (ht : tyOf ty = some t) :
    PE X (.Call (.Name "isinstance" p) [a, .Name ty p1] [] pos) (tE X.K z co F E (.isi a' t)) := by
  have st := S.star _ _ h
  have pa : PA X [a, .Name ty p1] (tCons (tE X.K z co F E a') (tCons (tC (.ty t.nm)) tNil)) := pa_cons (S.e _ _ h) (pa_cons (pe_ty O gt ht) pa_nil) (star_of st)
  refine pe_imp (pe_callB (call_isD t) (gl_of g) (O.blt _ (by decide +kernel)) (by decide +kernel) pa (by decide +kernel) (by decide +kernel) (star_of st) rfl) fun σ H Q ⟨ν, G, R, q⟩ => ?_
  simp only [evE] at q
  exact tE.then R q.toR fun d v G1 H1 _ s hv R1 q1 => ⟨G1, v, d, rfl, s.s, hv, q1 _ G1 H1 s (.bl _)⟩
theorem pa_tys (O : Ok1 X T F z co E) : ∀ {es : List Expr} {ts : List Ty}, cTys X.env.scope.names es = some ts → PA X es (fun _ H Q => Q (ts.map fun t => V.ty t.nm) H)
  | [], ts, h => by cases h; exact pa_nil
  | .Name y p :: es, ts, h => by
    unfold cTys at h
    by_cases g : glB X.env.scope.names y = true
    · rw [if_pos g] at h
      cases e1 : tyOf y with
      | none => rw [e1] at h; cases h
      | some t =>
        cases e2 : cTys X.env.scope.names es with
        | none => rw [e1, e2] at h; cases h
        | some r =>
          rw [e1, e2] at h
          cases h
          exact pa_imp (pa_cons (pe_ty O g e1) (pa_tys O e2)) fun σ H Q q => q
    · rw [if_neg g] at h; cases h
theorem tys_len : ∀ {es : List Expr} {nm : List (Str × NameKind)} {ts : List Ty}, cTys nm es = some ts → ts.length = es.length
  | [], _, ts, h => by cases h; rfl
  | .Name y p :: es, nm, ts, h => by
    unfold cTys at h
    by_cases g : glB nm y = true
    · rw [if_pos g] at h
      cases e1 : tyOf y with
      | none => rw [e1] at h; cases h
      | some t =>
        cases e2 : cTys nm es with
        | none => rw [e1, e2] at h; cases h
        | some r =>
          rw [e1, e2] at h
          cases h
          exact congrArg (· + 1) (tys_len e2)
    · rw [if_neg g] at h; cases h
theorem paired_ty : ∀ ts : List Ty, Paired ClsV (ts.map fun t => V.ty t.nm) (ts.map fun t => Value.type t.nm)
  | [] => .nil
  | t :: ts => .cons (.ty _) (paired_ty ts)
theorem snd_isis (O : Ok1 X T F z co E) (S : Snd X T F z co E f) {a : Expr} {es : List Expr} {j : Nat} {a' : Ex} {ts : List Ty} {p p1 pos : Pos} (g : glB X.env.scope.names "isinstance" = true) (h : f a = some a') (ht : cTys X.env.scope.names es = some ts) (hl : ts.length ≤ 1000) :
    PE X (.Call (.Name "isinstance" p) [a, .Tuple es j p1] [] pos) (tE X.K z co F E (.isis a' ts)) := by
  have st := S.star _ _ h
  have pt : PE X (.Tuple es j p1) _ := pe_tup (pa_tys O ht)
  have pa : PA X [a, .Tuple es j p1] _ := pa_cons (S.e _ _ h) (pa_cons pt pa_nil) (star_of st)
  refine pe_imp (pe_callB call_isiT (gl_of g) (O.blt _ (by decide +kernel)) (by decide +kernel) pa (by decide +kernel) (by decide +kernel) (star_of st) rfl) fun σ H Q ⟨ν, G, R, q⟩ => ?_
  simp only [evE] at q
  refine tE.then R q.toR fun d v G1 H1 _ s hv R1 q1 => ⟨by rw [List.length_map]; exact Nat.le_trans hl (by decide), fun tp hp => ?_⟩
  obtain ⟨h1, h2⟩ := ty_of (dp_same (s.s.trans (same_upd hp)) _ _ hv)
  exact ⟨v, tp, _, _, _, anyT ts d, rfl, upd_same, paired_ty ts, h1, kit_anyT h2 ts, q1 _ G1 _ (s.trans (Nx.hid s.s hp)) (.bl _)⟩

/-! ### join -/
theorem snd_join (O : Ok1 X T F z co E) (S : Snd X T F z co E f) {a : Expr} {y : Str} {a' : Ex} {j : Nat} {p ap cp : Pos} (hl : (ap.endLine == cp.line) = true) (h : f a = some a') :
    PE X (.Call (.Attribute (.Constant (.str y) j p) "join" ap) [a] [] cp) (tE X.K z co F E (.join (.cst (.str y)) a')) := by
  have st := star_of (es := []) (env := X.env) (S.star _ _ h)
  have pa : PA X [a] (tCons (tE X.K z co F E a') tNil) := pa_cons (S.e _ _ h) pa_nil st
  refine pe_imp (pe_bm PySem.F.plainAttrs_str PySem.F.slot_str_join PySem.F.type_str_join mt_joinD pe_str pa rfl (by rw [st]; rfl) hl st rfl) fun σ H Q ⟨ν, G, R, q⟩ => ?_
  simp only [evE, Res.bind_ok] at q
  refine ⟨rfl, tE.then R q.toR fun d v G1 H1 _ s hv R1 q1 => ?_⟩
  obtain ⟨r, e, k⟩ := q1.ofO
  exact ⟨G1, _, d, v, r, rfl, s.s, .str y, hv, e, fun v3 G3 H3 u hv3 => k v3 G3 H3 (s.trans u) hv3⟩

/-! ### what a for walks -/
theorem walk_at {K : Fg} {J : It} {xs : List V} {ds : List D} {G : Hp} {P : Hp → Prop} (w : Walk J xs.length P (YAt xs)) (hP : ∀ H, Same G H → P H) (a : DqAll K G xs ds) : WalkD K J ds G := by
  refine ⟨YAt xs, ?_, ?_⟩
  · rw [← dpa_len a]
    exact w.mono hP fun i H x H' _ _ y => y
  · rintro i d G1 H1 H2 v hd s1 s2 ⟨rfl, hv⟩
    obtain ⟨v', e, r⟩ := dpa_get a hd
    rw [hv] at e
    cases e
    exact ⟨G1, Nx.refl s2, dp_same s1 _ _ r⟩
theorem walk_fn {K : Fg} {J : It} {ds : List D} {g : Nat → V} {G : Hp} (w : Walk J ds.length (fun _ => True) (YFn g)) (h : ∀ i d, ds[i]? = some d → ∀ G, Dq K G (g i) d) : WalkD K J ds G := by
  refine ⟨YFn g, w.mono (fun _ _ => trivial) fun i H x H' _ _ y => y, ?_⟩
  rintro i d G1 H1 H2 v hd s1 s2 ⟨rfl, rfl⟩
  exact ⟨G1, Nx.refl s2, h i d hd G1⟩
theorem walk_pr {K : Fg} {J : It} {ds : List D} {g1 g2 : Nat → Option V} {G : Hp} {P : Hp → Prop} (w : Walk J ds.length P (YPair g1 g2)) (hP : ∀ H, Same G H → P H)
    (h : ∀ i d, ds[i]? = some d → ∃ x y, d = .tuple [x, y] ∧ (∀ v, g1 i = some v → Dq K G v x) ∧ ∀ v, g2 i = some v → Dq K G v y) : WalkD K J ds G := by
  refine ⟨YPair g1 g2, w.mono hP fun i H x H' _ _ y => y, ?_⟩
  rintro i d G1 H1 H2 v hd s1 s2 ⟨p, v1, v2, rfl, hp, rfl, e1, e2⟩
  obtain ⟨x, y, rfl, r1, r2⟩ := h i d hd
  have a : DqAll K G1 [v1, v2] [x, y] := .cons (dp_same s1 _ _ (r1 v1 e1)) (.cons (dp_same s1 _ _ (r2 v2 e2)) .nil)
  exact ⟨upd G1 p (.tup [v1, v2]), Nx.new s2 hp, dp_newT a s2 hp⟩
theorem pi_seq (S : Snd X T F z co E f) {tg e : Expr} {x : Ex} (h : f e = some x) : PI X tg e (tI X.K z co F E (.seq x)) := by
  refine ⟨fun pins s σ H R I q => ?_⟩
  obtain ⟨ν, G, Rp, q⟩ := q
  simp only [evE] at q
  cases ev : evE F ν x with
  | err e' =>
    rw [ev] at q
    refine (pi_list (S.e _ _ h)).run pins s σ H R I ⟨ν, G, Rp, ?_⟩
    rw [ev]
    exact q
  | no => rw [ev] at q; exact q.elim
  | ok d =>
    rw [ev] at q
    cases d with
    | list ds =>
      refine (pi_list (S.e _ _ h)).run pins s σ H R I ⟨ν, G, Rp, ?_⟩
      rw [ev]
      intro v G1 H1 s hv
      cases hv with
      | lst h1 a => exact ⟨_, rfl, ⟨_, (ls_same s.s h1).sq⟩, q _ G1 H1 s (walk_at walk_list (fun H2 s => (ls_same s h1).sq) a)⟩
    | tuple ds =>
      refine (pi_tup (S.e _ _ h)).run pins s σ H R I ⟨ν, G, Rp, ?_⟩
      rw [ev]
      intro v G1 H1 s hv
      cases hv with
      | tup h1 a => exact ⟨_, rfl, ⟨_, seqT_same s.s h1⟩, q _ G1 H1 s (walk_at walk_tup (fun H2 s => seqT_same s h1) a)⟩
    | str z =>
      refine (pi_str (S.e _ _ h)).run pins s σ H R I ⟨ν, G, Rp, ?_⟩
      rw [ev]
      intro v G1 H1 s hv
      cases hv with
      | str =>
        refine ⟨z, rfl, q _ G1 H1 s ⟨fun i H v H' => H' = H ∧ ∃ c, z.cps[i]? = some c ∧ v = .str ⟨#[c]⟩, ?_, ?_⟩⟩
        · have e : (signs z).length = z.cps.size := by simp [signs]
          rw [e]
          exact walk_str.mono (fun _ _ => trivial) fun i H x H' _ _ y => y
        · rintro i d G1 H1 H2 v hd s1 s2 ⟨rfl, c, hc, rfl⟩
          refine ⟨G1, Nx.refl s2, ?_⟩
          simp only [signs, List.getElem?_map, Array.getElem?_toList, hc, Option.map_some, Option.some.injEq] at hd
          subst hd
          exact .str _
    | _ => exact q.elim
theorem near_of {i : Int} (h : near i = true) : -(2 ^ 62) ≤ i ∧ i < 2 ^ 62 := by
  have := of_decide_eq_true h
  omega
theorem rangeL_len (i j : Int) : (rangeL i j).length = (j - i).toNat := by simp [rangeL]
theorem walk_rng {K : Fg} {G : Hp} (i j : Int) : WalkD K (Itr i (j - i).toNat) (rangeL i j) G := by
  refine walk_fn (g := fun k => .int (i + (k : Nat))) (by rw [rangeL_len]; exact walk_range) fun k d h G => ?_
  unfold rangeL at h
  rw [List.getElem?_map] at h
  cases e : (List.range (j - i).toNat)[k]? with
  | none => rw [e] at h; cases h
  | some m =>
    rw [e] at h
    cases h
    rw [List.getElem?_range] at e
    · cases e; exact .int _
    · obtain ⟨hk, _⟩ := List.getElem?_eq_some_iff.mp e
      simpa using hk
theorem pi_rng2 (O : Ok1 X T F z co E) (S : Snd X T F z co E f) {tg a b : Expr} {a' b' : Ex} {p pos : Pos} (g : glB X.env.scope.names "range" = true) (h1 : f a = some a') (h2 : f b = some b') : PI X tg (.Call (.Name "range" p) [a, b] [] pos) (tI X.K z co F E (.rng a' b')) := by
  have st1 := S.star _ _ h1
  have st2 := S.star _ _ h2
  have pa : PA X [a, b] (tCons (tE X.K z co F E a') (tCons (tE X.K z co F E b') tNil)) := pa_cons (S.e _ _ h1) (pa_cons (S.e _ _ h2) pa_nil (star_of st2)) (star_of st1)
  refine ⟨fun pins s σ H R I q => (pi_range2 (gl_of g) (O.blt _ (by decide +kernel)) pa (by rw [star_of st1, star_of st2]; rfl) (by rw [star_of st2]; rfl)).run pins s σ H R I ?_⟩
  obtain ⟨ν, G, Rp, q⟩ := q
  simp only [evE] at q
  have q' : PsR X.K co (E σ) ((evE F ν a').bind fun x => (evE F ν b').bind fun y => match x, y with
    | .int i, .int j => if near i = true ∧ near j = true then .ok (rangeL i j) else .no
    | _, _ => .no) G H fun ds => ∀ J G' H', Nx G H G' H' → WalkD X.K J ds G' → R J H' := by
    revert q
    cases evE F ν a' with
    | ok x =>
      cases evE F ν b' with
      | ok y =>
        cases x <;> cases y <;> first
          | exact id
          | (simp only [Res.bind_ok]; split <;> exact id)
      | err _ => exact id
      | no => exact id
    | err _ => exact id
    | no => exact id
  refine tE.then Rp q' fun d v G1 H1 _ s hv R1 q1 => tE.then R1 q1 fun d2 v2 G2 H2 _ t hv2 R2 q2 => ?_
  have hv' := dp_same t.g _ _ hv
  cases hv' with
  | int i =>
    cases hv2 with
    | int j =>
      have q3 : PsR X.K co (E σ) (if near i = true ∧ near j = true then .ok (rangeL i j) else .no) G2 H2 _ := q2
      by_cases hn : near i = true ∧ near j = true
      · rw [if_pos hn] at q3
        have n1 := near_of hn.1
        have n2 := near_of hn.2
        exact ⟨i, j, rfl, ⟨n1.1, n1.2, n2.1, n2.2⟩, q3 _ G2 H2 (s.trans t) (walk_rng i j)⟩
      · rw [if_neg hn] at q3; exact q3.elim
    | _ => exact q2.elim
  | _ => exact q2.elim
theorem pi_rng1 (O : Ok1 X T F z co E) (S : Snd X T F z co E f) {tg b : Expr} {b' : Ex} {p pos : Pos} (g : glB X.env.scope.names "range" = true) (h2 : f b = some b') : PI X tg (.Call (.Name "range" p) [b] [] pos) (tI X.K z co F E (.rng (.cst (.int 0)) b')) := by
  have st2 := S.star _ _ h2
  have pa : PA X [b] (tCons (tE X.K z co F E b') tNil) := pa_cons (S.e _ _ h2) pa_nil (star_of st2)
  refine ⟨fun pins s σ H R I q => (pi_range1 (gl_of g) (O.blt _ (by decide +kernel)) pa (by rw [star_of st2]; rfl)).run pins s σ H R I ?_⟩
  obtain ⟨ν, G, Rp, q⟩ := q
  simp only [evE, Res.bind_ok] at q
  have q' : PsR X.K co (E σ) ((evE F ν b').bind fun y => match y with
    | .int j => if near j = true then .ok (rangeL 0 j) else .no
    | _ => .no) G H fun ds => ∀ J G' H', Nx G H G' H' → WalkD X.K J ds G' → R J H' := by
    revert q
    cases evE F ν b' with
    | ok y =>
      cases y with
      | int j =>
        simp only [Res.bind_ok]
        by_cases hn : near j = true
        · rw [if_pos hn, if_pos ⟨by decide, hn⟩]; exact id
        · rw [if_neg hn, if_neg (fun z => hn z.2)]; exact id
      | _ => exact id
    | err _ => exact id
    | no => exact id
  refine tE.then Rp q' fun d2 v2 G2 H2 _ t hv2 R2 q2 => ?_
  cases hv2 with
  | int j =>
    have q3 : PsR X.K co (E σ) (if near j = true then .ok (rangeL 0 j) else .no) G2 H2 _ := q2
    by_cases hn : near j = true
    · rw [if_pos hn] at q3
      have n2 := near_of hn
      have w := walk_rng (K := X.K) (G := G2) 0 j
      rw [show j - 0 = j by omega] at w
      exact ⟨j, rfl, n2.1, n2.2, q3 _ G2 H2 t w⟩
    · rw [if_neg hn] at q3; exact q3.elim
  | _ => exact q2.elim
theorem pairs_len : ∀ xs ys : List D, (pairs xs ys).length = min xs.length ys.length
  | [], _ => by simp [pairs]
  | _ :: _, [] => by simp [pairs]
  | x :: xs, y :: ys => by
    simp only [pairs, List.length_cons, pairs_len xs ys]
    omega
theorem pairs_at : ∀ {xs ys : List D} {i : Nat} {d : D}, (pairs xs ys)[i]? = some d → ∃ x y, xs[i]? = some x ∧ ys[i]? = some y ∧ d = .tuple [x, y]
  | [], _, _, _, h => by simp [pairs] at h
  | _ :: _, [], _, _, h => by simp [pairs] at h
  | x :: xs, y :: ys, 0, d, h => by
    simp only [pairs, List.getElem?_cons_zero, Option.some.injEq] at h
    exact ⟨x, y, rfl, rfl, h.symm⟩
  | x :: xs, y :: ys, i + 1, d, h => by
    simp only [pairs, List.getElem?_cons_succ] at h
    simpa using pairs_at h
theorem walk_pairs {K : Fg} {J : It} {G : Hp} {us ws : List V} {xs ys : List D} {P : Hp → Prop} (w : Walk J (pairs xs ys).length P (YPair (fun i => us[i]?) (fun i => ws[i]?))) (hP : ∀ H, Same G H → P H) (a : DqAll K G us xs) (b : DqAll K G ws ys) : WalkD K J (pairs xs ys) G := by
  refine walk_pr w hP fun i d h => ?_
  obtain ⟨x, y, h1, h2, rfl⟩ := pairs_at h
  refine ⟨x, y, rfl, fun v e => ?_, fun v e => ?_⟩
  · obtain ⟨v', e', r⟩ := dpa_get a h1
    have e : us[i]? = some v := e
    rw [e] at e'
    cases e'
    exact r
  · obtain ⟨v', e', r⟩ := dpa_get b h2
    have e : ws[i]? = some v := e
    rw [e] at e'
    cases e'
    exact r
theorem walk_zipT {K : Fg} {a b : Addr} {xs ys : List V} {n : Nat} (hn : n = min xs.length ys.length) : Walk (RZ.ItzT K a b) n (fun H => SqT K H a xs ∧ SqT K H b ys) (YPair (fun i => xs[i]?) (fun i => ys[i]?)) := by
  subst hn
  constructor
  · intro i H hi q
    exact ⟨xs, ys, xs[i]'(by omega), ys[i]'(by omega), q.1, q.2, List.getElem?_eq_getElem _, List.getElem?_eq_getElem _⟩
  · intro H q
    exact ⟨xs, ys, q.1, q.2, by omega⟩
  · rintro i H v H' _ q ⟨p, x, z, h1, h2, h3, h4, h5⟩
    exact ⟨p, x, z, h1, h2, h3, h4 xs q.1, h5 ys q.2⟩
theorem pi_zipD (O : Ok1 X T F z co E) (S : Snd X T F z co E f) {tg a b : Expr} {a' b' : Ex} {p pos : Pos} (ht : isTupE tg = true) (g : glB X.env.scope.names "zip" = true) (h1 : f a = some a') (h2 : f b = some b') : PI X tg (.Call (.Name "zip" p) [a, b] [] pos) (tI X.K z co F E (.zip a' b')) := by
  have st1 := S.star _ _ h1
  have st2 := S.star _ _ h2
  have pa : PA X [a, b] (tCons (tE X.K z co F E a') (tCons (tE X.K z co F E b') tNil)) := pa_cons (S.e _ _ h1) (pa_cons (S.e _ _ h2) pa_nil (star_of st2)) (star_of st1)
  cases tg with
  | Tuple elts kk tpos =>
    refine ⟨fun pins s σ H R I q => (RZ.pi_zipA (gl_of g) (O.blt _ (by decide +kernel)) pa (star_of st1) (by rw [star_of st2]; rfl)).run pins s σ H R I ?_⟩
    obtain ⟨ν, G, Rp, q⟩ := q
    simp only [evE] at q
    have q' : PsR X.K co (E σ) ((evE F ν a').bind fun x => (evE F ν b').bind fun y => match x, y with
      | .list xs, .list ys => .ok (pairs xs ys)
      | .tuple xs, .tuple ys => .ok (pairs xs ys)
      | _, _ => .no) G H fun ds => ∀ J G' H', Nx G H G' H' → WalkD X.K J ds G' → R J H' := by
      revert q
      cases evE F ν a' with
      | ok x =>
        cases evE F ν b' with
        | ok y => cases x <;> cases y <;> exact id
        | err _ => exact id
        | no => exact id
      | err _ => exact id
      | no => exact id
    refine tE.then Rp q' fun d v G1 H1 _ s hv R1 q1 => tE.then R1 q1 fun d2 v2 G2 H2 _ t hv2 R2 q2 => ?_
    have hv' := dp_same t.g _ _ hv
    cases hv' with
    | lst l1 a1 =>
      cases hv2 with
      | lst l2 a2 =>
        refine ⟨_, _, _, _, rfl, .inl ⟨(ls_same t.s l1).sq, (ls_same t.s l2).sq, q2 _ G2 H2 (s.trans t) (walk_pairs (walk_zip ?_) (fun H s => ⟨(ls_same s l1).sq, (ls_same s l2).sq⟩) a1 a2)⟩⟩
        rw [pairs_len, dpa_len a1, dpa_len a2]
      | _ => exact q2.elim
    | tup l1 a1 =>
      cases hv2 with
      | tup l2 a2 =>
        refine ⟨_, _, _, _, rfl, .inr ⟨seqT_same t.s l1, seqT_same t.s l2, q2 _ G2 H2 (s.trans t) (walk_pairs (walk_zipT ?_) (fun H s => ⟨seqT_same s l1, seqT_same s l2⟩) a1 a2)⟩⟩
        rw [pairs_len, dpa_len a1, dpa_len a2]
      | _ => exact q2.elim
    | _ => exact q2.elim
  | _ => cases ht
theorem countL_len : ∀ (xs : List D) (k : Nat), (countL k xs).length = xs.length
  | [], _ => rfl
  | x :: xs, k => congrArg (· + 1) (countL_len xs (k + 1))
theorem countL_at : ∀ {xs : List D} {k i : Nat} {d : D}, (countL k xs)[i]? = some d → ∃ x, xs[i]? = some x ∧ d = .tuple [.int ((k + i : Nat)), x]
  | [], _, _, _, h => by simp [countL] at h
  | x :: xs, k, 0, d, h => by
    simp only [countL, List.getElem?_cons_zero, Option.some.injEq] at h
    exact ⟨x, rfl, h.symm⟩
  | x :: xs, k, i + 1, d, h => by
    simp only [countL, List.getElem?_cons_succ] at h
    obtain ⟨y, h1, h2⟩ := countL_at h
    exact ⟨y, by simpa using h1, by rw [h2]; congr 3; omega⟩
theorem pi_enuD (O : Ok1 X T F z co E) (S : Snd X T F z co E f) {tg a : Expr} {a' : Ex} {p pos : Pos} (ht : isTupE tg = true) (g : glB X.env.scope.names "enumerate" = true) (h1 : f a = some a') : PI X tg (.Call (.Name "enumerate" p) [a] [] pos) (tI X.K z co F E (.enu a')) := by
  have st1 := S.star _ _ h1
  have pa : PA X [a] (tCons (tE X.K z co F E a') tNil) := pa_cons (S.e _ _ h1) pa_nil (star_of st1)
  cases tg with
  | Tuple elts kk tpos =>
    refine ⟨fun pins s σ H R I q => (pi_enum (gl_of g) (O.blt _ (by decide +kernel)) pa (by rw [star_of st1]; rfl)).run pins s σ H R I ?_⟩
    obtain ⟨ν, G, Rp, q⟩ := q
    simp only [evE] at q
    have q' : PsR X.K co (E σ) ((evE F ν a').bind fun x => listR x fun xs => .ok (countL 0 xs)) G H fun ds => ∀ J G' H', Nx G H G' H' → WalkD X.K J ds G' → R J H' := by
      revert q
      cases evE F ν a' with
      | ok x => cases x <;> exact id
      | err _ => exact id
      | no => exact id
    refine tE.then Rp q' fun d v G1 H1 _ s hv R1 q1 => ?_
    cases hv with
    | lst l1 a1 =>
      rename_i aa vs es _
      refine ⟨_, _, rfl, (ls_same s.s l1).sq, q1 _ G1 H1 s (walk_pr (g1 := fun i => some (.int (i : Nat))) (g2 := fun i => vs[i]?) ?_ (fun H s => (ls_same s l1).sq) fun i d h => ?_)⟩
      · rw [countL_len, ← dpa_len a1]; exact walk_enum
      · obtain ⟨x, h2, rfl⟩ := countL_at h
        refine ⟨_, x, rfl, fun v e => ?_, fun v e => ?_⟩
        · cases e
          rw [Nat.zero_add]
          exact .int _
        · obtain ⟨v', e', r⟩ := dpa_get a1 h2
          have e : vs[i]? = some v := e
          rw [e] at e'
          cases e'
          exact r
    | _ => exact q1.elim
  | _ => cases ht
end
end Pe

set_option Elab.async false
set_option linter.all false
set_option maxRecDepth 100000
set_option maxHeartbeats 4000000
/-! Pe9: targets, list comprehensions, all expressions. -/
namespace Pe
open PySem L2
section
variable {X : Cx} {T : Tbl} {F : Str → List D → Res D} {z : Zx} {co : Co} {E : St → XK} {f : Expr → Option Ex}

/-! ### targets -/
abbrev EN : St → XK := fun _ => E0
def gNames : List Nat → TGs
  | [] => gNil
  | i :: is => gCons (gName i) (gNames is)
def tG (K : Fg) : Sum Nat (List Nat) → TG
  | .inl i => gName i
  | .inr is => gTup K is.length (gNames is)
/-- the names that may be stored to -/
def Sto (X : Cx) (nm : List (Str × NameKind)) : Prop := ∀ x, locB nm x = true → L2.Loc X.env.scope x ∧ (X.fn x = true ∨ X.env.scope.names.lookup x = some .local)
theorem pg_one (nd : X.N.Nodup) {nm : List (Str × NameKind)} (st : Sto X nm) {x : Str} {i : Nat} {p : Pos} (h1 : locB nm x = true) (h2 : ixOf x X.N 0 = some i) : PG X (.Name x p) (gName i) :=
  pg_name nd (ixOf_get h2) (st x h1).1 (st x h1).2
theorem tgs_ok (nd : X.N.Nodup) {nm : List (Str × NameKind)} (st : Sto X nm) : ∀ {es : List Expr} {is : List Nat}, cTgs X.N nm es = some is →
    PGs X es (gNames is) ∧ (assignEach es X.env).length = is.length ∧ (assignEach es X.env).findIdx? (·.1) = none
  | [], is, h => by cases h; exact ⟨pgs_nil, rfl, rfl⟩
  | .Name y p :: es, is, h => by
    unfold cTgs at h
    by_cases g : locB nm y = true
    · rw [if_pos g] at h
      cases e1 : ixOf y X.N 0 with
      | none => rw [e1] at h; cases h
      | some i =>
        cases e2 : cTgs X.N nm es with
        | none => rw [e1, e2] at h; cases h
        | some r =>
          rw [e1, e2] at h
          cases h
          obtain ⟨h1, h2, h3⟩ := tgs_ok nd st e2
          refine ⟨pgs_cons (pg_one nd st g e1) h1 rfl, congrArg (· + 1) h2, ?_⟩
          show List.findIdx? _ ((false, assign (.Name y p) X.env) :: assignEach es X.env) = none
          rw [List.findIdx?_cons]
          simp [h3]
    · rw [if_neg g] at h; cases h
theorem tg_ok (nd : X.N.Nodup) (calm : X.calm = true) {nm : List (Str × NameKind)} (st : Sto X nm) {tg : Expr} {t : Sum Nat (List Nat)} (h : cTg X.N nm tg = some t) : PG X tg (tG X.K t) := by
  unfold cTg at h
  split at h
  · rename_i x p
    by_cases g : locB nm x = true
    · rw [if_pos g] at h
      cases e : ixOf x X.N 0 with
      | none => rw [e] at h; cases h
      | some i =>
        rw [e] at h
        cases h
        exact pg_one nd st g e
    · rw [if_neg g] at h; cases h
  · rename_i es j p
    cases e : cTgs X.N nm es with
    | none => rw [e] at h; cases h
    | some is =>
      rw [e] at h
      cases h
      obtain ⟨h1, h2, h3⟩ := tgs_ok nd st e
      exact pg_tup calm h1 h2 h3
  · cases h

theorem repV_set {K : Fg} {σ : St} {ν : List (Option D)} {G H : Hp} (R : RepV K z σ ν G H) (i : Nat) {v : V} {d : D} (r : Dq K G v d) : RepV K z (σ.set i (some v)) (ν.set i (some d)) G H := by
  refine ⟨R.same, by rw [List.length_set, List.length_set]; exact R.len, fun j e he => ?_, fun q hq => ⟨fun he => ?_, (R.x q hq).2⟩⟩
  · by_cases hij : i = j
    · subst hij
      have hi : i < ν.length := by
        have := (List.getElem?_eq_some_iff.mp he).1
        rwa [List.length_set] at this
      rw [List.getElem?_set_self hi] at he
      cases he
      exact ⟨v, List.getElem?_set_self (by rw [← R.len]; exact hi), r⟩
    · rw [List.getElem?_set_ne hij] at he ⊢
      exact R.get j e he
  · by_cases hij : i = q.i
    · have hi : q.i < ν.length := by
        have := (List.getElem?_eq_some_iff.mp he).1
        rwa [List.length_set] at this
      rw [hij, List.getElem?_set_self hi] at he
      cases he
    · rw [List.getElem?_set_ne hij] at he ⊢
      exact (R.x q hq).1 he
theorem wipe_set : ∀ {own : List Nat} {σ : St} {i : Nat} {v : Option V}, i ∈ own → wipe (σ.set i v) own = wipe σ own
  | [], _, _, _, h => by cases h
  | o :: own, σ, i, v, h => by
    unfold wipe
    rcases List.mem_cons.mp h with rfl | h
    · by_cases hm : i ∈ own
      · rw [wipe_set hm]
      · have e : ∀ (own : List Nat) (σ : St), i ∉ own → wipe (σ.set i v) own = (wipe σ own).set i v := by
          intro own
          induction own with
          | nil => intro σ _; rfl
          | cons o own ih =>
            intro σ hn
            unfold wipe
            rw [ih σ (fun z => hn (List.mem_cons_of_mem _ z)), List.set_comm]
            intro z
            subst z
            exact hn List.mem_cons_self
        rw [e own σ hm, List.set_set]
    · rw [wipe_set h]
theorem gNames_go {K : Fg} {G H : Hp} {Q : St → Hp → Prop} : ∀ {is : List Nat} {ds : List D} {vs : List V} {σ : St} {ν ν' : List (Option D)}, RepV K z σ ν G H → DqAll K G vs ds → setAll ν is ds = some ν' →
    (∀ σ', RepV K z σ' ν' G H → (∀ own : List Nat, (is.all fun i => own.contains i) = true → wipe σ' own = wipe σ own) → Q σ' H) → gNames is vs σ H Q
  | [], ds, vs, σ, ν, ν', R, a, h, k => by
    cases a with
    | nil => cases h; exact ⟨rfl, k σ R fun _ _ => rfl⟩
    | cons _ _ => cases h
  | i :: is, ds, vs, σ, ν, ν', R, a, h, k => by
    cases a with
    | nil => cases h
    | cons r t =>
      refine ⟨_, _, rfl, gNames_go (repV_set R i r) t h fun σ' R' w => k σ' R' fun own ho => ?_⟩
      rw [List.all_cons, Bool.and_eq_true] at ho
      rw [w own ho.2, wipe_set (by simpa using ho.1)]
theorem setAll_len : ∀ {is : List Nat} {ds : List D} {ν ν' : List (Option D)}, setAll ν is ds = some ν' → ds.length = is.length
  | [], [], _, _, _ => rfl
  | [], _ :: _, _, _, h => by cases h
  | _ :: _, [], _, _, h => by cases h
  | _ :: is, _ :: ds, _, _, h => congrArg (· + 1) (setAll_len (is := is) (ds := ds) h)
theorem tG_go {K : Fg} {G H : Hp} {Q : St → Hp → Prop} {t : Sum Nat (List Nat)} {d : D} {v : V} {σ : St} {ν ν' : List (Option D)} (R : RepV K z σ ν G H) (r : Dq K G v d) (h : setTg ν t d = some ν')
    (k : ∀ σ', RepV K z σ' ν' G H → (∀ own, tgIn own t = true → wipe σ' own = wipe σ own) → Q σ' H) : tG K t v σ H Q := by
  cases t with
  | inl i =>
    cases h
    exact k _ (repV_set R i r) fun own ho => wipe_set (by simpa [tgIn] using ho)
  | inr is =>
    cases r with
    | tup hs a =>
      have h' : setAll ν is _ = some ν' := h
      exact ⟨_, _, rfl, seqT_same R.same hs, by rw [dpa_len a, setAll_len h'], gNames_go R a h' fun σ' R' w => k σ' R' w⟩
    | _ => cases h

/-! ### what is walked -/
theorem iter_ok (O : Ok1 X T F z co E) (S : Snd X T F z co E f) {tg e : Expr} {x : Ex} (h : cIter X.env.scope.names T f tg e = some x) : PI X tg e (tI X.K z co F E x) := by
  unfold cIter at h
  split at h
  · rename_i y p as pos
    by_cases c : y = "range"
    · rw [if_pos c] at h
      subst c
      by_cases g : glB X.env.scope.names "range" = true
      · rw [if_pos g] at h
        split at h
        · rename_i a
          cases e1 : f a with
          | none => rw [e1] at h; cases h
          | some a' => rw [e1] at h; cases h; exact pi_rng1 O S g e1
        · rename_i a b
          cases e1 : f a with
          | none => rw [e1] at h; cases h
          | some a' =>
            cases e2 : f b with
            | none => rw [e1, e2] at h; cases h
            | some b' => rw [e1, e2] at h; cases h; exact pi_rng2 O S g e1 e2
        · cases h
      · rw [if_neg g] at h; cases h
    rw [if_neg c] at h
    clear c
    by_cases c : y = "zip"
    · rw [if_pos c] at h
      subst c
      by_cases g : glB X.env.scope.names "zip" = true ∧ isTupE tg = true
      · rw [if_pos g] at h
        split at h
        · rename_i a b
          cases e1 : f a with
          | none => rw [e1] at h; cases h
          | some a' =>
            cases e2 : f b with
            | none => rw [e1, e2] at h; cases h
            | some b' => rw [e1, e2] at h; cases h; exact pi_zipD O S g.2 g.1 e1 e2
        · cases h
      · rw [if_neg g] at h; cases h
    rw [if_neg c] at h
    clear c
    by_cases c : y = "enumerate"
    · rw [if_pos c] at h
      subst c
      by_cases g : glB X.env.scope.names "enumerate" = true ∧ isTupE tg = true
      · rw [if_pos g] at h
        split at h
        · rename_i a
          cases e1 : f a with
          | none => rw [e1] at h; cases h
          | some a' => rw [e1] at h; cases h; exact pi_enuD O S g.2 g.1 e1
        · cases h
      · rw [if_neg g] at h; cases h
    rw [if_neg c] at h
    cases e1 : f (.Call (.Name y p) as [] pos) with
    | none => rw [e1] at h; cases h
    | some a' => rw [e1] at h; cases h; exact pi_seq S e1
  · by_cases g : notSet e = true
    · rw [if_pos g] at h
      cases e1 : f e with
      | none => rw [e1] at h; cases h
      | some a' => rw [e1] at h; cases h; exact pi_seq S e1
    · rw [if_neg g] at h; cases h

/-! ### comprehensions -/
theorem wipe_len : ∀ (own : List Nat) (ν : List (Option D)), (wipeD ν own).length = ν.length
  | [], _ => rfl
  | o :: own, ν => by
    unfold wipeD
    rw [List.length_set, wipe_len own ν]
theorem repV_wipe {K : Fg} {σ : St} {ν : List (Option D)} {G H : Hp} (R : RepV K none σ ν G H) : ∀ own, RepV K none (wipe σ own) (wipeD ν own) G H
  | [] => R
  | o :: own => by
    have ih := repV_wipe R own
    refine ⟨R.same, by rw [wipe_len, wipe_length, R.len], fun j d e => ?_, fun q e => by cases e⟩
    unfold wipeD at e
    unfold wipe
    by_cases hj : o = j
    · subst hj
      have hl : o < (wipeD ν own).length := by
        have := (List.getElem?_eq_some_iff.mp e).1
        rwa [List.length_set] at this
      rw [List.getElem?_set_self hl] at e
      cases e
    · rw [List.getElem?_set_ne hj] at e ⊢
      exact ih.get j d e
/-- one item -/
def itemR (F : Str → List D → Res D) (ν : List (Option D)) (elt cond : Ex) (tg : Sum Nat (List Nat)) (own : List Nat) (d : D) : Res (Option D) := match setTg (wipeD ν own) tg d with
  | some ν' => (evE F ν' cond).noErr.bind fun c => (Res.ofO (truD c)).bind fun k => if k = true then (evE F ν' elt).noErr.bind fun x => .ok (some x) else .ok none
  | none => .no
theorem compL_cons {g : D → Res (Option D)} {d : D} {ds : List D} {r : List D} (h : compL g (d :: ds) = .ok r) : ∃ o r', g d = .ok o ∧ compL g ds = .ok r' ∧ r = (match o with
    | some x => x :: r'
    | none => r') := by
  unfold compL at h
  cases e1 : g d with
  | ok o =>
    rw [e1] at h
    cases e2 : compL g ds with
    | ok r' =>
      rw [e2] at h
      cases h
      exact ⟨o, r', rfl, rfl, rfl⟩
    | err _ => rw [e2] at h; cases h
    | no => rw [e2] at h; cases h
  | err _ => rw [e1] at h; cases h
  | no => rw [e1] at h; cases h
theorem noErr_ok' {α β : Type} {r : Res α} {g : α → Res β} {b : β} (h : r.noErr.bind g = .ok b) : ∃ a, r = .ok a ∧ g a = .ok b := by
  cases r with
  | ok a => exact ⟨a, rfl, h⟩
  | err _ => cases h
  | no => cases h
theorem ofO_bind {α β : Type} {r : Option α} {g : α → Res β} {b : β} (h : (Res.ofO r).bind g = .ok b) : ∃ a, r = some a ∧ g a = .ok b := by
  cases r with
  | some a => exact ⟨a, rfl, h⟩
  | none => cases h
theorem itemR_ok {ν : List (Option D)} {elt cond : Ex} {tg : Sum Nat (List Nat)} {own : List Nat} {d : D} {o : Option D} (h : itemR F ν elt cond tg own d = .ok o) :
    ∃ ν' c k, setTg (wipeD ν own) tg d = some ν' ∧ evE F ν' cond = .ok c ∧ truD c = some k ∧ ((k = true ∧ ∃ x, evE F ν' elt = .ok x ∧ o = some x) ∨ (k = false ∧ o = none)) := by
  unfold itemR at h
  cases e : setTg (wipeD ν own) tg d with
  | none => rw [e] at h; cases h
  | some ν' =>
    rw [e] at h
    obtain ⟨c, h1, h⟩ := noErr_ok' h
    obtain ⟨k, h2, h⟩ := ofO_bind h
    refine ⟨ν', c, k, rfl, h1, h2, ?_⟩
    cases k with
    | true =>
      rw [if_pos rfl] at h
      obtain ⟨x, h3, h⟩ := noErr_ok' h
      cases h
      exact .inl ⟨rfl, x, h3, rfl⟩
    | false =>
      rw [if_neg Bool.false_ne_true] at h
      cases h
      exact .inr ⟨rfl, rfl⟩
/-- the walk of a comprehension: the new list stands apart -/
theorem comp_go {K : Fg} {J : It} {σ : St} {ν : List (Option D)} {G1 H1 : Hp} {ds r : List D} {elt cond : Ex} {tg : Sum Nat (List Nat)} {own : List Nat} {tt : TT} {te : TE} {L : Addr} {Qd : Hp → Prop}
    (R : RepV K z σ ν G1 H1) (w : WalkD K J ds G1) (hz : ds.length ≤ sizeLine) (hL : H1 L = none) (hr : compL (itemR F ν elt cond tg own) ds = .ok r) (htg : tgIn own tg = true)
    (htt : ∀ σ H Q, tT K none co F EN cond σ H Q → tt σ H Q) (hte : ∀ σ H Q, tE K none co F EN elt σ H Q → te σ H Q)
    (hd : ∀ (acc : List V) (G H : Hp), Nx G1 H1 G H → G L = none → H L = some (.lst acc) → DqAll K G acc r → Qd H) :
    ∃ W : Nat → Nat → Hp → Prop, (∃ m, W 0 m (upd H1 L (.lst []))) ∧ ∀ i m H, W i m H →
      (J.stop i H ∧ Qd H) ∨ (J.go i H ∧ ∃ N : Hp → Prop, (∀ H', N H' → ∃ m', m' < m ∧ W (i + 1) m' H') ∧ ∀ x H', J.yld i H x H' → tG K tg x (wipe σ own) H' fun σ2 H2 => wipe σ2 own = wipe σ own ∧ tt σ2 H2 fun b H3 =>
        if b = true then te σ2 H3 fun y H4 => ∃ acc, H4 L = some (.lst acc) ∧ acc.length < sizeLine ∧ N (upd H4 L (.lst (acc ++ [y]))) else N H3) := by
  obtain ⟨Y, wk, wy⟩ := w
  have kept : ∀ {G H : Hp} {o u : HO} {xs : List V}, H L = some (.lst xs) → Same G H → G L = none → Same G (upd H L u) := fun {G H o u xs} e s n b z hb => by
    rw [upd_ne (ne_of_none hb n)]
    exact s b z hb
  refine lc_it wk (fun i H => ∃ (acc : List V) (ad rest : List D) (G : Hp), Nx G1 H1 G H ∧ G L = none ∧ H L = some (.lst acc) ∧ DqAll K G acc ad ∧ compL (itemR F ν elt cond tg own) (ds.drop i) = .ok rest ∧ r = ad ++ rest ∧ acc.length ≤ i)
    ⟨[], [], r, G1, Nx.hid R.same hL, R.same.free hL, upd_same, .nil, by simpa using hr, rfl, Nat.zero_le _⟩ (fun i H _ ⟨acc, ad, rest, G, nx, _⟩ => nx.g.trans nx.s) ?_ ?_
  · rintro i x H H' hi ⟨acc, ad, rest, G, nx, gL, hLs, ha, hc, er, hlen⟩ y
    have hd' : ds.drop i = ds[i] :: ds.drop (i + 1) := List.drop_eq_getElem_cons hi
    rw [hd'] at hc
    obtain ⟨o, rest', ho, hc', er'⟩ := compL_cons hc
    obtain ⟨ν', c, k, e1, e2, e3, e4⟩ := itemR_ok ho
    obtain ⟨G2, nx2, hv⟩ := wy i ds[i] G H H' x (List.getElem?_eq_getElem hi) nx.g nx.s y
    have g2 : G2 L = none := nx2.n L gL (by rw [hLs]; simp)
    have R2 := repV_wipe (R.mono (nx.trans nx2)).drop own
    refine tG_go R2 hv e1 fun σ' R' wp => ⟨wp own htg ▸ ?_, ?_⟩
    · have z : ∀ (o : List Nat) (s : St), wipe (wipe s o) o = wipe s o := by
        intro o s
        have key : ∀ (p q : List Nat), (∀ j ∈ p, j ∈ q) → wipe (wipe s q) p = wipe s q := by
          intro p
          induction p with
          | nil => intro q _; rfl
          | cons j p ih =>
            intro q hq
            show (wipe (wipe s q) p).set j none = wipe s q
            rw [ih q fun a ha => hq a (List.mem_cons_of_mem _ ha)]
            have hj := hq j List.mem_cons_self
            clear ih hq
            induction q with
            | nil => cases hj
            | cons t q ih2 =>
              show ((wipe s q).set t none).set j none = (wipe s q).set t none
              by_cases hjt : j = t
              · subst hjt
                rw [List.set_set]
              · rw [List.set_comm _ _ (fun z => hjt z.symm)]
                rcases List.mem_cons.mp hj with z | z
                · exact absurd z hjt
                · rw [ih2 z]
        exact key o o fun _ h => h
      exact z own σ
    · refine htt _ _ _ ⟨ν', G2, R', ?_⟩
      rw [e2]
      show PsR K co E0 (Res.ofO (truD c)) G2 H' _
      rw [e3]
      intro G3 H3 nx3
      have g3 : G3 L = none := nx3.n L g2 (by rw [nx2.h _ _ hLs]; simp)
      have h3 : H3 L = some (.lst acc) := nx3.h _ _ (nx2.h _ _ hLs)
      rcases e4 with ⟨rfl, x0, e5, rfl⟩ | ⟨rfl, rfl⟩
      · refine iteT (hte _ _ _ ⟨ν', G3, R'.mono nx3, ?_⟩)
        rw [e5]
        intro v G4 H4 nx4 hv4
        have g4 : G4 L = none := nx4.n L g3 (by rw [h3]; simp)
        have h4 : H4 L = some (.lst acc) := nx4.h _ _ h3
        have all4 := nx2.trans (nx3.trans nx4)
        refine ⟨acc, h4, Nat.lt_of_lt_of_le (Nat.lt_of_le_of_lt hlen hi) hz, acc ++ [v], ad ++ [x0], rest', G4, ?_, g4, upd_same, dpa_append (dpa_same all4.g _ _ ha) (.cons hv4 .nil), hc', ?_, ?_⟩
        · have big := nx.trans all4
          refine ⟨big.g, kept (o := .lst acc) h4 big.s g4, fun b u hb => ?_, big.n⟩
          have hb1 : b ≠ L := fun z => by rw [z, hL] at hb; cases hb
          rw [upd_ne hb1]
          exact big.h b u hb
        · rw [er, er']
          simp
        · rw [List.length_append, List.length_singleton]
          omega
      · refine iteF ⟨acc, ad, rest', G3, nx.trans (nx2.trans nx3), g3, h3, dpa_same (nx2.trans nx3).g _ _ ha, hc', ?_, by omega⟩
        rw [er, er']
  · rintro H ⟨acc, ad, rest, G, nx, gL, hLs, ha, hc, er, _⟩
    rw [List.drop_length] at hc
    cases hc
    rw [List.append_nil] at er
    subst er
    exact hd acc G H nx gL hLs ha
/-- the block of a comprehension -/
theorem Ok1.blk (O : Ok1 X T F z co E) (cool : T.hot = false) (s : Shared) (H : Hp) (scope : Scope) (cenv : Env) (fp : List Addr) : Ok1 (X.blk s H scope cenv fp) T F none co EN :=
  ⟨O.nd, O.calm, O.gd, O.hu, O.blt, fun c f n h => ⟨(O.call c f n h).ex⟩, O.gl, O.dct, O.ftb, fun _ σ pins H s e s' I c => passL pins σ H s e s' I c, O.cool, fun e x h => by rw [xq_cool (O.cool cool)] at h; cases h⟩
theorem sto_blk {s : Shared} {H : Hp} {scope : Scope} {C : Addr} {cl : List (Str × Addr)} {fp : List Addr} : Sto (X.blk s H scope (compEnvC scope cl C X.env) fp) scope.names := by
  intro x h
  have h' : scope.names.lookup x = some .local ∨ scope.names.lookup x = some .cell := by
    unfold locB at h
    cases q : scope.names.lookup x with
    | none => rw [q] at h; cases h
    | some k => cases k <;> simp_all
  rcases h' with e | e
  · have e2 : (relS scope X.env.scope).names.lookup x = some .local := lookup_relS_keep (by decide) e
    exact ⟨.inl e2, .inr e2⟩
  · have e2 : (relS scope X.env.scope).names.lookup x = some .cell := lookup_relS_keep (by decide) e
    refine ⟨.inr e2, .inl ?_⟩
    show (scope.names.lookup x == some .cell) = true
    rw [e]
    rfl
theorem ixOf_ge {x : Str} {N : List Str} {i : Nat} (h : ixOf x N 0 = some i) : i < N.length := (List.getElem?_eq_some_iff.mp (ixOf_get h)).1
theorem item_noErr {ν : List (Option D)} {el cd : Ex} {t : Sum Nat (List Nat)} {own : List Nat} : ∀ (ds : List D) (e : Err), compL (itemR F ν el cd t own) ds ≠ .err e := by
  intro ds
  induction ds with
  | nil => intro e z; cases z
  | cons d ds ih =>
    intro e z
    unfold compL at z
    cases e1 : itemR F ν el cd t own d with
    | ok o =>
      rw [e1] at z
      cases e2 : compL (itemR F ν el cd t own) ds with
      | ok _ => rw [e2] at z; cases z
      | err e' => exact ih e' e2
      | no => rw [e2] at z; cases z
    | err _ =>
      unfold itemR at e1
      split at e1
      · rename_i ν' _
        cases c1 : evE F ν' cd with
        | ok c =>
          rw [c1] at e1
          cases c2 : truD c with
          | some k =>
            simp only [Res.noErr_ok, Res.bind_ok, c2, Res.ofO_some] at e1
            cases k with
            | true =>
              rw [if_pos rfl] at e1
              cases c3 : evE F ν' el with
              | ok _ => rw [c3] at e1; cases e1
              | err _ => rw [c3] at e1; cases e1
              | no => rw [c3] at e1; cases e1
            | false => rw [if_neg Bool.false_ne_true] at e1; cases e1
          | none => simp only [Res.noErr_ok, Res.bind_ok, c2, Res.ofO_none, Res.bind_no] at e1; cases e1
        | err _ => rw [c1] at e1; cases e1
        | no => rw [c1] at e1; cases e1
      · cases e1
    | no => rw [e1] at z; cases z
/-- a new list that nothing told holds yet -/
def FrL (K : Fg) (G H : Hp) (Q : VK) (r : List D) : Prop := ∀ L acc G' H', Nx G H G' H' → G' L = none → H L = none → H' L = some (.lst acc) → DqAll K G' acc r → Q (.ref L) H'
def tF (K : Fg) (z : Zx) (co : Co) (F : Str → List D → Res D) (E : St → XK) (x : Ex) : TE := fun σ H Q => ∃ ν G, RepV K z σ ν G H ∧ PsR K co (E σ) ((evE F ν x).bind fun y => listR y .ok) G H (FrL K G H Q)
theorem FrL.now {K : Fg} {G H : Hp} {Q : VK} {r : List D} (h : ∀ v G' H', Nx G H G' H' → Dq K G' v (.list r) → Q v H') : FrL K G H Q r := fun L acc G' H' nx g hL hl ha => by
  refine h (.ref L) (upd G' L (.lst acc)) H' ⟨nx.g.trans (same_upd g), fun b u hb => ?_, nx.h, fun a ga ha' => ?_⟩ (.lst (.inl (Rd.of upd_same)) (dpa_same (same_upd g) _ _ ha))
  · by_cases hb' : b = L
    · subst hb'
      rw [upd_same] at hb
      cases hb
      exact hl
    · rw [upd_ne hb'] at hb
      exact nx.s b u hb
  · have ne : a ≠ L := fun z => by rw [z] at ha'; exact ha' hL
    rw [upd_ne ne]
    exact nx.n a ga ha'
theorem tF_of {K : Fg} {x : Ex} {σ : St} {H : Hp} {Q : VK} (hl : ∀ ν d, evE F ν x = .ok d → ∃ r, d = .list r) (h : tE K z co F E x σ H Q) : tF K z co F E x σ H Q := by
  obtain ⟨ν, G, R, q⟩ := h
  refine ⟨ν, G, R, ?_⟩
  cases ev : evE F ν x with
  | ok d =>
    obtain ⟨r, rfl⟩ := hl ν d ev
    rw [ev] at q
    exact FrL.now q
  | err _ => rw [ev] at q; exact q
  | no => rw [ev] at q; exact q
theorem comp_list {ν : List (Option D)} {el it cd : Ex} {t : Sum Nat (List Nat)} {own : List Nat} {d : D} (h : evE F ν (.comp el it cd t own) = .ok d) : ∃ r, d = .list r := by
  simp only [evE] at h
  cases e1 : evE F ν it with
  | ok y =>
    rw [e1] at h
    cases y with
    | list ds =>
      have h' : (if ds.length ≤ sizeLine then (compL (itemR F ν el cd t own) ds).bind (fun r => Res.ok (PyData.list r)) else Res.no) = .ok d := h
      by_cases hz : ds.length ≤ sizeLine
      · rw [if_pos hz] at h'
        cases e2 : compL (itemR F ν el cd t own) ds with
        | ok r => rw [e2] at h'; cases h'; exact ⟨r, rfl⟩
        | err _ => rw [e2] at h'; cases h'
        | no => rw [e2] at h'; cases h'
      · rw [if_neg hz] at h'; cases h'
    | _ => cases h
  | err _ => rw [e1] at h; cases h
  | no => rw [e1] at h; cases h
/-- a comprehension: its reading, as a value and as a new list; as a statement's value -/
theorem snd_comp (O : Ok1 X T F z co E) (S : Snd X T F z co E f) {scope : Scope} {g : Expr → Option Ex} (B : ∀ (s : Shared) (H : Hp) (C : Addr) (cl : List (Str × Addr)) (fp : List Addr), Snd (X.blk s H scope (compEnvC scope cl C X.env) fp) T F none co EN g)
    {elt tg iter : Expr} {ifs : List Expr} {p : Pos} {it el cd : Ex} {t : Sum Nat (List Nat)} (ns : notSet iter = true) (ok : blkC X.N X.env.scope scope (ownOf X.N scope.names) = true) (cool : T.hot = false) (h1 : cIter X.env.scope.names T f tg iter = some it)
    (h2 : cTg X.N scope.names tg = some t) (h3 : g elt = some el) (hin : tgIn ((ownOf X.N scope.names).map (·.2)) t = true)
    (hc : (ifs = [] ∧ cd = .cst (.bool true)) ∨ ∃ c, ifs = [c] ∧ testOk c = true ∧ g c = some cd) :
    ∃ te : TE, PE X (.ListComp elt [⟨tg, iter, ifs, 0⟩] scope p) te ∧
      (∀ (y : Str) (i : Nat) (q sp : Pos), X.N[i]? = some y → X.env.scope.names.lookup y = some .local → swapsWith (.ListComp elt [⟨tg, iter, ifs, 0⟩] scope p) (some (.Name y q)) sp.line X.env = pure true →
        PS X (.Assign [.Name y q] (.ListComp elt [⟨tg, iter, ifs, 0⟩] scope p) sp) (tAsg te (gName i))) ∧
      ∀ σ H Q, tF X.K z co F E (.comp el it cd t ((ownOf X.N scope.names).map (·.2))) σ H Q → te σ H Q := by
  have folded : ∀ x, foldedSetIterable iter X.env x = pure x := fun x => by
    cases iter with
    | Set _ _ _ => cases ns
    | _ => rfl
  have base : ∃ tt : TT, (∀ (s : Shared) (H : Hp) (C : Addr) (cl : List (Str × Addr)) (fp : List Addr), PTs (X.blk s H scope (compEnvC scope cl C X.env) fp) ifs tt) ∧ ∀ σ H Q, tT X.K none co F EN cd σ H Q → tt σ H Q := by
    rcases hc with ⟨rfl, rfl⟩ | ⟨c, rfl, ht, hg⟩
    · refine ⟨tYes, fun _ _ _ _ _ => pts_nil, fun σ H Q ⟨ν, G, R, q⟩ => ?_⟩
      simp only [evE] at q
      exact q G H (Nx.refl R.same)
    · exact ⟨tT X.K none co F EN cd, fun s H C cl fp => pts_one ((B s H C cl fp).t _ _ hg ht), fun _ _ _ z => z⟩
  obtain ⟨tt, htt, himp⟩ := base
  have hpg : ∀ (s : Shared) (H : Hp) (C : Addr) (cl : List (Str × Addr)) (fp : List Addr), PG (X.blk s H scope (compEnvC scope cl C X.env) fp) tg (tG X.K t) :=
    fun s H C cl fp => tg_ok (X := X.blk s H scope (compEnvC scope cl C X.env) fp) O.nd (O.calm cool) sto_blk h2
  have hpe : ∀ (s : Shared) (H : Hp) (C : Addr) (cl : List (Str × Addr)) (fp : List Addr), PE (X.blk s H scope (compEnvC scope cl C X.env) fp) elt (tE X.K none co F EN el) := fun s H C cl fp => (B s H C cl fp).e _ _ h3
  refine ⟨tLc (tI X.K z co F E it) (tG X.K t) tt (tE X.K none co F EN el) ((ownOf X.N scope.names).map (·.2)), pe_lc (own := ownOf X.N scope.names) (O.calm cool) O.nd (iter_ok O S h1) (blkOk_by ok) hpg htt hpe folded,
    fun y i q sp e1 e2 e3 => ps_setLc (own := ownOf X.N scope.names) (O.calm cool) O.nd e1 e2 e3 (iter_ok O S h1) (blkOk_by ok) hpg htt hpe folded, fun σ H Q ⟨ν, G, R, q⟩ => ?_⟩
  simp only [evE] at q
  refine ⟨ν, G, R, ?_⟩
  cases ev : evE F ν it with
  | err e => rw [ev] at q; exact q
  | no => rw [ev] at q; exact q
  | ok y =>
    rw [ev] at q
    cases y with
    | list ds =>
      intro J G1 H1 nx w L hL
      have q3 : PsR X.K co (E σ) ((if ds.length ≤ sizeLine then (compL (itemR F ν el cd t ((ownOf X.N scope.names).map (·.2))) ds).bind (fun r => Res.ok (PyData.list r)) else Res.no).bind fun y => listR y .ok) G H (FrL X.K G H Q) := q
      by_cases hz : ds.length ≤ sizeLine
      · rw [if_pos hz] at q3
        cases er : compL (itemR F ν el cd t ((ownOf X.N scope.names).map (·.2))) ds with
        | ok r =>
          rw [er] at q3
          exact comp_go (R.mono nx) w hz hL er hin himp (fun _ _ _ z => z) fun acc G2 H2 nx2 g2 h2 ha => q3 L acc G2 H2 (nx.trans nx2) g2 (nx.h.free hL) h2 ha
        | err e => exact absurd er (item_noErr ds e)
        | no => rw [er] at q3; exact q3.elim
      · rw [if_neg hz] at q3
        exact q3.elim
    | _ => exact q
end
end Pe

set_option Elab.async false
set_option linter.all false
set_option maxRecDepth 100000
set_option maxHeartbeats 8000000
/-! Pe10: every expression that is read off is what the machine does. -/
namespace Pe
open PySem L2
section
variable {X : Cx} {T : Tbl} {F : Str → List D → Res D} {z : Zx} {co : Co} {E : St → XK} {f : Expr → Option Ex}
/-! ### tests -/
theorem tst_plain {a : Expr} {x : Ex} (h : PE X a (tE X.K z co F E x)) (hp : plainT a = true) : PT X a (tT X.K z co F E x) := by
  refine pt_imp (pt_truth h ?_) fun σ H Q ⟨ν, G, R, q⟩ => ?_
  · intro whole
    cases a with
    | BoolOp _ _ _ => cases hp
    | IfExp _ _ _ _ => cases hp
    | Compare _ _ _ _ => cases hp
    | UnaryOp op a p => cases op <;> first | rfl | cases hp
    | _ => rfl
  · refine tE.then R q fun d v G1 H1 _ s hv R1 q1 => ?_
    obtain ⟨k, e, k1⟩ := q1.ofO
    exact ⟨k, tru_of hv s.s e, k1 G1 H1 s⟩
theorem tst_not {a : Expr} {x : Ex} {p : Pos} (h : PT X a (tT X.K z co F E x)) : PT X (.UnaryOp .Not a p) (tT X.K z co F E (.not x)) := by
  refine pt_imp (pt_not h) fun σ H Q ⟨ν, G, R, q⟩ => ?_
  simp only [evE] at q
  have q' : PsR X.K co (E σ) ((evE F ν x).bind fun d => (Res.ofO (truD d)).bind fun k => .ok (!k)) G H fun b => ∀ G' H', Nx G H G' H' → Q b H' := by
    revert q
    cases evE F ν x with
    | ok d => cases e : truD d <;> simp only [Res.bind_ok, e, Res.ofO_none, Res.ofO_some, Res.bind_no] <;> exact id
    | err _ => exact id
    | no => exact id
  exact tT.then R q' fun k G1 H1 s R1 q1 => q1 G1 H1 s
theorem tst_cmp (O : Ok1 X T F z co E) (S : Snd X T F z co E f) {op : CmpOp} {a b : Expr} {p : Pos} {a' b' : Ex} (hm : behindInMarks op b = false) (h1 : f a = some a') (h2 : f b = some b') : PT X (.Compare a [op] [b] p) (tT X.K z co F E (.cmp op a' b')) := by
  refine pt_imp (pt_cmpR (op_cmpD O.hu op) (S.e _ _ h1) (S.e _ _ h2) hm) fun σ H Q ⟨ν, G, R, q⟩ => ?_
  simp only [evE] at q
  have q' : PsR X.K co (E σ) ((evE F ν a').bind fun x => (evE F ν b').bind fun y => (Res.ofO (cmpD op x y)).bind fun d => Res.ofO (truD d)) G H fun b => ∀ G' H', Nx G H G' H' → Q b H' := by
    revert q
    cases evE F ν a' with
    | ok d =>
      cases evE F ν b' with
      | ok e => exact id
      | err _ => exact id
      | no => exact id
    | err _ => exact id
    | no => exact id
  show tOp _ _ _ σ H _
  refine tE.then R q' fun d v G1 H1 _ s hv R1 q1 => tE.then R1 q1 fun d2 v2 G2 H2 _ t hv2 R2 q2 => ?_
  cases e : cmpD op d d2 with
  | none => rw [e] at q2; exact q2.elim
  | some r =>
    rw [e] at q2
    obtain ⟨k, rfl⟩ := cmp_bool e
    refine ⟨G2, d, d2, .bool k, t.s, dp_same t.g _ _ hv, hv2, e, fun v3 G3 H3 u hv3 => ?_⟩
    cases hv3
    exact ⟨k, rfl, q2 G3 H3 (s.trans (t.trans u))⟩
theorem tst_chn (O : Ok1 X T F z co E) (S : Snd X T F z co E f) {op op' : CmpOp} {a b c : Expr} {p : Pos} {a' b' c' : Ex} (hm : lastMarks [op, op'] [b, c] = false) (h1 : f a = some a') (h2 : f b = some b') (h3 : f c = some c') :
    PT X (.Compare a [op, op'] [b, c] p) (tT X.K z co F E (.chn op op' a' b' c')) := by
  refine pt_imp (pt_chain (op_cmpD O.hu op) (op_cmpD O.hu op') (S.e _ _ h1) (S.e _ _ h2) (S.e _ _ h3) hm) fun σ H Q ⟨ν, G, R, q⟩ => ?_
  show tChain _ _ _ _ _ σ H _
  refine chn_go O S h1 h2 h3 R ?_
  cases ev : evE F ν (.chn op op' a' b' c') with
  | err e => rw [ev] at q; exact q
  | no => rw [ev] at q; exact q
  | ok d =>
    rw [ev] at q
    intro v G' H' nx hv
    have isB : ∃ k, d = .bool k := by
      clear q
      simp only [evE] at ev
      cases e1 : evE F ν a' with
      | ok x =>
        rw [e1] at ev
        cases e2 : evE F ν b' with
        | ok y =>
          simp only [e2, Res.bind_ok] at ev
          cases e3 : cmpD op x y with
          | none => rw [e3] at ev; cases ev
          | some r =>
            obtain ⟨k, rfl⟩ := cmp_bool e3
            rw [e3] at ev
            cases k with
            | false => cases ev; exact ⟨_, rfl⟩
            | true =>
              have ev' : ((evE F ν c').bind fun z => Res.ofO (cmpD op' y z)) = .ok d := ev
              cases e4 : evE F ν c' with
              | ok z =>
                rw [e4] at ev'
                cases e5 : cmpD op' y z with
                | none => simp only [Res.bind_ok, e5] at ev'; cases ev'
                | some r =>
                  simp only [Res.bind_ok, e5] at ev'
                  cases ev'
                  exact cmp_bool e5
              | err _ => rw [e4] at ev'; cases ev'
              | no => rw [e4] at ev'; cases ev'
        | err _ => simp only [e2, Res.bind_ok] at ev; cases ev
        | no => simp only [e2, Res.bind_ok] at ev; cases ev
      | err _ => rw [e1] at ev; cases ev
      | no => rw [e1] at ev; cases ev
    obtain ⟨k, rfl⟩ := isB
    cases hv
    exact ⟨k, rfl, q G' H' nx⟩
theorem tst_bool (O : Ok1 X T F z co E) (S : Snd X T F z co E f) {op : BoolOp} {p : Pos} : ∀ {vs : List Expr} {x : Ex}, (∀ v ∈ vs, testOk v = true) → cBool f op vs = some x → PW X (.BoolOp op vs p) (tT X.K z co F E x)
  | [], _, _, h => by cases h
  | [a], x, ht, h => by
    cases op with
    | And => exact pw_and1 (S.t _ _ h (ht a List.mem_cons_self))
    | Or => exact pw_or1 (S.t _ _ h (ht a List.mem_cons_self))
  | a :: b :: es, x, ht, h => by
    unfold cBool at h
    cases e1 : f a with
    | none => rw [e1] at h; cases h
    | some a' =>
      cases e2 : cBool f op (b :: es) with
      | none => rw [e1, e2] at h; cases h
      | some r =>
        rw [e1, e2] at h
        have ih := tst_bool O S (p := p) (fun v hv => ht v (List.mem_cons_of_mem _ hv)) e2
        have ha := S.t _ _ e1 (ht a List.mem_cons_self)
        cases op with
        | And =>
          cases h
          refine ⟨fun wh pins s σ H Q I q => (pw_and ha ih).run wh pins s σ H Q I ?_⟩
          obtain ⟨ν, G, R, q⟩ := q
          simp only [evE] at q
          have q' : PsR X.K co (E σ) ((evE F ν a').bind fun d => (Res.ofO (truD d)).bind fun k => if k = true then (evE F ν r).bind fun d => Res.ofO (truD d) else .ok false) G H fun b => ∀ G' H', Nx G H G' H' → Q b H' := by
            revert q
            cases evE F ν a' with
            | ok d =>
              cases d with
              | bool c => cases c <;> exact id
              | _ => exact fun z => z.elim
            | err _ => exact id
            | no => exact id
          refine tT.then R q' fun k G1 H1 s R1 q1 => ?_
          cases k with
          | true => exact iteT ⟨ν, G1, R1, PsR.mono q1 (Nx.refl R1.same) fun _ _ z G' H' a => z G' H' (s.trans a)⟩
          | false => exact iteF (q1 G1 H1 s)
        | Or =>
          cases h
          refine ⟨fun wh pins s σ H Q I q => (pw_or ha ih).run wh pins s σ H Q I ?_⟩
          obtain ⟨ν, G, R, q⟩ := q
          simp only [evE] at q
          have q' : PsR X.K co (E σ) ((evE F ν a').bind fun d => (Res.ofO (truD d)).bind fun k => if k = true then .ok true else (evE F ν r).bind fun d => Res.ofO (truD d)) G H fun b => ∀ G' H', Nx G H G' H' → Q b H' := by
            revert q
            cases evE F ν a' with
            | ok d =>
              cases d with
              | bool c => cases c <;> exact id
              | _ => exact fun z => z.elim
            | err _ => exact id
            | no => exact id
          refine tT.then R q' fun k G1 H1 s R1 q1 => ?_
          cases k with
          | true => exact iteT (q1 G1 H1 s)
          | false => exact iteF ⟨ν, G1, R1, PsR.mono q1 (Nx.refl R1.same) fun _ _ z G' H' a => z G' H' (s.trans a)⟩
end
theorem snd_call {X : Cx} {T : Tbl} {F : Str → List D → Res D} {z : Zx} {co : Co} {E : St → XK} {f : Expr → Option Ex} (O : Ok1 X T F z co E) (S : Snd X T F z co E f) {y : Str} {as : List Expr} {x : Ex} {p pos : Pos} (h : cCall X.N X.env.scope.names T f y as = some x) :
    PE X (.Call (.Name y p) as [] pos) (tE X.K z co F E x) := by
  unfold cCall at h
  by_cases g : glB X.env.scope.names y = true ∧ y ≠ "__debug__" ∧ y ≠ "__name__"
  · rw [if_pos g] at h
    split at h
    · rename_i n hn
      by_cases c : as.length = n ∧ as ≠ [] ∧ T.hot = false
      · rw [if_pos c] at h
        cases e : cArgs f as with
        | none => rw [e] at h; cases h
        | some z => rw [e] at h; cases h; exact snd_own O S g.1 g.2.1 hn c.1 c.2.1 c.2.2 e
      · rw [if_neg c] at h; cases h
    · by_cases c : y = "isinstance"
      · rw [if_pos c] at h
        subst c
        split at h
        · rename_i a ty p1
          by_cases gt : glB X.env.scope.names ty = true
          · rw [if_pos gt] at h
            split at h
            · rename_i a' t' e1 e2
              cases h
              exact snd_isi O S g.1 gt e1 e2
            · cases h
          · rw [if_neg gt] at h; cases h
        · rename_i a ts j p1
          split at h
          · rename_i a' ts' e1 e2
            by_cases hl : ts'.length ≤ 1000
            · rw [if_pos hl] at h
              cases h
              exact snd_isis O S g.1 e1 e2 hl
            · rw [if_neg hl] at h; cases h
          · cases h
        · cases h
      · rw [if_neg c] at h
        split at h
        · rename_i b hb
          by_cases hc : b.cold = true ∧ T.hot = true
          · rw [if_pos hc] at h; cases h
          · rw [if_neg hc] at h
            cases e : cArgs f as with
            | none => rw [e] at h; cases h
            | some z => rw [e] at h; cases h; exact snd_bf O S g.1 hb hc e
        · cases h
  · rw [if_neg g] at h; cases h
theorem snd_meth {X : Cx} {T : Tbl} {F : Str → List D → Res D} {z : Zx} {co : Co} {E : St → XK} {f : Expr → Option Ex} (O : Ok1 X T F z co E) (S : Snd X T F z co E f) {o : Expr} {m : Str} {as : List Expr} {x : Ex} {ap pos : Pos} (h : cMeth f o m as (ap.endLine == pos.line) = some x) :
    PE X (.Call (.Attribute o m ap) as [] pos) (tE X.K z co F E x) := by
  unfold cMeth at h
  split at h
  · rename_i y j p a
    by_cases c : m = "join" ∧ (ap.endLine == pos.line) = true
    · rw [if_pos c] at h
      obtain ⟨rfl, hl⟩ := c
      cases e : f a with
      | none => rw [e] at h; cases h
      | some z => rw [e] at h; cases h; exact snd_join O S hl e
    · rw [if_neg c] at h; cases h
  · cases h
/-- ALL EXPRESSIONS -/
theorem snd (n : Nat) : ∀ {X : Cx} {T : Tbl} {F : Str → List D → Res D} {z : Zx} {co : Co} {E : St → XK}, Ok1 X T F z co E → Snd X T F z co E (cE X.N T n X.env.scope) := by
  induction n with
  | zero =>
    intro X T F z co E O
    exact ⟨fun a x h => by simp [cE] at h, fun a x h _ => by simp [cE] at h, fun a x h => by simp [cE] at h⟩
  | succ n ih =>
    intro X T F z co E O
    have S := ih O
    have sE : ∀ a x, cE X.N T (n + 1) X.env.scope a = some x → PE X a (tE X.K z co F E x) := by
      intro a x h
      unfold cE at h
      split at h
      · exact snd_const h
      · exact snd_name O h
      · split at h
        · rename_i h1 h2; cases h; exact snd_bin S h1 h2
        · cases h
      · rename_i a p
        cases e : cE X.N T n X.env.scope a with
        | none => rw [e] at h; cases h
        | some z => rw [e] at h; cases h; exact snd_neg S e
      · rename_i a p
        by_cases c : testOk a = true
        · rw [if_pos c] at h
          cases e : cE X.N T n X.env.scope a with
          | none => rw [e] at h; cases h
          | some z => rw [e] at h; cases h; exact snd_not S e
        · rw [if_neg c] at h; cases h
      · rename_i op vs p
        by_cases c : vs.all testOk = true ∧ 2 ≤ vs.length
        · rw [if_pos c] at h; exact snd_bool S h
        · rw [if_neg c] at h; cases h
      · rename_i a op b p
        split at h
        · rename_i es he
          cases op with
          | In =>
            cases e : cE X.N T n X.env.scope a with
            | none => rw [e] at h; cases h
            | some z => rw [e] at h; cases h; exact snd_inT O S he e
          | NotIn =>
            cases e : cE X.N T n X.env.scope a with
            | none => rw [e] at h; cases h
            | some z => rw [e] at h; cases h; exact snd_ninT O S he e
          | _ => cases h
        by_cases c : behindInMarks op b = false
        · rw [if_pos c] at h
          split at h
          · rename_i h1 h2; cases h; exact snd_cmp O S c h1 h2
          · cases h
        · rw [if_neg c] at h; cases h
      · rename_i a op op' b c p
        by_cases hm : lastMarks [op, op'] [b, c] = false
        · rw [if_pos hm] at h
          split at h
          · rename_i h1 h2 h3; cases h; exact snd_chn O S hm h1 h2 h3
          · cases h
        · rw [if_neg hm] at h; cases h
      · rename_i c a b p
        by_cases ht : testOk c = true
        · rw [if_pos ht] at h
          split at h
          · rename_i h1 h2 h3; cases h; exact snd_ite S ht h1 h2 h3
          · cases h
        · rw [if_neg ht] at h; cases h
      · rename_i es j p
        cases e : cArgs (cE X.N T n X.env.scope) es with
        | none => rw [e] at h; cases h
        | some z => rw [e] at h; cases h; exact snd_tup S e
      · rename_i es p
        cases e : cArgs (cE X.N T n X.env.scope) es with
        | none => rw [e] at h; cases h
        | some z => rw [e] at h; cases h; exact snd_lst S e
      · rename_i a k p1 p2 p3 p
        cases e : cE X.N T n X.env.scope a with
        | none => rw [e] at h; cases h
        | some z => rw [e] at h; cases h; exact snd_rev S e
      · split at h
        · rename_i h1 h2 h3; cases h; exact snd_slc S h1 h2 h3
        · cases h
      · rename_i a b p _ _
        split at h
        · rename_i es he
          by_cases c : notSlice b = true
          · rw [if_pos c] at h
            cases e : cE X.N T n X.env.scope b with
            | none => rw [e] at h; cases h
            | some z => rw [e] at h; cases h; exact snd_atT O S he c e
          · rw [if_neg c] at h; cases h
        by_cases c : notSlice b = true
        · rw [if_pos c] at h
          split at h
          · rename_i h1 h2; cases h; exact snd_idx S c h1 h2
          · cases h
        · rw [if_neg c] at h; cases h
      · split at h
        · rename_i h1; cases h; exact O.xq _ _ h1
        · exact snd_call O S h
      · exact O.xq _ _ h
      · exact snd_meth O S h
      · rename_i elt tg iter ifs scope p
        by_cases c : notSet iter = true ∧ blkC X.N X.env.scope scope (ownOf X.N scope.names) = true ∧ T.hot = false
        · rw [if_pos c] at h
          split at h
          · rename_i it' tg' el' h1 h2 h3
            by_cases hin : tgIn ((ownOf X.N scope.names).map (·.2)) tg' = true
            · rw [if_pos hin] at h
              have B : ∀ (s : Shared) (H : Hp) (C : Addr) (cl : List (Str × Addr)) (fp : List Addr), Snd (X.blk s H scope (compEnvC scope cl C X.env) fp) T F none co EN (cE X.N T n (relS scope X.env.scope)) :=
                fun s H C cl fp => ih (O.blk c.2.2 s H scope (compEnvC scope cl C X.env) fp)
              split at h
              · cases h
                obtain ⟨te, k1, _, k3⟩ := snd_comp (p := p) O S B c.1 c.2.1 c.2.2 h1 h2 h3 hin (.inl ⟨rfl, rfl⟩)
                exact pe_imp k1 fun σ H Q z => k3 σ H Q (tF_of (fun _ _ => comp_list) z)
              · rename_i c1
                by_cases ht : testOk c1 = true
                · rw [if_pos ht] at h
                  cases e : cE X.N T n (relS scope X.env.scope) c1 with
                  | none => rw [e] at h; cases h
                  | some z =>
                    rw [e] at h
                    cases h
                    obtain ⟨te, k1, _, k3⟩ := snd_comp (p := p) O S B c.1 c.2.1 c.2.2 h1 h2 h3 hin (.inr ⟨c1, rfl, ht, e⟩)
                    exact pe_imp k1 fun σ H Q z => k3 σ H Q (tF_of (fun _ _ => comp_list) z)
                · rw [if_neg ht] at h; cases h
              · cases h
            · rw [if_neg hin] at h; cases h
          · cases h
        · rw [if_neg c] at h; cases h
      · cases h
    refine ⟨sE, fun a x h ht => ?_, fun a x h => cE_star h⟩
    by_cases hp : plainT a = true
    · exact tst_plain (sE a x h) hp
    · cases a with
      | BoolOp op vs p =>
        have h' : (if vs.all testOk = true ∧ 2 ≤ vs.length then cBool (cE X.N T n X.env.scope) op vs else none) = some x := h
        by_cases c : vs.all testOk = true ∧ 2 ≤ vs.length
        · rw [if_pos c] at h'
          exact (tst_bool O S (fun v hv => List.all_eq_true.mp c.1 v hv) h').pt
        · rw [if_neg c] at h'; cases h'
      | UnaryOp op a p =>
        cases op with
        | Not =>
          unfold cE at h
          have h' : (if testOk a = true then (cE X.N T n X.env.scope a).map Ex.not else none) = some x := h
          by_cases c : testOk a = true
          · rw [if_pos c] at h'
            cases e : cE X.N T n X.env.scope a with
            | none => rw [e] at h'; cases h'
            | some z => rw [e] at h'; cases h'; exact tst_not (S.t _ _ e c)
          · rw [if_neg c] at h'; cases h'
        | _ => exact absurd rfl hp
      | IfExp _ _ _ _ => cases ht
      | Compare a ops cs p =>
        match ops, cs, h with
        | [op], [b], h =>
          have h' : (match (generalizing := false) tabOf X.env.scope.names T b with
            | some es => (match (generalizing := false) op with
              | .In => (cE X.N T n X.env.scope a).map fun a' => Ex.inT a' es
              | .NotIn => (cE X.N T n X.env.scope a).map fun a' => Ex.not (.inT a' es)
              | _ => none)
            | none => if behindInMarks op b = false then (match cE X.N T n X.env.scope a, cE X.N T n X.env.scope b with
              | some a', some b' => some (Ex.cmp op a' b')
              | _, _ => none) else none) = some x := h
          split at h'
          · rename_i es he
            cases op with
            | In =>
              cases e : cE X.N T n X.env.scope a with
              | none => rw [e] at h'; cases h'
              | some z => rw [e] at h'; cases h'; exact tst_inT O S he e
            | NotIn =>
              cases e : cE X.N T n X.env.scope a with
              | none => rw [e] at h'; cases h'
              | some z => rw [e] at h'; cases h'; exact tst_ninT O S he e
            | _ => cases h'
          by_cases c : behindInMarks op b = false
          · rw [if_pos c] at h'
            split at h'
            · rename_i h1 h2; cases h'; exact tst_cmp O S c h1 h2
            · cases h'
          · rw [if_neg c] at h'; cases h'
        | [op, op'], [b, c], h =>
          have h' : (if lastMarks [op, op'] [b, c] = false then (match cE X.N T n X.env.scope a, cE X.N T n X.env.scope b, cE X.N T n X.env.scope c with
            | some a', some b', some c' => some (Ex.chn op op' a' b' c')
            | _, _, _ => none) else none) = some x := h
          by_cases hm : lastMarks [op, op'] [b, c] = false
          · rw [if_pos hm] at h'
            split at h'
            · rename_i h1 h2 h3; cases h'; exact tst_chn O S hm h1 h2 h3
            · cases h'
          · rw [if_neg hm] at h'; cases h'
        | [], _, h => cases h
        | [_], [], h => cases h
        | [_], _ :: _ :: _, h => cases h
        | [_, _], [], h => cases h
        | [_, _], [_], h => cases h
        | [_, _], _ :: _ :: _ :: _, h => cases h
        | _ :: _ :: _ :: _, _, h => cases h
      | _ => exact absurd rfl hp
end Pe

set_option Elab.async false
set_option linter.all false
set_option maxRecDepth 100000
set_option maxHeartbeats 4000000
/-! Xc: what may be asked of an exception that a suite holds. -/
namespace Pe
open PySem PySem.Spec PySem.Calls PyProof.Rows PySem.W
section
variable {prog : Program} {w : World} {A : Around} {E : Value → Shared → Prop} {s : Shared} {K : Frag} {x D : Addr} {ox : Obj} {od : Option Obj}
theorem bind_of {C : Addr} {name : Str} {a g : Value} (hc : (clsIn K C).isSome = true) (ha : findIn K (.ref C) name = some (some a)) (hg : specialIn K a "__get__" = some (some g)) (ht : takesIn K a = some true) : findObj K C od name = some (.bind g a) := by
  obtain ⟨cd, hc⟩ := Option.isSome_iff_exists.mp hc
  unfold findObj
  rw [hc, Option.bind_some, ha, Option.bind_some]
  simp [hg, ht]
/-- what __class__ of an exception gives, whether it has a dict or not -/
theorem its_class {Q : Option Value → Shared → Prop} (C : L2.ExcC K D) (kin : K.In s.heap) (I : InstAt s.heap x ox D od) (h : Q (some (.ref D)) { s with toks := s.toks + 1 }) : wpAny (model prog w) A (getAttr? (.ref x) "__class__") Q E s := by
  have found : findObj K D od "__class__" = some (.bind (.builtin "getset_descriptor.__get__") (.builtin "object.__class__")) := bind_of (by obtain ⟨cd, hc, _⟩ := any_some C.hd; rw [hc]; rfl) C.ha C.hn C.ht
  obtain ⟨hp, g, d, t, os⟩ := s
  have K0 := I.type (M := model prog w)
  have K1 := looks_findIn (M := model prog w) kin C.hg
  have K2 := looks_findIn (M := model prog w) kin C.hk
  have K3 := looks_find (M := model prog w) kin I found
  have under : Looks (model prog w) hp (isInstance (.ref x) (.type "BaseException")) true := K0.andThen (looks_subIn kin C.hs)
  have z0 : (false && onTheHeap (Value.builtin "BaseException.__getattribute__")) = false := rfl
  have z2 : (Value.builtin "BaseException.__getattribute__" == Value.builtin "object.__getattribute__") = false := by decide +kernel
  have z1 : (onTheHeap (Value.ref D) && Value.builtin "BaseException.__getattribute__" == Value.builtin "object.__getattribute__") = false := by rw [z2]; rfl
  unfold getAttr? getAttrBy? getAttrBy
  refine wpAny_bind (wpAny_mkText (wpAny_bind (wpAny_attempt (wpAny_holding (wpAny_bind (K0.at (wpAny_bind (K1.at ?_))))))))
  show wpAny _ _ (if (onTheHeap (Value.ref D) && Value.builtin "BaseException.__getattribute__" == Value.builtin "object.__getattribute__") = true then _ else _) _ _ _
  rw [z1, if_neg Bool.false_ne_true]
  unfold getAttrByItsOwn hookBefore
  refine wpAny_bind ?_
  rw [if_pos (show onTheHeap (Value.ref D) = true from rfl)]
  refine K2.at ?_
  refine wpAny_bind (wpAny_attempt (wpAny_holding ?_))
  unfold callGetattribute
  rw [z0, if_neg Bool.false_ne_true]
  unfold boundAndCalled
  rw [PySem.F.excAttr_ValueError.ga.bind (.ref x)]
  refine wpAny_bind (wpAny_pure ?_)
  show wpAny _ _ (call (.builtin "BaseException.__getattribute__") [.ref x, .str "__class__" t]) _ _ _
  refine wpAny_call (codeAny_call_builtin PySem.F.excAttr_ValueError.ga.plain PySem.F.entry_bexc_ga ?_)
  refine @check_slot (model prog w) _ _ ⟨hp, g, d, t + 1, os⟩ "BaseException.__getattribute__" "BaseException" "__getattribute__" (.ref x) [.str "__class__" t] [] _ (by decide +kernel) (by decide +kernel) under (PySem.F.args_bexc_ga (.ref x) (.str "__class__" t)) ?_
  unfold Builtin.«object.__getattribute__»
  refine wpAny_bind (wpAny_of_eq (a := ((Value.ref x : Value), [Value.str "__class__" t])) (by first | rfl | (simp only [slotArgs]; rfl)) ?_)
  refine wpAny_bind (wpAny_pure (wpAny_bind (K0.at (wpAny_bind (K3.at ?_)))))
  show wpAny _ _ (holding [Value.builtin "object.__class__"] (call (.builtin "getset_descriptor.__get__") [.builtin "object.__class__", .ref x, .ref D]) >>= ret) _ _ _
  refine wpAny_bind (wpAny_holding (wpAny_call (class_get (s := ⟨hp, g, d, t + 1, os⟩) (ox := ox) (od := od) kin I C.hm ?_)))
  refine wpAny_pure ?_
  show wpAny _ _ (handedOut (.ref D)) _ _ _
  rw [handedOut_of (v := .ref D) rfl]
  first
    | exact wpAny_pure (wpAny_pure h)
    | exact wpAny_pure h
    | exact wpAny_pure (wpAny_bind (wpAny_pure (wpAny_pure h)))
theorem its_kit (C : L2.ExcC K D) : KitX K (.ref x) (.ref D) (fun h => InstAt h x ox D od) where
  ty := fun _ _ _ I => I.type
  it := fun _ _ X _ => by
    obtain ⟨cdD, hcD, _⟩ := any_some C.hd
    unfold clsIn at hcD
    split at hcD
    · rename_i c' d' cd' sl' ho
      intro A' Q' E' s' k q
      unfold isType loadHead
      exact wpAny_bind (wpAny_loadPart (k _ _ (X _ _ ho)) (wpAny_pure q))
    · cases hcD
  ne := fun h tp dd its n sl X htp => by
    obtain ⟨cdD, hcD, _⟩ := any_some C.hd
    refine Bool.eq_false_iff.mpr fun q => ?_
    have e : D = tp := Value.ref.inj (beq_iff_eq.mp q)
    subst e
    unfold clsIn at hcD
    split at hcD
    · rename_i c' d' cd' sl' ho
      have z := (X _ _ ho).symm.trans htp
      cases z
    · cases hcD
  ca := fun X I k => its_class C X I k
end
end Pe
namespace Pe
open PySem PySem.Spec PyProof.Rows L2
/-- a class by its name -/
structure ClsN (mg : Str → Option Value) (c : Str) (u : Value) : Prop where
  is : (mg c = some u ∧ ∃ C, u = .ref C) ∨ (mg c = none ∧ bootBuiltins c = some u ∧ c ≠ "__name__" ∧ ∃ n, u = .type n)
  nd : c ≠ "__debug__"
/-- what the written part says of an error's class -/
structure ErC (K : Fg) (cn : Str → Value) (cls : List Str) (C : Addr) (fs ups : List Str) : Prop where
  ex : ExcC K C
  xf : XfC K C
  nf : ∀ f ∈ fs, PySem.W.findIn K (.ref C) f = some none
  exm : ∀ c ∈ cls, PySem.W.exmOne K (.ref C) (cn c) = some (ups.contains c)
  kit : ∀ c ∈ cls, PySem.W.kitOne K (.ref C) (cn c) = some (ups.contains c)
section
variable {X : Cx} {a C dd : Addr} {oe : Obj} {pn : List (Addr × Obj)}
/-- the exception as an instance -/
theorem inst_of {pins : List (Addr × Obj)} {σ : L2.St} {H : Hp} {s : Shared} {ps : List (Str × V)} (hz : Zc (.ref C) (some dd) oe) (hf : ∃ vs, oe.data = .fields vs) (I : Inv (X.suite a ((a, oe) :: pn)) pins σ H s) (hd : H dd = some (.xd ps)) :
    ∃ od, PySem.W.InstAt s.heap a oe C (some od) := by
  obtain ⟨ha, _⟩ := I.pin (a, oe) (List.mem_append_left _ List.mem_cons_self)
  obtain ⟨vs, hv⟩ := hf
  have hx : ObjOk X.prog X.w H s.heap dd (.xd ps) := I.hok dd _ hd
  obtain ⟨mA, hns, hr⟩ := hx
  obtain ⟨od, ho, hl⟩ := lookIn_ns hns
  exact ⟨od, ha, hz.1, by unfold PySem.W.notCls; rw [hv] <;> rfl, by rw [hz.2]; exact ho⟩
theorem call_xis (T : ExcC X.K C) (hz : Zc (.ref C) (some dd) oe) (hf : ∃ vs, oe.data = .fields vs) :
    CallR (X.suite a ((a, oe) :: pn)) (.builtin "isinstance") (fun xs H Q => ∃ c u b ps, xs = [.ref a, c] ∧ ClsV c u ∧ PySem.W.kitOne X.K (.ref C) u = some b ∧ H dd = some (.xd ps) ∧ Q (.bl b) H) := by
  rintro pins s σ H xs us Q I r ⟨c, u, b, ps, rfl, k, e, hd, q⟩
  obtain ⟨u1, u2, rfl, r1, r2⟩ := vals2 r
  cases r1
  have e2 := k.eq r2
  subst e2
  obtain ⟨od, J⟩ := inst_of hz hf I hd
  exact PySem.W.kia_one (its_kit T) I.kIn J e (fun z => nomatch z) fun tk => ⟨.bl b, H, I.kept (t' := tk) fun _ _ z => z, rfl, q⟩
theorem call_xisT (T : ExcC X.K C) (hz : Zc (.ref C) (some dd) oe) (hf : ∃ vs, oe.data = .fields vs) :
    CallR (X.suite a ((a, oe) :: pn)) (.builtin "isinstance") (fun xs H Q => ∃ tp cs ws b ps, xs = [.ref a, .ref tp] ∧ H tp = some (.tup cs) ∧ Paired ClsV cs ws ∧ PySem.W.kitAny X.K (.ref C) ws = some b ∧ H dd = some (.xd ps) ∧ Q (.bl b) H) := by
  rintro pins s σ H xs us Q I r ⟨tp, cs, ws, b, ps, rfl, hT, k, e, hd, q⟩
  obtain ⟨u1, u2, rfl, r1, r2⟩ := vals2 r
  cases r1
  cases (show u2 = Value.ref tp from r2)
  obtain ⟨od, J⟩ := inst_of hz hf I hd
  obtain ⟨_, its, rv, o, h1, h2, n, h3⟩ := (show ObjOk X.prog X.w H s.heap tp (.tup cs) from I.hok tp _ hT)
  have e3 := ClsV.all k rv
  subst e3
  obtain ⟨oc, od', dt, sl⟩ := o
  simp only at h2 h3
  subst h2 h3
  exact PySem.W.kia_tup (its_kit T) I.kIn J h1 e (fun z => nomatch z) fun tk => ⟨.bl b, H, I.kept (t' := tk) fun _ _ z => z, rfl, q⟩
end
end Pe

set_option Elab.async false
set_option linter.all false
set_option maxRecDepth 100000
set_option maxHeartbeats 8000000
/-! Pe11: slots between statements: values, and lists of a def's own that still grow. -/
namespace Pe
open PySem L2
inductive Sl where
  | un
  | val (d : D)
  | own (xs : List D)
def Sl.all : Sl → Option D
  | .un => none
  | .val d => some d
  | .own xs => some (.list xs)
def Sl.fix : Sl → Option D
  | .val d => some d
  | _ => none
/-- the slots as data, the own lists too; without these -/
def vw (ρ : List Sl) : List (Option D) := ρ.map Sl.all
def vwN (ρ : List Sl) : List (Option D) := ρ.map Sl.fix
def Sl.frz : Sl → Sl
  | .own xs => .val (.list xs)
  | s => s
/-- own lists that grow no more -/
def frz : List Nat → List Sl → List Sl
  | [], ρ => ρ
  | i :: is, ρ => match ρ[i]? with
    | some (.own xs) => frz is (ρ.set i (.val (.list xs)))
    | _ => frz is ρ

structure RepS (K : Fg) (z : Zx) (G0 H0 : Hp) (σ : St) (ρ : List Sl) (G H : Hp) : Prop where
  nx : Nx G0 H0 G H
  len : ρ.length = σ.length
  val : ∀ (i : Nat) (d : D), ρ[i]? = some (.val d) → ∃ v, σ[i]? = some (some v) ∧ Dq K G v d
  own : ∀ (i : Nat) (xs : List D), ρ[i]? = some (.own xs) → ∃ p vs, σ[i]? = some (some (.ref p)) ∧ H p = some (.lst vs) ∧ G p = none ∧ H0 p = none ∧ DqAll K G vs xs
  x : ∀ q, z = some q → (ρ[q.i]? = some .un → σ[q.i]? = some (some (.ref q.a))) ∧ (∀ xs, ρ[q.i]? ≠ some (.own xs)) ∧ XdQ K G q
  apart : ∀ (i j : Nat) (xs ys : List D) (p : Addr), ρ[i]? = some (.own xs) → ρ[j]? = some (.own ys) → σ[i]? = some (some (.ref p)) → σ[j]? = some (some (.ref p)) → i = j
/-- the address of an own list -/
def Own (σ : St) (ρ : List Sl) (a : Addr) : Prop := ∃ (i : Nat) (xs : List D), ρ[i]? = some (.own xs) ∧ σ[i]? = some (some (.ref a))
open Classical in
/-- what is told, and the own lists -/
noncomputable def gP (σ : St) (ρ : List Sl) (G H : Hp) : Hp := fun a => if Own σ ρ a then H a else G a
open Classical in
/-- without the own lists -/
noncomputable def gM (σ : St) (ρ : List Sl) (G : Hp) : Hp := fun a => if Own σ ρ a then none else G a
section
variable {K : Fg} {z : Zx} {G0 H0 G H : Hp} {σ : St} {ρ : List Sl}
theorem gP_own {a : Addr} (h : Own σ ρ a) : gP σ ρ G H a = H a := if_pos h
theorem gP_not {a : Addr} (h : ¬ Own σ ρ a) : gP σ ρ G H a = G a := if_neg h
theorem gM_own {a : Addr} (h : Own σ ρ a) : gM σ ρ G a = none := if_pos h
theorem gM_not {a : Addr} (h : ¬ Own σ ρ a) : gM σ ρ G a = G a := if_neg h
theorem RepS.own_at (R : RepS K z G0 H0 σ ρ G H) {a : Addr} (h : Own σ ρ a) : (∃ vs, H a = some (.lst vs)) ∧ G a = none ∧ H0 a = none := by
  obtain ⟨i, xs, h1, h2⟩ := h
  obtain ⟨p, vs, e1, e2, e3, e4, _⟩ := R.own i xs h1
  rw [h2] at e1
  cases e1
  exact ⟨⟨vs, e2⟩, e3, e4⟩
theorem RepS.same_gP (R : RepS K z G0 H0 σ ρ G H) : Same G (gP σ ρ G H) := fun a o e => by
  by_cases h : Own σ ρ a
  · rw [(R.own_at h).2.1] at e; cases e
  · rw [gP_not h]; exact e
theorem RepS.gP_same (R : RepS K z G0 H0 σ ρ G H) : Same (gP σ ρ G H) H := fun a o e => by
  by_cases h : Own σ ρ a
  · rw [gP_own h] at e; exact e
  · rw [gP_not h] at e; exact R.nx.s a o e
theorem RepS.nxP (R : RepS K z G0 H0 σ ρ G H) : Nx G0 H0 (gP σ ρ G H) H :=
  ⟨R.nx.g.trans R.same_gP, R.gP_same, R.nx.h, fun a e n => by
    by_cases h : Own σ ρ a
    · exact absurd (R.own_at h).2.2 n
    · rw [gP_not h]; exact R.nx.n a e n⟩
/-- all may be looked at -/
theorem RepS.view (R : RepS K z G0 H0 σ ρ G H) : RepV K z σ (vw ρ) (gP σ ρ G H) H := by
  refine ⟨R.gP_same, by unfold vw; rw [List.length_map]; exact R.len, fun i d e => ?_, fun q hq => ⟨fun e => (R.x q hq).1 ?_, (R.x q hq).2.2.mono R.same_gP⟩⟩
  case refine_2 =>
    unfold vw at e
    rw [List.getElem?_map] at e
    cases k : ρ[q.i]? with
    | none => rw [k] at e; cases e
    | some s => rw [k] at e; cases s <;> first | rfl | cases e
  unfold vw at e
  rw [List.getElem?_map] at e
  cases q : ρ[i]? with
  | none => rw [q] at e; cases e
  | some s =>
    rw [q] at e
    cases s with
    | un => cases e
    | val d' =>
      cases e
      obtain ⟨v, h1, h2⟩ := R.val i _ q
      exact ⟨v, h1, dp_same R.same_gP _ _ h2⟩
    | own xs =>
      cases e
      obtain ⟨p, vs, h1, h2, h3, h4, h5⟩ := R.own i xs q
      refine ⟨.ref p, h1, .lst (.inl (Rd.of ?_)) (dpa_same R.same_gP _ _ h5)⟩
      rw [gP_own ⟨i, xs, q, h1⟩]
      exact h2
/-- .. but the own lists -/
theorem RepS.viewN (R : RepS K z G0 H0 σ ρ G H) : RepV K z σ (vwN ρ) G H := by
  refine ⟨R.nx.s, by unfold vwN; rw [List.length_map]; exact R.len, fun i d e => ?_, fun q hq => ⟨fun e => (R.x q hq).1 ?_, (R.x q hq).2.2⟩⟩
  case refine_2 =>
    unfold vwN at e
    rw [List.getElem?_map] at e
    cases k : ρ[q.i]? with
    | none => rw [k] at e; cases e
    | some s => rw [k] at e; cases s <;> first | rfl | (exact absurd k ((R.x q hq).2.1 _)) | cases e
  unfold vwN at e
  rw [List.getElem?_map] at e
  cases q : ρ[i]? with
  | none => rw [q] at e; cases e
  | some s =>
    rw [q] at e
    cases s with
    | un => cases e
    | own _ => cases e
    | val d' => cases e; exact R.val i _ q
/-- behind an expression that looked at all -/
theorem RepS.backP (R : RepS K z G0 H0 σ ρ G H) {G' H' : Hp} (x : Nx (gP σ ρ G H) H G' H') : RepS K z G0 H0 σ ρ (gM σ ρ G') H' := by
  have sG : Same G (gM σ ρ G') := fun a o e => by
    have n : ¬ Own σ ρ a := fun h => by rw [(R.own_at h).2.1] at e; cases e
    rw [gM_not n]
    exact x.g a o (by rw [gP_not n]; exact e)
  refine ⟨⟨R.nx.g.trans sG, fun a o e => ?_, R.nx.h.trans x.h, fun a e n => ?_⟩, R.len, fun i d e => ?_, fun i xs e => ?_, fun q hq => ⟨(R.x q hq).1, (R.x q hq).2.1, (R.x q hq).2.2.mono sG⟩, R.apart⟩
  · by_cases h : Own σ ρ a
    · rw [gM_own h] at e; cases e
    · rw [gM_not h] at e; exact x.s a o e
  · by_cases h : Own σ ρ a
    · exact gM_own h
    · rw [gM_not h]
      refine x.n a ?_ fun z => n (R.nx.h.free z)
      rw [gP_not h]
      exact R.nx.n a e n
  · obtain ⟨v, h1, h2⟩ := R.val i d e
    exact ⟨v, h1, dp_same sG _ _ h2⟩
  · obtain ⟨p, vs, h1, h2, h3, h4, h5⟩ := R.own i xs e
    exact ⟨p, vs, h1, x.h _ _ h2, gM_own ⟨i, xs, e, h1⟩, h4, dpa_same sG _ _ h5⟩
theorem RepS.backD (R : RepS K z G0 H0 σ ρ G H) {G' H' : Hp} (x : Nx (gP σ ρ G H) H G' H') {v : V} {d : D} (n : noL d = true) (h : Dq K G' v d) : Dq K (gM σ ρ G') v d := by
  refine dp_drop (fun a o e => ?_) d v n h
  by_cases q : Own σ ρ a
  · obtain ⟨⟨vs, hv⟩, _⟩ := R.own_at q
    have := x.g a _ (by rw [gP_own q]; exact hv)
    rw [this] at e
    cases e
    exact .inl ⟨vs, rfl⟩
  · exact .inr (by rw [gM_not q]; exact e)
/-- behind one that did not -/
theorem RepS.back (R : RepS K z G0 H0 σ ρ G H) {G' H' : Hp} (x : Nx G H G' H') : RepS K z G0 H0 σ ρ G' H' := by
  refine ⟨R.nx.trans x, R.len, fun i d e => ?_, fun i xs e => ?_, fun q hq => ⟨(R.x q hq).1, (R.x q hq).2.1, (R.x q hq).2.2.mono x.g⟩, R.apart⟩
  · obtain ⟨v, h1, h2⟩ := R.val i d e
    exact ⟨v, h1, dp_same x.g _ _ h2⟩
  · obtain ⟨p, vs, h1, h2, h3, h4, h5⟩ := R.own i xs e
    exact ⟨p, vs, h1, x.h _ _ h2, x.n p h3 (by rw [h2]; simp), h4, dpa_same x.g _ _ h5⟩
theorem RepS.x_other (R : RepS K z G0 H0 σ ρ G H) {i : Nat} {s : Sl} {G' : Hp} (sG : Same G G') {q : XI} (ne : q.i ≠ i) (hq : z = some q) : ((ρ.set i s)[q.i]? = some .un → σ[q.i]? = some (some (.ref q.a))) ∧ (∀ xs, (ρ.set i s)[q.i]? ≠ some (.own xs)) ∧ XdQ K G' q := by
  rw [List.getElem?_set_ne (Ne.symm ne)]
  exact ⟨(R.x q hq).1, (R.x q hq).2.1, (R.x q hq).2.2.mono sG⟩
/-- a list grows no more -/
theorem RepS.frz1 (R : RepS K z G0 H0 σ ρ G H) {i : Nat} {xs : List D} (e : ρ[i]? = some (.own xs)) : ∃ G', RepS K z G0 H0 σ (ρ.set i (.val (.list xs))) G' H := by
  obtain ⟨p, vs, h1, h2, h3, h4, h5⟩ := R.own i xs e
  have sG : Same G (upd G p (.lst vs)) := same_upd h3
  have hi : i < ρ.length := (List.getElem?_eq_some_iff.mp e).1
  refine ⟨upd G p (.lst vs), ⟨R.nx.g.trans sG, fun a o q => ?_, R.nx.h, fun a q n => ?_⟩, by rw [List.length_set]; exact R.len, fun j d q => ?_, fun j ys q => ?_, fun q hq => ?_, fun j k ys zs q a b c d => ?_⟩
  rotate_left 4
  · exact R.x_other sG (fun t => (R.x q hq).2.1 xs (t ▸ e)) hq
  rotate_right 4
  · by_cases ha : a = p
    · subst ha; rw [upd_same] at q; cases q; exact h2
    · rw [upd_ne ha] at q; exact R.nx.s a o q
  · have ha : a ≠ p := fun z => by rw [z] at n; exact n h4
    rw [upd_ne ha]
    exact R.nx.n a q n
  · by_cases hj : i = j
    · subst hj
      rw [List.getElem?_set_self hi] at q
      cases q
      exact ⟨.ref p, h1, .lst (.inl (Rd.of upd_same)) (dpa_same sG _ _ h5)⟩
    · rw [List.getElem?_set_ne hj] at q
      obtain ⟨v, a, b⟩ := R.val j d q
      exact ⟨v, a, dp_same sG _ _ b⟩
  · by_cases hj : i = j
    · subst hj
      rw [List.getElem?_set_self hi] at q
      cases q
    · rw [List.getElem?_set_ne hj] at q
      obtain ⟨p', vs', a1, a2, a3, a4, a5⟩ := R.own j ys q
      refine ⟨p', vs', a1, a2, ?_, a4, dpa_same sG _ _ a5⟩
      have : p' ≠ p := fun z => by subst z; exact hj (R.apart i j xs ys p' e q h1 a1)
      rw [upd_ne this]
      exact a3
  · have hj : i ≠ j := fun z => by
      subst z
      rw [List.getElem?_set_self hi] at a
      cases a
    have hk : i ≠ k := fun z => by
      subst z
      rw [List.getElem?_set_self hi] at b
      cases b
    rw [List.getElem?_set_ne hj] at a
    rw [List.getElem?_set_ne hk] at b
    exact R.apart j k ys zs q a b c d
theorem RepS.frz : ∀ (is : List Nat) {ρ : List Sl} {G : Hp}, RepS K z G0 H0 σ ρ G H → ∃ G', RepS K z G0 H0 σ (Pe.frz is ρ) G' H
  | [], _, G, R => ⟨G, R⟩
  | i :: is, ρ, G, R => by
    unfold Pe.frz
    split
    · rename_i xs e
      obtain ⟨G', R'⟩ := R.frz1 e
      exact RepS.frz is R'
    · exact RepS.frz is R
/-- a name is given a value -/
theorem RepS.set (R : RepS K z G0 H0 σ ρ G H) (i : Nat) {v : V} {d : D} (r : Dq K G v d) : RepS K z G0 H0 (σ.set i (some v)) (ρ.set i (.val d)) G H := by
  have hx : ∀ q, z = some q → ((ρ.set i (.val d))[q.i]? = some .un → (List.set σ i (some v))[q.i]? = some (some (.ref q.a))) ∧ (∀ xs, (ρ.set i (.val d))[q.i]? ≠ some (.own xs)) ∧ XdQ K G q := fun q hq => by
    by_cases ne : q.i = i
    · have hn : ∀ s, (ρ.set i (.val d))[q.i]? = some s → s = .val d := fun s e => by
        have hi : i < ρ.length := by
          have := (List.getElem?_eq_some_iff.mp e).1
          rw [List.length_set] at this
          omega
        rw [ne, List.getElem?_set_self hi] at e
        exact (Option.some.inj e).symm
      exact ⟨(fun e => by cases hn _ e), (fun xs e => by cases hn _ e), (R.x q hq).2.2⟩
    · have h := R.x_other (s := .val d) (Same.refl G) ne hq
      exact ⟨fun e => by rw [List.getElem?_set_ne (Ne.symm ne)]; exact h.1 e, h.2⟩
  refine ⟨R.nx, by rw [List.length_set, List.length_set]; exact R.len, fun j d' e => ?_, fun j xs e => ?_, hx, fun j k xs ys p a b c d' => ?_⟩
  · by_cases hj : i = j
    · subst hj
      have hi : i < ρ.length := by
        have := (List.getElem?_eq_some_iff.mp e).1
        rwa [List.length_set] at this
      rw [List.getElem?_set_self hi] at e
      cases e
      exact ⟨v, List.getElem?_set_self (by rw [← R.len]; exact hi), r⟩
    · rw [List.getElem?_set_ne hj] at e ⊢
      exact R.val j d' e
  · have hj : i ≠ j := fun z => by
      subst z
      have hi : i < ρ.length := by
        have := (List.getElem?_eq_some_iff.mp e).1
        rwa [List.length_set] at this
      rw [List.getElem?_set_self hi] at e
      cases e
    rw [List.getElem?_set_ne hj] at e ⊢
    exact R.own j xs e
  · have hn : ∀ {m : Nat} {zs : List D}, (ρ.set i (.val d))[m]? = some (.own zs) → i ≠ m := fun {m zs} e z => by
      subst z
      have hi : i < ρ.length := by
        have := (List.getElem?_eq_some_iff.mp e).1
        rwa [List.length_set] at this
      rw [List.getElem?_set_self hi] at e
      cases e
    have hj := hn a
    have hk := hn b
    rw [List.getElem?_set_ne hj] at a c
    rw [List.getElem?_set_ne hk] at b d'
    exact R.apart j k xs ys p a b c d'
/-- .. a new list of its own -/
theorem RepS.new (R : RepS K z G0 H0 σ ρ G H) (i : Nat) (hz : ∀ q, z = some q → q.i ≠ i) {p : Addr} {vs : List V} {xs : List D} (hn : ∀ (j : Nat) (ys : List D), ρ[j]? = some (.own ys) → σ[j]? ≠ some (some (.ref p))) (h1 : H p = some (.lst vs)) (h2 : G p = none) (h3 : H0 p = none) (h4 : DqAll K G vs xs) :
    RepS K z G0 H0 (σ.set i (some (.ref p))) (ρ.set i (.own xs)) G H := by
  have hlt : ∀ {s : Sl}, (ρ.set i (.own xs))[i]? = some s → i < ρ.length := fun {s} e => by
    have := (List.getElem?_eq_some_iff.mp e).1
    rwa [List.length_set] at this
  refine ⟨R.nx, by rw [List.length_set, List.length_set]; exact R.len, fun j d' e => ?_, fun j zs e => ?_, fun q hq => ⟨fun e => by rw [List.getElem?_set_ne (Ne.symm (hz q hq))]; exact (R.x_other (Same.refl G) (hz q hq) hq).1 e, (R.x_other (Same.refl G) (hz q hq) hq).2⟩, fun j k ys zs q a b c d' => ?_⟩
  · have hj : i ≠ j := fun z => by
      subst z
      rw [List.getElem?_set_self (hlt e)] at e
      cases e
    rw [List.getElem?_set_ne hj] at e ⊢
    exact R.val j d' e
  · by_cases hj : i = j
    · subst hj
      have hi := hlt e
      rw [List.getElem?_set_self hi] at e
      cases e
      exact ⟨p, vs, List.getElem?_set_self (by rw [← R.len]; exact hi), h1, h2, h3, h4⟩
    · rw [List.getElem?_set_ne hj] at e ⊢
      exact R.own j zs e
  · by_cases hj : i = j
    · subst hj
      have hi := hlt a
      rw [List.getElem?_set_self (by rw [← R.len]; exact hi)] at c
      cases c
      by_cases hk : i = k
      · exact hk
      · rw [List.getElem?_set_ne hk] at b d'
        exact absurd d' (hn k zs b)
    · rw [List.getElem?_set_ne hj] at a c
      by_cases hk : i = k
      · subst hk
        have hi := hlt b
        rw [List.getElem?_set_self (by rw [← R.len]; exact hi)] at d'
        cases d'
        exact absurd c (hn j ys a)
      · rw [List.getElem?_set_ne hk] at b d'
        exact R.apart j k ys zs q a b c d'
/-- an own list grows (or changes) -/
theorem RepS.grow (R : RepS K z G0 H0 σ ρ G H) {i : Nat} {xs ys : List D} {p : Addr} {ws : List V} (e : ρ[i]? = some (.own xs)) (hp : σ[i]? = some (some (.ref p))) (a : DqAll K G ws ys) :
    RepS K z G0 H0 σ (ρ.set i (.own ys)) G (upd H p (.lst ws)) := by
  obtain ⟨p', vs, h1, h2, h3, h4, h5⟩ := R.own i xs e
  rw [hp] at h1
  cases h1
  have hi : i < ρ.length := (List.getElem?_eq_some_iff.mp e).1
  refine ⟨⟨R.nx.g, fun b u q => ?_, fun b u q => ?_, R.nx.n⟩, by rw [List.length_set]; exact R.len, fun j d q => ?_, fun j zs q => ?_, fun q hq => R.x_other (Same.refl G) (fun t => (R.x q hq).2.1 xs (t ▸ e)) hq, fun j k zs us q c1 c2 c3 c4 => ?_⟩
  · have : b ≠ p := fun z => by rw [z, h3] at q; cases q
    rw [upd_ne this]
    exact R.nx.s b u q
  · have : b ≠ p := fun z => by rw [z, h4] at q; cases q
    rw [upd_ne this]
    exact R.nx.h b u q
  · have hj : i ≠ j := fun z => by
      subst z
      rw [List.getElem?_set_self hi] at q
      cases q
    rw [List.getElem?_set_ne hj] at q
    exact R.val j d q
  · by_cases hj : i = j
    · subst hj
      rw [List.getElem?_set_self hi] at q
      cases q
      exact ⟨p, ws, hp, upd_same, h3, h4, a⟩
    · rw [List.getElem?_set_ne hj] at q
      obtain ⟨p', vs', a1, a2, a3, a4, a5⟩ := R.own j zs q
      have : p' ≠ p := fun z => by subst z; exact hj (R.apart i j xs zs p' e q hp a1)
      exact ⟨p', vs', a1, by rw [upd_ne this]; exact a2, a3, a4, a5⟩
  · have w : ∀ {m : Nat} {ts : List D}, (ρ.set i (.own ys))[m]? = some (.own ts) → ∃ ts', ρ[m]? = some (.own ts') := fun {m ts} q' => by
      by_cases hm : i = m
      · subst hm; exact ⟨xs, e⟩
      · rw [List.getElem?_set_ne hm] at q'; exact ⟨ts, q'⟩
    obtain ⟨_, c1⟩ := w c1
    obtain ⟨_, c2⟩ := w c2
    exact R.apart j k _ _ q c1 c2 c3 c4
/-- a narrower base -/
theorem RepS.base {G1 : Hp} (R : RepS K z G1 H0 σ ρ G H) {H1 : Hp} (x : Nx G0 H0 G1 H1) : RepS K z G0 H0 σ ρ G H :=
  ⟨⟨x.g.trans R.nx.g, R.nx.s, R.nx.h, fun a e n => R.nx.n a (x.n a e n) n⟩, R.len, R.val, R.own, R.x, R.apart⟩
/-- a broader one -/
theorem RepS.rebase (R : RepS K z G0 H0 σ ρ G H) : RepS K z G H0 σ ρ G H :=
  ⟨⟨Same.refl G, R.nx.s, R.nx.h, fun a e _ => e⟩, R.len, R.val, R.own, R.x, R.apart⟩
/-- a name is let go, or holds what is no data -/
theorem RepS.unset (R : RepS K z G0 H0 σ ρ G H) (i : Nat) (o : Option V) : RepS K none G0 H0 (List.set σ i o) (ρ.set i .un) G H := by
  have ot : ∀ {m : Nat} {s : Sl}, (ρ.set i .un)[m]? = some s → s ≠ .un → i ≠ m := fun {m s} e hs t => by
    subst t
    have hi : i < ρ.length := by
      have := (List.getElem?_eq_some_iff.mp e).1
      rwa [List.length_set] at this
    rw [List.getElem?_set_self hi] at e
    exact hs (Option.some.inj e).symm
  refine ⟨R.nx, by rw [List.length_set, List.length_set]; exact R.len, fun j d e => ?_, fun j xs e => ?_, (fun q hq => by cases hq), fun j k xs ys p a b c d => ?_⟩
  · have h := ot e (by simp)
    rw [List.getElem?_set_ne h] at e ⊢
    exact R.val j d e
  · have h := ot e (by simp)
    rw [List.getElem?_set_ne h] at e ⊢
    exact R.own j xs e
  · have h1 := ot a (by simp)
    have h2 := ot b (by simp)
    rw [List.getElem?_set_ne h1] at a c
    rw [List.getElem?_set_ne h2] at b d
    exact R.apart j k xs ys p a b c d
/-- more is told -/
theorem RepS.tell (R : RepS K z G0 H0 σ ρ G H) {dx : Addr} {o : HO} (h1 : H dx = some o) (h2 : G dx = none) (h3 : H0 dx = none) (h4 : ∀ xs, o ≠ .lst xs) : RepS K z G0 H0 σ ρ (upd G dx o) H := by
  have sG : Same G (upd G dx o) := same_upd h2
  refine ⟨⟨R.nx.g.trans sG, fun b u e => ?_, R.nx.h, fun b e n => ?_⟩, R.len, fun j d e => ?_, fun j xs e => ?_, fun q hq => ⟨(R.x q hq).1, (R.x q hq).2.1, (R.x q hq).2.2.mono sG⟩, R.apart⟩
  · by_cases hb : b = dx
    · subst hb; rw [upd_same] at e; rw [h1, e]
    · rw [upd_ne hb] at e; exact R.nx.s b u e
  · have hb : b ≠ dx := fun t => by rw [t] at n; exact n h3
    rw [upd_ne hb]
    exact R.nx.n b e n
  · obtain ⟨v, a, b⟩ := R.val j d e
    exact ⟨v, a, dp_same sG _ _ b⟩
  · obtain ⟨p, vs, a1, a2, a3, a4, a5⟩ := R.own j xs e
    have hb : p ≠ dx := fun t => by
      rw [t, h1] at a2
      exact h4 vs (Option.some.inj a2)
    exact ⟨p, vs, a1, a2, by rw [upd_ne hb]; exact a3, a4, dpa_same sG _ _ a5⟩
/-- a suite is entered -/
theorem RepS.enter (R : RepS K z G0 H0 σ ρ G H) {i : Nat} {a dx : Addr} {ps : List (Str × V)} {e : Err} (h1 : H dx = some (.xd ps)) (h2 : G dx = none) (h3 : H0 dx = none) (h4 : XdL K G ps e) :
    RepS K (some ⟨i, a, dx, e⟩) G0 H0 (List.set σ i (some (.ref a))) (ρ.set i .un) (upd G dx (.xd ps)) H := by
  have R2 := (R.unset i (some (.ref a))).tell h1 h2 h3 (fun xs t => by cases t)
  refine ⟨R2.nx, R2.len, R2.val, R2.own, fun q hq => ?_, R2.apart⟩
  cases hq
  have lt : ∀ {s : Sl}, (ρ.set i .un)[i]? = some s → i < ρ.length := fun {s} e => by
    have := (List.getElem?_eq_some_iff.mp e).1
    rwa [List.length_set] at this
  refine ⟨fun e => ?_, fun xs e => ?_, ps, upd_same, h4.mono (same_upd h2)⟩
  · have hi := lt e
    exact List.getElem?_set_self (by rw [← R.len]; exact hi)
  · have hi := lt e
    rw [List.getElem?_set_self hi] at e
    cases e
end
end Pe

set_option Elab.async false
set_option linter.all false
set_option maxRecDepth 100000
set_option maxHeartbeats 8000000
/-! Pe12: statements as data; how they are carried out; how they are read off a text. -/
namespace Pe
open PySem L2
/-- the body of a try: one statement, or one of two -/
inductive Tb where
  | set (i : Nat) (x : Ex) (m : List Nat)
  | dro (x : Ex) (m : List Nat)
  | ret (x : Ex) (m : List Nat)
  | ife (c : Ex) (a b : Tb)
inductive Sm where
  | set (i : Nat) (x : Ex) (k : Bool) (m : List Nat)
  | new (i : Nat) (x : Ex) (m : List Nat)
  | unp (is : List Nat) (x : Ex) (k : Bool) (m : List Nat)
  | app (i : Nat) (x : Ex) (k : Bool) (m : List Nat)
  | aug (i : Nat) (op : Operator) (x : Ex)
  | dro (x : Ex)
  | ret (x : Ex) (m : List Nat)
  | retN
  | ife (c : Ex) (a b : Sm)
  | for_ (tg : Sum Nat (List Nat)) (it : Ex) (m : List Nat) (body : Sm)
  | whl (c : Ex) (body : Sm)
  | brk
  | cnt
  | pass
  | never
  | seq (a b : Sm)
  | retT (i : Nat) (tb : List (Str × Str)) (k as : Ex) (m : List Nat)
  | rais (c : Str) (inf : ErI) (as : Ex) (m : List Nat)
  | try_ (b : Tb) (i : Nat) (c : Str) (h : Sm)
inductive Out where
  | nx (ρ : List Sl)
  | rt (d : D)
  | bk (ρ : List Sl)
  | ct (ρ : List Sl)
/-- a value: k: the own lists may go on growing (so no list may be in it); else those of m stop -/
def evK (F : Str → List D → Res D) (ρ : List Sl) (x : Ex) (k : Bool) (m : List Nat) : Res (D × List Sl) := match k with
  | true => (evE F (vw ρ) x).bind fun d => if noL d = true then .ok (d, ρ) else .no
  | false => (evE F (vwN (frz m ρ)) x).bind fun d => .ok (d, frz m ρ)
def setAllS (ρ : List Sl) : List Nat → List D → Option (List Sl)
  | [], [] => some ρ
  | i :: is, d :: ds => setAllS (ρ.set i (.val d)) is ds
  | _, _ => none
def setS (ρ : List Sl) (tg : Sum Nat (List Nat)) (d : D) : Option (List Sl) := match tg with
  | .inl i => some (ρ.set i (.val d))
  | .inr is => match d with
    | .tuple ds => setAllS ρ is ds
    | _ => none
def forL (g : List Sl → D → Res Out) : List Sl → List D → Res Out
  | ρ, [] => .ok (.nx ρ)
  | ρ, d :: ds => (g ρ d).bind fun o => match o with
    | .nx ρ' => forL g ρ' ds
    | .ct ρ' => forL g ρ' ds
    | .bk ρ' => .ok (.nx ρ')
    | .rt d => .ok (.rt d)
def whlL (c : List Sl → Res Bool) (g : List Sl → Res Out) : Nat → List Sl → Res Out
  | 0, _ => .no
  | w + 1, ρ => (c ρ).bind fun b => if b = true then (g ρ).bind fun o => (match o with
    | .nx ρ' => whlL c g w ρ'
    | .ct ρ' => whlL c g w ρ'
    | .bk ρ' => .ok (.nx ρ')
    | .rt d => .ok (.rt d)) else .ok (.nx ρ)
def tst (F : Str → List D → Res D) (ρ : List Sl) (c : Ex) : Res Bool := (evE F (vw ρ) c).bind fun d => .ofO (truD d)
def augD (op : Operator) (x y : D) : Option D := match op, x, y with
  | .Add, .int i, .int j => some (.int (i + j))
  | .Sub, .int i, .int j => some (.int (i - j))
  | .Add, .str i, .str j => if i.length + j.length ≤ sizeLine then some (.str (i ++ j)) else none
  | _, _, _ => none
/-- a try's body's end -/
inductive TR where
  | out (o : Out)
  | exc (e : Err) (ρ : List Sl)
  | no
def evT (F : Str → List D → Res D) (ρ : List Sl) : Tb → TR
  | .set i x m => match evE F (vwN (frz m ρ)) x with
    | .ok d => .out (.nx ((frz m ρ).set i (.val d)))
    | .err e => .exc e (frz m ρ)
    | .no => .no
  | .dro x m => match evE F (vwN (frz m ρ)) x with
    | .ok _ => .out (.nx (frz m ρ))
    | .err e => .exc e (frz m ρ)
    | .no => .no
  | .ret x m => match evE F (vwN (frz m ρ)) x with
    | .ok d => .out (.rt d)
    | .err e => .exc e (frz m ρ)
    | .no => .no
  | .ife c a b => match tst F ρ c with
    | .ok k => if k = true then evT F ρ a else evT F ρ b
    | _ => .no
/-- what an except suite may ask of its exception -/
def Fx (e : Err) (F : Str → List D → Res D) : Str → List D → Res D := fun g ds =>
  if g = "<is>" then .ok (.bool (ds.any fun d => match d with
    | .str c => e.ups.contains c
    | _ => false))
  else if g = "<at>" then (match ds with
    | [.str f] => .ofO ((e.fs.zip e.args).lookup f)
    | _ => .no)
  else F g ds
def Out.drop (i : Nat) : Out → Out
  | .nx ρ => .nx (ρ.set i .un)
  | .bk ρ => .bk (ρ.set i .un)
  | .ct ρ => .ct (ρ.set i .un)
  | .rt d => .rt d
def evS : (Str → List D → Res D) → Nat → List Sl → Sm → Res Out
  | F, w, ρ, .set i x k m => (evK F ρ x k m).bind fun a => .ok (.nx (a.2.set i (.val a.1)))
  | F, w, ρ, .new i x m => (evE F (vwN (frz m ρ)) x).bind fun y => listR y fun r => .ok (.nx ((frz m ρ).set i (.own r)))
  | F, w, ρ, .unp is x k m => (evK F ρ x k m).bind fun a => (Res.ofO (setS a.2 (.inr is) a.1)).bind fun ρ' => .ok (.nx ρ')
  | F, w, ρ, .app i x k m => match ρ[i]? with
    | some (.own _) => (evK F ρ x k m).bind fun a => (match a.2[i]? with
      | some (.own xs) => if xs.length < sizeLine then .ok (.nx (a.2.set i (.own (xs ++ [a.1])))) else .no
      | _ => .no)
    | _ => .no
  | F, w, ρ, .aug i op x => match ρ[i]? with
    | some (.val d) => (evE F (vw ρ) x).bind fun e => (Res.ofO (augD op d e)).bind fun r => .ok (.nx (ρ.set i (.val r)))
    | _ => .no
  | F, w, ρ, .dro x => (evE F (vw ρ) x).bind fun _ => .ok (.nx ρ)
  | F, w, ρ, .ret x m => (evE F (vwN (frz m ρ)) x).bind fun d => .ok (.rt d)
  | F, w, _, .retN => .ok (.rt .none)
  | F, w, ρ, .ife c a b => (tst F ρ c).bind fun k => if k = true then evS F w ρ a else evS F w ρ b
  | F, w, ρ, .for_ tg it m body => (evE F (vwN (frz m ρ)) it).bind fun y => listR y fun ds => forL (fun ρ d => match setS ρ tg d with
      | some ρ' => evS F w ρ' body
      | none => .no) (frz m ρ) ds
  | F, w, ρ, .whl c body => whlL (fun ρ => tst F ρ c) (fun ρ => evS F w ρ body) w ρ
  | F, w, ρ, .brk => .ok (.bk ρ)
  | F, w, ρ, .cnt => .ok (.ct ρ)
  | F, w, ρ, .pass => .ok (.nx ρ)
  | F, w, _, .never => .no
  | F, w, ρ, .seq a b => (evS F w ρ a).bind fun o => match o with
    | .nx ρ' => evS F w ρ' b
    | .rt d => .ok (.rt d)
    | .bk ρ' => .ok (.bk ρ')
    | .ct ρ' => .ok (.ct ρ')
  | F, w, ρ, .retT i tb k as m => (evE F (vwN (frz m ρ)) k).bind fun d => match d with
    | .str y => (match tb.lookup y with
      | some g => if i < (frz m ρ).length then (evE F (vwN ((frz m ρ).set i .un)) as).bind fun v => listR v fun ds => (F g ds).bind fun r => .ok (.rt r) else .no
      | none => .no)
    | _ => .no
  | F, w, ρ, .rais c inf as m => (evE F (vwN (frz m ρ)) as).bind fun v => listR v fun ds => .err ⟨c, inf.fs, inf.ups, ds⟩
  | F, w, ρ, .try_ b i c h => match evT F ρ b with
    | .out o => .ok o
    | .exc e ρ' => if e.ups.contains c = true then (evS (Fx e F) w (ρ'.set i .un) h).noErr.bind fun o => .ok (o.drop i) else .err e
    | .no => .no

/-! ### from the text -/
def vars : Ex → List Nat
  | .var i => [i]
  | .bin _ a b => vars a ++ vars b
  | .neg a => vars a
  | .cmp _ a b => vars a ++ vars b
  | .chn _ _ a b c => vars a ++ vars b ++ vars c
  | .and a b => vars a ++ vars b
  | .or a b => vars a ++ vars b
  | .not a => vars a
  | .ite c a b => vars c ++ vars a ++ vars b
  | .acons a r => vars a ++ vars r
  | .tup a => vars a
  | .lst a => vars a
  | .idx a b => vars a ++ vars b
  | .slc a l h => vars a ++ vars l ++ vars h
  | .call _ a => vars a
  | .bf _ a => vars a
  | .isi a _ => vars a
  | .isis a _ => vars a
  | .join a b => vars a ++ vars b
  | .seq a => vars a
  | .rng a b => vars a ++ vars b
  | .zip a b => vars a ++ vars b
  | .enu a => vars a
  | .comp e i c _ _ => vars e ++ vars i ++ vars c
  | .inT a _ => vars a
  | .atT a _ => vars a
  | .rev a => vars a
  | _ => []
def isNew : Ex → Bool
  | .lst _ => true
  | .comp _ _ _ _ _ => true
  | _ => false
def isNewE : Expr → Bool
  | .List _ _ => true
  | .ListComp _ _ _ _ => true
  | _ => false
def notTup : Expr → Bool
  | .Tuple _ _ _ => false
  | _ => true
def notComp : Expr → Bool
  | .ListComp _ _ _ _ => false
  | .SetComp _ _ _ _ => false
  | .DictComp _ _ _ _ _ => false
  | _ => true
/-- the names that a statement's body appends to -/
def appsOf (N : List Str) : Nat → List Stmt → List Nat
  | 0, _ => []
  | n + 1, sts => sts.flatMap fun st => match st with
    | .Expr (.Call (.Attribute (.Name x _) _ _) _ _ _) _ => (ixOf x N 0).toList
    | .If _ a b _ => appsOf N n a ++ appsOf N n b
    | .For _ _ b _ _ => appsOf N n b
    | .While _ b _ _ => appsOf N n b
    | .Try a hs _ _ _ => appsOf N n a ++ hs.flatMap fun h => match h with
      | .ExceptHandler _ _ b _ => appsOf N n b
    | _ => []
def inter (xs ys : List Nat) : List Nat := xs.filter fun x => ys.contains x
def cB (f : Stmt → Option Sm) (g : Stmt → Stmt → Option Sm) : List Stmt → Option Sm
  | [] => some .pass
  | [s] => f s
  | s :: t :: ss => match (if ss.isEmpty = true then g s t else none) with
    | some S => some S
    | none => match f s, cB f g (t :: ss) with
      | some a, some b => some (.seq a b)
      | _, _ => none
/-- x = TABLE[k]; return x(..) -/
def cPair (N : List Str) (nm : List (Str × NameKind)) (T : Tbl) (f : Expr → Option Ex) (ap : List Nat) : Stmt → Stmt → Option Sm
  | .Assign [.Name x _] (.Subscript (.Name t _) k _) _, .Return (some (.Call (.Name x' _) as [] _)) _ =>
    if T.hot = false ∧ glB nm t = true ∧ t ≠ "__debug__" ∧ x' = x ∧ locB nm x = true ∧ visB nm x = true ∧ x ≠ "__debug__" ∧ x ≠ "__classdict__" ∧ notSlice k = true ∧ as ≠ [] then
      (match T.ftabs.lookup t, ixOf x N 0, f k, cArgs f as with
      | some tb, some i, some k', some as' => if tb.all (fun p => T.fns.lookup p.2 == some as.length) = true then some (.retT i tb k' as' (inter (vars k' ++ vars as') ap)) else none
      | _, _, _, _ => none) else none
  | _, _ => none
def isDoc : Expr → Bool
  | .Constant (.str _) _ _ => true
  | _ => false
/-- a try's body -/
def cT (N : List Str) (nm : List (Str × NameKind)) (f : Expr → Option Ex) (ap : List Nat) : Nat → List Stmt → Option Tb
  | 0, _ => none
  | k + 1, ss => match ss with
    | [.Assign [.Name y _] e _] => if locB nm y = true ∧ notComp e = true then (match ixOf y N 0, f e with
      | some i, some x => some (.set i x (inter (vars x) ap))
      | _, _ => none) else none
    | [.Expr e _] => if notComp e = true ∧ isDoc e = false then (f e).map fun x => .dro x (inter (vars x) ap) else none
    | [.Return (some e) _] => (f e).map fun x => .ret x (inter (vars x) ap)
    | [.If c a b _] => if testOk c = true then (match f c, cT N nm f ap k a, cT N nm f ap k b with
      | some c', some a', some b' => some (.ife c' a' b')
      | _, _, _ => none) else none
    | _ => none
def cAsg (N : List Str) (nm : List (Str × NameKind)) (hot : Bool) (ap la : List Nat) (e : Expr) (x : Ex) (tg : Expr) : Option Sm := match tg with
  | .Name y _ => if locB nm y = true then (match ixOf y N 0 with
      | some i => if ap.contains i = true ∧ isNewE e = true then some (.new i x (inter (vars x) ap))
        else some (.set i x ((inter (vars x) la).any fun _ => true) (inter (vars x) ap))
      | none => none) else none
  | .Tuple es _ _ => if notTup e = true ∧ hot = false then (match cTgs N nm es with
      | some is => some (.unp is x ((inter (vars x) la).any fun _ => true) (inter (vars x) ap))
      | none => none) else none
  | _ => none
def cExpr (N : List Str) (nm : List (Str × NameKind)) (f : Expr → Option Ex) (ap la : List Nat) (e : Expr) : Option Sm := match e with
  | .Call (.Attribute (.Name y _) m apos) [a] [] cp => if m = "append" ∧ (apos.endLine == cp.line) = true ∧ visB nm y = true ∧ y ≠ "__debug__" ∧ y ≠ "__classdict__" then (match ixOf y N 0, f a with
      | some i, some x => some (.app i x ((inter (vars x) (i :: la)).any fun _ => true) (inter (vars x) ap))
      | _, _ => none) else none
  | .Constant (.str _) _ _ => some .pass
  | e => if notComp e = true then (f e).map .dro else none
def cRaise (nm : List (Str × NameKind)) (T : Tbl) (f : Expr → Option Ex) (ap : List Nat) : Expr → Option Sm
  | .Call (.Name c _) as [] _ => if glB nm c = true ∧ c ≠ "__debug__" ∧ as ≠ [] ∧ T.hot = false then (match T.ers.lookup c, cArgs f as with
    | some inf, some x => if as.length = inf.fs.length then some (.rais c inf x (inter (vars x) ap)) else none
    | _, _ => none) else none
  | _ => none
def cS (N : List Str) (n : Nat) (sc : Scope) (ap : List Nat) : Nat → Tbl → List Nat → Stmt → Option Sm
  | 0, _, _, _ => none
  | k + 1, T, la, st => match st with
    | .Assign [tg] e _ => (match cE N T n sc e with
      | some x => cAsg N sc.names T.hot ap la e x tg
      | none => none)
    | .AugAssign (.Name y _) op e _ => if locB sc.names y = true then (match ixOf y N 0, cE N T n sc e with
      | some i, some x => some (.aug i op x)
      | _, _ => none) else none
    | .Expr e _ => cExpr N sc.names (cE N T n sc) ap la e
    | .Return (some e) _ => (cE N T n sc e).map fun x => .ret x (inter (vars x) ap)
    | .Return none _ => some .retN
    | .If c a b _ => if testOk c = true then (match cE N T n sc c, cB (cS N n sc ap k T la) (cPair N sc.names T (cE N T n sc) ap) a, cB (cS N n sc ap k T la) (cPair N sc.names T (cE N T n sc) ap) b with
      | some c', some a', some b' => some (.ife c' a' b')
      | _, _, _ => none) else none
    | .For tg it body [] _ => if notSet it = true ∧ T.hot = false then (match cIter sc.names T (cE N T n sc) tg it, cTg N sc.names tg, cB (cS N n sc ap k T (appsOf N 20 body ++ la)) (cPair N sc.names T (cE N T n sc) ap) body with
      | some it', some tg', some b' => some (.for_ tg' it' (inter (vars it') ap) b')
      | _, _, _ => none) else none
    | .While c body [] _ => if testOk c = true ∧ T.hot = false then (match cE N T n sc c, cB (cS N n sc ap k T (appsOf N 20 body ++ la)) (cPair N sc.names T (cE N T n sc) ap) body with
      | some c', some b' => some (.whl c' b')
      | _, _ => none) else none
    | .Pass _ => some .pass
    | .Break _ => some .brk
    | .Continue _ => some .cnt
    | .Raise (some e) none _ => (match cRaise sc.names T (cE N T n sc) ap e with
      | some S => some S
      | none => some .never)
    | .Raise _ _ _ => some .never
    | .Try body [.ExceptHandler (some (.Name c _)) (some x) (b₀ :: bs) _] [] [] _ => if T.hot = false ∧ glB sc.names c = true ∧ c ≠ "__debug__" ∧ T.cls.contains c = true ∧ sc.names.lookup x = some .local then
      (match ixOf x N 0, cT N sc.names (cE N T n sc) ap 20 body, cB (cS N n sc ap k { T with hot := true, xv := some x } la) (cPair N sc.names { T with hot := true, xv := some x } (cE N { T with hot := true, xv := some x } n sc) ap) (b₀ :: bs) with
      | some i, some b', some h' => if ap.contains i = false then some (.try_ b' i c h') else none
      | _, _, _ => none) else none
    | _ => none
end Pe

set_option Elab.async false
set_option linter.all false
set_option maxRecDepth 100000
set_option maxHeartbeats 4000000
/-! Xq: the queries of an except suite. -/
namespace Pe
open PySem PySem.Spec PyProof.Rows L2
def vOf : Value → V
  | .ref a => .ref a
  | .type n => .ty n
  | _ => .non
section
variable {X : Cx} {T : Tbl} {cn : Str → Value}
theorem clsN_v {mg : Str → Option Value} {c : Str} {u : Value} (n : ClsN mg c u) : ClsV (vOf u) u := by
  rcases n.is with ⟨_, C, rfl⟩ | ⟨_, _, _, t, rfl⟩
  · exact .own C
  · exact .ty t
theorem pe_clsN {c : Str} {u : Value} {p : Pos} (g : glB X.env.scope.names c = true) (n : ClsN X.mg c u) : PE X (.Name c p) (tC (vOf u)) := by
  rcases n.is with ⟨m, C, rfl⟩ | ⟨m, b, nn, t, rfl⟩
  · exact pe_glob (gl_of g) m rfl (ne_beq n.nd)
  · exact pe_bltn (gl_of g) m b rfl nn (ne_beq n.nd)
theorem pa_cls (N : ∀ c ∈ T.cls, ClsN X.mg c (cn c)) : ∀ {es : List Expr} {cs : List Str}, cClss X.env.scope.names T es = some cs → PA X es (fun _ H Q => Q (cs.map fun c => vOf (cn c)) H) ∧ (∀ c ∈ cs, c ∈ T.cls)
  | [], cs, h => by cases h; exact ⟨pa_nil, fun c hc => by cases hc⟩
  | .Name c p :: es, cs, h => by
    unfold cClss at h
    by_cases g : glB X.env.scope.names c = true ∧ T.cls.contains c = true
    · rw [if_pos g] at h
      cases e2 : cClss X.env.scope.names T es with
      | none => rw [e2] at h; cases h
      | some r =>
        rw [e2] at h
        cases h
        have hc : c ∈ T.cls := by simpa using g.2
        obtain ⟨h1, h2⟩ := pa_cls N e2
        refine ⟨pa_imp (pa_cons (pe_clsN g.1 (N c hc)) h1) fun σ H Q q => q, fun d hd => ?_⟩
        rcases List.mem_cons.mp hd with e | hd
        · rw [e]; exact hc
        · exact h2 d hd
    · rw [if_neg g] at h; cases h
theorem paired_cls (N : ∀ c ∈ T.cls, ClsN X.mg c (cn c)) : ∀ {cs : List Str}, (∀ c ∈ cs, c ∈ T.cls) → Paired ClsV (cs.map fun c => vOf (cn c)) (cs.map cn)
  | [], _ => .nil
  | c :: cs, h => .cons (clsN_v (N c (h c List.mem_cons_self))) (paired_cls N fun d hd => h d (List.mem_cons_of_mem _ hd))
theorem kit_any {K : Fg} {C : Addr} {fs ups : List Str} (E : ErC K cn T.cls C fs ups) : ∀ {cs : List Str}, (∀ c ∈ cs, c ∈ T.cls) → PySem.W.kitAny K (.ref C) (cs.map cn) = some (cs.any fun c => ups.contains c)
  | [], _ => rfl
  | c :: cs, h => by
    refine kitAny_cons (E.kit c (h c List.mem_cons_self)) (fun e => ?_) (fun e => ?_)
    · rw [kit_any E fun d hd => h d (List.mem_cons_of_mem _ hd)]
      simp only [List.any_cons, e, Bool.false_or]
    · simp only [List.any_cons, e, Bool.true_or]
theorem any_str {ups : List Str} : ∀ cs : List Str, ((cs.map PyData.str).any fun d => match d with
    | .str c => ups.contains c
    | _ => false) = cs.any fun c => ups.contains c
  | [] => rfl
  | c :: cs => by
    have ih := any_str (ups := ups) cs
    simp only [List.map_cons, List.any_cons, ih]
variable {F : Str → List D → Res D} {co : Co} {E : L2.St → XK} {a C dd : Addr} {oe : Obj} {pn : List (Addr × Obj)} {er : Err}
theorem zip_no {f : Str} : ∀ {fs : List Str} {ds : List D}, f ∉ fs → (fs.zip ds).lookup f = none
  | [], _, _ => by simp
  | g :: fs, [], _ => by simp
  | g :: fs, d :: ds, h => by
    have h1 : f ≠ g := fun e => h (by rw [e]; exact List.mem_cons_self)
    have h2 : (f == g) = false := by simpa using h1
    rw [List.zip_cons_cons]
    simp only [List.lookup, h2]
    exact zip_no fun q => h (List.mem_cons_of_mem _ q)
theorem pe_no {e : Expr} : PE X e (fun _ _ _ => False) := ⟨fun _ _ _ _ _ _ h => h.elim⟩
theorem is_val {σ : L2.St} {G H : Hp} {Q : VK} {ν : List (Option D)} {cs : List Str} {i : Nat} (R : RepV X.K (some ⟨i, a, dd, er⟩) σ ν G H) (q : Pst X.K co (E σ) (evE (Fx er F) ν (.xis i cs)) G H Q) :
    σ[i]? = some (some (.ref a)) ∧ (∃ ps, H dd = some (.xd ps)) ∧ ∀ G' H', Nx G H G' H' → Q (.bl (cs.any fun c => er.ups.contains c)) H' := by
  simp only [evE] at q
  split at q
  · rename_i en
    obtain ⟨r1, ps, r2, r3⟩ := R.x _ rfl
    refine ⟨r1 en, ⟨ps, R.same _ _ r2⟩, fun G' H' nx => ?_⟩
    have q' : Pst X.K co (E σ) (.ok (.bool ((cs.map PyData.str).any fun d => match d with
      | .str c => er.ups.contains c
      | _ => false))) G H Q := q
    rw [any_str] at q'
    exact q' _ G' H' nx (.bl _)
  · exact q.elim
theorem suite_xq (N : ∀ c ∈ T.cls, ClsN X.mg c (cn c)) (bi : X.mg "isinstance" = none) (ec : ErC X.K cn T.cls C er.fs er.ups)
    (hz : Zc (.ref C) (some dd) oe) (hf : ∃ vs, oe.data = .fields vs) {y : Str} {i : Nat} (hy : T.xv = some y) (hi : ixOf y X.N 0 = some i) :
    ∀ e x, cXq X.N X.env.scope.names T e = some x → PE (X.suite a ((a, oe) :: pn)) e (tE X.K (some ⟨i, a, dd, er⟩) co (Fx er F) E x) := by
  intro e x h
  unfold cXq at h
  split at h
  · rename_i g p1 y' p2 c p3
    by_cases cd : g = "isinstance" ∧ glB X.env.scope.names g = true ∧ T.xv = some y' ∧ visB X.env.scope.names y' = true ∧ y' ≠ "__debug__" ∧ y' ≠ "__classdict__"
    · rw [if_pos cd] at h
      obtain ⟨rfl, hg, hx, hv, d1, d2⟩ := cd
      rw [hy] at hx
      cases hx
      rw [hi] at h
      have nm : PE (X.suite a ((a, oe) :: pn)) (.Name y p2) (tVar i) := pe_var (X := X.suite a ((a, oe) :: pn)) (ixOf_get hi) (vis_of rfl hv) (ne_beq d1) (ne_beq d2)
      have one : ∀ {c0 : Str} {p0 : Pos}, c = .Name c0 p0 → ∀ cs, cClss X.env.scope.names T [c] = some cs → (if cs.length ≤ 1000 then some (Ex.xis i cs) else none) = some x → PE (X.suite a ((a, oe) :: pn)) (.Call (.Name "isinstance" p1) [.Name y p2, c] [] p3) (tE X.K (some ⟨i, a, dd, er⟩) co (Fx er F) E x) := by
        intro c0 p0 ec0 cs hcs hx2
        subst ec0
        unfold cClss at hcs
        by_cases g0 : glB X.env.scope.names c0 = true ∧ T.cls.contains c0 = true
        · rw [if_pos g0] at hcs
          cases hcs
          rw [if_pos (by simp)] at hx2
          cases hx2
          have hc : c0 ∈ T.cls := by simpa using g0.2
          have pa : PA (X.suite a ((a, oe) :: pn)) [.Name y p2, .Name c0 p0] _ := pa_cons nm (pa_cons (pe_clsN (X := X.suite a ((a, oe) :: pn)) g0.1 (N c0 hc)) pa_nil)
          refine pe_imp (pe_callB (call_xis ec.ex hz hf) (gl_of (X := X.suite a ((a, oe) :: pn)) hg) bi (by decide +kernel) pa (by decide +kernel) (by decide +kernel) rfl rfl) fun σ H Q ⟨ν, G, R, q⟩ => ?_
          obtain ⟨r1, ⟨ps, hd⟩, k⟩ := is_val R q
          have k1 := k G H (Nx.refl R.same)
          simp only [List.any_cons, List.any_nil, Bool.or_false] at k1
          exact ⟨.ref a, r1, _, _, _, ps, rfl, clsN_v (N c0 hc), ec.kit c0 hc, hd, k1⟩
        · rw [if_neg g0] at hcs; cases hcs
      cases c with
      | Tuple es k p =>
        cases e1 : cClss X.env.scope.names T es with
        | none => simp only [e1] at h; cases h
        | some cs =>
          simp only [e1] at h
          by_cases sz : cs.length ≤ 1000
          · rw [if_pos sz] at h
            cases h
            obtain ⟨pa, sub⟩ := pa_cls (X := X.suite a ((a, oe) :: pn)) N e1
            have pa2 : PA (X.suite a ((a, oe) :: pn)) [.Name y p2, .Tuple es k p] _ := pa_cons nm (pa_cons (pe_tup pa) pa_nil)
            refine pe_imp (pe_callB (call_xisT ec.ex hz hf) (gl_of (X := X.suite a ((a, oe) :: pn)) hg) bi (by decide +kernel) pa2 (by decide +kernel) (by decide +kernel) rfl rfl) fun σ H Q ⟨ν, G, R, q⟩ => ?_
            obtain ⟨r1, ⟨ps, hd⟩, k⟩ := is_val R q
            refine ⟨.ref a, r1, by rw [List.length_map]; exact Nat.le_trans sz (by decide), fun tp hp => ?_⟩
            exact ⟨tp, _, _, _, ps, rfl, upd_same, paired_cls N sub, kit_any ec sub, by rw [upd_ne (ne_of_none hd hp)]; exact hd, k G _ (Nx.hid R.same hp)⟩
          · rw [if_neg sz] at h; cases h
      | Name c0 p0 =>
        cases e1 : cClss X.env.scope.names T [.Name c0 p0] with
        | none => simp only [e1] at h; cases h
        | some cs => simp only [e1] at h; exact one rfl cs e1 h
      | _ => simp only [cClss] at h; cases h
    · rw [if_neg cd] at h; cases h
  · rename_i y' p1 f p2
    by_cases cd : T.xv = some y' ∧ visB X.env.scope.names y' = true ∧ y' ≠ "__debug__" ∧ y' ≠ "__classdict__"
    · rw [if_pos cd] at h
      obtain ⟨hx, hv, d1, d2⟩ := cd
      rw [hy] at hx
      cases hx
      rw [hi] at h
      cases h
      have nm : PE (X.suite a ((a, oe) :: pn)) (.Name y p1) (tVar i) := pe_var (X := X.suite a ((a, oe) :: pn)) (ixOf_get hi) (vis_of rfl hv) (ne_beq d1) (ne_beq d2)
      by_cases hn : f ∈ er.fs
      · refine pe_imp (pe_xf ec.xf (ec.nf f hn) hz hf nm) fun σ H Q ⟨ν, G, R, q⟩ => ?_
        simp only [evE] at q
        split at q
        · rename_i en
          obtain ⟨r1, ps, r2, r3⟩ := R.x _ rfl
          have q' : Pst X.K co (E σ) (Res.ofO ((er.fs.zip er.args).lookup f)) G H Q := q
          cases e1 : (er.fs.zip er.args).lookup f with
          | none => rw [e1] at q'; exact q'.elim
          | some d =>
            rw [e1] at q'
            obtain ⟨v, v1, v2⟩ := r3 f d e1
            exact ⟨.ref a, r1 en, rfl, rfl, dd, ps, v, rfl, R.same _ _ r2, v1, q' v G H (Nx.refl R.same) v2⟩
        · exact q.elim
      · refine pe_imp (pe_no (X := X.suite a ((a, oe) :: pn))) fun σ H Q ⟨ν, G, R, q⟩ => ?_
        simp only [evE] at q
        split at q
        · have q' : Pst X.K co (E σ) (Res.ofO ((er.fs.zip er.args).lookup f)) G H Q := q
          rw [zip_no hn] at q'
          exact q'.elim
        · exact q.elim
    · rw [if_neg cd] at h; cases h
  · cases h
end
end Pe

set_option Elab.async false
set_option linter.all false
set_option maxRecDepth 100000
set_option maxHeartbeats 4000000
/-! Xr: own errors are made. -/
namespace Pe
open PySem PySem.Spec PyProof.Rows L2
/-- __init__ of an own error: each argument becomes a field -/
def spI (K : Fg) (C : Addr) (fs : List Str) : Sp := fun vs H Q E => ∃ a ys, vs = .ref a :: ys ∧ ys.length = fs.length ∧ H a = some (exo a C none) ∧
  ∀ (dx : Addr) (ps : List (Str × V)) (H2 : Hp), H dx = none → dx ≠ a → H2 a = some (exo a C (some dx)) → H2 dx = some (exd dx ps) → (∀ f, ps.lookup f = (fs.zip ys).lookup f) → (∀ b, b ≠ a → b ≠ dx → H2 b = H b) → Q .non H2
def initB : List Str → List Stmt → Bool
  | [], [] => true
  | f :: fs, .Assign [.Attribute (.Name s _) g _] (.Name v _) _ :: ss => decide (s = "self") && decide (g = f) && decide (v = f) && initB fs ss
  | _, _ => false
def tIn (K : Fg) : List (Str × Nat) → TS
  | [] => fun D σ H => D.nx σ H
  | (f, i) :: r => fun D σ H => tOst K f (tVar 0) (tVar i) { D with nx := fun σ' H' => tIn K r D σ' H' } σ H
theorem initB_cons {f : Str} {fs : List Str} {s : Stmt} {ss : List Stmt} (h : initB (f :: fs) (s :: ss) = true) : (∃ p1 p2 p3 p4, s = .Assign [.Attribute (.Name "self" p1) f p2] (.Name f p3) p4) ∧ initB fs ss = true := by
  unfold initB at h
  split at h
  · rename_i e _
    cases e
  · rename_i e1 e2
    cases e1
    cases e2
    simp only [Bool.and_eq_true, decide_eq_true_eq] at h
    obtain ⟨⟨⟨h1, h2⟩, h3⟩, h⟩ := h
    subst h1 h2 h3
    exact ⟨⟨_, _, _, _, rfl⟩, h⟩
  · exact absurd h (by simp)
theorem zip_no2 {g : Str} : ∀ {fs : List Str} {ys : List V}, g ∉ fs → (fs.zip ys).lookup g = none
  | [], _, _ => by simp
  | f :: fs, [], _ => by simp
  | f :: fs, y :: ys, h => by
    have e2 : (g == f) = false := by simpa using fun e : g = f => h (by rw [e]; exact List.mem_cons_self)
    rw [List.zip_cons_cons]
    simp only [List.lookup, e2]
    exact zip_no2 fun q => h (List.mem_cons_of_mem _ q)
section
variable {X : Cx}
theorem init_pss : ∀ {fs : List Str} {ss : List Stmt} {is : List Nat}, initB fs ss = true → fs.length = is.length → (∀ p ∈ fs.zip is, X.N[p.2]? = some p.1 ∧ Vis X.env.scope p.1 ∧ p.1 ≠ "__debug__" ∧ p.1 ≠ "__classdict__") → X.N[0]? = some ("self" : Str) → Vis X.env.scope "self" → PSs X ss (tIn X.K (fs.zip is))
  | [], [], _, _, _, _, _, _ => pss_imp pss_nil fun D σ H h => (by simpa [tIn] using h : D.nx σ H)
  | [], _ :: _, _, h, _, _, _, _ => by simp [initB] at h
  | _ :: _, [], _, h, _, _, _, _ => by simp [initB] at h
  | f :: fs, s :: ss, [], _, h, _, _, _ => by cases h
  | f :: fs, s :: ss, i :: is, h, hl, hv, hN, hs => by
    obtain ⟨⟨p1, p2, p3, p4, rfl⟩, h2⟩ := initB_cons h
    obtain ⟨v1, v2, v3, v4⟩ := hv (f, i) (by simp)
    have one : PS X (.Assign [.Attribute (.Name "self" p1) f p2] (.Name f p3) p4) (tOst X.K f (tVar 0) (tVar i)) := ps_ost (pe_var hN hs) (pe_var v1 v2 (ne_beq v3) (ne_beq v4))
    have more := init_pss (fs := fs) (ss := ss) (is := is) h2 (by simpa using hl) (fun p hp => hv p (by simp [hp])) hN hs
    exact pss_imp (pss_cons one more) fun D σ H q => q
theorem look_rev {g : Str} : ∀ {fs : List Str} {ys : List V} {ps : List (Str × V)}, fs.Nodup → ((fs.zip ys).reverse ++ ps).lookup g = (match (fs.zip ys).lookup g with
    | some v => some v
    | none => ps.lookup g)
  | [], ys, ps, _ => by simp
  | f :: fs, [], ps, _ => by simp
  | f :: fs, y :: ys, ps, nd => by
    obtain ⟨n1, n2⟩ := List.nodup_cons.mp nd
    rw [List.zip_cons_cons, List.reverse_cons, List.append_assoc, look_rev n2]
    by_cases e : g = f
    · subst e
      rw [zip_no2 n1]
      simp [List.lookup]
    · have e2 : (g == f) = false := by simpa using e
      simp only [List.lookup, e2]
      cases (fs.zip ys).lookup g with
      | some v => rfl
      | none => simp [List.lookup, e2]
theorem tIn_old {K : Fg} {C a dx : Addr} (T : OexC K C) {D : Ends} {σ : L2.St} (h0 : σ[0]? = some (some (.ref a))) (ne : dx ≠ a) : ∀ {fs : List Str} {is : List Nat} {ys : List V} {ps : List (Str × V)} {H : Hp}, fs.length = is.length → fs.length = ys.length →
    (∀ f ∈ fs, PySem.W.findIn K (.ref C) f = some none) → (∀ p ∈ is.zip ys, σ[p.1]? = some (some p.2)) → H a = some (exo a C (some dx)) → H dx = some (exd dx ps) → ps.length + fs.length ≤ 900 →
    (∀ H2, H2 a = some (exo a C (some dx)) → H2 dx = some (exd dx ((fs.zip ys).reverse ++ ps)) → (∀ b, b ≠ dx → H2 b = H b) → D.nx σ H2) → tIn K (fs.zip is) D σ H
  | [], [], ys, ps, H, _, hy, _, _, ha, hd, _, k => by
    cases ys with
    | nil => exact k H ha hd fun _ _ => rfl
    | cons _ _ => cases hy
  | f :: fs, i :: is, y :: ys, ps, H, hl, hy, hn, hσ, ha, hd, hz, k => by
    have hz' : ps.length + (fs.length + 1) ≤ 900 := hz
    refine ⟨y, hσ (i, y) (by simp), .ref a, h0, a, C, rfl, T, hn f List.mem_cons_self, .inr ⟨dx, ps, ha, hd, by omega, ?_⟩⟩
    refine tIn_old T h0 ne (by simpa using hl) (by simpa using hy) (fun g hg => hn g (List.mem_cons_of_mem _ hg)) (fun p hp => hσ p (by simp [hp])) (by rw [upd_ne (Ne.symm ne)]; exact ha) upd_same (by simp only [List.length_cons]; omega) fun H2 h1 h2 h3 => ?_
    refine k H2 h1 ?_ fun b hb => by rw [h3 b hb, upd_ne hb]
    rw [h2, List.zip_cons_cons, List.reverse_cons, List.append_assoc]
    rfl
  | [], _ :: _, _, _, _, hl, _, _, _, _, _, _, _ => by cases hl
  | _ :: _, [], _, _, _, hl, _, _, _, _, _, _, _ => by cases hl
  | _ :: _, _ :: _, [], _, _, _, hy, _, _, _, _, _, _ => by cases hy
theorem tIn_new {K : Fg} {C a : Addr} (T : OexC K C) {D : Ends} {σ : L2.St} (h0 : σ[0]? = some (some (.ref a))) {f : Str} {fs : List Str} {i : Nat} {is : List Nat} {y : V} {ys : List V} {H : Hp} (nd : (f :: fs).Nodup) (hl : fs.length = is.length) (hy : fs.length = ys.length)
    (hn : ∀ g ∈ f :: fs, PySem.W.findIn K (.ref C) g = some none) (hσ : ∀ p ∈ (i :: is).zip (y :: ys), σ[p.1]? = some (some p.2)) (ha : H a = some (exo a C none)) (hz : fs.length ≤ 800)
    (k : ∀ (dx : Addr) (ps : List (Str × V)) (H2 : Hp), H dx = none → dx ≠ a → H2 a = some (exo a C (some dx)) → H2 dx = some (exd dx ps) → (∀ g, ps.lookup g = ((f :: fs).zip (y :: ys)).lookup g) → (∀ b, b ≠ a → b ≠ dx → H2 b = H b) → D.nx σ H2) : tIn K ((f :: fs).zip (i :: is)) D σ H := by
  refine ⟨y, hσ (i, y) (by simp), .ref a, h0, a, C, rfl, T, hn f List.mem_cons_self, .inl ⟨ha, fun dx hdx ne => ?_⟩⟩
  refine tIn_old (dx := dx) T h0 ne hl hy (fun g hg => hn g (List.mem_cons_of_mem _ hg)) (fun p hp => hσ p (by simp [hp])) upd_same (by rw [upd_ne ne, upd_same]) (by simp only [List.length_cons, List.length_nil]; omega) fun H2 h1 h2 h3 => ?_
  refine k dx _ H2 hdx ne h1 h2 (fun g => ?_) fun b hb1 hb2 => by rw [h3 b hb2, upd_ne hb1, upd_ne hb2]
  obtain ⟨n1, n2⟩ := List.nodup_cons.mp nd
  rw [look_rev n2, List.zip_cons_cons]
  by_cases e : g = f
  · subst e
    rw [zip_no2 n1]
    simp [List.lookup]
  · have e2 : (g == f) = false := by simpa using e
    simp only [List.lookup, e2]
    cases (fs.zip ys).lookup g <;> rfl
/-- __init__ keeps it -/
theorem init_fn {P : Program} {w : World} {K : Fg} {mg : Str → Option Value} {base : Heap} {k : Nat} {qual : Str} {st : Stmt} {fI C : Addr} {fd : FuncData} {f : Str} {fs : List Str} (D : Fun K "__init__" qual st fI fd) (S : FnScope (("self" : Str) :: f :: fs) (("self" : Str) :: f :: fs) (defScope st)) (T : OexC K C)
    (hb : initB (f :: fs) (defBody st) = true) (nd : (f :: fs).Nodup) (hn : ∀ g ∈ f :: fs, PySem.W.findIn K (.ref C) g = some none) (hd : ∀ g ∈ ("self" : Str) :: f :: fs, g ≠ "__debug__" ∧ g ≠ "__classdict__") (hz : fs.length ≤ 800) :
    FnOk P w K mg base (L2.CX P w) (k + 1) fI fd (("self" : Str) :: f :: fs) (spI K C (f :: fs)) := by
  refine Fun.okX D S (fun vs H Q E ⟨a, ys, h1, h2, _⟩ => by rw [h1, List.length_cons, h2]; rfl) fun cdv A outer s H vs Q E room ⟨a, ys, h1, h2, h3, h4⟩ => ?_
  generalize hX : cxOf (L2.CX P w) P w K mg base (("self" : Str) :: f :: fs) qual (defScope st) fI cdv A outer s H E = X
  have hN : X.N = ("self" : Str) :: f :: fs := by rw [← hX]; rfl
  have hsc : X.env.scope = defScope st := by rw [← hX]; rfl
  have hK : X.K = K := by rw [← hX]; rfl
  have vis : ∀ g ∈ ("self" : Str) :: f :: fs, Vis X.env.scope g := fun g hg => by
    rw [hsc]
    rcases S.par g hg with q | q
    · exact .inl q
    · exact .inr (.inl q)
  have ps := init_pss (X := X) (fs := f :: fs) (ss := defBody st) (is := List.range' 1 (fs.length + 1)) hb (by simp) (fun p hp => by
      obtain ⟨j, hj⟩ := List.mem_iff_getElem?.mp hp
      rw [List.getElem?_zip_eq_some] at hj
      obtain ⟨j1, j2⟩ := hj
      have e2 : p.2 = 1 + j := by
        rw [List.getElem?_range' (by have := (List.getElem?_eq_some_iff.mp j2).1; simpa using this)] at j2
        have := Option.some.inj j2
        omega
      have m : p.1 ∈ f :: fs := List.mem_of_getElem? j1
      refine ⟨by rw [hN, e2, Nat.add_comm, List.getElem?_cons_succ]; exact j1, vis _ (List.mem_cons_of_mem _ m), (hd _ (List.mem_cons_of_mem _ m)).1, (hd _ (List.mem_cons_of_mem _ m)).2⟩) (by rw [hN]; rfl) (vis _ List.mem_cons_self)
  refine ⟨_, ps, ?_⟩
  cases ys with
  | nil => cases h2
  | cons y ys =>
    rw [hK, h1]
    rw [show List.range' 1 (fs.length + 1) = 1 :: List.range' 2 fs.length from rfl]
    have e : L2.start (("self" : Str) :: f :: fs) (V.ref a :: y :: ys) = (V.ref a :: y :: ys).map some := by
      unfold L2.start
      have : (("self" : Str) :: f :: fs).length - (V.ref a :: y :: ys).length = 0 := by simp only [List.length_cons] at h2 ⊢; omega
      rw [this]
      simp
    refine tIn_new T (by rw [e]; rfl) nd (by simp) (by simpa using h2.symm) hn (fun p hp => ?_) h3 hz fun dx ps H2 a1 a2 a3 a4 a5 a6 => h4 dx ps H2 a1 a2 a3 a4 a5 a6
    rw [e]
    obtain ⟨j, hj⟩ := List.mem_iff_getElem?.mp hp
    rw [List.getElem?_zip_eq_some] at hj
    obtain ⟨j1, j2⟩ := hj
    have e2 : p.1 = 1 + j := by
      have j1' : (List.range' 1 (fs.length + 1))[j]? = some p.1 := j1
      rw [List.getElem?_range' (by have := (List.getElem?_eq_some_iff.mp j1').1; simpa using this)] at j1'
      have := Option.some.inj j1'
      omega
    rw [e2, Nat.add_comm, List.map_cons, List.getElem?_cons_succ, List.getElem?_map, j2]
    rfl
end
end Pe

set_option Elab.async false
set_option linter.all false
set_option maxRecDepth 100000
set_option maxHeartbeats 8000000
/-! Pe13: statements that are read off are what the machine does. -/
namespace Pe
open PySem L2
def PostO (K : Fg) (z : Zx) (G0 H0 : Hp) (D : Ends) : Out → Prop
  | .nx ρ => ∀ σ G H, RepS K z G0 H0 σ ρ G H → D.nx σ H
  | .rt d => ∀ v G H, Nx G0 H0 G H → Dq K G v d → D.rt v H
  | .bk ρ => ∀ σ G H, RepS K z G0 H0 σ ρ G H → D.bk σ H
  | .ct ρ => ∀ σ G H, RepS K z G0 H0 σ ρ G H → D.ct σ H
def tS (K : Fg) (z : Zx) (co : Co) (F : Str → List D → Res D) (E : XK) (w : Nat) (S : Sm) : TS := fun D σ H => ∃ G0 H0 Gb Hb ρ G, Nx G0 H0 Gb Hb ∧ RepS K z Gb H0 σ ρ G H ∧ PsR K co E (evS F w ρ S) G0 H0 (PostO K z Gb H0 D)
/-- an own error, made -/
structure ErM (X : Cx) (co : Co) (c : Str) (inf : ErI) : Prop where
  ex : ∃ (C fI : Addr) (fd : FuncData) (ps : List Str) (k : Nat), X.mg c = some (.ref C) ∧ co c inf.fs inf.ups = some C ∧ OexC X.K C ∧ PySem.W.findIn X.K (.ref C) "__init__" = some (some (.ref fI)) ∧ PySem.W.typeIn X.K (.ref fI) = some (.type "function") ∧
    FnOk X.prog X.w X.K X.mg X.base (L2.CX X.prog X.w) k fI fd ps (spI X.K C inf.fs) ∧ inf.fs.length ≤ 1000 ∧ Room (k + 1) X.A ∧ Binds X.K fd ps []
/-- the context of a def's body -/
structure Ok2 (X : Cx) (T : Tbl) (F : Str → List D → Res D) (z : Zx) (co : Co) (E : XK) : Prop where
  o : Ok1 X T F z co (fun _ => E)
  po : T.hot = false → PassesOwn (model X.prog X.w) X.A X.env X.xe
  fn : ∀ x, X.fn x = true
  zc : T.hot = false → z = none
  st : X.stack = X.env :: X.outer
  fr : X.env.frame = some X.env.locals
  tk : T.hot = false → Takes X (fun cls d _ H => E cls d H)
  ers : T.hot = false → ∀ c inf, T.ers.lookup c = some inf → ErM X co c inf
  cls : ∃ cn : Str → Value, (∀ c ∈ T.cls, ClsN X.mg c (cn c)) ∧ ∀ c fs ups C, co c fs ups = some C → ErC X.K cn T.cls C fs ups
section
variable {K : Fg} {z : Zx} {co : Co} {E : XK} {F : Str → List D → Res D} {G0 H0 Gb Hb G H : Hp} {σ : St} {ρ : List Sl}
theorem PsR.bind {α β : Type} {r : Res α} {f : α → Res β} {k : β → Prop} (h : PsR K co E (r.bind f) G H k) : PsR K co E r G H fun a => PsR K co E (f a) G H k := by
  cases r <;> exact h
theorem PsR.imp {α : Type} {r : Res α} {k k' : α → Prop} (h : PsR K co E r G H k) (i : ∀ a, r = .ok a → k a → k' a) : PsR K co E r G H k' := by
  cases r with
  | ok a => exact i a rfl h
  | err _ => exact h
  | no => exact h
/-- from a def's entry to an expression -/
theorem PsR.at {α : Type} {r : Res α} {k k' : α → Prop} {G1 H1 : Hp} (h : PsR K co E r G0 H0 k) (x : Nx G0 H0 G1 H1) (i : ∀ a, r = .ok a → k a → k' a) : PsR K co E r G1 H1 k' := PsR.mono h x i
/-- a value by its way -/
theorem evK_go {x : Ex} {k : Bool} {m : List Nat} {Q : VK} (xb : Nx G0 H0 Gb Hb) (R : RepS K z Gb H0 σ ρ G H) (h : PsR K co E (evK F ρ x k m) G0 H0 fun a => ∀ v G' H', RepS K z Gb H0 σ a.2 G' H' → Dq K G' v a.1 → Same H H' → Q v H') : tE K z co F (fun _ => E) x σ H Q := by
  cases k with
  | true =>
    have h := PsR.bind (h : PsR K co E ((evE F (vw ρ) x).bind fun d => if noL d = true then .ok (d, ρ) else .no) G0 H0 _)
    refine ⟨vw ρ, _, R.view, PsR.toP (h.at (R.base xb).nxP fun d _ q v G' H' nx hv => ?_)⟩
    by_cases n : noL d = true
    · rw [if_pos n] at q
      exact q v _ H' (R.backP nx) (R.backD nx n hv) nx.h
    · rw [if_neg n] at q
      exact q.elim
  | false =>
    obtain ⟨G1, R1⟩ := R.frz m
    have h := PsR.bind (h : PsR K co E ((evE F (vwN (frz m ρ)) x).bind fun d => .ok (d, frz m ρ)) G0 H0 _)
    exact ⟨_, _, R1.viewN, PsR.toP (h.at (R1.base xb).nx fun d _ q v G' H' nx hv => q v G' H' (R1.back nx) hv nx.h)⟩
/-- a test -/
theorem tst_go {c : Ex} {Q : Bool → Hp → Prop} (xb : Nx G0 H0 Gb Hb) (R : RepS K z Gb H0 σ ρ G H) (h : PsR K co E (tst F ρ c) G0 H0 fun b => ∀ G' H', RepS K z Gb H0 σ ρ G' H' → Q b H') : tT K z co F (fun _ => E) c σ H Q :=
  ⟨vw ρ, _, R.view, h.at (R.base xb).nxP fun b _ q G' H' nx => q _ H' (R.backP nx)⟩
/-- what is returned, what is walked -/
theorem evN_go {x : Ex} {m : List Nat} {Q : VK} (xb : Nx G0 H0 Gb Hb) (R : RepS K z Gb H0 σ ρ G H) (h : PsR K co E (evE F (vwN (frz m ρ)) x) G0 H0 fun d => ∀ v G' H', RepS K z Gb H0 σ (frz m ρ) G' H' → Dq K G' v d → Q v H') : tE K z co F (fun _ => E) x σ H Q := by
  obtain ⟨G1, R1⟩ := R.frz m
  exact ⟨_, _, R1.viewN, PsR.toP (h.at (R1.base xb).nx fun d _ q v G' H' nx hv => q v G' H' (R1.back nx) hv)⟩
theorem setS_go {tg : Sum Nat (List Nat)} {d : D} {v : V} {ρ' : List Sl} {Q : St → Hp → Prop} (R : RepS K z G0 H0 σ ρ G H) (r : Dq K G v d) (h : setS ρ tg d = some ρ') (k : ∀ σ', RepS K z G0 H0 σ' ρ' G H → Q σ' H) : tG K tg v σ H Q := by
  cases tg with
  | inl i =>
    cases h
    exact k _ (R.set i r)
  | inr is =>
    cases r with
    | tup hs a =>
      rename_i p vs ds
      have h' : setAllS ρ is ds = some ρ' := h
      have hl : ∀ {is : List Nat} {ds : List D} {ρ ρ' : List Sl}, setAllS ρ is ds = some ρ' → ds.length = is.length := by
        intro is
        induction is with
        | nil => intro ds ρ ρ' h; cases ds with
          | nil => rfl
          | cons _ _ => cases h
        | cons i is ih => intro ds ρ ρ' h; cases ds with
          | nil => cases h
          | cons d ds => exact congrArg (· + 1) (ih (ds := ds) h)
      refine ⟨p, vs, rfl, seqT_same R.nx.s hs, by rw [dpa_len a, hl h'], ?_⟩
      clear h hs hl
      induction is generalizing ds vs σ ρ with
      | nil =>
        cases a with
        | nil => cases h'; exact ⟨rfl, k σ R⟩
        | cons _ _ => cases h'
      | cons i is ih =>
        cases a with
        | nil => cases h'
        | cons r t => exact ⟨_, _, rfl, ih (R.set i r) t h'⟩
    | _ => cases h
end

section
variable {X : Cx} {T : Tbl} {F : Str → List D → Res D} {z : Zx} {co : Co} {E : XK} {w : Nat}
theorem sto_def (O : Ok2 X T F z co E) : Sto X X.env.scope.names := fun x h => ⟨loc_of h, .inl (O.fn x)⟩
theorem swaps_no {e : Expr} {tg : Option Expr} {l : Nat} (h : notComp e = true) : swapsWith e tg l X.env = pure false := by
  cases e with
  | ListComp _ _ _ _ => cases h
  | SetComp _ _ _ _ => cases h
  | DictComp _ _ _ _ _ => cases h
  | _ => rfl
theorem swaps_comp {elt : Expr} {gs : List Comprehension} {scope : Scope} {p q : Pos} {y : Str} {l : Nat} : ∃ b : Bool, swapsWith (.ListComp elt gs scope p) (some (.Name y q)) l X.env = pure b ∧ (b = true → X.env.scope.names.lookup y = some .local) := by
  refine ⟨_, rfl, fun h => ?_⟩
  simp only [Bool.and_eq_true] at h
  have h2 : (X.env.scope.names.lookup y == some NameKind.local) = true := h.1.1.2
  exact eq_of_beq h2
/-- name = value, by the value's form -/
theorem asg_ok (O : Ok2 X T F z co E) {n : Nat} {y : Str} {i : Nat} {e : Expr} {x : Ex} {p q : Pos} (g : locB X.env.scope.names y = true) (hi : ixOf y X.N 0 = some i) (h : cE X.N T n X.env.scope e = some x) :
    ∃ te : TE, PS X (.Assign [.Name y q] e p) (tAsg te (gName i)) ∧ (∀ σ H Q, tE X.K z co F (fun _ => E) x σ H Q → te σ H Q) ∧ (isNewE e = true → ∀ σ H Q, tF X.K z co F (fun _ => E) x σ H Q → te σ H Q) := by
  have S := snd n O.o
  by_cases nc : notComp e = true
  · by_cases nw : isNewE e = true
    · -- a display
      cases n with
      | zero => simp [cE] at h
      | succ n =>
        have S' := snd n O.o
        cases e with
        | List es p' =>
          have h : (cArgs (cE X.N T n X.env.scope) es).map Ex.lst = some x := h
          cases e1 : cArgs (cE X.N T n X.env.scope) es with
          | none => rw [e1] at h; cases h
          | some lz =>
            rw [e1] at h
            cases h
            have base := pe_lst (pos := p') (snd_args S' e1)
            have key : ∀ σ H Q, tF X.K z co F (fun _ => E) (.lst lz) σ H Q → tLst (tA X.K z co F (fun _ => E) lz) σ H Q := fun σ H Q ⟨ν, G, R, k⟩ => by
              simp only [evE] at k
              have k' : PsR X.K co E ((evE F ν lz).bind fun y => listR y fun ds => if ds.length ≤ sizeLine then .ok ds else .no) G H (FrL X.K G H Q) := by
                revert k
                cases evE F ν lz with
                | ok d => cases d with
                  | list ds =>
                    show PsR X.K co E ((if ds.length ≤ sizeLine then Res.ok (PyData.list ds) else Res.no).bind fun y => listR y .ok) G H (FrL X.K G H Q) → PsR X.K co E (if ds.length ≤ sizeLine then .ok ds else .no) G H (FrL X.K G H Q)
                    by_cases hz : ds.length ≤ sizeLine
                    · rw [if_pos hz, if_pos hz]; exact id
                    · rw [if_neg hz, if_neg hz]; exact id
                  | _ => exact id
                | err _ => exact id
                | no => exact id
              refine tA.then R k' fun ds vs G1 H1 s ha R1 k1 => ?_
              by_cases hz : ds.length ≤ sizeLine
              · rw [if_pos hz] at k1
                exact ⟨by rw [dpa_len ha]; exact hz, fun L hL => k1 L vs G1 _ (s.trans (Nx.hid s.s hL)) (s.s.free hL) (s.h.free hL) upd_same ha⟩
              · rw [if_neg hz] at k1; exact k1.elim
            refine ⟨_, ps_set O.o.nd (ixOf_get hi) (loc_of g) base rfl (.inl (O.fn y)), fun σ H Q t => ?_, fun _ => key⟩
            refine key σ H Q (tF_of (fun ν d ev => ?_) t)
            simp only [evE] at ev
            cases e2 : evE F ν lz with
            | ok d => cases d with
              | list ds =>
                rw [e2] at ev
                have ev' : (if ds.length ≤ sizeLine then Res.ok (PyData.list ds) else Res.no) = .ok _ := ev
                by_cases hz : ds.length ≤ sizeLine
                · rw [if_pos hz] at ev'; cases ev'; exact ⟨_, rfl⟩
                · rw [if_neg hz] at ev'; cases ev'
              | _ => rw [e2] at ev; cases ev
            | err _ => rw [e2] at ev; cases ev
            | no => rw [e2] at ev; cases ev
        | ListComp _ _ _ _ => cases nc
        | _ => cases nw
    · refine ⟨_, ps_set O.o.nd (ixOf_get hi) (loc_of g) (S.e _ _ h) (swaps_no nc) (.inl (O.fn y)), fun _ _ _ z => z, fun z => absurd z nw⟩
  · -- a comprehension
    cases n with
    | zero => simp [cE] at h
    | succ n =>
      have S' := snd n O.o
      cases e with
      | ListComp elt gens scope p' =>
        unfold cE at h
        split at h
        all_goals try contradiction
        · rename_i elt1 tg iter ifs scope1 p1 hee
          cases hee
          by_cases c : notSet iter = true ∧ blkC X.N X.env.scope scope (ownOf X.N scope.names) = true ∧ T.hot = false
          · rw [if_pos c] at h
            split at h
            · rename_i it' tg' el' h1 h2 h3
              by_cases hin : tgIn ((ownOf X.N scope.names).map (·.2)) tg' = true
              · rw [if_pos hin] at h
                have B : ∀ (s : Shared) (H : Hp) (C : Addr) (cl : List (Str × Addr)) (fp : List Addr), Snd (X.blk s H scope (compEnvC scope cl C X.env) fp) T F none co EN (cE X.N T n (relS scope X.env.scope)) :=
                  fun s H C cl fp => snd n (O.o.blk c.2.2 s H scope (compEnvC scope cl C X.env) fp)
                have fin : ∀ {cd : Ex}, ((ifs = [] ∧ cd = .cst (.bool true)) ∨ ∃ c, ifs = [c] ∧ testOk c = true ∧ cE X.N T n (relS scope X.env.scope) c = some cd) →
                    ∃ te : TE, PS X (.Assign [.Name y q] (.ListComp elt [⟨tg, iter, ifs, 0⟩] scope p') p) (tAsg te (gName i)) ∧ (∀ σ H Q, tE X.K z co F (fun _ => E) (.comp el' it' cd tg' ((ownOf X.N scope.names).map (·.2))) σ H Q → te σ H Q) ∧
                      (isNewE (.ListComp elt [⟨tg, iter, ifs, 0⟩] scope p') = true → ∀ σ H Q, tF X.K z co F (fun _ => E) (.comp el' it' cd tg' ((ownOf X.N scope.names).map (·.2))) σ H Q → te σ H Q) := fun {cd} hc => by
                  obtain ⟨te, k1, k2, k3⟩ := snd_comp (p := p') O.o S' B c.1 c.2.1 c.2.2 h1 h2 h3 hin hc
                  obtain ⟨b, e1, e2⟩ := swaps_comp (X := X) (elt := elt) (gs := [⟨tg, iter, ifs, 0⟩]) (scope := scope) (p := p') (q := q) (y := y) (l := p.line)
                  refine ⟨te, ?_, fun σ H Q z => k3 σ H Q (tF_of (fun _ _ => comp_list) z), fun _ => k3⟩
                  cases b with
                  | true => exact k2 y i q p (ixOf_get hi) (e2 rfl) e1
                  | false => exact ps_set O.o.nd (ixOf_get hi) (loc_of g) k1 e1 (.inl (O.fn y))
                split at h
                · cases h
                  exact fin (.inl ⟨rfl, rfl⟩)
                · rename_i c1
                  by_cases ht : testOk c1 = true
                  · rw [if_pos ht] at h
                    cases e : cE X.N T n (relS scope X.env.scope) c1 with
                    | none => rw [e] at h; cases h
                    | some z =>
                      rw [e] at h
                      cases h
                      exact fin (.inr ⟨c1, rfl, ht, e⟩)
                  · rw [if_neg ht] at h; cases h
                · cases h
              · rw [if_neg hin] at h; cases h
            · cases h
          · rw [if_neg c] at h; cases h
      | SetComp _ _ _ _ => cases h
      | DictComp _ _ _ _ _ => cases h
      | _ => exact absurd rfl nc
end
end Pe

set_option Elab.async false
set_option linter.all false
set_option maxRecDepth 100000
set_option maxHeartbeats 8000000
/-! Pe14: all statements. -/
namespace Pe
open PySem L2
section
variable {X : Cx} {T : Tbl} {F : Str → List D → Res D} {z : Zx} {co : Co} {E : XK} {w : Nat}

theorem stm_set (O : Ok2 X T F z co E) {n : Nat} {y : Str} {i : Nat} {e : Expr} {x : Ex} {p q : Pos} {k : Bool} {m : List Nat} (g : locB X.env.scope.names y = true) (hi : ixOf y X.N 0 = some i) (h : cE X.N T n X.env.scope e = some x) :
    PS X (.Assign [.Name y q] e p) (tS X.K z co F E w (.set i x k m)) := by
  obtain ⟨te, h1, h2, _⟩ := asg_ok (p := p) (q := q) O g hi h
  refine ps_imp h1 fun D σ H ⟨G0, H0, Gb, Hb, ρ, G, xb, R, r⟩ => h2 σ H _ (evK_go (k := k) (m := m) xb R ?_)
  have r' := PsR.bind (show PsR X.K co E ((evK F ρ x k m).bind fun a => .ok (Out.nx (a.2.set i (.val a.1)))) G0 H0 (PostO X.K z Gb H0 D) by simpa only [evS] using r)
  exact r'.imp fun a _ z v G' H' R' hv _ => z _ G' H' (R'.set i hv)
theorem stm_new (O : Ok2 X T F z co E) {n : Nat} {y : Str} {i : Nat} {e : Expr} {x : Ex} {p q : Pos} {m : List Nat} (g : locB X.env.scope.names y = true) (hi : ixOf y X.N 0 = some i) (nw : isNewE e = true) (hz : ∀ q, z = some q → q.i ≠ i) (h : cE X.N T n X.env.scope e = some x) :
    PS X (.Assign [.Name y q] e p) (tS X.K z co F E w (.new i x m)) := by
  obtain ⟨te, h1, _, h2⟩ := asg_ok (p := p) (q := q) O g hi h
  refine ps_imp h1 fun D σ H ⟨G0, H0, Gb, Hb, ρ, G, xb, R, r⟩ => h2 nw σ H _ ?_
  obtain ⟨G1, R1⟩ := R.frz m
  refine ⟨_, _, R1.viewN, ?_⟩
  have r' : PsR X.K co E (((evE F (vwN (frz m ρ)) x).bind fun y => listR y .ok).bind fun r => .ok (.nx ((frz m ρ).set i (.own r)))) G0 H0 (PostO X.K z Gb H0 D) := by
    simp only [evS] at r
    revert r
    cases evE F (vwN (frz m ρ)) x with
    | ok d => cases d <;> exact id
    | err _ => exact id
    | no => exact id
  refine (PsR.bind r').at (R1.base xb).nx fun rs _ z L acc G' H' nx gL hL hl ha => z _ G' H' ((R1.back nx).new i hz (fun j ys e1 e2 => ?_) hl gL (R1.nx.h.free hL) ha)
  obtain ⟨p', vs, a1, a2, _⟩ := R1.own j ys e1
  rw [e2] at a1
  cases a1
  rw [hL] at a2
  cases a2
theorem stm_unp (O : Ok2 X T F z co E) {n : Nat} {es : List Expr} {is : List Nat} {e : Expr} {x : Ex} {j : Nat} {p q : Pos} {k : Bool} {m : List Nat} (nt : notTup e = true) (cool : T.hot = false) (ht : cTgs X.N X.env.scope.names es = some is) (h : cE X.N T n X.env.scope e = some x) :
    PS X (.Assign [.Tuple es j q] e p) (tS X.K z co F E w (.unp is x k m)) := by
  have tg : PG X (.Tuple es j q) (tG X.K (.inr is)) := tg_ok O.o.nd (O.o.calm cool) (sto_def O) (by show (cTgs X.N X.env.scope.names es).map Sum.inr = _; rw [ht]; rfl)
  have base := ps_asg (pos := p) ((snd n O.o).e _ _ h) tg (by cases e <;> rfl) (by cases e <;> first | rfl | cases nt) rfl
  refine ps_imp base fun D σ H ⟨G0, H0, Gb, Hb, ρ, G, xb, R, r⟩ => evK_go (k := k) (m := m) xb R ?_
  have r' := PsR.bind (show PsR X.K co E ((evK F ρ x k m).bind fun a => (Res.ofO (setS a.2 (.inr is) a.1)).bind fun ρ' => .ok (Out.nx ρ')) G0 H0 (PostO X.K z Gb H0 D) by simpa only [evS] using r)
  refine r'.imp fun a _ z v G' H' R' hv _ => ?_
  cases e1 : setS a.2 (.inr is) a.1 with
  | none => rw [e1] at z; exact z.elim
  | some ρ' =>
    rw [e1] at z
    exact setS_go R' hv e1 fun σ' R2 => z σ' G' H' R2
theorem frz_own : ∀ {m : List Nat} {ρ : List Sl} {i : Nat} {xs : List D}, (frz m ρ)[i]? = some (.own xs) → ρ[i]? = some (.own xs)
  | [], _, _, _, h => h
  | j :: m, ρ, i, xs, h => by
    unfold frz at h
    split at h
    · have h' := frz_own h
      by_cases e : j = i
      · subst e
        have hj : j < ρ.length := by
          have := (List.getElem?_eq_some_iff.mp h').1
          rwa [List.length_set] at this
        rw [List.getElem?_set_self hj] at h'
        cases h'
      · rwa [List.getElem?_set_ne e] at h'
    · exact frz_own h
theorem evK_own {ρ : List Sl} {x : Ex} {k : Bool} {m : List Nat} {a : D × List Sl} {i : Nat} {xs : List D} (h : evK F ρ x k m = .ok a) (e : a.2[i]? = some (.own xs)) : ρ[i]? = some (.own xs) := by
  cases k with
  | true =>
    have h' : ((evE F (vw ρ) x).bind fun d => if noL d = true then Res.ok (d, ρ) else .no) = .ok a := h
    cases e1 : evE F (vw ρ) x with
    | ok d =>
      rw [e1] at h'
      have h2 : (if noL d = true then Res.ok (d, ρ) else .no) = .ok a := h'
      by_cases n : noL d = true
      · rw [if_pos n] at h2; cases h2; exact e
      · rw [if_neg n] at h2; cases h2
    | err _ => rw [e1] at h'; cases h'
    | no => rw [e1] at h'; cases h'
  | false =>
    have h' : ((evE F (vwN (frz m ρ)) x).bind fun d => Res.ok (d, frz m ρ)) = .ok a := h
    cases e1 : evE F (vwN (frz m ρ)) x with
    | ok d => rw [e1] at h'; cases h'; exact frz_own e
    | err _ => rw [e1] at h'; cases h'
    | no => rw [e1] at h'; cases h'
theorem stm_app (O : Ok2 X T F z co E) {n : Nat} {y : Str} {i : Nat} {a : Expr} {x : Ex} {ap cp p q : Pos} {k : Bool} {m : List Nat} (g : visB X.env.scope.names y = true) (d1 : y ≠ "__debug__") (d2 : y ≠ "__classdict__") (hl : (ap.endLine == cp.line) = true)
    (hi : ixOf y X.N 0 = some i) (h : cE X.N T n X.env.scope a = some x) : PS X (.Expr (.Call (.Attribute (.Name y q) "append" ap) [a] [] cp) p) (tS X.K z co F E w (.app i x k m)) := by
  have S := snd n O.o
  have st := star_of (es := []) (env := X.env) (S.star _ _ h)
  have pa : PA X [a] (tCons (tE X.K z co F (fun _ => E) x) tNil) := pa_cons (S.e _ _ h) pa_nil st
  have pn : PE X (.Name y q) (tVar i) := pe_var (ixOf_get hi) (vis_of rfl g) (ne_beq d1) (ne_beq d2)
  have base := ps_expr (pos := p) (pe_bm (cpos := cp) (apos := ap) PySem.F.plainAttrs_list PySem.F.slot_list_append PySem.F.type_list_append mt_append pn pa rfl (by rw [st]; rfl) hl st rfl) rfl
  refine ps_imp base fun D σ H ⟨G0, H0, Gb, Hb, ρ, G, xb, R, r⟩ => ?_
  simp only [evS] at r
  cases e0 : ρ[i]? with
  | none => rw [e0] at r; exact r.elim
  | some s0 =>
    rw [e0] at r
    cases s0 with
    | own xs0 =>
      have r' : PsR X.K co E (evK F ρ x k m) G0 H0 fun a => PsR X.K co E (match a.2[i]? with
        | some (.own xs) => if xs.length < sizeLine then .ok (Out.nx (a.2.set i (.own (xs ++ [a.1])))) else .no
        | _ => .no) G0 H0 (PostO X.K z Gb H0 D) := PsR.bind r
      obtain ⟨l, vs0, a1, a2, a3, a4, a5⟩ := R.own i xs0 e0
      refine ⟨.ref l, a1, .inl ⟨rfl, _, SqL.of a2⟩, evK_go (k := k) (m := m) xb R (r'.imp fun b eb zz v G' H' R' hv sm => ?_)⟩
      cases e2 : b.2[i]? with
      | none => rw [e2] at zz; exact zz.elim
      | some s =>
        rw [e2] at zz
        cases s with
        | own xs =>
          obtain ⟨l', vs, b1, b2, b3, b4, b5⟩ := R'.own i xs e2
          rw [a1] at b1
          cases b1
          have z2 : PsR X.K co E (if xs.length < sizeLine then .ok (Out.nx (b.2.set i (.own (xs ++ [b.1])))) else .no) G0 H0 (PostO X.K z Gb H0 D) := zz
          by_cases hz : xs.length < sizeLine
          · rw [if_pos hz] at z2
            exact ⟨l, vs, v, rfl, rfl, b2, by rw [dpa_len b5]; exact hz, z2 σ G' _ (R'.grow e2 a1 (dpa_append b5 (.cons hv .nil)))⟩
          · rw [if_neg hz] at z2; exact z2.elim
        | _ => exact zz.elim
    | _ => exact r.elim
/-! ### name op= value -/
theorem aug_noL {op : Operator} {x y r : D} (h : augD op x y = some r) : noL r = true := by
  unfold augD at h
  split at h
  · cases h; rfl
  · cases h; rfl
  · obtain ⟨_, rfl⟩ := of_ite_some h; rfl
  · cases h
def tiD (K : Fg) (op : Operator) : TIp := fun x y H Q => ∃ G dx dy d, Same G H ∧ Dq K G x dx ∧ Dq K G y dy ∧ augD op dx dy = some d ∧ ∀ v, Dq K G v d → Q v H
theorem ip_D (op : Operator) : PIp X op (tiD X.K op) := by
  rintro pins s σ H x y v u Q I rx ry ⟨G, dx, dy, d, sm, hx, hy, hf, q⟩
  unfold augD at hf
  split at hf
  · cases hf; cases hx; cases hy; exact iop_add pins s σ H _ _ v u Q I rx ry ⟨_, _, rfl, rfl, q _ (.int _)⟩
  · cases hf; cases hx; cases hy; exact iop_sub pins s σ H _ _ v u Q I rx ry ⟨_, _, rfl, rfl, q _ (.int _)⟩
  · obtain ⟨hz, rfl⟩ := of_ite_some hf
    cases hx; cases hy
    exact iop_add_str pins s σ H _ _ v u Q I rx ry ⟨_, _, rfl, rfl, hz, q _ (.str _)⟩
  · cases hf
theorem stm_aug (O : Ok2 X T F z co E) {n : Nat} {y : Str} {i : Nat} {op : Operator} {e : Expr} {x : Ex} {p q : Pos} (g : locB X.env.scope.names y = true) (hi : ixOf y X.N 0 = some i) (h : cE X.N T n X.env.scope e = some x) :
    PS X (.AugAssign (.Name y q) op e p) (tS X.K z co F E w (.aug i op x)) := by
  have base := ps_aug (pos := p) (pos' := q) O.o.nd (ixOf_get hi) (loc_of g) ((snd n O.o).e _ _ h) (ip_D op) (.inl (O.fn y))
  refine ps_imp base fun D σ H ⟨G0, H0, Gb, Hb, ρ, G, xb, R, r⟩ => ?_
  simp only [evS] at r
  cases e0 : ρ[i]? with
  | none => rw [e0] at r; exact r.elim
  | some s0 =>
    rw [e0] at r
    cases s0 with
    | val d =>
      obtain ⟨v, a1, a2⟩ := R.val i d e0
      have r' := PsR.bind r
      refine ⟨v, a1, vw ρ, _, R.view, PsR.toP (r'.at (R.base xb).nxP fun e1 _ z u G' H' nx hu => ?_)⟩
      cases e2 : augD op d e1 with
      | none => rw [e2] at z; exact z.elim
      | some r1 =>
        rw [e2] at z
        refine ⟨G', d, e1, r1, nx.s, dp_same (R.same_gP.trans nx.g) _ _ a2, hu, e2, fun v2 hv2 => ?_⟩
        exact z _ _ H' ((R.backP nx).set i (R.backD nx (aug_noL e2) hv2))
    | _ => exact r.elim

/-! ### the others -/
theorem stm_dro (O : Ok2 X T F z co E) {n : Nat} {e : Expr} {x : Ex} {p : Pos} (nc : notComp e = true) (h : cE X.N T n X.env.scope e = some x) : PS X (.Expr e p) (tS X.K z co F E w (.dro x)) := by
  refine ps_imp (ps_expr ((snd n O.o).e _ _ h) (swaps_no nc)) fun D σ H ⟨G0, H0, Gb, Hb, ρ, G, xb, R, r⟩ => ?_
  simp only [evS] at r
  exact ⟨vw ρ, _, R.view, PsR.toP ((PsR.bind r).at (R.base xb).nxP fun _ _ z v G' H' nx _ => z σ _ H' (R.backP nx))⟩
theorem stm_ret (O : Ok2 X T F z co E) {n : Nat} {e : Expr} {x : Ex} {p : Pos} {m : List Nat} (h : cE X.N T n X.env.scope e = some x) : PS X (.Return (some e) p) (tS X.K z co F E w (.ret x m)) := by
  refine ps_imp (ps_ret ((snd n O.o).e _ _ h)) fun D σ H ⟨G0, H0, Gb, Hb, ρ, G, xb, R, r⟩ => evN_go (m := m) xb R ?_
  simp only [evS] at r
  exact (PsR.bind r).imp fun d _ z v G' H' R' hv => z v G' H' R'.nx hv
/-- a block that is data -/
structure SndB (X : Cx) (z : Zx) (co : Co) (F : Str → List D → Res D) (E : XK) (w : Nat) (f : Stmt → Option Sm) (g : Stmt → Stmt → Option Sm) : Prop where
  s : ∀ st S, f st = some S → PS X st (tS X.K z co F E w S)
  p : ∀ s t S, g s t = some S → PSs X [s, t] (tS X.K z co F E w S)
theorem stm_block {f : Stmt → Option Sm} {g : Stmt → Stmt → Option Sm} (B : SndB X z co F E w f g) : ∀ {ss : List Stmt} {S : Sm}, cB f g ss = some S → PSs X ss (tS X.K z co F E w S)
  | [], S, h => by
    cases h
    refine pss_imp pss_nil fun D σ H ⟨G0, H0, Gb, Hb, ρ, G, xb, R, r⟩ => ?_
    simp only [evS] at r
    exact r σ G H R
  | [s], S, h => pss_one (B.s _ _ h)
  | s :: t :: ss, S, h => by
    unfold cB at h
    split at h
    · rename_i S' e0
      cases h
      cases ss with
      | nil => exact B.p _ _ _ e0
      | cons _ _ => cases e0
    cases e1 : f s with
    | none => rw [e1] at h; cases h
    | some a =>
      cases e2 : cB f g (t :: ss) with
      | none => rw [e1, e2] at h; cases h
      | some b =>
        rw [e1, e2] at h
        cases h
        refine pss_imp (pss_cons (B.s _ _ e1) (stm_block B e2)) fun D σ H ⟨G0, H0, Gb, Hb, ρ, G, xb, R, r⟩ => ?_
        simp only [evS] at r
        refine ⟨G0, H0, Gb, Hb, ρ, G, xb, R, (PsR.bind r).imp fun o _ zz => ?_⟩
        cases o with
        | nx ρ' => exact fun σ' G' H' R' => ⟨G0, H0, Gb, Hb, ρ', G', xb, R', zz⟩
        | rt d => exact zz
        | bk ρ' => exact zz
        | ct ρ' => exact zz
theorem stm_if (O : Ok2 X T F z co E) {n : Nat} {f : Stmt → Option Sm} {gp : Stmt → Stmt → Option Sm} (B : SndB X z co F E w f gp) {c : Expr} {c' : Ex} {a b : List Stmt} {a' b' : Sm} {p : Pos} (ht : testOk c = true) (h : cE X.N T n X.env.scope c = some c') (h1 : cB f gp a = some a') (h2 : cB f gp b = some b') :
    PS X (.If c a b p) (tS X.K z co F E w (.ife c' a' b')) := by
  refine ps_imp (ps_if ((snd n O.o).t _ _ h ht) (stm_block B h1) (stm_block B h2)) fun D σ H ⟨G0, H0, Gb, Hb, ρ, G, xb, R, r⟩ => tst_go xb R ?_
  simp only [evS] at r
  refine (PsR.bind r).imp fun k _ z G' H' R' => ?_
  cases k with
  | true => exact iteT ⟨G0, H0, Gb, Hb, ρ, G', xb, R', z⟩
  | false => exact iteF ⟨G0, H0, Gb, Hb, ρ, G', xb, R', z⟩
theorem PostO.rebase {K : Fg} {G0 H0 G1 H1 : Hp} {D : Ends} (x : Nx G0 H0 G1 H1) {o : Out} (h : PostO K z G0 H0 D o) : PostO K z G1 H0 D o := by
  cases o with
  | nx ρ => exact fun σ G H R => h σ G H (R.base x)
  | rt d => exact fun v G H nx hv => h v G H ⟨x.g.trans nx.g, nx.s, nx.h, fun a e n => nx.n a (x.n a e n) n⟩ hv
  | bk ρ => exact fun σ G H R => h σ G H (R.base x)
  | ct ρ => exact fun σ G H R => h σ G H (R.base x)
theorem stm_for (O : Ok2 X T F z co E) {n : Nat} {f : Stmt → Option Sm} {gp : Stmt → Stmt → Option Sm} (B : SndB X z co F E w f gp) {tg it : Expr} {t : Sum Nat (List Nat)} {i : Ex} {m : List Nat} {body : List Stmt} {b : Sm} {p : Pos} (ns : notSet it = true) (cool : T.hot = false)
    (h1 : cIter X.env.scope.names T (cE X.N T n X.env.scope) tg it = some i) (h2 : cTg X.N X.env.scope.names tg = some t) (h3 : cB f gp body = some b) : PS X (.For tg it body [] p) (tS X.K z co F E w (.for_ t i m b)) := by
  have folded : ∀ x, foldedSetIterable it X.env x = pure x := fun x => by
    cases it with
    | Set _ _ _ => cases ns
    | _ => rfl
  refine ps_imp (ps_for (O.po cool) (O.o.calm cool) (iter_ok O.o (snd n O.o) h1) (tg_ok O.o.nd (O.o.calm cool) (sto_def O) h2) (stm_block B h3) folded) fun D σ H ⟨G0, H0, Gb, Hb, ρ, G, xb, R, r⟩ => ?_
  obtain ⟨G1, R1⟩ := R.frz m
  refine ⟨_, _, R1.viewN, ?_⟩
  have r' : PsR X.K co E (((evE F (vwN (frz m ρ)) i).bind fun d => listR d .ok).bind fun ds => forL (fun ρ d => match setS ρ t d with
      | some ρ' => evS F w ρ' b
      | none => .no) (frz m ρ) ds) G0 H0 (PostO X.K z Gb H0 D) := by
    simp only [evS] at r
    revert r
    cases evE F (vwN (frz m ρ)) i with
    | ok d => cases d <;> exact id
    | err _ => exact id
    | no => exact id
  refine (PsR.bind r').at (R1.base xb).nx fun ds _ zz J G2 H2 nx wk => ?_
  have R2 := R1.back nx
  obtain ⟨Y, wk, wy⟩ := wk
  have x2 : Nx G0 H0 G2 H2 := (R2.base xb).nx
  generalize hg : (fun ρ d => match setS ρ t d with
      | some ρ' => evS F w ρ' b
      | none => Res.no) = g at zz
  have gd : ∀ ρ d, g ρ d = match setS ρ t d with
      | some ρ' => evS F w ρ' b
      | none => Res.no := fun ρ d => by rw [← hg]
  refine for_it wk (fun j σ H => ∃ ρ G, RepS X.K z G2 H0 σ ρ G H ∧ PsR X.K co E (forL g ρ (ds.drop j)) G0 H0 (PostO X.K z G2 H0 D)) ⟨_, G2, R2.rebase, PsR.imp (by simpa using zz) fun o _ q => PostO.rebase R2.nx q⟩ (fun j σ H _ ⟨ρ, G, R, _⟩ => R.nx.g.trans R.nx.s) ?_ ?_
  · rintro j x σ3 H3 H4 hj ⟨ρ3, G3, R3, q⟩ y
    rw [List.drop_eq_getElem_cons hj] at q
    have q1 : PsR X.K co E (g ρ3 ds[j]) G0 H0 fun o => PsR X.K co E (match o with
      | .nx ρ' => forL g ρ' (ds.drop (j + 1))
      | .ct ρ' => forL g ρ' (ds.drop (j + 1))
      | .bk ρ' => .ok (.nx ρ')
      | .rt d => .ok (.rt d)) G0 H0 (PostO X.K z G2 H0 D) := PsR.bind q
    rw [gd] at q1
    obtain ⟨G4, nx4, hv⟩ := wy j ds[j] G3 H3 H4 x (List.getElem?_eq_getElem hj) R3.nx.g R3.nx.s y
    have R4 := R3.back nx4
    cases e1 : setS ρ3 t ds[j] with
    | none => rw [e1] at q1; exact q1.elim
    | some ρ5 =>
      rw [e1] at q1
      refine setS_go R4 hv e1 fun σ5 R5 => ⟨G0, H0, G2, H2, ρ5, G4, x2, R5, ?_⟩
      have q2 : PsR X.K co E (evS F w ρ5 b) G0 H0 _ := q1
      refine q2.imp fun o _ zz => ?_
      cases o with
      | nx ρ' => exact fun σ' G' H' R' => ⟨ρ', G', R', zz⟩
      | ct ρ' => exact fun σ' G' H' R' => ⟨ρ', G', R', zz⟩
      | bk ρ' => exact zz
      | rt d => exact zz
  · rintro σ3 H3 ⟨ρ3, G3, R3, q⟩
    rw [List.drop_length] at q
    exact q σ3 G3 H3 R3
theorem stm_whl (O : Ok2 X T F z co E) {n : Nat} {f : Stmt → Option Sm} {gp : Stmt → Stmt → Option Sm} (B : SndB X z co F E w f gp) {c : Expr} {c' : Ex} {body : List Stmt} {b : Sm} {p : Pos} (ht : testOk c = true) (cool : T.hot = false) (h1 : cE X.N T n X.env.scope c = some c') (h3 : cB f gp body = some b) :
    PS X (.While c body [] p) (tS X.K z co F E w (.whl c' b)) := by
  refine ps_imp (ps_while (O.po cool) ((snd n O.o).t _ _ h1 ht) (stm_block B h3)) fun D σ H ⟨G0, H0, Gb, Hb, ρ, G, xb, R, r⟩ => ?_
  simp only [evS] at r
  refine ⟨fun m σ H => ∃ ρ G, RepS X.K z Gb H0 σ ρ G H ∧ PsR X.K co E (whlL (fun ρ => tst F ρ c') (fun ρ => evS F w ρ b) m ρ) G0 H0 (PostO X.K z Gb H0 D), ⟨w, ρ, G, R, r⟩, ?_⟩
  rintro m σ H ⟨ρ, G, R, r⟩
  cases m with
  | zero => exact r.elim
  | succ m =>
    refine tst_go xb R ((PsR.bind r).imp fun k _ zz G' H' R' => ?_)
    cases k with
    | false => exact iteF (zz σ G' H' R')
    | true =>
      refine iteT ⟨fun σ H => ∃ ρ G, RepS X.K z Gb H0 σ ρ G H ∧ PsR X.K co E (whlL (fun ρ => tst F ρ c') (fun ρ => evS F w ρ b) m ρ) G0 H0 (PostO X.K z Gb H0 D), fun σ' H' q => ⟨m, Nat.lt_succ_self _, q⟩, G0, H0, Gb, Hb, ρ, G', xb, R', ?_⟩
      have z' : PsR X.K co E ((evS F w ρ b).bind fun o => match o with
        | .nx ρ' => whlL (fun ρ => tst F ρ c') (fun ρ => evS F w ρ b) m ρ'
        | .ct ρ' => whlL (fun ρ => tst F ρ c') (fun ρ => evS F w ρ b) m ρ'
        | .bk ρ' => .ok (.nx ρ')
        | .rt d => .ok (.rt d)) G0 H0 (PostO X.K z Gb H0 D) := zz
      refine (PsR.bind z').imp fun o _ zz => ?_
      cases o with
      | nx ρ' => exact fun σ' G' H' R' => ⟨ρ', G', R', zz⟩
      | ct ρ' => exact fun σ' G' H' R' => ⟨ρ', G', R', zz⟩
      | bk ρ' => exact zz
      | rt d => exact zz
end
end Pe

set_option Elab.async false
set_option linter.all false
set_option maxRecDepth 100000
set_option maxHeartbeats 8000000
/-! Py1: raise; a def out of a table; try. -/
namespace Pe
open PySem L2
section
variable {X : Cx} {T : Tbl} {F : Str → List D → Res D} {z : Zx} {co : Co} {E : XK} {w : Nat}
/-- arguments by their way -/
theorem argN_go {K : Fg} {G0 H0 Gb Hb G H : Hp} {σ : St} {ρ : List Sl} {as : Ex} {m : List Nat} {Q : List V → Hp → Prop} (xb : Nx G0 H0 Gb Hb) (R : RepS K z Gb H0 σ ρ G H)
    (h : PsR K co E ((evE F (vwN (frz m ρ)) as).bind fun d => listR d .ok) G0 H0 fun ds => ∀ vs G' H', RepS K z Gb H0 σ (frz m ρ) G' H' → DqAll K G' vs ds → Q vs H') : tA K z co F (fun _ => E) as σ H Q := by
  obtain ⟨G1, R1⟩ := R.frz m
  exact ⟨_, _, R1.viewN, h.at (R1.base xb).nx fun ds _ q vs G' H' nx ha => q vs G' H' (R1.back nx) ha⟩
theorem list_bind {α : Type} {r : Res D} {f : List D → Res α} : (r.bind fun d => listR d f) = (r.bind fun d => listR d .ok).bind f := by
  cases r with
  | ok d => cases d <;> rfl
  | err _ => rfl
  | no => rfl
theorem stm_raise (O : Ok2 X T F z co E) {n : Nat} {c : Str} {inf : ErI} {as : List Expr} {x : Ex} {m : List Nat} {p pos pos' : Pos} (cool : T.hot = false) (g : glB X.env.scope.names c = true) (hd : c ≠ "__debug__") (he : T.ers.lookup c = some inf) (hne : as ≠ []) (hl : as.length = inf.fs.length)
    (h : cArgs (cE X.N T n X.env.scope) as = some x) : PS X (.Raise (some (.Call (.Name c p) as [] pos)) none pos') (tS X.K z co F E w (.rais c inf x m)) := by
  obtain ⟨C, fI, fd, ps, k, e1, e2, e3, e4, e5, e6, e7, e8, e9⟩ := (O.ers cool c inf he).ex
  have S := snd n O.o
  cases as with
  | nil => exact absurd rfl hne
  | cons e es =>
    have st := args_star S h
    have mk := pmk_oex (p := p) (pos := pos) e3 e4 e5 e6 e8 e9 (ds := []) (dvs := []) .nil passL (gl_of g) e1 (snd_args S h) (ne_beq hd) (star_of (st e List.mem_cons_self)) (noStars fun a ha => st a (List.mem_cons_of_mem _ ha))
    refine ps_imp (ps_raise (O.o.calm cool) (O.tk cool) mk) fun D σ H ⟨G0, H0, Gb, Hb, ρ, G, xb, R, r⟩ => ?_
    simp only [evS] at r
    rw [list_bind] at r
    refine argN_go (m := m) xb R ((PsR.bind r).imp fun ds hds q vs G' H1 R1 ha => ?_)
    have hlen : ds.length = inf.fs.length := by
      rw [← hl]
      cases ev : evE F (vwN (frz m ρ)) x with
      | ok d =>
        rw [ev] at hds
        cases d with
        | list ds' => cases hds; exact args_len h ev
        | _ => cases hds
      | err _ => rw [ev] at hds; cases hds
      | no => rw [ev] at hds; cases hds
    refine ⟨by rw [dpa_len ha, hlen]; exact e7, fun a hn => ⟨a, vs, by rw [List.append_nil], by rw [dpa_len ha, hlen], upd_same, fun dx ps H2 n1 n2 h1 h2 h3 h4 => ⟨rfl, dx, ps, h1, h2, by rw [upd_ne n2] at n1; exact n1, ?_⟩⟩⟩
    have n1' : H1 dx = none := by rw [upd_ne n2] at n1; exact n1
    have q' : EW X.K co E ⟨c, inf.fs, inf.ups, ds⟩ G0 H0 := q
    have keep : ∀ b u, H1 b = some u → upd (del H2 a) dx (.xd ps) b = some u := fun b u hb => by
      have b1 : b ≠ a := fun t => by rw [t, hn] at hb; cases hb
      have b2 : b ≠ dx := fun t => by rw [t, n1'] at hb; cases hb
      rw [upd_ne b2, del_ne b1, h4 b b1 b2, upd_ne b1]
      exact hb
    have x1 := (R1.base xb).nx
    refine q' C dx ps G' _ e2 ⟨x1.g, fun b u hb => keep b u (x1.s b u hb), fun b u hb => keep b u (x1.h b u hb), x1.n⟩ (x1.s.free n1') (x1.h.free n1') upd_same fun f d hf => ?_
    rw [h3]
    exact zip_dq ha hf
where zip_dq {K : Fg} {G : Hp} {f : Str} {d : D} : ∀ {fs : List Str} {vs : List V} {ds : List D}, DqAll K G vs ds → (fs.zip ds).lookup f = some d → ∃ v, (fs.zip vs).lookup f = some v ∧ Dq K G v d
  | [], _, _, _, h => by simp at h
  | _ :: _, _, _, .nil, h => by simp at h
  | g :: fs, _, _, .cons (v := v) (d := d') r t, h => by
    rw [List.zip_cons_cons] at h ⊢
    by_cases e : f = g
    · subst e
      simp only [List.lookup, beq_self_eq_true, Option.some.injEq] at h ⊢
      subst h
      exact ⟨v, rfl, r⟩
    · have e2 : (f == g) = false := by simpa using e
      simp only [List.lookup, e2] at h ⊢
      exact zip_dq t h
end
section
variable {X : Cx} {T : Tbl} {F : Str → List D → Res D} {z : Zx} {co : Co} {E : XK} {w : Nat}
/-- a call of what a slot holds -/
theorem pe_callV {i : Nat} {x : Str} {e : Expr} {es : List Expr} {p pos : Pos} {t : TA} {Ek : St → XK} (hN : X.N[i]? = some x) (hv : Vis X.env.scope x) (gd : X.A.guards = some []) (pas : ∀ σ, PassesAt (L2.CX X.prog X.w) X σ (Ek σ))
    (args : PA X (e :: es) t) (dbg : (x == ("__debug__" : Str)) = false) (cd : (x == ("__classdict__" : Str)) = false) (st : starEach (e :: es) X.env = (false, eval e X.env) :: starEach es X.env) (pl : (backTo pos (starEach es X.env)).any (·.1) = false) :
    PE X (.Call (.Name x p) (e :: es) [] pos) (fun σ H Q => ∃ (a : Addr) (fd : FuncData) (ps : List Str) (k : Nat) (sp : Sp), σ[i]? = some (some (.ref a)) ∧ FnG X.prog X.w X.K X.mg X.base k a fd ps sp ∧ Room k X.A ∧ PySem.W.keepIn X.K (.ref a) = true ∧ Binds X.K fd ps [] ∧ t σ H fun vs H1 => sp vs H1 Q (Ek σ)) := by
  constructor
  rintro pins s σ H Q I ⟨a, fd, ps, k, sp, hs, P, room, kp, b, want⟩
  refine wpAny_Call_Name_kw (thn ((pe_var (pos := p) hN hv dbg cd).run pins s σ H (fun v H1 => v = .ref a ∧ H1 = H) I ⟨.ref a, hs, rfl, rfl⟩) fun u s1 ⟨v, H1, I1, r1, q1⟩ => ?_)
  obtain ⟨rfl, rfl⟩ := q1
  cases r1
  refine PySem.W.callWith_K (h₀ := X.base) I.ok.mod.kin kp ?_ st pl
  exact thn (args.run pos pins s1 σ _ _ I1 want) fun us s2 ⟨vs, H2, I2, r, q⟩ => ⟨I2.kIn, run_G P room gd b (pas σ) I2 r q⟩
theorem ix_tabF {d : Addr} {es : List (Str × Str)} (t : TabF X.K X.mg X.w d es) : IxR X (fun x y H Q => x = .ref d ∧ ∃ u g a, y = .str u ∧ es.lookup u = some g ∧ X.mg g = some (.ref a) ∧ Q (.ref a) H) := by
  rintro va sl pins s σ H x y v u Q I rx ry ⟨rfl, y0, g, a, rfl, hg, hm, q⟩ hs
  obtain ⟨en, n, kd⟩ := t.kd
  obtain ⟨a', h1, h2⟩ := t.get y0 g hg
  rw [h2] at hm
  cases hm
  exact ix_kdict va sl pins s σ H _ _ v u Q I rx ry ⟨d, y0, .ref a, rfl, rfl, ⟨en, n, _, kd.at_, kd.lit, h1, rfl⟩, q⟩ hs
theorem mem_look {α : Type} {y : Str} {g : α} : ∀ {tb : List (Str × α)}, tb.lookup y = some g → (y, g) ∈ tb
  | [], h => by cases h
  | (p, q) :: tb, h => by
    by_cases e : y = p
    · subst e
      simp only [List.lookup, beq_self_eq_true, Option.some.injEq] at h
      rw [h]
      exact List.mem_cons_self
    · have e2 : (y == p) = false := by simpa using e
      simp only [List.lookup, e2] at h
      exact List.mem_cons_of_mem _ (mem_look h)
theorem stm_pair (O : Ok2 X T F z co E) {n : Nat} {ap : List Nat} {s t : Stmt} {S : Sm} (h : cPair X.N X.env.scope.names T (cE X.N T n X.env.scope) ap s t = some S) : PSs X [s, t] (tS X.K z co F E w S) := by
  unfold cPair at h
  split at h
  · rename_i x p1 tn p2 k p3 p4 x' p5 as p6 p7
    by_cases c : T.hot = false ∧ glB X.env.scope.names tn = true ∧ tn ≠ "__debug__" ∧ x' = x ∧ locB X.env.scope.names x = true ∧ visB X.env.scope.names x = true ∧ x ≠ "__debug__" ∧ x ≠ "__classdict__" ∧ notSlice k = true ∧ as ≠ []
    · rw [if_pos c] at h
      obtain ⟨cool, g, tnd, rfl, gl, gv, d1, d2, ns, ne⟩ := c
      split at h
      · rename_i tb i k' as' h1 h2 h3 h4
        by_cases al : tb.all (fun p => T.fns.lookup p.2 == some as.length) = true
        · rw [if_pos al] at h
          cases h
          generalize inter (vars k' ++ vars as') ap = m
          have zn := O.zc cool
          subst zn
          have S := snd n O.o
          obtain ⟨d, mg, tf⟩ := O.o.ftb tn tb h1
          cases as with
          | nil => exact absurd rfl ne
          | cons e es =>
            have st := args_star S h4
            have one : PS X (.Assign [.Name x' p1] (.Subscript (.Name tn p2) k p3) p4) _ := ps_set O.o.nd (ixOf_get h2) (loc_of gl) (pe_ix (ix_tabF tf) (pe_tabName g mg tnd) (S.e _ _ h3) (plainIx_of ns)) rfl (.inl (O.fn x'))
            have two : PS X (.Return (some (.Call (.Name x' p5) (e :: es) [] p6)) p7) _ := ps_ret (pe_callV (Ek := fun _ => E) (ixOf_get h2) (vis_of rfl gv) O.o.gd (O.o.pas cool) (snd_args S h4) (ne_beq d1) (ne_beq d2) (star_of (st e List.mem_cons_self)) (noStars fun a ha => st a (List.mem_cons_of_mem _ ha)))
            refine pss_imp (pss_cons one (pss_one two)) fun D σ H ⟨G0, H0, Gb, Hb, ρ, G, xb, R, r⟩ => ?_
            simp only [evS] at r
            refine evN_go (m := m) xb R ((PsR.bind r).imp fun dk _ q v G' H' R' hv => ?_)
            cases hv with
            | str y =>
              cases eg : tb.lookup y with
              | none => simp only [eg] at q; exact q.elim
              | some gn =>
                simp only [eg] at q
                have ma : T.fns.lookup gn = some (e :: es).length := eq_of_beq (List.all_eq_true.mp al _ (mem_look eg))
                obtain ⟨a, fd, ps, k0, P, room, m1, kp, b⟩ := (O.o.call cool gn _ ma).ex
                refine ⟨rfl, y, gn, a, rfl, eg, m1, ?_⟩
                have R2 := R'.unset i (some (.ref a))
                by_cases hi0 : i < (frz m ρ).length
                rotate_left
                · rw [if_neg hi0] at q; exact q.elim
                rw [if_pos hi0, list_bind] at q
                have hi : i < σ.length := by rw [← R'.len]; exact hi0
                refine ⟨a, fd, ps, k0, _, List.getElem?_set_self hi, P, room, kp, b, ?_⟩
                have q2 := PsR.bind q
                refine argN_go (m := []) xb R2 (q2.imp fun ds hds q3 vs G2 H2 R3 ha => ?_)
                have hlen : ds.length = (e :: es).length := by
                  cases ev : evE F (vwN ((frz m ρ).set i .un)) as' with
                  | ok d =>
                    rw [ev] at hds
                    cases d with
                    | list ds' => cases hds; exact args_len h4 ev
                    | _ => cases hds
                  | err _ => rw [ev] at hds; cases hds
                  | no => rw [ev] at hds; cases hds
                refine ⟨G2, ds, R3.nx.s, ha, hlen, PsR.toP ((PsR.bind q3).at (R3.base xb).nx fun rr _ q4 v G3 H3 nx hv => q4 v G3 H3 (R3.nx.trans nx) hv)⟩
            | _ => exact q.elim
        · rw [if_neg al] at h; cases h
      · cases h
    · rw [if_neg c] at h; cases h
  · cases h
end
end Pe

set_option Elab.async false
set_option linter.all false
set_option maxRecDepth 100000
set_option maxHeartbeats 8000000
/-! Py2: try; all statements. -/
namespace Pe
open PySem L2
section
variable {X : Cx} {T : Tbl} {F : Str → List D → Res D} {z : Zx} {co : Co} {E : XK} {w : Nat}
def PostT (K : Fg) (z : Zx) (co : Co) (W : WX) (G0 H0 : Hp) (D : Ends) (σ : St) : TR → Prop
  | .out o => PostO K z G0 H0 D o
  | .exc e ρ' => ∀ G1 H1, RepS K z G0 H0 σ ρ' G1 H1 → EW K co (fun cls d H => W cls d σ H) e G1 H1
  | .no => False
def tTb (K : Fg) (z : Zx) (co : Co) (F : Str → List D → Res D) (W : WX) (b : Tb) : TS := fun D σ H => ∃ G0 H0 ρ G, RepS K z G0 H0 σ ρ G H ∧ PostT K z co W G0 H0 D σ (evT F ρ b)
/-- the context of a try's body -/
theorem ok_tr (O : Ok2 X T F z co E) (cool : T.hot = false) {W : WX} {pn : List (Addr × Obj)} {xe : Value → Shared → Prop} (tk : Takes (X.tr pn xe) W) : Ok1 (X.tr pn xe) T F z co (WE W) :=
  ⟨O.o.nd, O.o.calm, O.o.gd, O.o.hu, O.o.blt, fun c f n h => ⟨(O.o.call c f n h).ex⟩, O.o.gl, O.o.dct, O.o.ftb, fun _ σ => passAt tk σ, O.o.cool, fun e x h => by
    have h' : cXq X.N X.env.scope.names T e = some x := h
    rw [xq_cool (O.o.cool cool)] at h'
    cases h'⟩
/-- a value of a try's body -/
theorem evB_go {K : Fg} {W : WX} {G0 H0 G H : Hp} {σ : St} {ρ : List Sl} {x : Ex} {m : List Nat} {Q : VK} {k : D → TR} {En : Ends} (R : RepS K z G0 H0 σ ρ G H) (h : PostT K z co W G0 H0 En σ (match evE F (vwN (frz m ρ)) x with
    | .ok d => k d
    | .err e => .exc e (frz m ρ)
    | .no => .no)) (kk : ∀ d, PostT K z co W G0 H0 En σ (k d) → ∀ v G' H', RepS K z G0 H0 σ (frz m ρ) G' H' → Dq K G' v d → Q v H') : tE K z co F (WE W) x σ H Q := by
  obtain ⟨G1, R1⟩ := R.frz m
  refine ⟨_, _, R1.viewN, ?_⟩
  cases ev : evE F (vwN (frz m ρ)) x with
  | ok d => rw [ev] at h; exact fun v G' H' nx hv => kk d h v G' H' (R1.back nx) hv
  | err e => rw [ev] at h; exact h G1 H R1
  | no => rw [ev] at h; exact h.elim
theorem try_body (O : Ok2 X T F z co E) (cool : T.hot = false) {W : WX} {pn : List (Addr × Obj)} {xe : Value → Shared → Prop} (tk : Takes (X.tr pn xe) W) {n : Nat} {ap : List Nat} : ∀ (k : Nat) {ss : List Stmt} {b : Tb}, cT X.N X.env.scope.names (cE X.N T n X.env.scope) ap k ss = some b → PSs (X.tr pn xe) ss (tTb X.K z co F W b)
  | 0, ss, b, h => by cases h
  | k + 1, ss, b, h => by
    have O1 := ok_tr O cool tk
    have S := snd n O1
    unfold cT at h
    split at h
    · rename_i y p1 e p2
      by_cases c : locB X.env.scope.names y = true ∧ notComp e = true
      · rw [if_pos c] at h
        split at h
        · rename_i i x hi hx
          cases h
          refine pss_one (ps_imp (ps_set (X := X.tr pn xe) O.o.nd (ixOf_get hi) (loc_of c.1) (S.e _ _ hx) (swaps_no c.2) (.inl (O.fn y))) fun D σ H ⟨G0, H0, ρ, G, R, q⟩ => ?_)
          exact evB_go R q fun d q1 v G' H' R1 hv => q1 _ G' H' (R1.set i hv)
        · cases h
      · rw [if_neg c] at h; cases h
    · rename_i e p2
      by_cases c : notComp e = true ∧ isDoc e = false
      · rw [if_pos c] at h
        cases hx : cE X.N T n X.env.scope e with
        | none => rw [hx] at h; cases h
        | some x =>
          rw [hx] at h
          cases h
          refine pss_one (ps_imp (ps_expr (X := X.tr pn xe) (S.e _ _ hx) (swaps_no c.1)) fun D σ H ⟨G0, H0, ρ, G, R, q⟩ => ?_)
          exact evB_go R q fun d q1 v G' H' R1 hv => q1 _ G' H' R1
      · rw [if_neg c] at h; cases h
    · rename_i e p2
      cases hx : cE X.N T n X.env.scope e with
      | none => rw [hx] at h; cases h
      | some x =>
        rw [hx] at h
        cases h
        refine pss_one (ps_imp (ps_ret (X := X.tr pn xe) (S.e _ _ hx)) fun D σ H ⟨G0, H0, ρ, G, R, q⟩ => ?_)
        exact evB_go R q fun d q1 v G' H' R1 hv => q1 v G' H' R1.nx hv
    · rename_i c a b' p
      by_cases ht : testOk c = true
      · rw [if_pos ht] at h
        split at h
        · rename_i c1 a1 b1 hx ha hb
          cases h
          refine pss_one (ps_imp (ps_if (S.t _ _ hx ht) (try_body O cool tk k ha) (try_body O cool tk k hb)) fun D σ H ⟨G0, H0, ρ, G, R, q⟩ => ?_)
          have q : PostT X.K z co W G0 H0 D σ (match tst F ρ c1 with
            | .ok k => if k = true then evT F ρ a1 else evT F ρ b1
            | _ => .no) := q
          refine ⟨vw ρ, _, R.view, ?_⟩
          show PsR X.K co (WE W σ) (tst F ρ c1) (gP σ ρ G H) H _
          cases ev : tst F ρ c1 with
          | ok kk =>
            rw [ev] at q
            intro G' H' nx
            have R2 := R.backP nx
            cases kk with
            | true => exact iteT ⟨G0, H0, ρ, _, R2, q⟩
            | false => exact iteF ⟨G0, H0, ρ, _, R2, q⟩
          | err _ => rw [ev] at q; exact q.elim
          | no => rw [ev] at q; exact q.elim
        · cases h
      · rw [if_neg ht] at h; cases h
    · cases h
/-- the context of an except suite -/
theorem ok_suite (O : Ok2 X T F z co E) {a C dd : Addr} {oe : Obj} {pn : List (Addr × Obj)} {er : Err} {y : Str} {i : Nat} (hi : ixOf y X.N 0 = some i) (hc : co er.cls er.fs er.ups = some C) (hz : Zc (.ref C) (some dd) oe) (hf : ∃ vs, oe.data = .fields vs) :
    Ok2 (X.suite a ((a, oe) :: pn)) { T with hot := true, xv := some y } (Fx er F) (some ⟨i, a, dd, er⟩) co E0 := by
  obtain ⟨cn, hcn, hec⟩ := O.cls
  refine ⟨⟨O.o.nd, fun q => (by cases q), O.o.gd, O.o.hu, O.o.blt, fun q => (by cases q), O.o.gl, O.o.dct, O.o.ftb, fun q => (by cases q), fun q => (by cases q), ?_⟩, fun q => (by cases q), O.fn, fun q => (by cases q), O.st, O.fr, fun q => (by cases q), fun q => (by cases q), ⟨cn, hcn, hec⟩⟩
  exact suite_xq (T := { T with hot := true, xv := some y }) hcn (O.o.blt _ (by decide +kernel)) (hec _ _ _ _ hc) hz hf rfl hi
theorem stm_try (O : Ok2 X T F z co E) (cool : T.hot = false) {n k : Nat} {ap : List Nat} {c y : Str} {i : Nat} {body : List Stmt} {b₀ : Stmt} {bs : List Stmt} {b : Tb} {h' : Sm} {np pos pos' : Pos} {fs : Stmt → Option Sm} {gs : Stmt → Stmt → Option Sm}
    (g : glB X.env.scope.names c = true) (hd : c ≠ "__debug__") (hc : T.cls.contains c = true) (hy : X.env.scope.names.lookup y = some .local) (hi : ixOf y X.N 0 = some i) (hb : cT X.N X.env.scope.names (cE X.N T n X.env.scope) ap k body = some b)
    (hs : cB fs gs (b₀ :: bs) = some h')
    (suite : ∀ {a C dd : Addr} {oe : Obj} {pn : List (Addr × Obj)} {er : Err}, co er.cls er.fs er.ups = some C → Zc (.ref C) (some dd) oe → (∃ vs, oe.data = .fields vs) → SndB (X.suite a ((a, oe) :: pn)) (some ⟨i, a, dd, er⟩) co (Fx er F) E0 w fs gs) :
    PS X (.Try body [.ExceptHandler (some (.Name c np)) (some y) (b₀ :: bs) pos'] [] [] pos) (tS X.K z co F E w (.try_ b i c h')) := by
  obtain ⟨cn, hcn, hec⟩ := O.cls
  have hcm : c ∈ T.cls := by simpa using hc
  have nm : Names X c (cn c) := ⟨gl_of g, ne_beq hd, by
    rcases (hcn c hcm).is with ⟨m, _⟩ | ⟨m, b, nn, _⟩
    · exact .inl m
    · exact .inr ⟨m, b, nn⟩⟩
  have zn := O.zc cool
  subst zn
  have base := ps_try_as (X := X) (x := c) (n := y) (c := cn c) (i := i) (np := np) (pos := pos) (pos' := pos') (body := body) (suite := bs) (b₀ := b₀) (tb := fun W => tTb X.K none co F W b)
    (ts := fun a cls d => fun D σ H => ∃ C dd er, cls = .ref C ∧ d = some dd ∧ co er.cls er.fs er.ups = some C ∧ tS X.K (some ⟨i, a, dd, er⟩) co (Fx er F) E0 w h' D σ H)
    (Wout := fun cls d _ H => E cls d H) O.st O.fr O.o.nd (ixOf_get hi) hy nm (O.tk cool) (fun W pn xe tk _ => try_body O cool tk k hb)
    (fun a oe cls d pn hz hf => ⟨fun pins s σ H D I ⟨C, dd, er, e1, e2, hco, q⟩ => by
      subst e1 e2
      exact (stm_block (suite hco hz hf) hs).run pins s σ H D I q⟩)
  refine ps_imp base fun D σ H ⟨G0, H0, Gb, Hb, ρ, G, xb, R, r⟩ => ⟨Gb, H0, ρ, G, R, ?_⟩
  simp only [evS] at r
  cases ev : evT F ρ b with
  | out o => rw [ev] at r; exact r
  | no => rw [ev] at r; exact r.elim
  | exc er ρ' =>
    rw [ev] at r
    intro G1 H1 R1 C dx ps G' H' hco nx gn hn hdx hx
    have ec := hec _ _ _ _ hco
    refine ⟨er.ups.contains c, ec.exm c hcm, fun hb1 a na => ?_, fun hb0 => ?_⟩
    · have r' : PsR X.K co E (if er.ups.contains c = true then (evS (Fx er F) w (ρ'.set i .un) h').noErr.bind fun o => .ok (o.drop i) else .err er) G0 H0 (PostO X.K none Gb H0 D) := r
      rw [if_pos hb1] at r'
      have R2 := (R1.back nx).enter (i := i) (a := a) hdx gn (R1.nx.h.free hn) hx
      refine ⟨C, dx, er, rfl, rfl, hco, G0, H0, Gb, Hb, ρ'.set i .un, _, xb, R2, ?_⟩
      cases ev2 : evS (Fx er F) w (ρ'.set i .un) h' with
      | err _ => rw [ev2] at r'; exact r'.elim
      | no => rw [ev2] at r'; exact r'.elim
      | ok o =>
        rw [ev2] at r'
        cases o with
        | nx ρ2 => exact fun σ2 G2 H2 R3 => r' _ G2 H2 (R3.unset i none)
        | bk ρ2 => exact fun σ2 G2 H2 R3 => r' _ G2 H2 (R3.unset i none)
        | ct ρ2 => exact fun σ2 G2 H2 R3 => r' _ G2 H2 (R3.unset i none)
        | rt d => exact r'
    · have r' : PsR X.K co E (if er.ups.contains c = true then (evS (Fx er F) w (ρ'.set i .un) h').noErr.bind fun o => .ok (o.drop i) else .err er) G0 H0 (PostO X.K none Gb H0 D) := r
      rw [if_neg (by rw [hb0]; exact Bool.false_ne_true)] at r'
      have x1 := (R1.base xb).nx
      exact r' C dx ps G' H' hco (x1.trans nx) gn (x1.h.free hn) hdx hx
end
/-- ALL STATEMENTS -/
theorem sndS {w n : Nat} {ap : List Nat} : ∀ (k : Nat) {X : Cx} {T : Tbl} {F : Str → List D → Res D} {z : Zx} {co : Co} {E : XK}, Ok2 X T F z co E → (∀ q, z = some q → ap.contains q.i = false) → ∀ la : List Nat,
    SndB X z co F E w (cS X.N n X.env.scope ap k T la) (cPair X.N X.env.scope.names T (cE X.N T n X.env.scope) ap) := by
  intro k
  induction k with
  | zero => exact fun O hz la => ⟨fun st S h => by simp [cS] at h, fun s t S h => stm_pair O h⟩
  | succ k ih =>
    intro X T F z co E O hz la
    refine ⟨fun st S h => ?_, fun s t S h => stm_pair O h⟩
    unfold cS at h
    split at h
    · rename_i tg e p
      cases e1 : cE X.N T n X.env.scope e with
      | none => rw [e1] at h; cases h
      | some x =>
        rw [e1] at h
        have h' : cAsg X.N X.env.scope.names T.hot ap la e x tg = some S := h
        unfold cAsg at h'
        split at h'
        · rename_i y q
          by_cases g : locB X.env.scope.names y = true
          · rw [if_pos g] at h'
            split at h'
            · rename_i i hi
              by_cases c : ap.contains i = true ∧ isNewE e = true
              · rw [if_pos c] at h'; cases h'; exact stm_new O g hi c.2 (fun q hq t => by
                  have := hz q hq
                  rw [t, c.1] at this
                  cases this) e1
              · rw [if_neg c] at h'; cases h'; exact stm_set O g hi e1
            · cases h'
          · rw [if_neg g] at h'; cases h'
        · rename_i es j q
          by_cases nt : notTup e = true ∧ T.hot = false
          · rw [if_pos nt] at h'
            split at h'
            · rename_i is ht; cases h'; exact stm_unp O nt.1 nt.2 ht e1
            · cases h'
          · rw [if_neg nt] at h'; cases h'
        · cases h'
    · rename_i y q op e p
      by_cases g : locB X.env.scope.names y = true
      · rw [if_pos g] at h
        split at h
        · rename_i i x hi e1; cases h; exact stm_aug O g hi e1
        · cases h
      · rw [if_neg g] at h; cases h
    · rename_i e p
      unfold cExpr at h
      split at h
      · rename_i y q m apos a cp
        by_cases c : m = "append" ∧ (apos.endLine == cp.line) = true ∧ visB X.env.scope.names y = true ∧ y ≠ "__debug__" ∧ y ≠ "__classdict__"
        · rw [if_pos c] at h
          obtain ⟨rfl, c1, c2, c3, c4⟩ := c
          split at h
          · rename_i i x hi e1; cases h; exact stm_app O c2 c3 c4 c1 hi e1
          · cases h
        · rw [if_neg c] at h; cases h
      · cases h
        refine ps_imp ps_doc fun D σ H ⟨G0, H0, Gb, Hb, ρ, G, xb, R, r⟩ => ?_
        simp only [evS] at r
        exact r σ G H R
      · by_cases nc : notComp e = true
        · rw [if_pos nc] at h
          cases e1 : cE X.N T n X.env.scope e with
          | none => rw [e1] at h; cases h
          | some x => rw [e1] at h; cases h; exact stm_dro O nc e1
        · rw [if_neg nc] at h; cases h
    · rename_i e p
      cases e1 : cE X.N T n X.env.scope e with
      | none => rw [e1] at h; cases h
      | some x => rw [e1] at h; cases h; exact stm_ret O e1
    · cases h
      refine ps_imp ps_retN fun D σ H ⟨G0, H0, Gb, Hb, ρ, G, xb, R, r⟩ => ?_
      simp only [evS] at r
      exact r .non G H R.nx .non
    · rename_i c a b p
      by_cases ht : testOk c = true
      · rw [if_pos ht] at h
        split at h
        · rename_i h1 h2 h3; cases h; exact stm_if O (ih O hz la) ht h1 h2 h3
        · cases h
      · rw [if_neg ht] at h; cases h
    · rename_i tg it body p
      by_cases ns : notSet it = true ∧ T.hot = false
      · rw [if_pos ns] at h
        split at h
        · rename_i h1 h2 h3; cases h; exact stm_for O (ih O hz _) ns.1 ns.2 h1 h2 h3
        · cases h
      · rw [if_neg ns] at h; cases h
    · rename_i c body p
      by_cases ht : testOk c = true ∧ T.hot = false
      · rw [if_pos ht] at h
        split at h
        · rename_i h1 h2; cases h; exact stm_whl O (ih O hz _) ht.1 ht.2 h1 h2
        · cases h
      · rw [if_neg ht] at h; cases h
    · cases h
      refine ps_imp ps_pass fun D σ H ⟨G0, H0, Gb, Hb, ρ, G, xb, R, r⟩ => ?_
      simp only [evS] at r
      exact r σ G H R
    · cases h
      refine ps_imp ps_break fun D σ H ⟨G0, H0, Gb, Hb, ρ, G, xb, R, r⟩ => ?_
      simp only [evS] at r
      exact r σ G H R
    · cases h
      refine ps_imp ps_continue fun D σ H ⟨G0, H0, Gb, Hb, ρ, G, xb, R, r⟩ => ?_
      simp only [evS] at r
      exact r σ G H R
    · rename_i e p
      split at h
      · rename_i S' hr
        cases h
        unfold cRaise at hr
        split at hr
        · rename_i c p1 as p2
          by_cases cd : glB X.env.scope.names c = true ∧ c ≠ "__debug__" ∧ as ≠ [] ∧ T.hot = false
          · rw [if_pos cd] at hr
            split at hr
            · rename_i inf x h1 h2
              by_cases hl : as.length = inf.fs.length
              · rw [if_pos hl] at hr; cases hr; exact stm_raise O cd.2.2.2 cd.1 cd.2.1 h1 cd.2.2.1 hl h2
              · rw [if_neg hl] at hr; cases hr
            · cases hr
          · rw [if_neg cd] at hr; cases hr
        · cases hr
      · cases h
        refine ps_imp ps_never fun D σ H ⟨G0, H0, Gb, Hb, ρ, G, xb, R, r⟩ => ?_
        simp only [evS] at r
        exact r.elim
    · cases h
      refine ps_imp ps_never fun D σ H ⟨G0, H0, Gb, Hb, ρ, G, xb, R, r⟩ => ?_
      simp only [evS] at r
      exact r.elim
    · rename_i body c p1 y b0 bs p2 p
      by_cases cd : T.hot = false ∧ glB X.env.scope.names c = true ∧ c ≠ "__debug__" ∧ T.cls.contains c = true ∧ X.env.scope.names.lookup y = some .local
      · rw [if_pos cd] at h
        split at h
        · rename_i i b' h' e1 e2 e3
          by_cases ha : ap.contains i = false
          · rw [if_pos ha] at h
            cases h
            exact stm_try O cd.1 cd.2.1 cd.2.2.1 cd.2.2.2.1 cd.2.2.2.2 e1 e2 e3 fun {a C dd oe pn er} hco hz' hf => ih (ok_suite (y := y) O e1 hco hz' hf) (fun q hq => by cases hq; exact ha) la
          · rw [if_neg ha] at h; cases h
        · cases h
      · rw [if_neg cd] at h; cases h
    · cases h
end Pe

set_option Elab.async false
set_option linter.all false
set_option maxRecDepth 100000
set_option maxHeartbeats 8000000
/-! Pe15: defs of data; a whole table of them; the law's end. -/
namespace Pe
open PySem PySem.Spec PyProof.Rows L2
/-- a def by its body, where no repr runs around -/
theorem fn_G {P : Program} {w : World} {K : Fg} {mg : Str → Option Value} {base : Heap} {k : Nat} {x qual : Str} {st : Stmt} {f : Addr} {fd : FuncData} {N ps : List Str} {sp : Sp}
    (D : Fun K x qual st f fd) (S : FnScope N ps (defScope st)) (len : ∀ vs H Q E, sp vs H Q E → vs.length = ps.length)
    (body : ∀ (cdv : Value) (A : Around) (outer : List Env) (s : Shared) (H : Hp) (vs : List V) (Q : VK) (E : XK),
      Room k (A.deeper (envOfC qual (defScope st) s.heap.objs.size f cdv)) → A.guards = some [] → sp vs H Q E →
      ∃ t, PSs (cxOf (L2.CX P w) P w K mg base N qual (defScope st) f cdv A outer s H E) (defBody st) t ∧ t { nx := fun _ H' => Q .non H', rt := Q } (L2.start N vs) H) :
    FnG P w K mg base (k + 1) f fd ps sp := by
  obtain ⟨oc, od, kV, doc, pm, an, cdv, ct, osl, rfl, lk, hcd⟩ := D.ex
  refine ⟨len, ?_⟩
  intro A outer s H args us vs Q E room gd e0 bound r want
  have n := len _ _ _ _ want
  have kin : K.In s.heap := e0.mod.kin.keeps fun b o e => (e0.bs b o e).1
  have lim : s.heap.NoLimit := e0.mod.nolimit.keeps fun b o e => (e0.bs b o e).1
  have kinds : ∀ y ∈ ps.zip us, (defScope st).names.lookup y.1 = some .local ∨
      ((defScope st).names.lookup y.1 = some .cell ∧ ((cellsFrom (s.heap.objs.size + 1) (defScope st).names []).lookup y.1).isSome = true) := by
    rintro ⟨m, v⟩ hy
    rcases S.par m (List.of_mem_zip hy).1 with q | q
    · exact .inl q
    · exact .inr ⟨q, PySem.W.cellsFrom_some _ _ _ (.inl q)⟩
  apply codeAny_call_function room.depth (kin _ _ lk) rfl S.co S.gen rfl (PySem.W.codeRec_of kin hcd)
  apply bound
  refine wpAny_newFunctionEnv_cells S.kind kinds ?_
  intro fun_env he s1 laid
  subst he
  refine ⟨lim.keeps laid.toInCall.keep, codeAny_func ?_⟩
  obtain ⟨t, ht, hq⟩ := body cdv A outer s H vs Q E (room.deeper _) gd want
  have I := inv_start (CX := L2.CX P w) (E := E) S room.hd e0 n r laid
  refine wpAny_mono (ht.run [] s1 (L2.start N vs) H _ I hq) ?_ fun _ _ z => z
  intro flow s' z
  match flow, z with
  | .ret u, ⟨v, σ', H', J, rv, q⟩ => exact ⟨v, H', J.os, J.bare, J.base, J.hok, rv, q⟩
  | .next, ⟨σ', H', J, q⟩ => exact ⟨V.non, H', J.os, J.bare, J.base, J.hok, rfl, q⟩
  | .brk, ⟨_, _, _, q⟩ => exact q.elim
  | .cont, ⟨_, _, _, q⟩ => exact q.elim

/-! ### what a def's data body gives -/
def evD (F : Str → List D → Res D) (w n : Nat) (b : Sm) (ds : List D) : Res D := (evS F w (ds.map .val ++ List.replicate (n - ds.length) .un) b).bind fun o => match o with
  | .rt d => .ok d
  | .nx _ => .ok .none
  | _ => .no
theorem dqa_some {K : Fg} {G : Hp} : ∀ {vs : List V} {ds : List D} {i : Nat} {d : D}, DqAll K G vs ds → (ds.map Sl.val)[i]? = some (.val d) → ∃ v, (vs.map some)[i]? = some (some v) ∧ Dq K G v d
  | _, _, i, d, h, e => by
    rw [List.getElem?_map] at e
    cases q : (_ : List D)[i]? with
    | none => rw [q] at e; cases e
    | some d' =>
      rw [q] at e
      cases e
      obtain ⟨v, h1, h2⟩ := dpa_get h q
      exact ⟨v, by rw [List.getElem?_map, h1]; rfl, h2⟩
theorem start_repS {K : Fg} {G H : Hp} {vs : List V} {ds : List D} {N : List Str} (s : Same G H) (a : DqAll K G vs ds) : RepS K none G H (L2.start N vs) (ds.map .val ++ List.replicate (N.length - ds.length) .un) G H := by
  have hl := dpa_len a
  have hno : ∀ (i : Nat) (xs : List D), (ds.map Sl.val ++ List.replicate (N.length - ds.length) Sl.un)[i]? ≠ some (.own xs) := fun i xs e => by
    by_cases hi : i < (ds.map Sl.val).length
    · rw [List.getElem?_append_left hi, List.getElem?_map] at e
      cases q : ds[i]? with
      | none => rw [q] at e; cases e
      | some d => rw [q] at e; cases e
    · rw [List.getElem?_append_right (by omega), List.getElem?_replicate] at e
      split at e <;> cases e
  refine ⟨Nx.refl s, ?_, fun i d e => ?_, fun i xs e => absurd e (hno i xs), fun q hq => (by cases hq), fun i j xs ys p e => absurd e (hno i xs)⟩
  · unfold L2.start
    simp only [List.length_append, List.length_map, List.length_replicate]
    omega
  · unfold L2.start
    by_cases hi : i < (ds.map Sl.val).length
    · rw [List.getElem?_append_left hi] at e
      obtain ⟨v, h1, h2⟩ := dqa_some a e
      refine ⟨v, ?_, h2⟩
      rw [List.getElem?_append_left (by rw [List.length_map] at hi ⊢; omega)]
      exact h1
    · rw [List.getElem?_append_right (by omega), List.getElem?_replicate] at e
      split at e <;> cases e
/-- a def that is read off -/
structure DefI where
  st : Stmt
  N : List Str
  ps : List Str
  body : Sm
def DefI.np (d : DefI) : Nat := d.ps.length
abbrev Tab := List (Str × DefI)
def run (P : Tab) (w : Nat) : Nat → Str → List D → Res D
  | 0, _, _ => .no
  | k + 1, f, ds => match P.lookup f with
    | some d => evD (run P w k) w d.N.length d.body ds
    | none => .no
/-- what must be seen of a def -/
structure DefOk (K : Fg) (mg : Str → Option Value) (T : Tbl) (x : Str) (d : DefI) : Prop where
  ex : ∃ (f : Addr) (fd : FuncData), Fun K x x d.st f fd ∧ mg x = some (.ref f) ∧ Binds K fd d.ps []
  sc : FnScope d.N d.ps (defScope d.st)
  cb : ∃ n ap k, cB (cS d.N n (defScope d.st) ap k T []) (cPair d.N (defScope d.st).names T (cE d.N T n (defScope d.st)) ap) (defBody d.st) = some d.body
/-- what must be seen of an own error -/
structure ErT (K : Fg) (mg : Str → Option Value) (co : Co) (c : Str) (inf : ErI) : Prop where
  ex : ∃ (C fI : Addr) (fd : FuncData) (st : Stmt) (qual f : Str) (fs : List Str), inf.fs = f :: fs ∧ mg c = some (.ref C) ∧ co c inf.fs inf.ups = some C ∧ OexC K C ∧ PySem.W.findIn K (.ref C) "__init__" = some (some (.ref fI)) ∧ PySem.W.typeIn K (.ref fI) = some (.type "function") ∧
    Fun K "__init__" qual st fI fd ∧ FnScope (("self" : Str) :: f :: fs) (("self" : Str) :: f :: fs) (defScope st) ∧ initB (f :: fs) (defBody st) = true ∧ (f :: fs).Nodup ∧ (∀ g ∈ ("self" : Str) :: f :: fs, g ≠ "__debug__" ∧ g ≠ "__classdict__") ∧ fs.length ≤ 800 ∧
    Binds K fd (("self" : Str) :: f :: fs) []
/-- what must be seen of the top -/
structure TopOk (K : Fg) (w : World) (mg : Str → Option Value) (co : Co) (T : Tbl) (P : Tab) : Prop where
  blt : ∀ x ∈ bltNames, mg x = none
  gl : ∀ x d, T.cons.lookup x = some d → ∃ u v, mg x = some u ∧ RelV v u ∧ ∀ G, Dq K G v d
  fns : ∀ x n, T.fns.lookup x = some n → ∃ d, P.lookup x = some d ∧ d.np = n
  defs : ∀ x d, P.lookup x = some d → DefOk K mg T x d
  dct : ∀ y es, T.dcts.lookup y = some es → ∃ d : Addr, mg y = some (.ref d) ∧ TabD K w d es
  ftb : ∀ y es, T.ftabs.lookup y = some es → ∃ d : Addr, mg y = some (.ref d) ∧ TabF K mg w d es
  ers : ∀ c inf, T.ers.lookup c = some inf → ErT K mg co c inf
  cls : ∃ cn : Str → Value, (∀ c ∈ T.cls, ClsN mg c (cn c)) ∧ ∀ c fs ups C, co c fs ups = some C → ErC K cn T.cls C fs ups
  hot : T.hot = false
  xv : T.xv = none
section
variable {Pr : Program} {wo : World} {K : Fg} {mg : Str → Option Value} {base : Heap} {T : Tbl} {P : Tab} {co : Co} {w : Nat}
/-- ALL DEFS -/
theorem all_defs (O : TopOk K wo mg co T P) (small : ∀ {k : Nat} {A : Around}, Room k A → A.units + 65 < cLine) : ∀ (k : Nat) (x : Str) (d : DefI), P.lookup x = some d →
    ∃ (f : Addr) (fd : FuncData), Fun K x x d.st f fd ∧ FnG Pr wo K mg base (k + 2) f fd d.ps (spD K co d.np (run P w k x)) ∧ mg x = some (.ref f) ∧ PySem.W.keepIn K (.ref f) = true ∧ Binds K fd d.ps [] := by
  intro k
  induction k with
  | zero =>
    intro x d h
    obtain ⟨f, fd, F1, m, b⟩ := (O.defs x d h).ex
    refine ⟨f, fd, F1, ⟨?_, ?_⟩, m, F1.kp, b⟩
    · rintro vs H Q E ⟨G, ds, s, a, hl, z⟩
      exact z.elim
    · rintro A outer s H args us vs Q E _ _ _ _ _ ⟨G, ds, s, a, hl, z⟩
      exact z.elim
  | succ k ih =>
    intro x d h
    have dok := O.defs x d h
    obtain ⟨f, fd, F1, m, b⟩ := dok.ex
    obtain ⟨n, ap, j, hcb⟩ := dok.cb
    refine ⟨f, fd, F1, fn_G F1 dok.sc ?_ ?_, m, F1.kp, b⟩
    · rintro vs H Q E ⟨G, ds, s, a, hl, z⟩
      rw [dpa_len a, hl]
      rfl
    · rintro cdv A outer s H vs Q E room gd ⟨G, ds, sm, a, hl, z⟩
      generalize hX : cxOf (L2.CX Pr wo) Pr wo K mg base d.N x (defScope d.st) f cdv A outer s H E = X
      have hN : X.N = d.N := by rw [← hX]; rfl
      have hsc : X.env.scope = defScope d.st := by rw [← hX]; rfl
      have hK : X.K = K := by rw [← hX]; rfl
      have ok2 : Ok2 X T (run P w k) none co E := by
        subst hX
        refine ⟨⟨dok.sc.nd, fun _ => rfl, gd, small room, O.blt, fun _ g m' hg => ?_, O.gl, O.dct, O.ftb, fun _ σ => ?_, fun _ => O.xv, fun e x' hx' => ?_⟩, fun _ => passes_of rfl, fun _ => rfl, fun _ => rfl, rfl, rfl, fun _ => takes_of rfl rfl rfl rfl, fun _ c inf hc => ?_, O.cls⟩
        · obtain ⟨d', h1, h2⟩ := O.fns g m' hg
          obtain ⟨f', fd', _, F', m'', kp', b'⟩ := ih g d' h1
          subst h2
          exact ⟨⟨f', fd', d'.ps, k + 2, F', room, m'', kp', b'⟩⟩
        · exact fun pins H' s' e s'' I c => passes_call (W := fun cls d σ H => E cls d H) (takes_of rfl rfl rfl rfl) (fun _ _ _ _ z => z) pins σ H' s' e s'' I c
        · rw [xq_cool O.xv] at hx'
          cases hx'
        · obtain ⟨C, fI, fd', st', q', g0, gs, e0, e1, e2, e3, e4, e5, e6, e7, e8, e9, e10, e11, e12⟩ := (O.ers c inf hc).ex
          obtain ⟨cn, _, hec⟩ := O.cls
          have nf := (hec _ _ _ _ e2).nf
          refine ⟨C, fI, fd', _, k + 1, e1, e2, e3, e4, e5, ?_, by rw [e0, List.length_cons]; omega, room, e12⟩
          rw [e0]
          rw [e0] at nf
          exact init_fn e6 e7 e3 e8 e9 nf e10 e11
      have snd := stm_block (sndS (w := w) (n := n) (ap := ap) j ok2 (fun q hq => by cases hq) []) (ss := defBody d.st) (S := d.body) (by rw [hN, hsc]; exact hcb)
      refine ⟨_, snd, G, H, G, H, _, G, Nx.refl sm, by rw [hK]; exact start_repS sm a, ?_⟩
      rw [hK]
      have z' : Pst K co E (evD (run P w k) w d.N.length d.body ds) G H Q := by
        have z0 : Pst K co E (match P.lookup x with
          | some d => evD (run P w k) w d.N.length d.body ds
          | none => .no) G H Q := z
        rw [h] at z0
        exact z0
      unfold evD at z'
      revert z'
      cases evS (run P w k) w (ds.map .val ++ List.replicate (d.N.length - ds.length) .un) d.body with
      | ok o =>
        cases o with
        | rt r => exact fun q v G' H' nx hv => q v G' H' nx hv
        | nx ρ => exact fun q σ' G' H' R' => q .non G' H' R'.nx .non
        | bk _ => exact fun q => q.elim
        | ct _ => exact fun q => q.elim
      | err e => exact fun q => q
      | no => exact fun q => q
end
end Pe

set_option Elab.async false
set_option linter.all false
set_option maxRecDepth 100000
set_option maxHeartbeats 8000000
/-! Pe16: the law's call. -/
namespace Pe
open PySem PySem.Spec PyProof.Rows L2
/-- the law's call, the script a list that may be read -/
theorem law_G {P : Program} {w : World} {K : Fg} {mg mb : Str → Option Value} {k : Nat} {fa a : Addr} {x : Str} {sp : Sp} {s₁ : Shared} {vs : List Value} {ns : List Int}
    (kin : K.In s₁.heap) (gns : s₁.heap.Ns mainGlobals mg) (bns : s₁.heap.Ns builtinsNs mb) (boot : ∀ x : Str, x ≠ "__name__" → mb x = bootBuiltins x) (lim : s₁.heap.NoLimit) (gens : s₁.gens = #[])
    (scr : s₁.heap.get? a = some { cls := .type "list", data := .seq vs.toArray }) (iv : IntsAre vs ns) (len : ns.length ≤ sizeLine) (room : Room k callerA)
    (ok : ∀ base : Heap, K.In base → base.Ns mainGlobals mg → ∃ fd : FuncData, FnG P w K mg base k fa fd [x] sp ∧ ∀ (s : Shared) (u : Value), BindsTo s fd ⟨[u], []⟩ [(x, u)])
    (want : ∀ H : Hp, LsQ K H a (ns.map V.int) → sp [.ref a] H (fun v _ => v = .bl true) fun _ _ _ => False) :
    codeAny (model P w) callerA (.call (.ref fa) ⟨[.ref a], []⟩) (fun r s' => r = .ok (.ret (.bool true)) ∧ OldK s₁.heap s'.heap ∧ s'.os = s₁.os ∧ AllBare s'.gens) s₁ := by
  have rv := vals_ints iv
  have vlen := iv.length
  have go : ∀ H : Hp, (∀ b, H b = none ∨ ∃ ob xs, H b = some (.frz ob (.lst xs))) → LsQ K H a (ns.map V.int) → HOk P w H s₁.heap → (∀ b, H b ≠ none → b = a) → (H a ≠ none → K.lookup a = none) →
      codeAny (model P w) callerA (.call (.ref fa) ⟨[.ref a], []⟩) (fun r s' => r = .ok (.ret (.bool true)) ∧ OldK s₁.heap s'.heap ∧ s'.os = s₁.os ∧ AllBare s'.gens) s₁ := by
    intro H only hS hok alone notK
    have keep {b : Addr} {o : Obj} (e : s₁.heap.get? b = some o) (n : H b = none) : (hidT s₁.heap H).get? b = some o := hidT_get e n
    have dictFree {b : Addr} {o : Obj} {es : Array DictEntry} {ep : Nat} (e : s₁.heap.get? b = some o) (d : o.data = .dict es ep) : H b = none := by
      cases q : H b with
      | none => rfl
      | some u =>
        have := alone b (by rw [q]; exact Option.some_ne_none _)
        subst this
        rw [scr] at e
        cases e
        exact nomatch (show Data.seq vs.toArray _ = Data.dict es ep from d)
    have nsKeep {b : Addr} {m : Str → Option Value} (z : s₁.heap.Ns b m) : (hidT s₁.heap H).Ns b m := by
      obtain ⟨o, es, ep, e, d, r⟩ := z
      exact ⟨o, es, ep, keep e (dictFree e d), d, r⟩
    have kb : K.In (hidT s₁.heap H) := by
      intro b o e
      apply keep (kin b o e)
      cases q : H b with
      | none => rfl
      | some u =>
        have := alone b (by rw [q]; exact Option.some_ne_none _)
        subst this
        rw [notK (by rw [q]; exact Option.some_ne_none _)] at e
        exact nomatch e
    have md : Mod K mg (hidT s₁.heap H) := by
      obtain ⟨mc, l1, l2⟩ := lim
      exact ⟨kb, nsKeep gns, ⟨mb, nsKeep bns, boot⟩, ⟨mc, nsKeep l1, l2⟩⟩
    have noFr : ∀ b, b ∉ frs ([] : List Env) := fun b hb => by cases hb
    have e0 : Env0 P w K mg (hidT s₁.heap H) callerA [] s₁ H :=
      ⟨rfl, md, fun b o e => of_hidT e, Nat.le_of_eq (hidT_size _ _), trivial, fun b hb => (noFr b hb).elim, hok, .of_eq gens⟩
    obtain ⟨fd, fok, bind⟩ := ok _ kb (nsKeep gns)
    have ran := fok.run callerA [] s₁ H ⟨[.ref a], []⟩ [.ref a] [.ref a] _ _ room rfl e0 (bind s₁ (.ref a)) (.cons rfl .nil) (want H hS)
    refine codeAny_mono ran ?_
    intro r s' z
    match r, z with
    | .error e, ⟨_, _, _, _, _, _, _, _, _, _, _, _, f⟩ => exact f.elim
    | .ok (.ret u), ⟨v, H', os, bare, un, hok', r', q⟩ =>
      have q' : v = .bl true := q
      subst q'
      obtain rfl : u = Value.bool true := r'
      refine ⟨rfl, OldK.of_keep ?_, os, bare⟩
      intro b o e
      cases q : H b with
      | none => exact un.keep b o e q (noFr b) (by simp)
      | some u =>
        rcases only b with n | ⟨ob, xs, n⟩
        · rw [q] at n
          exact nomatch n
        · obtain ⟨e1, _⟩ := hok b _ n
          obtain ⟨e2, _⟩ := hok' b _ (un.frzs b ob _ n)
          rw [e] at e1
          cases e1
          exact e2
  cases hk : K.lookup a with
  | some o =>
    have e := kin a o hk
    rw [scr] at e
    cases e
    refine go (fun _ => none) (fun _ => .inl rfl) (.inr ⟨vs.toArray, _, hk, ?_, by simpa using rv⟩) ?_ (fun b z => absurd rfl z) fun z => absurd rfl z
    · rw [List.size_toArray, vlen]
      exact len
    · intro b u z
      exact nomatch (show (none : Option HO) = some u from z)
  | none =>
    refine go (upd (fun _ => none) a (.frz { cls := .type "list", data := .seq vs.toArray } (.lst (ns.map V.int)))) ?_ (.inl (.inr ⟨_, upd_same⟩)) ?_ ?_ fun _ => hk
    · intro b
      by_cases hb : b = a
      · subst hb
        exact .inr ⟨_, _, upd_same⟩
      · exact .inl (upd_ne hb)
    · intro b u z
      by_cases hb : b = a
      · subst hb
        rw [upd_same] at z
        cases z
        refine ⟨scr, ?_, vs, _, rv, scr⟩
        rw [List.length_map]
        exact len
      · rw [upd_ne hb] at z
        exact nomatch z
    · intro b z
      by_cases hb : b = a
      · exact hb
      · exact absurd (upd_ne hb) z
theorem ints_dq {K : Fg} {G : Hp} : ∀ ns : List Int, DqAll K G (ns.map V.int) (ns.map PyData.int)
  | [] => .nil
  | n :: ns => .cons (.int n) (ints_dq ns)
/-- where the classes of the errors lie -/
def coOf (K : Fg) (T : Tbl) : Co := fun c fs ups => match T.ers.lookup c with
  | some inf => if fs = inf.fs ∧ ups = inf.ups then (match PySem.W.nsIn K mainGlobals c with
    | some (some (.ref C)) => some C
    | _ => none) else none
  | none => none
/-- THE LAW, by its table of defs -/
theorem walk_G {l : PySem.W.OpenLaw} {n k w : Nat} {q : Program} {loose : List Str} {XP : (Str → Option Value) → Heap → Prop} {YP : World → Heap → Prop} {d : DefRec} {K : Params → Fg} {x : Str} {T : Tbl} {P : Tab} {di : DefI}
    (hn : l.most = some n) (hn2 : n ≤ sizeLine) (hdf : d.params.defaults = []) (room : Room (k + 2) callerA) (hY : ∀ (w : World) (h : Heap), YP w h → (K w.params).In h)
    (hd : P.lookup d.name = some di) (hp : di.ps = [x])
    (top : ∀ (wo : World) (mg : Str → Option Value) (h : Heap), (K wo.params).In h → h.Ns mainGlobals mg → TopOk (K wo.params) wo mg (coOf (K wo.params) T) T P)
    (bind : ∀ (K : Fg) (fa : Addr) (fd : FuncData), Fun K d.name d.name di.st fa fd → ∀ (s : Shared) (u : Value), BindsTo s fd ⟨[u], []⟩ [(x, u)])
    (holds : ∀ ns : List Int, ns.length ≤ n → run P w k d.name [.list (ns.map .int)] = .ok (.bool true)) :
    PySem.W.WalkO q loose XP YP l.row.toRowW d [] (fun f vs => PySem.call f vs) := by
  refine Att.attach_call hn hdf fun wo s₀ s₁ mg mb fa o pm cd doc a vs ns G Y ho hd' hcd hmg hobj hints hlen hg => ?_
  have kin := hY wo _ Y
  have tp := top wo mg _ kin G.T.g
  refine law_G (x := x) (sp := spD (K wo.params) (coOf (K wo.params) T) 1 (run P w k d.name)) kin G.T.g G.T.b G.T.builtins G.T.nolimit hg hobj hints (Nat.le_trans hlen hn2) room (fun base _ _ => ?_) fun H hS => ?_
  · obtain ⟨f, fd, F1, F2, m, kp, b⟩ := all_defs (Pr := l.prog) (wo := wo) (base := base) (w := w) tp (fun r => by have := r.un; omega) k d.name di hd
    rw [hmg] at m
    cases m
    have e : di.np = 1 := by show di.ps.length = 1; rw [hp]; rfl
    rw [hp, e] at F2
    exact ⟨fd, F2, bind _ _ _ F1⟩
  · refine ⟨H, [.list (ns.map .int)], Same.refl H, .cons (.lst hS (ints_dq ns)) .nil, rfl, ?_⟩
    rw [holds ns hlen]
    intro v G' H' _ hv
    cases hv
    rfl
end Pe

set_option Elab.async false
set_option linter.all false
set_option maxRecDepth 100000
set_option maxHeartbeats 4000000
/-! Tp: what the written part says of a module's top. -/
namespace Pe
open PySem PySem.Spec PyProof.Rows L2
/-- a value of the written part is this data -/
inductive KdT (K : Fg) : Value → D → Prop
  | non : KdT K .none .none
  | bl (b : Bool) : KdT K (.bool b) (.bool b)
  | int (i : Int) (t : Tok) : KdT K (.int i t) (.int i)
  | str (x : Str) (t : Tok) : KdT K (.str x t) (.str x)
  | tup {a : Addr} {dd : Option Addr} {its : Array Value} {n : Nat} {sl : Array (Option Value)} {ds : List D} (l : K.lookup a = some ⟨.type "tuple", dd, .seq its n, sl⟩) (z : its.size ≤ 1000) (k : Paired (KdT K) its.toList ds) : KdT K (.ref a) (.tuple ds)
theorem kdT_dq {K : Fg} : ∀ (d : D) (u : Value), KdT K u d → ∃ v, RelV v u ∧ ∀ G, Dq K G v d := by
  have key : ∀ n : Nat, ∀ (d : D) (u : Value), sizeOf d < n → KdT K u d → ∃ v, RelV v u ∧ ∀ G, Dq K G v d := by
    intro n
    induction n with
    | zero => intro d u h; omega
    | succ n ih =>
      intro d u hn h
      cases h with
      | non => exact ⟨.non, rfl, fun G => .non⟩
      | bl b => exact ⟨.bl b, rfl, fun G => .bl b⟩
      | int i t => exact ⟨.int i, ⟨t, rfl⟩, fun G => .int i⟩
      | str x t => exact ⟨.str x, ⟨t, rfl⟩, fun G => .str x⟩
      | tup l z k =>
        rename_i a dd its m sl ds
        have all : ∀ (us : List Value) (ds : List D), (∀ d ∈ ds, sizeOf d < n) → Paired (KdT K) us ds → ∃ vs, Vals vs us ∧ ∀ G, DqAll K G vs ds := by
          intro us ds hs p
          induction p with
          | nil => exact ⟨[], .nil, fun G => .nil⟩
          | cons h t iht =>
            obtain ⟨v, v1, v2⟩ := ih _ _ (hs _ List.mem_cons_self) h
            obtain ⟨vs, w1, w2⟩ := iht fun d hd => hs d (List.mem_cons_of_mem _ hd)
            exact ⟨v :: vs, .cons v1 w1, fun G => .cons (v2 G) (w2 G)⟩
        have hs : ∀ d ∈ ds, sizeOf d < n := fun d hd => by
          have h1 := List.sizeOf_lt_of_mem hd
          have h2 : sizeOf (PyData.tuple ds) = 1 + sizeOf ds := by simp
          omega
        obtain ⟨vs, w1, w2⟩ := all _ _ hs k
        exact ⟨.ref a, rfl, fun G => .tup (.inr ⟨_, its, m, l, rfl, rfl, by rw [sizeLine_eq]; omega, w1⟩) (w2 G)⟩
  exact fun d u h => key _ d u (Nat.lt_succ_self _) h
/-- a dict's entries are this table -/
inductive EntD (K : Fg) (P : Params) : List DictEntry → List (Str × D) → Prop
  | nil : EntD K P [] []
  | cons {h : Int} {x : Str} {t : Tok} {u : Value} {es : List DictEntry} {d : D} {r : List (Str × D)} (hh : h = PyData.keyHash P x) (v : KdT K u d) (k : EntD K P es r) : EntD K P (⟨h, .str x t, u⟩ :: es) ((x, d) :: r)
inductive EntF (K : Fg) (P : Params) (mg : Str → Option Value) : List DictEntry → List (Str × Str) → Prop
  | nil : EntF K P mg [] []
  | cons {h : Int} {x : Str} {t : Tok} {a : Addr} {es : List DictEntry} {g : Str} {r : List (Str × Str)} (hh : h = PyData.keyHash P x) (m : mg g = some (.ref a)) (k : EntF K P mg es r) : EntF K P mg (⟨h, .str x t, .ref a⟩ :: es) ((x, g) :: r)
theorem entD_lit {K : Fg} {P : Params} : ∀ {es : List DictEntry} {r : List (Str × D)}, EntD K P es r → PySem.W.KeysLit P es
  | _, _, .nil => trivial
  | _, _, .cons hh v k => ⟨⟨_, _, rfl, hh⟩, entD_lit k⟩
theorem entF_lit {K : Fg} {P : Params} {mg : Str → Option Value} : ∀ {es : List DictEntry} {r : List (Str × Str)}, EntF K P mg es r → PySem.W.KeysLit P es
  | _, _, .nil => trivial
  | _, _, .cons hh v k => ⟨⟨_, _, rfl, hh⟩, entF_lit k⟩
theorem entD_find {K : Fg} {P : Params} {z : Str} : ∀ {es : List DictEntry} {r : List (Str × D)}, EntD K P es r → (∀ x, r.lookup z = some x → ∃ e, es.find? (·.key.isStr z) = some e ∧ KdT K e.val x) ∧ (r.lookup z = none → es.find? (·.key.isStr z) = none) ∧ es.any (·.refKey) = false
  | _, _, .nil => ⟨(fun x h => by cases h), (fun _ => rfl), rfl⟩
  | _, _, .cons (h := hq) (x := x) (t := tq) (u := u) hh v k => by
    obtain ⟨k1, k2, k3⟩ := entD_find (z := z) k
    by_cases e : z = x
    · subst e
      refine ⟨fun x h => ?_, fun h => ?_, ?_⟩
      · simp only [List.lookup, beq_self_eq_true, Option.some.injEq] at h
        subst h
        exact ⟨⟨hq, .str z tq, u⟩, by simp [List.find?, Value.isStr], v⟩
      · simp [List.lookup] at h
      · rw [List.any_cons, k3]; rfl
    · have e1 : (z == x) = false := by simpa using e
      have e2 : (x == z) = false := by simpa using fun t : x = z => e t.symm
      refine ⟨fun y h => ?_, fun h => ?_, ?_⟩
      · simp only [List.lookup, e1] at h
        obtain ⟨en, h1, h2⟩ := k1 y h
        exact ⟨en, by simp only [List.find?, Value.isStr, e2]; exact h1, h2⟩
      · simp only [List.lookup, e1] at h
        simp only [List.find?, Value.isStr, e2]
        exact k2 h
      · rw [List.any_cons, k3]; rfl
theorem entF_find {K : Fg} {P : Params} {mg : Str → Option Value} {z : Str} : ∀ {es : List DictEntry} {r : List (Str × Str)}, EntF K P mg es r → ∀ g, r.lookup z = some g → ∃ e a, es.find? (·.key.isStr z) = some e ∧ e.val = .ref a ∧ mg g = some (.ref a)
  | _, _, .nil, g, h => by cases h
  | _, _, .cons (h := hq) (x := x) (t := tq) (a := aq) hh m k, g, h => by
    by_cases e : z = x
    · subst e
      simp only [List.lookup, beq_self_eq_true, Option.some.injEq] at h
      subst h
      exact ⟨⟨hq, .str z tq, .ref aq⟩, aq, by simp [List.find?, Value.isStr], rfl, m⟩
    · have e1 : (z == x) = false := by simpa using e
      have e2 : (x == z) = false := by simpa using fun t : x = z => e t.symm
      simp only [List.lookup, e1] at h
      obtain ⟨en, a, h1, h2, h3⟩ := entF_find k g h
      exact ⟨en, a, by simp only [List.find?, Value.isStr, e2]; exact h1, h2, h3⟩
theorem ns_look {K : Fg} {d : Addr} {es : Array DictEntry} {n : Nat} {z : Str} (l : K.lookup d = some ⟨.type "dict", none, .dict es n, #[]⟩) : PySem.W.nsIn K d z = match es.toList.find? (·.key.isStr z) with
    | some e => some (some e.val)
    | none => if es.toList.any (·.refKey) = true then none else some none := by
  unfold PySem.W.nsIn
  rw [l]
  rfl
theorem tabD_of {K : Fg} {w : World} {d : Addr} {es : Array DictEntry} {n : Nat} {r : List (Str × D)} (l : K.lookup d = some ⟨.type "dict", none, .dict es n, #[]⟩) (s : (d == sysModules) = false) (e : EntD K w.params es.toList r) : TabD K w d r := by
  refine ⟨⟨es, n, l, entD_lit e, s⟩, fun z x h => ?_, fun z h => ?_⟩
  · obtain ⟨en, h1, h2⟩ := (entD_find (z := z) e).1 x h
    obtain ⟨v, v1, v2⟩ := kdT_dq _ _ h2
    exact ⟨en.val, v, by rw [ns_look l, h1], v1, v2⟩
  · obtain ⟨_, h2, h3⟩ := entD_find (z := z) e
    rw [ns_look l, h2 h, h3]
    rfl
theorem tabF_of {K : Fg} {w : World} {mg : Str → Option Value} {d : Addr} {es : Array DictEntry} {n : Nat} {r : List (Str × Str)} (l : K.lookup d = some ⟨.type "dict", none, .dict es n, #[]⟩) (s : (d == sysModules) = false) (e : EntF K w.params mg es.toList r) : TabF K mg w d r := by
  refine ⟨⟨es, n, l, entF_lit e, s⟩, fun z g h => ?_⟩
  obtain ⟨en, a, h1, h2, h3⟩ := entF_find e g h
  exact ⟨a, by rw [ns_look l, h1]; show some (some en.val) = _; rw [h2], h3⟩
/-- a def of the top -/
theorem def_of {K : Fg} {mg : Str → Option Value} {h : Heap} {T : Tbl} {x : Str} {d : DefI} {f : Addr} {oc : Value} {od an : Option Addr} {osl : Array (Option Value)} {kV doc pm cdv ct : Value} (X : K.In h) (G : h.Ns mainGlobals mg)
    (a : PySem.W.nsIn K mainGlobals x = some (some (.ref f))) (l : K.lookup f = some ⟨oc, od, .func (PySem.W.fnOf x x (defArgs d.st) (defBody d.st) (defScope d.st) .none kV doc pm an cdv ct), osl⟩) (c : PySem.W.codeIn K cdv x = true) (k : PySem.W.keepIn K (.ref f) = true)
    (bd : ∀ (kV doc pm : Value) (an : Option Addr) (cdv ct : Value) (us : List Value), us.length = d.ps.length → bindArgs (PySem.W.fnOf x x (defArgs d.st) (defBody d.st) (defScope d.st) .none kV doc pm an cdv ct) ⟨us, []⟩ = pure (d.ps.zip us))
    (sc : FnScope d.N d.ps (defScope d.st)) (cb : ∃ n ap k, cB (cS d.N n (defScope d.st) ap k T []) (cPair d.N (defScope d.st).names T (cE d.N T n (defScope d.st)) ap) (defBody d.st) = some d.body) : DefOk K mg T x d :=
  have F := fun_mk l c k
  ⟨⟨f, _, F, PySem.W.mg_of X G a, F.binds bd⟩, sc, cb⟩
theorem all_look {α : Type} {Q : Str → α → Prop} {x : Str} {d : α} : ∀ {P : List (Str × α)}, (∀ p ∈ P, Q p.1 p.2) → P.lookup x = some d → Q x d := fun h e => h _ (mem_look e)
def AllL {α : Type} (Q : α → Prop) : List α → Prop
  | [] => True
  | p :: r => Q p ∧ AllL Q r
theorem allL_mem {α : Type} {Q : α → Prop} : ∀ {l : List α}, AllL Q l → ∀ p ∈ l, Q p
  | p :: r, h, q, hq => by
    rcases List.mem_cons.mp hq with rfl | hq
    · exact h.1
    · exact allL_mem h.2 q hq
theorem allL_look {α : Type} {Q : Str × α → Prop} {P : List (Str × α)} (h : AllL Q P) (x : Str) (d : α) (e : P.lookup x = some d) : Q (x, d) := allL_mem h _ (mem_look e)
theorem con_of {K : Fg} {mg : Str → Option Value} {h : Heap} {x : Str} {d : D} {u : Value} (X : K.In h) (G : h.Ns mainGlobals mg) (a : PySem.W.nsIn K mainGlobals x = some (some u)) (k : KdT K u d) : ∃ u v, mg x = some u ∧ RelV v u ∧ ∀ G, Dq K G v d :=
  let ⟨v, h1, h2⟩ := kdT_dq d u k
  ⟨u, v, PySem.W.mg_of X G a, h1, h2⟩
theorem dct_of {K : Fg} {w : World} {mg : Str → Option Value} {h : Heap} {x : Str} {d : Addr} {es : Array DictEntry} {n : Nat} {r : List (Str × D)} (X : K.In h) (G : h.Ns mainGlobals mg) (a : PySem.W.nsIn K mainGlobals x = some (some (.ref d)))
    (l : K.lookup d = some ⟨.type "dict", none, .dict es n, #[]⟩) (s : (d == sysModules) = false) (e : EntD K w.params es.toList r) : ∃ d : Addr, mg x = some (.ref d) ∧ TabD K w d r := ⟨d, PySem.W.mg_of X G a, tabD_of l s e⟩
theorem ftb_of {K : Fg} {w : World} {mg : Str → Option Value} {h : Heap} {x : Str} {d : Addr} {es : Array DictEntry} {n : Nat} {r : List (Str × Str)} (X : K.In h) (G : h.Ns mainGlobals mg) (a : PySem.W.nsIn K mainGlobals x = some (some (.ref d)))
    (l : K.lookup d = some ⟨.type "dict", none, .dict es n, #[]⟩) (s : (d == sysModules) = false) (e : EntF K w.params mg es.toList r) : ∃ d : Addr, mg x = some (.ref d) ∧ TabF K mg w d r := ⟨d, PySem.W.mg_of X G a, tabF_of l s e⟩
theorem fns_of {T : Tbl} {P : Tab} (h : T.fns.all (fun p => (P.lookup p.1).map (·.np) == some p.2) = true) (x : Str) (n : Nat) (e : T.fns.lookup x = some n) : ∃ d, P.lookup x = some d ∧ d.np = n := by
  have h1 := List.all_eq_true.mp h _ (mem_look e)
  have h2 : (P.lookup x).map (·.np) = some n := eq_of_beq h1
  cases q : P.lookup x with
  | none => rw [q] at h2; cases h2
  | some d => rw [q] at h2; cases h2; exact ⟨d, rfl, rfl⟩
end Pe

set_option Elab.async false
set_option linter.all false
set_option maxRecDepth 100000
set_option maxHeartbeats 4000000
/-! DL: reckoning with data. -/
namespace Pe
open PySem L2
/-! ### data of bounded size -/
mutual
def lv : D → Bool
  | .none => true
  | .bool _ => true
  | .int i => decide (i.natAbs < 10 ^ 31)
  | .str x => x.cps.toList.all fun c => decide (c < 55296)
  | .list xs => lvAll xs
  | .tuple xs => lvAll xs
  | .dict _ => false
def lvAll : List D → Bool
  | [] => true
  | x :: xs => lv x && lvAll xs
end
structure W (k b : Nat) (d : D) : Prop where
  l : lv d = true
  dp : PyData.depth d ≤ k
  bk : PyData.bulk d ≤ b
structure WL (k b : Nat) (ds : List D) : Prop where
  l : lvAll ds = true
  dp : PyData.depthAll ds ≤ k
  bk : PyData.bulkAll ds ≤ b
theorem W.mono {k b k' b' : Nat} {d : D} (h : W k b d) (hk : k ≤ k') (hb : b ≤ b') : W k' b' d := ⟨h.l, Nat.le_trans h.dp hk, Nat.le_trans h.bk hb⟩
theorem WL.mono {k b k' b' : Nat} {d : List D} (h : WL k b d) (hk : k ≤ k') (hb : b ≤ b') : WL k' b' d := ⟨h.l, Nat.le_trans h.dp hk, Nat.le_trans h.bk hb⟩
theorem WL.nil {k b : Nat} : WL k b [] := ⟨rfl, Nat.zero_le _, Nat.zero_le _⟩
theorem WL.cons {k b c : Nat} {d : D} {ds : List D} (h : W k b d) (t : WL k c ds) : WL k (b + 1 + c) (d :: ds) := by
  refine ⟨?_, ?_, ?_⟩
  · show (lv d && lvAll ds) = true
    rw [h.l, t.l]; rfl
  · show max d.depth (PyData.depthAll ds) ≤ k
    have := h.dp; have := t.dp
    omega
  · show d.bulk + 1 + PyData.bulkAll ds ≤ _
    have := h.bk; have := t.bk
    omega
theorem WL.head {k b : Nat} {d : D} {ds : List D} (h : WL k b (d :: ds)) : W k b d := by
  have l : (lv d && lvAll ds) = true := h.l
  have d' : max d.depth (PyData.depthAll ds) ≤ k := h.dp
  have b' : d.bulk + 1 + PyData.bulkAll ds ≤ b := h.bk
  rw [Bool.and_eq_true] at l
  exact ⟨l.1, by omega, by omega⟩
theorem WL.tail {k b : Nat} {d : D} {ds : List D} (h : WL k b (d :: ds)) : WL k b ds := by
  have l : (lv d && lvAll ds) = true := h.l
  have d' : max d.depth (PyData.depthAll ds) ≤ k := h.dp
  have b' : d.bulk + 1 + PyData.bulkAll ds ≤ b := h.bk
  rw [Bool.and_eq_true] at l
  exact ⟨l.2, by omega, by omega⟩
theorem WL.len {k b : Nat} : ∀ {ds : List D}, WL k b ds → ds.length ≤ b
  | [], _ => Nat.zero_le _
  | d :: ds, h => by
    have b' : d.bulk + 1 + PyData.bulkAll ds ≤ b := h.bk
    have ih := WL.len (k := k) (b := PyData.bulkAll ds) (ds := ds) ⟨h.tail.l, h.tail.dp, Nat.le_refl _⟩
    show ds.length + 1 ≤ b
    omega
theorem WL.append {k b c : Nat} : ∀ {xs ys : List D}, WL k b xs → WL k c ys → WL k (b + c) (xs ++ ys)
  | [], ys, h, t => t.mono (Nat.le_refl _) (by omega)
  | x :: xs, ys, h, t => by
    have b' : x.bulk + 1 + PyData.bulkAll xs ≤ b := h.bk
    have hx : W k x.bulk x := ⟨h.head.l, h.head.dp, Nat.le_refl _⟩
    have ih := WL.append (k := k) (b := PyData.bulkAll xs) (c := c) (xs := xs) (ys := ys) ⟨h.tail.l, h.tail.dp, Nat.le_refl _⟩ t
    exact (WL.cons hx ih).mono (Nat.le_refl _) (by omega)
theorem WL.take {k b : Nat} : ∀ (n : Nat) {xs : List D}, WL k b xs → WL k b (xs.take n)
  | 0, xs, _ => by rw [List.take_zero]; exact .nil
  | n + 1, [], _ => .nil
  | n + 1, x :: xs, h => by
    have b' : x.bulk + 1 + PyData.bulkAll xs ≤ b := h.bk
    have hx : W k x.bulk x := ⟨h.head.l, h.head.dp, Nat.le_refl _⟩
    have ih := WL.take n (k := k) (b := PyData.bulkAll xs) (xs := xs) ⟨h.tail.l, h.tail.dp, Nat.le_refl _⟩
    rw [List.take_succ_cons]
    exact (WL.cons hx ih).mono (Nat.le_refl _) b'
theorem WL.drop {k b : Nat} : ∀ (n : Nat) {xs : List D}, WL k b xs → WL k b (xs.drop n)
  | 0, xs, h => by rw [List.drop_zero]; exact h
  | n + 1, [], _ => .nil
  | n + 1, x :: xs, h => by
    rw [List.drop_succ_cons]
    exact h.tail.drop n
theorem WL.cut {k b : Nat} {xs : List D} (h : WL k b xs) (lo hi : Option Int) : WL k b (cutL xs lo hi) := (h.drop _).take _
theorem WL.get {k b : Nat} : ∀ {xs : List D} {i : Nat} {d : D}, WL k b xs → xs[i]? = some d → W k b d
  | [], _, _, _, h => by simp at h
  | x :: xs, 0, d, h, e => by simp at e; subst e; exact h.head
  | x :: xs, i + 1, d, h, e => h.tail.get (i := i) (by simpa using e)
theorem WL.mem {k b : Nat} {xs : List D} {d : D} (h : WL k b xs) (m : d ∈ xs) : W k b d := by
  obtain ⟨i, e⟩ := List.mem_iff_getElem?.mp m
  exact h.get e
theorem WL.of {k b : Nat} : ∀ {xs : List D}, (∀ d ∈ xs, W k b d) → WL k (xs.length * (b + 1)) xs
  | [], _ => .nil
  | x :: xs, h => by
    refine (WL.cons (h x List.mem_cons_self) (WL.of fun d hd => h d (List.mem_cons_of_mem _ hd))).mono (Nat.le_refl _) ?_
    rw [List.length_cons, Nat.succ_mul]
    omega
theorem WL.rev {k b : Nat} : ∀ {xs : List D}, WL k b xs → WL k b xs.reverse
  | [], h => h
  | x :: xs, h => by
    have b' : x.bulk + 1 + PyData.bulkAll xs ≤ b := h.bk
    have hx : W k x.bulk x := ⟨h.head.l, h.head.dp, Nat.le_refl _⟩
    have ih := WL.rev (k := k) (b := PyData.bulkAll xs) (xs := xs) ⟨h.tail.l, h.tail.dp, Nat.le_refl _⟩
    rw [List.reverse_cons]
    exact (ih.append (WL.cons hx (.nil (b := 0)))).mono (Nat.le_refl _) (by omega)
theorem WL.tup {k b : Nat} {ds : List D} (h : WL k b ds) : W (k + 1) b (.tuple ds) := ⟨h.l, by have := h.dp; show PyData.depthAll ds + 1 ≤ _; omega, h.bk⟩
theorem WL.lst {k b : Nat} {ds : List D} (h : WL k b ds) : W (k + 1) b (.list ds) := ⟨h.l, by have := h.dp; show PyData.depthAll ds + 1 ≤ _; omega, h.bk⟩
theorem W.tup {k b : Nat} {ds : List D} (h : W k b (.tuple ds)) : WL k b ds := ⟨h.l, by have d : PyData.depthAll ds + 1 ≤ k := h.dp; omega, h.bk⟩
theorem W.lst {k b : Nat} {ds : List D} (h : W k b (.list ds)) : WL k b ds := ⟨h.l, by have d : PyData.depthAll ds + 1 ≤ k := h.dp; omega, h.bk⟩
theorem W.str {k b : Nat} {z : Str} (h : z.cps.toList.all (fun c => decide (c < 55296)) = true) (hb : z.length ≤ b) : W k b (.str z) := ⟨h, Nat.zero_le _, hb⟩
theorem W.int {k b : Nat} {i : Int} (h : i.natAbs < 10 ^ 31) : W k b (.int i) := ⟨decide_eq_true h, Nat.zero_le _, Nat.zero_le _⟩
theorem W.non {k b : Nat} : W k b .none := ⟨rfl, Nat.zero_le _, Nat.zero_le _⟩
theorem W.bl {k b : Nat} {c : Bool} : W k b (.bool c) := ⟨rfl, Nat.zero_le _, Nat.zero_le _⟩
theorem W.slen {k b : Nat} {z : Str} (h : W k b (.str z)) : z.length ≤ b := h.bk
mutual
theorem lv_leaves : ∀ d : D, lv d = true → d.leavesShort 40 = true ∧ d.showable = true
  | .none, _ => ⟨rfl, rfl⟩
  | .bool _, _ => ⟨rfl, rfl⟩
  | .int i, h => by
    have h' : i.natAbs < 10 ^ 31 := of_decide_eq_true h
    have e1 : (PyData.shown (.int i)).length ≤ 32 := by
      rw [PyData.shown_int]
      have := int_text_length_le10 (a := i) (k := 31) (by decide) h'
      show (Str.ofString (toString i)).length ≤ 32
      rw [ofString_length]; exact this
    refine ⟨?_, ?_⟩
    · unfold PyData.leavesShort
      exact decide_eq_true (by omega)
    · unfold PyData.showable
      refine decide_eq_true ?_
      by_cases z : i.natAbs = 0
      · rw [z]; decide
      · rw [Nat.log2_lt z]
        have : (10 : Nat) ^ 31 ≤ 2 ^ 1920 := by decide +kernel
        omega
  | .str x, h => by
    refine ⟨?_, rfl⟩
    unfold PyData.leavesShort
    refine List.all_eq_true.mpr fun c hc => ?_
    have := of_decide_eq_true (List.all_eq_true.mp h c hc)
    exact decide_eq_true (by omega)
  | .list xs, h => by
    have := lvAll_leaves xs h
    exact ⟨by unfold PyData.leavesShort; exact this.1, by unfold PyData.showable; exact this.2⟩
  | .tuple xs, h => by
    have := lvAll_leaves xs h
    exact ⟨by unfold PyData.leavesShort; exact this.1, by unfold PyData.showable; exact this.2⟩
  | .dict _, h => by cases h
theorem lvAll_leaves : ∀ ds : List D, lvAll ds = true → PyData.leavesShortAll 40 ds = true ∧ PyData.showableAll ds = true
  | [], _ => ⟨rfl, rfl⟩
  | x :: xs, h => by
    have h' : (lv x && lvAll xs) = true := h
    rw [Bool.and_eq_true] at h'
    obtain ⟨a1, a2⟩ := lv_leaves x h'.1
    obtain ⟨b1, b2⟩ := lvAll_leaves xs h'.2
    refine ⟨?_, ?_⟩
    · unfold PyData.leavesShortAll; rw [a1, b1]; rfl
    · unfold PyData.showableAll; rw [a2, b2]; rfl
end
theorem repr_ok {d : D} (h : W 60 300000 d) : bfD .repr [d] = some (.str d.shown) := by
  obtain ⟨h1, h2⟩ := lv_leaves d h.l
  have h3 := PyData.shown_le_bulk 40 (by decide) d h1
  have h4 : 42 * d.bulk ≤ 42 * 300000 := Nat.mul_le_mul_left _ h.bk
  show (if d.showable = true ∧ d.shown.length ≤ sizeLine ∧ d.depth ≤ 64 then some (PyData.str d.shown) else none) = _
  rw [if_pos ⟨h2, by rw [sizeLine_eq]; omega, by have := h.dp; omega⟩]
end Pe

set_option Elab.async false
set_option linter.all false
set_option maxRecDepth 100000
set_option maxHeartbeats 4000000
/-! DE: how data are reckoned with, as equations. -/
namespace Pe
open PySem L2
section
variable {F : Str → List D → Res D} {w : Nat} {ν : List (Option D)} {ρ : List Sl}
@[simp] theorem v_cst {d : D} : evE F ν (.cst d) = .ok d := by simp only [evE]
@[simp] theorem v_var {i : Nat} : evE F ν (.var i) = match ν[i]? with
    | some (some d) => .ok d
    | _ => .no := by
  simp only [evE] <;> rfl
@[simp] theorem v_bin {op : Operator} {a b : Ex} : evE F ν (.bin op a b) = (evE F ν a).bind fun x => (evE F ν b).bind fun y => .ofO (binD op x y) := by simp only [evE]
@[simp] theorem v_neg {a : Ex} : evE F ν (.neg a) = (evE F ν a).bind fun x => .ofO (negD x) := by simp only [evE]
@[simp] theorem v_cmp {op : CmpOp} {a b : Ex} : evE F ν (.cmp op a b) = (evE F ν a).bind fun x => (evE F ν b).bind fun y => .ofO (cmpD op x y) := by simp only [evE]
@[simp] theorem v_chn {op op' : CmpOp} {a b c : Ex} : evE F ν (.chn op op' a b c) = (evE F ν a).bind fun x => (evE F ν b).bind fun y => (Res.ofO (cmpD op x y)).bind fun r => boolR r ((evE F ν c).bind fun z => .ofO (cmpD op' y z)) (.ok (.bool false)) := by simp only [evE]
@[simp] theorem v_and {a b : Ex} : evE F ν (.and a b) = (evE F ν a).bind fun x => boolR x (evE F ν b) (.ok (.bool false)) := by simp only [evE]
@[simp] theorem v_or {a b : Ex} : evE F ν (.or a b) = (evE F ν a).bind fun x => boolR x (.ok (.bool true)) (evE F ν b) := by simp only [evE]
@[simp] theorem v_not {a : Ex} : evE F ν (.not a) = (evE F ν a).bind fun x => (Res.ofO (truD x)).bind fun k => .ok (.bool (!k)) := by simp only [evE]
@[simp] theorem v_ite {c a b : Ex} : evE F ν (.ite c a b) = (evE F ν c).bind fun x => (Res.ofO (truD x)).bind fun k => if k = true then evE F ν a else evE F ν b := by simp only [evE]
@[simp] theorem v_anil : evE F ν .anil = .ok (.list []) := by simp only [evE]
@[simp] theorem v_acons {a r : Ex} : evE F ν (.acons a r) = (evE F ν a).bind fun x => (evE F ν r).bind fun y => listR y fun ds => .ok (.list (x :: ds)) := by simp only [evE]
@[simp] theorem v_tup {a : Ex} : evE F ν (.tup a) = (evE F ν a).bind fun y => listR y fun ds => if ds.length ≤ sizeLine then .ok (.tuple ds) else .no := by simp only [evE]
@[simp] theorem v_lst {a : Ex} : evE F ν (.lst a) = (evE F ν a).bind fun y => listR y fun ds => if ds.length ≤ sizeLine then .ok (.list ds) else .no := by simp only [evE]
@[simp] theorem v_idx {a b : Ex} : evE F ν (.idx a b) = (evE F ν a).bind fun x => (evE F ν b).bind fun y => .ofO (idxD x y) := by simp only [evE]
@[simp] theorem v_slc {a lo hi : Ex} : evE F ν (.slc a lo hi) = (evE F ν a).bind fun x => (partE lo (evE F ν lo)).bind fun l => (partE hi (evE F ν hi)).bind fun h => .ofO (slcD x l h) := by simp only [evE]
@[simp] theorem v_call {f : Str} {a : Ex} : evE F ν (.call f a) = (evE F ν a).bind fun y => listR y fun ds => F f ds := by simp only [evE]
@[simp] theorem v_bf {f : Bf} {a : Ex} : evE F ν (.bf f a) = (evE F ν a).bind fun y => listR y fun ds => .ofO (bfD f ds) := by simp only [evE]
@[simp] theorem v_isi {a : Ex} {t : Ty} : evE F ν (.isi a t) = (evE F ν a).bind fun x => .ok (.bool (isT t x)) := by simp only [evE]
@[simp] theorem v_isis {a : Ex} {t : List Ty} : evE F ν (.isis a t) = (evE F ν a).bind fun x => .ok (.bool (anyT t x)) := by simp only [evE]
@[simp] theorem v_join {a b : Ex} : evE F ν (.join a b) = (evE F ν a).bind fun x => (evE F ν b).bind fun y => .ofO (joinD x y) := by simp only [evE]
def seqR : D → Res D
  | .list ds => .ok (.list ds)
  | .tuple ds => .ok (.list ds)
  | .str z => .ok (.list (signs z))
  | _ => .no
@[simp] theorem seqR_list {ds : List D} : seqR (.list ds) = .ok (.list ds) := id rfl
@[simp] theorem seqR_tuple {ds : List D} : seqR (.tuple ds) = .ok (.list ds) := id rfl
@[simp] theorem seqR_str {z : Str} : seqR (.str z) = .ok (.list (signs z)) := id rfl
@[simp] theorem v_seq {a : Ex} : evE F ν (.seq a) = (evE F ν a).bind seqR := by
  simp only [evE]
  congr 1
def rngR : D → D → Res D
  | .int i, .int j => if near i = true ∧ near j = true then .ok (.list (rangeL i j)) else .no
  | _, _ => .no
@[simp] theorem v_rng {a b : Ex} : evE F ν (.rng a b) = (evE F ν a).bind fun x => (evE F ν b).bind fun y => rngR x y := by
  simp only [evE]
  congr 1
theorem rngR_int {i j : Int} (h1 : -4611686018427387904 ≤ i) (h2 : i < 4611686018427387904) (h3 : -4611686018427387904 ≤ j) (h4 : j < 4611686018427387904) : rngR (.int i) (.int j) = .ok (.list (rangeL i j)) := by
  show (if near i = true ∧ near j = true then _ else _) = _
  rw [if_pos ⟨decide_eq_true ⟨h1, h2⟩, decide_eq_true ⟨h3, h4⟩⟩]
def zipR : D → D → Res D
  | .list xs, .list ys => .ok (.list (pairs xs ys))
  | .tuple xs, .tuple ys => .ok (.list (pairs xs ys))
  | _, _ => .no
@[simp] theorem zipR_l {xs ys : List D} : zipR (.list xs) (.list ys) = .ok (.list (pairs xs ys)) := id rfl
@[simp] theorem zipR_t {xs ys : List D} : zipR (.tuple xs) (.tuple ys) = .ok (.list (pairs xs ys)) := id rfl
@[simp] theorem v_zip {a b : Ex} : evE F ν (.zip a b) = (evE F ν a).bind fun x => (evE F ν b).bind fun y => zipR x y := by
  simp only [evE]
  congr 1
@[simp] theorem v_comp {elt it cond : Ex} {tg : Sum Nat (List Nat)} {own : List Nat} : evE F ν (.comp elt it cond tg own) = (evE F ν it).bind fun y => listR y fun ds => if ds.length ≤ sizeLine then (compL (itemR F ν elt cond tg own) ds).bind fun r => .ok (.list r) else .no := by
  simp only [evE]
  rfl
@[simp] theorem v_inT {a : Ex} {es : List (Str × D)} : evE F ν (.inT a es) = (evE F ν a).bind fun x => .ofO (inTD es x) := by simp only [evE]
@[simp] theorem v_atT {a : Ex} {es : List (Str × D)} : evE F ν (.atT a es) = (evE F ν a).bind fun x => .ofO (atTD es x) := by simp only [evE]
@[simp] theorem v_rev {a : Ex} : evE F ν (.rev a) = (evE F ν a).bind fun x => .ofO (revD x) := by simp only [evE]
@[simp] theorem p_no : partE .nopart (evE F ν .nopart) = .ok none := by unfold partE; rfl
@[simp] theorem listR_l {α : Type} {ds : List D} {f : List D → Res α} : listR (.list ds) f = f ds := id rfl
@[simp] theorem boolR_t {α : Type} {t f : Res α} : boolR (.bool true) t f = t := id rfl
@[simp] theorem boolR_f {α : Type} {t f : Res α} : boolR (.bool false) t f = f := id rfl
theorem boolR_ite {α : Type} {b : Bool} {t f : Res α} : boolR (.bool b) t f = if b = true then t else f := by cases b <;> rfl
@[simp] theorem truD_b {b : Bool} : truD (.bool b) = some b := id rfl
@[simp] theorem truD_n : truD .none = some false := id rfl
@[simp] theorem truD_i {i : Int} : truD (.int i) = some (i != 0) := id rfl
@[simp] theorem truD_l {xs : List D} : truD (.list xs) = some (!xs.isEmpty) := id rfl
@[simp] theorem truD_t {xs : List D} : truD (.tuple xs) = some (!xs.isEmpty) := id rfl
@[simp] theorem partE_int {x : Ex} {i : Int} (h : isPart x = true) : partE x (.ok (.int i)) = .ok (some i) := by rw [partE_is h]; rfl
@[simp] theorem isPart_cst {d : D} : isPart (.cst d) = true := id rfl
@[simp] theorem isPart_var {i : Nat} : isPart (.var i) = true := id rfl
@[simp] theorem isPart_bin {op : Operator} {a b : Ex} : isPart (.bin op a b) = true := id rfl
/-! operators -/
@[simp] theorem b_add {i j : Int} : binD .Add (.int i) (.int j) = some (.int (i + j)) := id rfl
@[simp] theorem b_sub {i j : Int} : binD .Sub (.int i) (.int j) = some (.int (i - j)) := id rfl
@[simp] theorem b_mul {i j : Int} : binD .Mult (.int i) (.int j) = if mulOk i j = true then some (.int (i * j)) else none := id rfl
@[simp] theorem b_div {i j : Int} : binD .FloorDiv (.int i) (.int j) = if 0 < j ∧ j.natAbs.log2 < 9000 then some (.int (i / j)) else none := id rfl
@[simp] theorem b_mod {i j : Int} : binD .Mod (.int i) (.int j) = if 0 < j then some (.int (i % j)) else none := id rfl
@[simp] theorem b_pow {i j : Int} : binD .Pow (.int i) (.int j) = if 0 ≤ j ∧ j ≤ 1000000 ∧ i.natAbs < 18446744073709551616 then some (.int (i ^ j.toNat)) else none := id rfl
@[simp] theorem b_addS {i j : Str} : binD .Add (.str i) (.str j) = if i.length + j.length ≤ sizeLine then some (.str (i ++ j)) else none := id rfl
@[simp] theorem b_addL {i j : List D} : binD .Add (.list i) (.list j) = if i.length + j.length ≤ sizeLine then some (.list (i ++ j)) else none := id rfl
@[simp] theorem b_addT {i j : List D} : binD .Add (.tuple i) (.tuple j) = if i.length + j.length ≤ sizeLine then some (.tuple (i ++ j)) else none := id rfl
@[simp] theorem neg_i {i : Int} : negD (.int i) = some (.int (-i)) := id rfl
@[simp] theorem c_eq {x y : D} : cmpD .Eq x y = bD (eqB x y) := id rfl
@[simp] theorem c_ne {x y : D} : cmpD .NotEq x y = nD (eqB x y) := id rfl
@[simp] theorem c_lt {x y : D} : cmpD .Lt x y = bD (ltB x y) := id rfl
@[simp] theorem c_le {x y : D} : cmpD .LtE x y = bD (leB x y) := id rfl
@[simp] theorem c_gt {x y : D} : cmpD .Gt x y = bD (ltB y x) := id rfl
@[simp] theorem c_ge {x y : D} : cmpD .GtE x y = bD (leB y x) := id rfl
@[simp] theorem c_is {x y : D} : cmpD .Is x y = bD (isB x y) := id rfl
@[simp] theorem c_isn {x y : D} : cmpD .IsNot x y = nD (isB x y) := id rfl
@[simp] theorem c_in {x y : D} : cmpD .In x y = bD (inB x y) := id rfl
@[simp] theorem c_nin {x y : D} : cmpD .NotIn x y = nD (inB x y) := id rfl
@[simp] theorem bD_s {b : Bool} : bD (some b) = some (.bool b) := id rfl
@[simp] theorem nD_s {b : Bool} : nD (some b) = some (.bool (!b)) := id rfl
@[simp] theorem lt_i {i j : Int} : ltB (.int i) (.int j) = some (decide (i < j)) := id rfl
@[simp] theorem le_i {i j : Int} : leB (.int i) (.int j) = some (decide (i ≤ j)) := id rfl
@[simp] theorem lt_s {i j : Str} : ltB (.str i) (.str j) = some (decide (i.cps.toList < j.cps.toList)) := id rfl
@[simp] theorem le_s {i j : Str} : leB (.str i) (.str j) = some (!decide (j.cps.toList < i.cps.toList)) := id rfl
@[simp] theorem eq_i {i j : Int} : eqB (.int i) (.int j) = some (i == j) := by simp [eqB, scalD, PyData.eqv]
@[simp] theorem eq_b {i j : Bool} : eqB (.bool i) (.bool j) = some (i == j) := by simp [eqB, scalD, PyData.eqv]
@[simp] theorem eq_s {i j : Str} : eqB (.str i) (.str j) = some (i == j) := by simp [eqB, scalD, PyData.eqv]
@[simp] theorem is_n {d : D} : isB d .none = some (match d with
    | .none => true
    | _ => false) := by cases d <;> rfl
/-! built-in functions -/
@[simp] theorem f_lenL {ds : List D} : bfD .len [.list ds] = some (.int ds.length) := id rfl
@[simp] theorem f_lenT {ds : List D} : bfD .len [.tuple ds] = some (.int ds.length) := id rfl
@[simp] theorem f_lenS {z : Str} : bfD .len [.str z] = if z.length ≤ sizeLine then some (.int z.length) else none := id rfl
@[simp] theorem f_abs {i : Int} : bfD .abs [.int i] = some (.int (if i < 0 then -i else i)) := id rfl
@[simp] theorem f_int {i : Int} : bfD .int [.int i] = some (.int i) := id rfl
@[simp] theorem f_intb {b : Bool} : bfD .int [.bool b] = some (.int (if b = true then 1 else 0)) := id rfl
@[simp] theorem f_max {i j : Int} : bfD .max2 [.int i, .int j] = some (.int (if j > i then j else i)) := id rfl
@[simp] theorem f_min {i j : Int} : bfD .min2 [.int i, .int j] = some (.int (if j < i then j else i)) := id rfl
@[simp] theorem f_tupL {ds : List D} : bfD .tuple [.list ds] = some (.tuple ds) := id rfl
@[simp] theorem f_tupT {ds : List D} : bfD .tuple [.tuple ds] = some (.tuple ds) := id rfl
@[simp] theorem f_lstL {ds : List D} : bfD .list [.list ds] = some (.list ds) := id rfl
@[simp] theorem f_lstT {ds : List D} : bfD .list [.tuple ds] = some (.list ds) := id rfl
@[simp] theorem f_all {ds : List D} : bfD .all [.list ds] = (blsOf ds).map fun bs => .bool (bs.all id) := id rfl
@[simp] theorem f_any {ds : List D} : bfD .any [.list ds] = (blsOf ds).map fun bs => .bool (bs.any id) := id rfl
@[simp] theorem f_sum {ds : List D} : bfD .sum [.list ds] = (intsOf ds).map fun ns => .int ns.sum := id rfl
@[simp] theorem f_sumT {ds : List D} : bfD .sum [.tuple ds] = (intsOf ds).map fun ns => .int ns.sum := id rfl
@[simp] theorem f_sor {ds : List D} : bfD .sorted ds = sorD ds := id rfl
@[simp] theorem bls_map {α : Type} {f : α → Bool} : ∀ {xs : List α}, blsOf (xs.map fun x => PyData.bool (f x)) = some (xs.map f)
  | [] => rfl
  | x :: xs => by
    show (blsOf (xs.map fun x => PyData.bool (f x))).map (f x :: ·) = _
    rw [bls_map]; rfl
@[simp] theorem ints_map : ∀ {xs : List Int}, intsOf (xs.map PyData.int) = some xs
  | [] => rfl
  | x :: xs => by
    show (intsOf (xs.map PyData.int)).map (x :: ·) = _
    rw [ints_map]; rfl
@[simp] theorem i_list {ds : List D} {i : Int} : idxD (.list ds) (.int i) = atI ds i := id rfl
@[simp] theorem i_tup {ds : List D} {i : Int} : idxD (.tuple ds) (.int i) = atI ds i := id rfl
@[simp] theorem i_str {z : Str} {i : Int} : idxD (.str z) (.int i) = if z.length ≤ sizeLine then (atI z.cps.toList i).map fun c => .str ⟨#[c]⟩ else none := id rfl
@[simp] theorem s_list {ds : List D} {lo hi : Option Int} : slcD (.list ds) lo hi = some (.list (cutL ds lo hi)) := id rfl
@[simp] theorem s_tup {ds : List D} {lo hi : Option Int} : slcD (.tuple ds) lo hi = some (.tuple (cutL ds lo hi)) := id rfl
@[simp] theorem s_str {z : Str} {lo hi : Option Int} : slcD (.str z) lo hi = if z.length ≤ sizeLine then some (.str (cutS z lo hi)) else none := id rfl
@[simp] theorem rev_l {ds : List D} : revD (.list ds) = some (.list ds.reverse) := id rfl
@[simp] theorem rev_t {ds : List D} : revD (.tuple ds) = some (.tuple ds.reverse) := id rfl
@[simp] theorem inTD_s {es : List (Str × D)} {z : Str} : inTD es (.str z) = some (.bool (es.lookup z).isSome) := id rfl
@[simp] theorem atTD_s {es : List (Str × D)} {z : Str} : atTD es (.str z) = es.lookup z := id rfl
theorem atI_nat {α : Type} {xs : List α} {n : Nat} (h : n < xs.length) : atI xs (n : Int) = some xs[n] := by
  unfold atI ixN
  rw [if_pos (by omega), if_pos (by omega)]
  simp [h]
theorem atI_ok {α : Type} {xs : List α} {i : Int} (h0 : 0 ≤ i) (h : i < xs.length) : ∃ x, atI xs i = some x ∧ xs[i.toNat]? = some x := by
  have e := atI_nat (xs := xs) (n := i.toNat) (by omega)
  rw [Int.toNat_of_nonneg h0] at e
  exact ⟨_, e, List.getElem?_eq_getElem _⟩
@[simp] theorem atI_zero {α : Type} {x : α} {xs : List α} : atI (x :: xs) 0 = some x := by
  unfold atI ixN
  simp
@[simp] theorem log_lt {n : Nat} (h : n < 1152921504606846976) : (n.log2 < 9000) = True := by
  refine eq_true ?_
  by_cases z : n = 0
  · subst z; decide
  · rw [Nat.log2_lt z]
    have : (1152921504606846976 : Nat) ≤ 2 ^ 9000 := by
      have : (1152921504606846976 : Nat) = 2 ^ 60 := by decide
      rw [this]
      exact Nat.pow_le_pow_right (by decide) (by decide)
    omega
/-! slots -/
@[simp] theorem vw_nil : vw [] = [] := id rfl
@[simp] theorem vw_cons {s : Sl} {r : List Sl} : vw (s :: r) = s.all :: vw r := id rfl
@[simp] theorem vwN_nil : vwN [] = [] := id rfl
@[simp] theorem vwN_cons {s : Sl} {r : List Sl} : vwN (s :: r) = s.fix :: vwN r := id rfl
@[simp] theorem all_un : Sl.un.all = none := id rfl
@[simp] theorem all_val {d : D} : (Sl.val d).all = some d := id rfl
@[simp] theorem all_own {d : List D} : (Sl.own d).all = some (.list d) := id rfl
@[simp] theorem fix_un : Sl.un.fix = none := id rfl
@[simp] theorem fix_val {d : D} : (Sl.val d).fix = some d := id rfl
@[simp] theorem fix_own {d : List D} : (Sl.own d).fix = none := id rfl
@[simp] theorem frz_nil {ρ : List Sl} : frz [] ρ = ρ := id rfl
@[simp] theorem frz_cons {i : Nat} {is : List Nat} {ρ : List Sl} : frz (i :: is) ρ = match ρ[i]? with
    | some (.own xs) => frz is (ρ.set i (.val (.list xs)))
    | _ => frz is ρ := rfl
@[simp] theorem evK_t {x : Ex} {m : List Nat} : evK F ρ x true m = (evE F (vw ρ) x).bind fun d => if noL d = true then .ok (d, ρ) else .no := id rfl
@[simp] theorem evK_f {x : Ex} {m : List Nat} : evK F ρ x false m = (evE F (vwN (frz m ρ)) x).bind fun d => .ok (d, frz m ρ) := id rfl
/-! statements -/
@[simp] theorem w_set {i : Nat} {x : Ex} {k : Bool} {m : List Nat} : evS F w ρ (.set i x k m) = (evK F ρ x k m).bind fun a => .ok (.nx (a.2.set i (.val a.1))) := by simp only [evS]
@[simp] theorem w_new {i : Nat} {x : Ex} {m : List Nat} : evS F w ρ (.new i x m) = (evE F (vwN (frz m ρ)) x).bind fun y => listR y fun r => .ok (.nx ((frz m ρ).set i (.own r))) := by simp only [evS]
@[simp] theorem w_unp {is : List Nat} {x : Ex} {k : Bool} {m : List Nat} : evS F w ρ (.unp is x k m) = (evK F ρ x k m).bind fun a => (Res.ofO (setS a.2 (.inr is) a.1)).bind fun ρ' => .ok (.nx ρ') := by simp only [evS]
@[simp] theorem w_dro {x : Ex} : evS F w ρ (.dro x) = (evE F (vw ρ) x).bind fun _ => .ok (.nx ρ) := by simp only [evS]
@[simp] theorem w_ret {x : Ex} {m : List Nat} : evS F w ρ (.ret x m) = (evE F (vwN (frz m ρ)) x).bind fun d => .ok (.rt d) := by simp only [evS]
@[simp] theorem w_retN : evS F w ρ .retN = .ok (.rt .none) := by simp only [evS]
@[simp] theorem w_ife {c : Ex} {a b : Sm} : evS F w ρ (.ife c a b) = (tst F ρ c).bind fun k => if k = true then evS F w ρ a else evS F w ρ b := by simp only [evS]
@[simp] theorem w_pass : evS F w ρ .pass = .ok (.nx ρ) := by simp only [evS]
@[simp] theorem w_brk : evS F w ρ .brk = .ok (.bk ρ) := by simp only [evS]
@[simp] theorem w_cnt : evS F w ρ .cnt = .ok (.ct ρ) := by simp only [evS]
@[simp] theorem tst_is {c : Ex} : tst F ρ c = (evE F (vw ρ) c).bind fun d => .ofO (truD d) := id rfl
def thenS (F : Str → List D → Res D) (w : Nat) (b : Sm) : Out → Res Out
  | .nx ρ' => evS F w ρ' b
  | .rt d => .ok (.rt d)
  | .bk ρ' => .ok (.bk ρ')
  | .ct ρ' => .ok (.ct ρ')
@[simp] theorem w_seq {a b : Sm} : evS F w ρ (.seq a b) = (evS F w ρ a).bind (thenS F w b) := by
  simp only [evS]
  congr 1
@[simp] theorem then_nx {b : Sm} : thenS F w b (.nx ρ) = evS F w ρ b := id rfl
@[simp] theorem then_rt {b : Sm} {d : D} : thenS F w b (.rt d) = .ok (.rt d) := id rfl
@[simp] theorem then_bk {b : Sm} : thenS F w b (.bk ρ) = .ok (.bk ρ) := id rfl
@[simp] theorem then_ct {b : Sm} : thenS F w b (.ct ρ) = .ok (.ct ρ) := id rfl
def appR (i : Nat) (a : D × List Sl) : Res Out := match a.2[i]? with
  | some (.own xs) => if xs.length < sizeLine then .ok (.nx (a.2.set i (.own (xs ++ [a.1])))) else .no
  | _ => .no
theorem w_app {i : Nat} {x : Ex} {k : Bool} {m : List Nat} {xs : List D} (h : ρ[i]? = some (.own xs)) : evS F w ρ (.app i x k m) = (evK F ρ x k m).bind (appR i) := by
  simp only [evS, h]
  rfl
def stepF (F : Str → List D → Res D) (w : Nat) (tg : Sum Nat (List Nat)) (b : Sm) (ρ : List Sl) (d : D) : Res Out := match setS ρ tg d with
  | some ρ' => evS F w ρ' b
  | none => .no
@[simp] theorem stepF_one {i : Nat} {b : Sm} {d : D} : stepF F w (.inl i) b ρ d = evS F w (ρ.set i (.val d)) b := id rfl
theorem w_for {tg : Sum Nat (List Nat)} {it : Ex} {m : List Nat} {b : Sm} : evS F w ρ (.for_ tg it m b) = (evE F (vwN (frz m ρ)) it).bind fun y => listR y fun ds => forL (stepF F w tg b) (frz m ρ) ds := by
  simp only [evS]
  rfl
@[simp] theorem forL_nil {g : List Sl → D → Res Out} : forL g ρ [] = .ok (.nx ρ) := id rfl
def loopR (g : List Sl → D → Res Out) (ds : List D) : Out → Res Out
  | .nx ρ' => forL g ρ' ds
  | .ct ρ' => forL g ρ' ds
  | .bk ρ' => .ok (.nx ρ')
  | .rt d => .ok (.rt d)
theorem forL_cons {g : List Sl → D → Res Out} {d : D} {ds : List D} : forL g ρ (d :: ds) = (g ρ d).bind (loopR g ds) := by
  unfold forL
  congr 1
@[simp] theorem loopR_nx {g : List Sl → D → Res Out} {ds : List D} : loopR g ds (.nx ρ) = forL g ρ ds := id rfl
@[simp] theorem loopR_ct {g : List Sl → D → Res Out} {ds : List D} : loopR g ds (.ct ρ) = forL g ρ ds := id rfl
@[simp] theorem loopR_bk {g : List Sl → D → Res Out} {ds : List D} : loopR g ds (.bk ρ) = .ok (.nx ρ) := id rfl
@[simp] theorem loopR_rt {g : List Sl → D → Res Out} {ds : List D} {d : D} : loopR g ds (.rt d) = .ok (.rt d) := id rfl
/-- a loop that goes to its end -/
theorem forL_inv {g : List Sl → D → Res Out} {ds : List D} (I : Nat → List Sl → Prop) (step : ∀ i ρ d, ds[i]? = some d → I i ρ → ∃ ρ', (g ρ d = .ok (.nx ρ') ∨ g ρ d = .ok (.ct ρ')) ∧ I (i + 1) ρ') {ρ : List Sl} (h : I 0 ρ) : ∃ ρ', forL g ρ ds = .ok (.nx ρ') ∧ I ds.length ρ' := by
  induction ds generalizing ρ I with
  | nil => exact ⟨ρ, rfl, h⟩
  | cons d ds ih =>
    obtain ⟨ρ1, h1, h2⟩ := step 0 ρ d rfl h
    obtain ⟨ρ2, h3, h4⟩ := ih (fun i => I (i + 1)) (fun i ρ d e hi => step (i + 1) ρ d (by simpa using e) hi) h2
    refine ⟨ρ2, ?_, h4⟩
    rw [forL_cons]
    rcases h1 with h1 | h1 <;> rw [h1] <;> exact h3
def endR : Out → Res D
  | .rt d => .ok d
  | .nx _ => .ok .none
  | _ => .no
@[simp] theorem endR_rt {d : D} : endR (.rt d) = .ok d := id rfl
@[simp] theorem endR_nx : endR (.nx ρ) = .ok .none := id rfl
theorem evD_is {n : Nat} {b : Sm} {ds : List D} : evD F w n b ds = (evS F w (ds.map .val ++ List.replicate (n - ds.length) .un) b).bind endR := by
  unfold evD
  congr 1
end
theorem compL_map {f : D → Res (Option D)} {g : D → D} : ∀ {ds : List D}, (∀ d ∈ ds, f d = .ok (some (g d))) → compL f ds = .ok (ds.map g)
  | [], _ => rfl
  | d :: ds, h => by
    unfold compL
    rw [h d List.mem_cons_self, compL_map fun e he => h e (List.mem_cons_of_mem _ he)]
    rfl
theorem item_one {F : Str → List D → Res D} {ν : List (Option D)} {elt : Ex} {i : Nat} {own : List Nat} {d : D} : itemR F ν elt (.cst (.bool true)) (.inl i) own d = (evE F ((wipeD ν own).set i (some d)) elt).noErr.bind fun x => .ok (some x) := by
  unfold itemR
  simp [setTg]
theorem item_two {F : Str → List D → Res D} {ν : List (Option D)} {elt : Ex} {i j : Nat} {own : List Nat} {a b : D} : itemR F ν elt (.cst (.bool true)) (.inr [i, j]) own (.tuple [a, b]) = (evE F (((wipeD ν own).set i (some a)).set j (some b)) elt).noErr.bind fun x => .ok (some x) := by
  unfold itemR
  simp [setTg, setAll]
@[simp] theorem wipe_nil {ν : List (Option D)} : wipeD ν [] = ν := id rfl
@[simp] theorem wipe_cons {ν : List (Option D)} {i : Nat} {is : List Nat} : wipeD ν (i :: is) = (wipeD ν is).set i none := id rfl
theorem run_is {P : Tab} {w k : Nat} {f : Str} {ds : List D} {d : DefI} (h : P.lookup f = some d) : run P w (k + 1) f ds = evD (run P w k) w d.N.length d.body ds := by
  unfold run
  rw [h]
end Pe

set_option Elab.async false
set_option linter.all false
set_option maxRecDepth 100000
set_option maxHeartbeats 4000000
/-! DN: the numbers that a law draws; words. -/
namespace Pe
open PySem L2
def nb_body : Sm := (.ife (.var 3) (.seq (.app 5 (.bin .Mod (.bf .int (.acons (.var 4) .anil)) (.cst (.int 1000))) false []) (.set 4 (.bin .FloorDiv (.var 4) (.cst (.int 1000))) false [])) (.seq (.set 7 (.bin .Mod (.bf .int (.acons (.bin .Add (.bin .Add (.bin .Add (.bin .Mult (.var 4) (.cst (.int 48271))) (.bin .Mult (.var 1) (.cst (.int 69621)))) (.bin .Mult (.var 6) (.cst (.int 16807)))) (.cst (.int 7))) .anil)) (.cst (.int 2147483647))) false []) (.seq (.set 7 (.bin .Mod (.bf .int (.acons (.bin .Add (.bin .Add (.bin .Mult (.var 7) (.var 7)) (.bin .Mult (.var 6) (.cst (.int 40692)))) (.cst (.int 3))) .anil)) (.cst (.int 2147483629))) false []) (.seq (.set 7 (.bin .Mod (.bf .int (.acons (.bin .Add (.bin .Add (.bin .Mult (.var 7) (.var 7)) (.bin .Mult (.var 1) (.cst (.int 30269)))) (.cst (.int 5))) .anil)) (.cst (.int 2147483587))) false []) (.app 5 (.bin .Mod (.bf .int (.acons (.bin .FloorDiv (.var 7) (.cst (.int 5))) .anil)) (.cst (.int 1000))) false [])))))
def b_numbers : Sm := (.seq (.set 3 (.cmp .GtE (.bf .abs (.acons (.bf .int (.acons (.var 0) .anil)) .anil)) (.bin .Pow (.cst (.int 10)) (.cst (.int 18)))) false []) (.seq (.set 4 (.bin .Add (.bin .Mult (.cst (.int 2)) (.bf .abs (.acons (.bf .int (.acons (.var 0) .anil)) .anil))) (.bf .int (.acons (.cmp .Lt (.var 0) (.cst (.int 0))) .anil))) false []) (.seq (.new 5 (.lst .anil) []) (.seq (.for_ (.inl 6) (.rng (.cst (.int 0)) (.var 2)) [] nb_body) (.ret (.var 5) [5])))))
theorem small_of {i : Int} (h : i.natAbs < 18446744073709551616) : small i = true := decide_eq_true h
theorem mulOk_r {i j : Int} (h : small j = true) : mulOk i j = true := by unfold mulOk; rw [h]; rfl
theorem mulOk_l {i j : Int} (h : small i = true) : mulOk i j = true := by unfold mulOk; rw [h]; simp
theorem range_at {i j : Int} {n : Nat} {d : D} (h : (rangeL i j)[n]? = some d) : d = .int (i + n) := by
  unfold rangeL at h
  rw [List.getElem?_map] at h
  cases e : (List.range (j - i).toNat)[n]? with
  | none => rw [e] at h; cases h
  | some m =>
    rw [e] at h
    cases h
    rw [List.getElem?_range] at e
    · cases e; rfl
    · obtain ⟨hk, _⟩ := List.getElem?_eq_some_iff.mp e
      simpa using hk
def Nums (n : Nat) (ns : List Int) : Prop := ns.length = n ∧ ∀ x ∈ ns, 0 ≤ x ∧ x < 1000
def NI (c at_ : Int) (n : Nat) (great : Bool) (i : Nat) (ρ : List Sl) : Prop := ∃ (xs : List Int) (rest : Int) (k m : Sl), ρ = [.val (.int c), .val (.int at_), .val (.int n), .val (.bool great), .val (.int rest), .own (xs.map .int), k, m] ∧ xs.length = i ∧ ∀ x ∈ xs, 0 ≤ x ∧ x < 1000
section
variable {F : Str → List D → Res D} {w : Nat} {c at_ : Int} {n : Nat}
theorem nb_t {xs : List Int} {rest : Int} {k m : Sl} {i : Nat} (hs : xs.length < sizeLine) : stepF F w (.inl 6) nb_body [.val (.int c), .val (.int at_), .val (.int n), .val (.bool true), .val (.int rest), .own (xs.map .int), k, m] (.int i) =
    .ok (.nx [.val (.int c), .val (.int at_), .val (.int n), .val (.bool true), .val (.int (rest / 1000)), .own ((xs ++ [rest % 1000]).map .int), .val (.int i), m]) := by
  simp [nb_body, w_app, appR, hs]
def mx1 (rest at_ i : Int) : Int := (rest * 48271 + at_ * 69621 + i * 16807 + 7) % 2147483647
def mx2 (rest at_ i : Int) : Int := (mx1 rest at_ i * mx1 rest at_ i + i * 40692 + 3) % 2147483629
def mx3 (rest at_ i : Int) : Int := (mx2 rest at_ i * mx2 rest at_ i + at_ * 30269 + 5) % 2147483587
theorem nb_f {xs : List Int} {rest : Int} {k m : Sl} {i : Nat} (hs : xs.length < sizeLine) : stepF F w (.inl 6) nb_body [.val (.int c), .val (.int at_), .val (.int n), .val (.bool false), .val (.int rest), .own (xs.map .int), k, m] (.int i) =
    .ok (.nx [.val (.int c), .val (.int at_), .val (.int n), .val (.bool false), .val (.int rest), .own ((xs ++ [mx3 rest at_ i / 5 % 1000]).map .int), .val (.int i), .val (.int (mx3 rest at_ i))]) := by
  have e48 : ∀ a, mulOk a 48271 = true := fun a => mulOk_r (by decide)
  have e69 : ∀ a, mulOk a 69621 = true := fun a => mulOk_r (by decide)
  have e16 : ∀ a, mulOk a 16807 = true := fun a => mulOk_r (by decide)
  have e40 : ∀ a, mulOk a 40692 = true := fun a => mulOk_r (by decide)
  have e30 : ∀ a, mulOk a 30269 = true := fun a => mulOk_r (by decide)
  have mm : ∀ j : Int, 0 ≤ j → j < 2147483647 → mulOk j j = true := fun j h0 h1 => mulOk_r (small_of (by omega))
  have f1 : (rest * 48271 + at_ * 69621 + (i : Int) * 16807 + 7) % 2147483647 = mx1 rest at_ i := rfl
  have f2 : (mx1 rest at_ i * mx1 rest at_ i + (i : Int) * 40692 + 3) % 2147483629 = mx2 rest at_ i := rfl
  have f3 : (mx2 rest at_ i * mx2 rest at_ i + at_ * 30269 + 5) % 2147483587 = mx3 rest at_ i := rfl
  have g1 : mulOk (mx1 rest at_ i) (mx1 rest at_ i) = true := mm _ (by unfold mx1; omega) (by unfold mx1; omega)
  have g2 : mulOk (mx2 rest at_ i) (mx2 rest at_ i) = true := mm _ (by unfold mx2; omega) (by unfold mx2; omega)
  simp [nb_body, w_app, appR, hs, e48, e69, e16, e40, e30, f1, f2, f3, g1, g2]
theorem nb_step (hn : n ≤ 1000000) {great : Bool} : ∀ i ρ d, (rangeL 0 n)[i]? = some d → NI c at_ n great i ρ → ∃ ρ', (stepF F w (.inl 6) nb_body ρ d = .ok (.nx ρ') ∨ stepF F w (.inl 6) nb_body ρ d = .ok (.ct ρ')) ∧ NI c at_ n great (i + 1) ρ' := by
  rintro i ρ d hd ⟨xs, rest, k, m, rfl, hl, hx⟩
  have hi : i < n := by
    have := (List.getElem?_eq_some_iff.mp hd).1
    rw [rangeL_len] at this
    omega
  have hd' := range_at hd
  rw [Int.zero_add] at hd'
  subst hd'
  have hs : xs.length < sizeLine := by rw [sizeLine_eq]; omega
  have more : ∀ y : Int, 0 ≤ y → y < 1000 → ∀ x ∈ xs ++ [y], 0 ≤ x ∧ x < 1000 := fun y h0 h1 x hx' => by
    rcases List.mem_append.mp hx' with h | h
    · exact hx x h
    · rw [List.mem_singleton] at h
      subst h
      exact ⟨h0, h1⟩
  cases great with
  | true => exact ⟨_, .inl (nb_t hs), _, _, _, _, rfl, by simp [hl], more _ (by omega) (by omega)⟩
  | false => exact ⟨_, .inl (nb_f hs), _, _, _, _, rfl, by simp [hl], more _ (by omega) (by omega)⟩
theorem nb_start (hn : n ≤ 1000000) : ∃ (great : Bool) (rest : Int), evD F w 8 b_numbers [.int c, .int at_, .int n] = ((forL (stepF F w (.inl 6) nb_body) [.val (.int c), .val (.int at_), .val (.int n), .val (.bool great), .val (.int rest), .own [], .un, .un] (rangeL 0 n)).bind (thenS F w (.ret (.var 5) [5]))).bind endR := by
  have m2 : ∀ j : Int, mulOk 2 j = true := fun j => mulOk_l (by decide)
  have r : rngR (.int 0) (.int n) = .ok (.list (rangeL 0 n)) := rngR_int (by omega) (by omega) (by omega) (by omega)
  generalize hr : evD F w 8 b_numbers [.int c, .int at_, .int n] = q
  simp only [evD_is, b_numbers, List.map_cons, List.map_nil, List.length_cons, List.length_nil, List.cons_append, List.nil_append, w_seq, w_set, evK_f, frz_nil, vwN_cons, fix_val, v_cmp, v_bf, v_acons, v_var, List.getElem?_cons_zero, Res.bind_ok, v_anil, listR_l, f_int, f_abs, Res.ofO_some, v_bin, v_cst, c_ge] at hr
  simp [m2, w_for, r] at hr
  exact ⟨_, _, hr.symm⟩
theorem numbers_ok (c at_ : Int) (n : Nat) (hn : n ≤ 1000000) : ∃ ns, evD F w 8 b_numbers [.int c, .int at_, .int n] = .ok (.list (ns.map .int)) ∧ Nums n ns := by
  obtain ⟨great, rest, e⟩ := nb_start (F := F) (w := w) (c := c) (at_ := at_) hn
  obtain ⟨ρ', h1, xs, rest', k, m, rfl, h3, h4⟩ := forL_inv (NI c at_ n great) (nb_step (F := F) (w := w) hn) ⟨[], rest, .un, .un, rfl, rfl, fun x hx => by cases hx⟩
  rw [List.map_nil] at h1
  rw [e, h1]
  refine ⟨xs, by simp, ?_, h4⟩
  rw [h3, rangeL_len]
  omega
end
end Pe

set_option Elab.async false
set_option linter.all false
set_option maxRecDepth 100000
set_option maxHeartbeats 4000000
/-! Tq: own errors and classes, seen at the top. -/
namespace Pe
open PySem L2
def headS : List Stmt → Stmt → Stmt
  | s :: _, _ => s
  | [], s => s
def initS (s : Stmt) : Stmt := match s with
  | .ClassDef (body := b) .. => headS b s
  | s => s
theorem co_of {K : Fg} {T : Tbl} {c : Str} {inf : ErI} {C : Addr} (el : T.ers.lookup c = some inf) (aC : PySem.W.nsIn K mainGlobals c = some (some (.ref C))) : coOf K T c inf.fs inf.ups = some C := by
  unfold coOf
  rw [el, aC]
  simp
theorem ert_of {K : Fg} {mg : Str → Option Value} {h : Heap} {T : Tbl} {c : Str} {inf : ErI} {C fI N : Addr} {f : Str} {fs : List Str} {st : Stmt} {qual nm q : Str} {bs bm : List Value} {sn : List Str} {sub : List Value} {ab : Bool} {col : Option Bool} {dd : Option Addr} {k0 k1 k2 k3 k5 : Option Value}
    {oc : Value} {od an : Option Addr} {osl : Array (Option Value)} {kV doc pm cdv ct : Value} (X : K.In h) (G : h.Ns mainGlobals mg) (el : T.ers.lookup c = some inf) (ef : inf.fs = f :: fs)
    (aC : PySem.W.nsIn K mainGlobals c = some (some (.ref C)))
    (xL : K.lookup C = some (excClassObj nm q C N bs bm true sn sub ab col dd k0 k1 k2 k3 k5 "ValueError.__new__")) (rv : HandSPX.refsVE bm = true)
    (sa : PySem.W.findIn K (.ref C) "__setattr__" = some (some (.builtin "object.__setattr__"))) (ex : PySem.W.subIn K (.ref C) (.type "BaseException") = some true) (kC : PySem.W.keepIn K (.ref C) = true)
    (iC : PySem.W.findIn K (.ref C) "__init__" = some (some (.ref fI))) (tI : PySem.W.typeIn K (.ref fI) = some (.type "function"))
    (l : K.lookup fI = some ⟨oc, od, .func (PySem.W.fnOf "__init__" qual (defArgs st) (defBody st) (defScope st) .none kV doc pm an cdv ct), osl⟩) (c1 : PySem.W.codeIn K cdv qual = true) (kI : PySem.W.keepIn K (.ref fI) = true)
    (bd : ∀ (kV doc pm : Value) (an : Option Addr) (cdv ct : Value) (us : List Value), us.length = (("self" : Str) :: f :: fs).length → bindArgs (PySem.W.fnOf "__init__" qual (defArgs st) (defBody st) (defScope st) .none kV doc pm an cdv ct) ⟨us, []⟩ = pure ((("self" : Str) :: f :: fs).zip us))
    (sc : FnScope (("self" : Str) :: f :: fs) (("self" : Str) :: f :: fs) (defScope st)) (ib : initB (f :: fs) (defBody st) = true) (nd : (f :: fs).Nodup) (ng : ∀ g ∈ ("self" : Str) :: f :: fs, g ≠ "__debug__" ∧ g ≠ "__classdict__") (ln : fs.length ≤ 800) : ErT K mg (coOf K T) c inf :=
  have F := fun_mk l c1 kI
  have ty : PySem.W.typeIn K (.ref C) = some (.type "type") := by
    show (K.lookup C).map _ = _
    rw [xL]; rfl
  ⟨⟨C, fI, _, st, qual, f, fs, ef, PySem.W.mg_of X G aC, co_of el aC, ⟨⟨_, _, _, _, _, _, _, _, _, _, _, _, _, _, _, xL, rv⟩, sa, ex, ty, kC⟩, iC, tI, F, sc, ib, nd, ng, ln, F.binds bd⟩⟩
structure Fine (K : Fg) (u : Value) : Prop where
  bx : PySem.W.subIn K u (.type "BaseException") = some true
  kc : ∀ t, PySem.W.kitCls K t u = PySem.W.subIn K t u
theorem clsE_own {K : Fg} {mg : Str → Option Value} {h : Heap} {c : Str} {C : Addr} (X : K.In h) (G : h.Ns mainGlobals mg) (nd : c ≠ "__debug__") (a : PySem.W.nsIn K mainGlobals c = some (some (.ref C))) (hc : PySem.W.isClsIn K C = true) (ht : PySem.W.typeIn K (.ref C) = some (.type "type")) (hx : PySem.W.subIn K (.ref C) (.type "BaseException") = some true) : ClsN mg c (.ref C) ∧ Fine K (.ref C) := by
  refine ⟨⟨.inl ⟨PySem.W.mg_of X G a, C, rfl⟩, nd⟩, hx, fun t => ?_⟩
  show (if ((PySem.W.clsIn K C).isSome && PySem.W.typeIn K (Value.ref C) == some (Value.type "type")) = true then PySem.W.subIn K t (Value.ref C) else none) = _
  rw [show (PySem.W.clsIn K C).isSome = true from hc, ht]
  rfl
theorem clsE_blt {K : Fg} {mg : Str → Option Value} {h : Heap} {c : Str} {n : String} (X : K.In h) (G : h.Ns mainGlobals mg) (nd : c ≠ "__debug__") (nn : c ≠ "__name__") (b : bootBuiltins c = some (.type n)) (m : PySem.W.kitMeta n = true) (a : PySem.W.nsIn K mainGlobals c = some none) (hx : PySem.W.subIn K (.type n) (.type "BaseException") = some true) : ClsN mg c (.type n) ∧ Fine K (.type n) := by
  refine ⟨⟨.inr ⟨PySem.W.mg_none_of X G a, b, nn, n, rfl⟩, nd⟩, hx, fun t => ?_⟩
  show (if PySem.W.kitMeta n = true then PySem.W.subIn K t (Value.type n) else none) = _
  rw [if_pos m]
def cnL (l : List (Str × Value)) (c : Str) : Value := (l.lookup c).getD .none
def NF (K : Fg) (C : Addr) : List Str → Prop
  | [] => True
  | f :: r => PySem.W.findIn K (.ref C) f = some none ∧ NF K C r
theorem nf_all {K : Fg} {C : Addr} : ∀ {fs : List Str}, NF K C fs → ∀ f ∈ fs, PySem.W.findIn K (.ref C) f = some none
  | f :: r, h, g, m => by
    rcases List.mem_cons.mp m with rfl | m
    · exact h.1
    · exact nf_all h.2 g m
theorem erc_of {K : Fg} {cn : Str → Value} {cls fs ups : List Str} {C N : Addr} {nm q : Str} {bs bm : List Value} {sn : List Str} {sub : List Value} {ab : Bool} {col : Option Bool} {dd : Option Addr} {k0 k1 k2 k3 k5 : Option Value}
    (xL : K.lookup C = some (excClassObj nm q C N bs bm true sn sub ab col dd k0 k1 k2 k3 k5 "ValueError.__new__"))
    (hn : PySem.W.specialIn K (.builtin "object.__class__") "__get__" = some (some (.builtin "getset_descriptor.__get__"))) (ht : PySem.W.takesIn K (.builtin "object.__class__") = some true)
    (ga : PySem.W.findIn K (.ref C) "__getattribute__" = some (some (.builtin "BaseException.__getattribute__"))) (gg : PySem.W.findIn K (.ref C) "__getattr__" = some none) (ha : PySem.W.findIn K (.ref C) "__class__" = some (some (.builtin "object.__class__")))
    (ho : (Value.ref C :: bm).contains (.type "object") = true) (hb : (Value.ref C :: bm).contains (.type "BaseException") = true)
    (nf : NF K C fs) (F : ∀ c ∈ cls, Fine K (cn c)) (mt : ∀ c ∈ cls, (Value.ref C :: bm).contains (cn c) = ups.contains c) : ErC K cn cls C fs ups := by
  have hc : PySem.W.clsIn K C = some { name := nm, bases := bs, mro := .ref C :: bm, ns := N, qualname := q, hasDict := true, slotNames := sn, subclasses := sub, abstract := ab, collection := col } := by
    unfold PySem.W.clsIn
    rw [xL]
  have hm : ∀ u, PySem.W.mroIn K C u = some ((Value.ref C :: bm).contains u) := fun u => by
    unfold PySem.W.mroIn
    rw [hc]
    rfl
  have hd : PySem.W.hasDictIn K C = true := by
    unfold PySem.W.hasDictIn
    rw [hc]
    rfl
  have hs : PySem.W.subIn K (.ref C) (.type "BaseException") = some true := by
    show PySem.W.mroIn K C _ = _
    rw [hm, hb]
  have hk : ∀ c ∈ cls, PySem.W.kitCls K (.ref C) (cn c) = some (ups.contains c) := fun c m => by
    rw [(F c m).kc]
    show PySem.W.mroIn K C _ = _
    rw [hm, mt c m]
  refine ⟨⟨ga, gg, hs, hd, ha, hn, ht, by rw [hm, ho]⟩, ⟨ga, gg, hs, hd⟩, nf_all nf, fun c m => ?_, fun c m => ?_⟩
  · unfold PySem.W.exmOne
    rw [(F c m).bx, hk c m]
    rfl
  · unfold PySem.W.kitOne
    by_cases e : (Value.ref C == cn c) = true
    · rw [if_pos e, ← mt c m, ← eq_of_beq e, List.contains_cons, beq_self_eq_true]
      rfl
    · rw [if_neg e, hk c m]
theorem cls_of {K : Fg} {mg : Str → Option Value} {T : Tbl} (l : List (Str × Value)) (hl : T.cls = l.map Prod.fst) (N : AllL (fun p => ClsN mg p.1 p.2 ∧ Fine K p.2) l)
    (E : (∀ c ∈ T.cls, Fine K (cnL l c)) → AllL (fun p : Str × ErI => ∃ C, PySem.W.nsIn K mainGlobals p.1 = some (some (.ref C)) ∧ ErC K (cnL l) T.cls C p.2.fs p.2.ups) T.ers) :
    ∃ cn : Str → Value, (∀ c ∈ T.cls, ClsN mg c (cn c)) ∧ ∀ c fs ups C, coOf K T c fs ups = some C → ErC K cn T.cls C fs ups := by
  have at_ : ∀ c ∈ T.cls, ClsN mg c (cnL l c) ∧ Fine K (cnL l c) := fun c m => by
    rw [hl] at m
    have key : ∀ l : List (Str × Value), AllL (fun p => ClsN mg p.1 p.2 ∧ Fine K p.2) l → c ∈ l.map Prod.fst → ClsN mg c (cnL l c) ∧ Fine K (cnL l c) := by
      intro l
      induction l with
      | nil => intro _ m; cases m
      | cons p r ih =>
        intro N m
        unfold cnL
        rw [List.lookup_cons]
        by_cases e : c = p.1
        · subst e
          rw [beq_self_eq_true]
          exact N.1
        · rw [beq_eq_false_iff_ne.mpr e]
          rw [List.map_cons, List.mem_cons] at m
          exact ih N.2 (m.resolve_left e)
    exact key l N m
  refine ⟨cnL l, fun c m => (at_ c m).1, fun c fs ups C h => ?_⟩
  unfold coOf at h
  cases e : T.ers.lookup c with
  | none => rw [e] at h; cases h
  | some inf =>
    rw [e] at h
    obtain ⟨C', hC, hE⟩ := allL_look (E fun c m => (at_ c m).2) c inf e
    dsimp only at h hC hE
    split at h
    · rename_i q
      obtain ⟨rfl, rfl⟩ := q
      rw [hC] at h
      cases h
      exact hE
    · cases h
theorem cls_of2 {K : Fg} {mg : Str → Option Value} {T : Tbl} {l : List (Str × Value)} (hl : T.cls = l.map Prod.fst)
    (hn : PySem.W.specialIn K (.builtin "object.__class__") "__get__" = some (some (.builtin "getset_descriptor.__get__"))) (ht : PySem.W.takesIn K (.builtin "object.__class__") = some true)
    (N : AllL (fun p => ClsN mg p.1 p.2 ∧ Fine K p.2) l)
    (E : (∀ c ∈ T.cls, Fine K (cnL l c)) → PySem.W.specialIn K (.builtin "object.__class__") "__get__" = some (some (.builtin "getset_descriptor.__get__")) → PySem.W.takesIn K (.builtin "object.__class__") = some true → AllL (fun p : Str × ErI => ∃ C, PySem.W.nsIn K mainGlobals p.1 = some (some (.ref C)) ∧ ErC K (cnL l) T.cls C p.2.fs p.2.ups) T.ers) :
    ∃ cn : Str → Value, (∀ c ∈ T.cls, ClsN mg c (cn c)) ∧ ∀ c fs ups C, coOf K T c fs ups = some C → ErC K cn T.cls C fs ups := cls_of l hl N fun F => E F hn ht
end Pe

set_option Elab.async false
set_option linter.all false
set_option maxRecDepth 100000
set_option maxHeartbeats 4000000
/-! K2m0: small helps for texts and lists. -/
namespace Pe
open PySem L2
theorem ofS_inj {a b : String} : Str.ofString a = Str.ofString b ↔ a = b := by
  constructor
  · intro h
    rw [Str.ofString_eq_toList, Str.ofString_eq_toList] at h
    have h1 : (a.toList.map Char.toNat) = (b.toList.map Char.toNat) := by
      have := congrArg (fun s : Str => s.cps.toList) h
      simpa using this
    have inj : Function.Injective Char.toNat := fun x y e => by
      apply Char.ext
      apply UInt32.toNat_inj.mp
      exact e
    have h2 := (List.map_inj_right (fun x y e => inj e)).mp h1
    exact String.toList_inj.mp h2
  · intro h; rw [h]
@[simp] theorem beq_lit {a b : String} : (Str.ofString a == Str.ofString b) = (a == b) := by
  by_cases h : a = b
  · subst h; simp
  · rw [beq_eq_false_iff_ne.mpr h, beq_eq_false_iff_ne.mpr fun e => h (ofS_inj.mp e)]
theorem le_size {n : Nat} (h : n ≤ 1000) : (n ≤ sizeLine) = True := eq_true (by rw [sizeLine_eq]; omega)
theorem shaped_s {z : Str} (h : ∀ c ∈ z.cps.toList, c < 55296) : SeqAt.shaped (.str z) = true := by
  simp [SeqAt.shaped, PyData.canLay0, PyData.depth, PyData.strOk]
  intro i hi
  have := h z.cps[i] (by simp)
  omega
theorem in_strs {n : Str} {as : List Str} (h : SeqAt.shaped (.str n) = true) (h2 : SeqAt.shaped (.tuple (as.map .str)) = true) : inB (.str n) (.tuple (as.map .str)) = some (as.any fun a => a == n) := by
  show (if _ then some _ else none) = _
  rw [if_pos ⟨h, h2⟩, List.any_map]
  refine congrArg some (congrArg (List.any as) (funext fun a => ?_))
  simp [PyData.eqv]
theorem cut_head {α : Type} {x : α} {xs : List α} : cutL (x :: xs) none (some 1) = [x] := by
  unfold cutL
  have h1 : HT.sIx (x :: xs).length (x :: xs).length (some 1) = min 1 (x :: xs).length := HT.sIx_nat _ _ 1
  have h0 : HT.sIx (x :: xs).length 0 none = 0 := rfl
  rw [h1, h0, List.length_cons, Nat.min_eq_left (by omega)]
  rfl
theorem cut_two {α : Type} {x y : α} {xs : List α} : cutL (x :: y :: xs) (some 2) none = xs := by
  unfold cutL
  have h1 : HT.sIx (x :: y :: xs).length 0 (some 2) = min 2 (x :: y :: xs).length := HT.sIx_nat _ _ 2
  have h0 : HT.sIx (x :: y :: xs).length (x :: y :: xs).length none = (x :: y :: xs).length := rfl
  rw [h1, h0, List.length_cons, List.length_cons, Nat.min_eq_left (by omega)]
  show List.take _ xs = xs
  exact List.take_of_length_le (by omega)
theorem ev_rais {F : Str → List D → Res D} {w : Nat} {ρ : List Sl} {c : Str} {inf : ErI} {as : Ex} {m : List Nat} : evS F w ρ (.rais c inf as m) = (evE F (vwN (frz m ρ)) as).bind fun v => listR v fun ds => .err ⟨c, inf.fs, inf.ups, ds⟩ := by simp only [evS]
def tryR (F : Str → List D → Res D) (w : Nat) (i : Nat) (c : Str) (h : Sm) : TR → Res Out
  | .out o => .ok o
  | .exc e ρ' => if e.ups.contains c = true then (evS (Fx e F) w (ρ'.set i .un) h).noErr.bind fun o => .ok (o.drop i) else .err e
  | .no => .no
theorem ev_try {F : Str → List D → Res D} {w : Nat} {ρ : List Sl} {b : Tb} {i : Nat} {c : Str} {h : Sm} : evS F w ρ (.try_ b i c h) = tryR F w i c h (evT F ρ b) := by
  simp only [evS]
  cases evT F ρ b <;> rfl
end Pe

set_option Elab.async false
set_option linter.all false
set_option maxRecDepth 100000
set_option maxHeartbeats 4000000
/-! DM: a law's numbers, one by one; common small defs. -/
namespace Pe
open PySem L2
def num (ns : List Int) (i : Nat) : Int := ns.getD i 0
theorem num_at {ns : List Int} {n : Nat} (h : Nums n ns) {i : Int} (h0 : 0 ≤ i) (h1 : i < n) : atI (ns.map PyData.int) i = some (.int (num ns i.toNat)) := by
  obtain ⟨x, e, e2⟩ := atI_ok (xs := ns.map PyData.int) h0 (by simpa [h.1] using h1)
  rw [e]
  rw [List.getElem?_map] at e2
  unfold num
  rw [List.getD_eq_getElem?_getD]
  cases e3 : ns[i.toNat]? with
  | none => rw [e3] at e2; cases e2
  | some y => rw [e3] at e2; cases e2; rfl
theorem num_in {ns : List Int} {n : Nat} (h : Nums n ns) {i : Nat} (h1 : i < n) : 0 ≤ num ns i ∧ num ns i < 1000 := by
  have hl : i < ns.length := by rw [h.1]; exact h1
  have e : num ns i = ns[i] := by
    unfold num
    rw [List.getD_eq_getElem?_getD, List.getElem?_eq_getElem hl]
    rfl
  rw [e]
  exact h.2 _ (List.getElem_mem _)
/-- the number at a place that is reckoned -/
theorem num_at' {ns : List Int} {n : Nat} (h : Nums n ns) {i : Int} (h0 : 0 ≤ i) (h1 : i < n) : ∃ x, atI (ns.map PyData.int) i = some (.int x) ∧ 0 ≤ x ∧ x < 1000 :=
  ⟨_, num_at h h0 h1, num_in h (by omega)⟩
theorem bne_is {i j : Int} : (i != j) = !decide (i = j) := by
  by_cases h : i = j
  · subst h; simp
  · simp [h]
/-- the cells of a script -/
theorem cell_at {ns : List Int} {i : Int} (h0 : 0 ≤ i) (h1 : i < ns.length) : ∃ c, atI (ns.map PyData.int) i = some (.int c) := by
  obtain ⟨x, e, e2⟩ := atI_ok (xs := ns.map PyData.int) h0 (by simpa using h1)
  rw [List.getElem?_map] at e2
  cases e3 : ns[i.toNat]? with
  | none => rw [e3] at e2; cases e2
  | some y => rw [e3] at e2; cases e2; exact ⟨y, e⟩
mutual
theorem lv_lay : ∀ d : D, lv d = true → d.canLay0 = true ∧ PyData.eqv d d = true
  | .none, _ => ⟨rfl, rfl⟩
  | .bool b, _ => ⟨rfl, by cases b <;> rfl⟩
  | .int i, _ => ⟨rfl, by show (i == i) = true; simp⟩
  | .str x, h => by
    refine ⟨?_, by show (x == x) = true; simp⟩
    have h' : x.cps.toList.all (fun c => decide (c < 55296)) = true := h
    simp [PyData.canLay0, PyData.strOk]
    intro i hi
    have := of_decide_eq_true (List.all_eq_true.mp h' x.cps[i] (by simp))
    omega
  | .list xs, h => lvAll_lay xs h
  | .tuple xs, h => lvAll_lay xs h
  | .dict _, h => by cases h
theorem lvAll_lay : ∀ ds : List D, lvAll ds = true → PyData.canLayAll0 ds = true ∧ PyData.eqvAll ds ds = true
  | [], _ => ⟨rfl, rfl⟩
  | x :: xs, h => by
    have h' : (lv x && lvAll xs) = true := h
    rw [Bool.and_eq_true] at h'
    obtain ⟨a1, a2⟩ := lv_lay x h'.1
    obtain ⟨b1, b2⟩ := lvAll_lay xs h'.2
    refine ⟨?_, ?_⟩
    · show (x.canLay0 && PyData.canLayAll0 xs) = true
      rw [a1, b1]; rfl
    · show (PyData.eqv x x && PyData.eqvAll xs xs) = true
      rw [a2, b2]; rfl
end
theorem W.shaped {k b : Nat} {d : D} (h : W k b d) (hk : k ≤ 64) : SeqAt.shaped d = true := by
  unfold SeqAt.shaped
  rw [(lv_lay d h.l).1, Bool.true_and]
  exact decide_eq_true (Nat.le_trans h.dp hk)
theorem W.eqv {k b : Nat} {d : D} (h : W k b d) : PyData.eqv d d = true := (lv_lay d h.l).2
/-- a list is equal to itself -/
theorem eq_self {k b : Nat} {d : D} (h : W k b d) (hk : k ≤ 64) : eqB d d = some true := by
  unfold eqB
  by_cases q : scalD d d = true
  · rw [if_pos q, h.eqv]
  · rw [if_neg q, if_pos ⟨h.shaped hk, h.shaped hk⟩, h.eqv]
theorem intsOf_map {α : Type} {f : α → Int} : ∀ {xs : List α}, intsOf (xs.map fun x => PyData.int (f x)) = some (xs.map f)
  | [] => rfl
  | x :: xs => by
    show (intsOf (xs.map fun x => PyData.int (f x))).map (f x :: ·) = _
    rw [intsOf_map]; rfl
theorem at_mem {α : Type} {xs : List α} {i : Int} (h0 : 0 ≤ i) (h : i < xs.length) : ∃ x, atI xs i = some x ∧ x ∈ xs := by
  obtain ⟨x, e, e2⟩ := atI_ok h0 h
  exact ⟨x, e, List.mem_of_getElem? e2⟩
/-- ints at a place -/
theorem at_ints {xs : List Int} {i : Int} (h0 : 0 ≤ i) (h : i < xs.length) : ∃ x, atI (xs.map PyData.int) i = some (.int x) ∧ x ∈ xs := by
  obtain ⟨d, e, m⟩ := at_mem (xs := xs.map PyData.int) h0 (by simpa using h)
  obtain ⟨x, hx, rfl⟩ := List.mem_map.mp m
  exact ⟨x, e, hx⟩
section
variable {F : Str → List D → Res D} {w : Nat} {ρ ρ' : List Sl} {a b : Sm}
theorem forL_nx {g : List Sl → D → Res Out} {d : D} {ds : List D} (h : g ρ d = .ok (.nx ρ')) : forL g ρ (d :: ds) = forL g ρ' ds := by rw [forL_cons, h]; rfl
/-- one statement, then the others -/
theorem seq_nx (h : evS F w ρ a = .ok (.nx ρ')) : evS F w ρ (.seq a b) = evS F w ρ' b := by rw [w_seq, h]; rfl
end
end Pe

set_option Elab.async false
set_option linter.all false
set_option maxRecDepth 100000
set_option maxHeartbeats 4000000
/-! the defs of oncecoin_k07_shares_add_up, as data -/
namespace K07
open PySem L2 Pe
def top (i : Nat) : Stmt := PySem.Challenge.pw_oncecoin_k07_shares_add_up.main.body.getD i (.Pass ⟨0, 0, 0, 0⟩)
def T : Tbl := { fns := [(("share" : Str), 3), (("shares" : Str), 2), (("_law_numbers" : Str), 3), (("_law_is_integer" : Str), 2), (("_law_parts" : Str), 1), (("law" : Str), 1)], cons := [], dcts := [], ftabs := [], ers := [], cls := [] }
def c_share_0 : Sm := (.ife (.cmp .Eq (.var 2) (.cst (.int 0))) (.ret (.cst (.int 0)) []) .pass)
def c_share_1 : Sm := (.ret (.bin .FloorDiv (.bin .Mult (.var 0) (.var 1)) (.var 2)) [])
def b_share : Sm := (.seq c_share_0 c_share_1)
def d_share : DefI := ⟨top 1, ["total", "part", "whole"], ["total", "part", "whole"], b_share⟩
def c_shares_4b_1 : Sm := (.set 7 (.call "share" (.acons (.var 0) (.acons (.var 4) (.acons (.var 2) .anil)))) false [])
def c_shares_4b : Sm := (.seq (.set 4 (.bin .Add (.var 4) (.var 6)) false []) (.seq c_shares_4b_1 (.seq (.app 3 (.bin .Sub (.var 7) (.var 5)) false []) (.set 5 (.var 7) false []))))
def b_shares : Sm := (.seq (.set 2 (.bf .sum (.acons (.var 1) .anil)) false []) (.seq (.new 3 (.lst .anil) []) (.seq (.set 4 (.cst (.int 0)) false []) (.seq (.set 5 (.cst (.int 0)) false []) (.seq (.for_ (.inl 6) (.seq (.var 1)) [] c_shares_4b) (.ret (.bf .tuple (.acons (.var 3) .anil)) [3]))))))
def d_shares : DefI := ⟨top 2, ["total", "parts", "whole", "found", "upto", "before", "part", "after"], ["total", "parts"], b_shares⟩
def c_law_numbers_0 : Sm := (.set 3 (.cmp .GtE (.bf .abs (.acons (.bf .int (.acons (.var 0) .anil)) .anil)) (.bin .Pow (.cst (.int 10)) (.cst (.int 18)))) false [])
def c_law_numbers_1 : Sm := (.set 4 (.bin .Add (.bin .Mult (.cst (.int 2)) (.bf .abs (.acons (.bf .int (.acons (.var 0) .anil)) .anil))) (.bf .int (.acons (.cmp .Lt (.var 0) (.cst (.int 0))) .anil))) false [])
def c_law_numbers_3ba_0 : Sm := (.app 5 (.bin .Mod (.bf .int (.acons (.var 4) .anil)) (.cst (.int 1000))) false [])
def c_law_numbers_3ba_1 : Sm := (.set 4 (.bin .FloorDiv (.var 4) (.cst (.int 1000))) false [])
def c_law_numbers_3ba : Sm := (.seq c_law_numbers_3ba_0 c_law_numbers_3ba_1)
def c_law_numbers_3bb_0 : Sm := (.set 7 (.bin .Mod (.bf .int (.acons (.bin .Add (.bin .Add (.bin .Add (.bin .Mult (.var 4) (.cst (.int 48271))) (.bin .Mult (.var 1) (.cst (.int 69621)))) (.bin .Mult (.var 6) (.cst (.int 16807)))) (.cst (.int 7))) .anil)) (.cst (.int 2147483647))) false [])
def c_law_numbers_3bb_1 : Sm := (.set 7 (.bin .Mod (.bf .int (.acons (.bin .Add (.bin .Add (.bin .Mult (.var 7) (.var 7)) (.bin .Mult (.var 6) (.cst (.int 40692)))) (.cst (.int 3))) .anil)) (.cst (.int 2147483629))) false [])
def c_law_numbers_3bb_2 : Sm := (.set 7 (.bin .Mod (.bf .int (.acons (.bin .Add (.bin .Add (.bin .Mult (.var 7) (.var 7)) (.bin .Mult (.var 1) (.cst (.int 30269)))) (.cst (.int 5))) .anil)) (.cst (.int 2147483587))) false [])
def c_law_numbers_3bb_3 : Sm := (.app 5 (.bin .Mod (.bf .int (.acons (.bin .FloorDiv (.var 7) (.cst (.int 5))) .anil)) (.cst (.int 1000))) false [])
def c_law_numbers_3bb : Sm := (.seq c_law_numbers_3bb_0 (.seq c_law_numbers_3bb_1 (.seq c_law_numbers_3bb_2 c_law_numbers_3bb_3)))
def c_law_numbers_3 : Sm := (.for_ (.inl 6) (.rng (.cst (.int 0)) (.var 2)) [] (.ife (.var 3) c_law_numbers_3ba c_law_numbers_3bb))
def b__law_numbers : Sm := (.seq c_law_numbers_0 (.seq c_law_numbers_1 (.seq (.new 5 (.lst .anil) []) (.seq c_law_numbers_3 (.ret (.var 5) [5])))))
def d__law_numbers : DefI := ⟨top 4, ["cell", "at", "many", "great", "rest", "numbers", "k", "mixed"], ["cell", "at", "many"], b__law_numbers⟩
def c_law_is_integer_0 : Sm := (.ret (.and (.isi (.var 0) .int) (.and (.not (.isi (.var 0) .bool)) (.cmp .Eq (.var 0) (.var 1)))) [])
def b__law_is_integer : Sm := c_law_is_integer_0
def d__law_is_integer : DefI := ⟨top 5, ["value", "due"], ["value", "due"], b__law_is_integer⟩
def c_law_parts_1b_0 : Sm := (.set 3 (.bin .Add (.bin .Mult (.idx (.var 0) (.bin .Add (.cst (.int 6)) (.bin .Mult (.cst (.int 3)) (.var 2)))) (.cst (.int 1000))) (.idx (.var 0) (.bin .Add (.cst (.int 7)) (.bin .Mult (.cst (.int 3)) (.var 2))))) false [])
def c_law_parts_1b_1 : Sm := (.set 4 (.bin .Mod (.bf .int (.acons (.idx (.var 0) (.bin .Add (.cst (.int 8)) (.bin .Mult (.cst (.int 3)) (.var 2)))) .anil)) (.cst (.int 6))) false [])
def c_law_parts_1b_2 : Sm := (.ife (.or (.cmp .Eq (.var 4) (.cst (.int 0))) (.cmp .Eq (.bin .Mod (.bf .int (.acons (.idx (.var 0) (.cst (.int 1))) .anil)) (.cst (.int 8))) (.cst (.int 0)))) (.set 3 (.cst (.int 0)) false []) .pass)
def c_law_parts_1b_3 : Sm := (.ife (.cmp .Eq (.var 4) (.cst (.int 1))) (.set 3 (.cst (.int 1)) false []) .pass)
def c_law_parts_1b_4 : Sm := (.ife (.and (.cmp .Eq (.var 4) (.cst (.int 2))) (.cmp .Gt (.bf .len (.acons (.var 1) .anil)) (.cst (.int 0)))) (.set 3 (.idx (.var 1) (.neg (.cst (.int 1)))) true [1]) .pass)
def c_law_parts_1b : Sm := (.seq c_law_parts_1b_0 (.seq c_law_parts_1b_1 (.seq c_law_parts_1b_2 (.seq c_law_parts_1b_3 (.seq c_law_parts_1b_4 (.app 1 (.var 3) false []))))))
def c_law_parts_1 : Sm := (.for_ (.inl 2) (.rng (.cst (.int 0)) (.idx (.lst (.acons (.bin .Mod (.bf .int (.acons (.bin .FloorDiv (.idx (.var 0) (.cst (.int 0))) (.cst (.int 4))) .anil)) (.cst (.int 5))) (.acons (.bin .Mod (.bf .int (.acons (.bin .FloorDiv (.idx (.var 0) (.cst (.int 0))) (.cst (.int 4))) .anil)) (.cst (.int 21))) .anil))) (.bf .int (.acons (.cmp .Eq (.bin .Mod (.bf .int (.acons (.idx (.var 0) (.cst (.int 0))) .anil)) (.cst (.int 4))) (.cst (.int 0))) .anil)))) [] c_law_parts_1b)
def b__law_parts : Sm := (.seq (.new 1 (.lst .anil) []) (.seq c_law_parts_1 (.ret (.var 1) [1])))
def d__law_parts : DefI := ⟨top 6, ["numbers", "parts", "k", "part", "kind"], ["numbers"], b__law_parts⟩
def c_law_0b_0 : Sm := (.set 2 (.call "_law_numbers" (.acons (.idx (.var 0) (.var 1)) (.acons (.var 1) (.acons (.cst (.int 66)) .anil)))) false [])
def c_law_0b_1 : Sm := (.set 3 (.call "_law_parts" (.acons (.var 2) .anil)) false [])
def c_law_0b_3 : Sm := (.set 5 (.idx (.lst (.acons (.cst (.int 0)) (.acons (.cst (.int 1)) (.acons (.var 4) (.acons (.idx (.var 2) (.cst (.int 2))) (.acons (.bin .Add (.bin .Add (.bin .Mult (.idx (.var 2) (.cst (.int 2))) (.bin .Pow (.cst (.int 10)) (.cst (.int 6)))) (.bin .Mult (.idx (.var 2) (.cst (.int 3))) (.cst (.int 1000)))) (.idx (.var 2) (.cst (.int 4)))) .anil)))))) (.bin .Mod (.bf .int (.acons (.idx (.var 2) (.cst (.int 5))) .anil)) (.cst (.int 5)))) false [])
def c_law_0b_7b_2a : Sm := (.set 10 (.bin .FloorDiv (.bin .Mult (.var 5) (.var 7)) (.var 4)) false [])
def c_law_0b_7b_2 : Sm := (.ife (.cmp .Gt (.var 4) (.cst (.int 0))) c_law_0b_7b_2a .pass)
def c_law_0b_7b_3 : Sm := (.ife (.not (.call "_law_is_integer" (.acons (.call "share" (.acons (.var 5) (.acons (.var 7) (.acons (.var 4) .anil)))) (.acons (.var 10) .anil)))) (.ret (.cst (.bool false)) []) .pass)
def c_law_0b_7b : Sm := (.seq (.set 7 (.bin .Add (.var 7) (.var 9)) false []) (.seq (.set 10 (.cst (.int 0)) false []) (.seq c_law_0b_7b_2 (.seq c_law_0b_7b_3 (.seq (.app 6 (.bin .Sub (.var 10) (.var 8)) false []) (.set 8 (.var 10) false []))))))
def c_law_0b_9 : Sm := (.ife (.cmp .Eq (.bin .Mod (.bf .int (.acons (.bin .FloorDiv (.idx (.var 2) (.cst (.int 1))) (.cst (.int 8))) .anil)) (.cst (.int 2))) (.cst (.int 0))) (.set 11 (.bf .tuple (.acons (.var 3) .anil)) false []) .pass)
def c_law_0b_10 : Sm := (.set 12 (.call "shares" (.acons (.var 5) (.acons (.var 11) .anil))) false [])
def c_law_0b_11 : Sm := (.ife (.or (.not (.isi (.var 12) .tuple)) (.or (.cmp .NotEq (.bf .len (.acons (.var 12) .anil)) (.bf .len (.acons (.var 3) .anil))) (.cmp .NotEq (.bf .list (.acons (.var 11) .anil)) (.var 3)))) (.ret (.cst (.bool false)) []) .pass)
def c_law_0b_12b : Sm := (.ife (.or (.not (.call "_law_is_integer" (.acons (.idx (.var 12) (.var 13)) (.acons (.idx (.var 6) (.var 13)) .anil)))) (.cmp .Lt (.idx (.var 12) (.var 13)) (.cst (.int 0)))) (.ret (.cst (.bool false)) []) .pass)
def c_law_0b_12 : Sm := (.for_ (.inl 13) (.rng (.cst (.int 0)) (.bf .len (.acons (.var 6) .anil))) [6] c_law_0b_12b)
def c_law_0b_13 : Sm := (.ife (.and (.cmp .Gt (.var 4) (.cst (.int 0))) (.cmp .NotEq (.bf .sum (.acons (.var 12) .anil)) (.var 5))) (.ret (.cst (.bool false)) []) .pass)
def c_law_0b_14 : Sm := (.ife (.or (.not (.call "_law_is_integer" (.acons (.call "share" (.acons (.var 5) (.acons (.cst (.int 0)) (.acons (.var 4) .anil)))) (.acons (.cst (.int 0)) .anil)))) (.not (.call "_law_is_integer" (.acons (.call "share" (.acons (.var 5) (.acons (.cst (.int 0)) (.acons (.cst (.int 0)) .anil)))) (.acons (.cst (.int 0)) .anil))))) (.ret (.cst (.bool false)) []) .pass)
def c_law_0b : Sm := (.seq c_law_0b_0 (.seq c_law_0b_1 (.seq (.set 4 (.bf .sum (.acons (.var 3) .anil)) false []) (.seq c_law_0b_3 (.seq (.new 6 (.lst .anil) []) (.seq (.set 7 (.cst (.int 0)) false []) (.seq (.set 8 (.cst (.int 0)) false []) (.seq (.for_ (.inl 9) (.seq (.var 3)) [] c_law_0b_7b) (.seq (.set 11 (.bf .list (.acons (.var 3) .anil)) false []) (.seq c_law_0b_9 (.seq c_law_0b_10 (.seq c_law_0b_11 (.seq c_law_0b_12 (.seq c_law_0b_13 c_law_0b_14))))))))))))))
def c_law_0 : Sm := (.for_ (.inl 1) (.rng (.cst (.int 1)) (.bf .min2 (.acons (.bf .len (.acons (.var 0) .anil)) (.acons (.cst (.int 33)) .anil)))) [] c_law_0b)
def b_law : Sm := (.seq c_law_0 (.ret (.cst (.bool true)) []))
def d_law : DefI := ⟨top 7, ["script", "at", "numbers", "parts", "whole", "total", "due", "upto", "last", "part", "now", "handed", "told", "k"], ["script"], b_law⟩
theorem cb_share : ∃ n ap k, cB (cS d_share.N n (defScope d_share.st) ap k T []) (cPair d_share.N (defScope d_share.st).names T (cE d_share.N T n (defScope d_share.st)) ap) (defBody d_share.st) = some d_share.body := ⟨20, [], 20, by kernel_rfl⟩
theorem sc_share : FnScope d_share.N d_share.ps (defScope d_share.st) := ⟨rfl, rfl, rfl, by decide +kernel, rfl, by decide +kernel, by decide +kernel⟩
theorem bd_share (kV doc pm : Value) (an : Option Addr) (cdv ct : Value) (us : List Value) (hl : us.length = d_share.ps.length) : bindArgs (PySem.W.fnOf "share" "share" (defArgs d_share.st) (defBody d_share.st) (defScope d_share.st) .none kV doc pm an cdv ct) ⟨us, []⟩ = pure (d_share.ps.zip us) := match us, hl with | [_, _, _], _ => rfl
theorem cb_shares : ∃ n ap k, cB (cS d_shares.N n (defScope d_shares.st) ap k T []) (cPair d_shares.N (defScope d_shares.st).names T (cE d_shares.N T n (defScope d_shares.st)) ap) (defBody d_shares.st) = some d_shares.body := ⟨20, [3], 20, by kernel_rfl⟩
theorem sc_shares : FnScope d_shares.N d_shares.ps (defScope d_shares.st) := ⟨rfl, rfl, rfl, by decide +kernel, rfl, by decide +kernel, by decide +kernel⟩
theorem bd_shares (kV doc pm : Value) (an : Option Addr) (cdv ct : Value) (us : List Value) (hl : us.length = d_shares.ps.length) : bindArgs (PySem.W.fnOf "shares" "shares" (defArgs d_shares.st) (defBody d_shares.st) (defScope d_shares.st) .none kV doc pm an cdv ct) ⟨us, []⟩ = pure (d_shares.ps.zip us) := match us, hl with | [_, _], _ => rfl
theorem cb__law_numbers : ∃ n ap k, cB (cS d__law_numbers.N n (defScope d__law_numbers.st) ap k T []) (cPair d__law_numbers.N (defScope d__law_numbers.st).names T (cE d__law_numbers.N T n (defScope d__law_numbers.st)) ap) (defBody d__law_numbers.st) = some d__law_numbers.body := ⟨20, [5], 20, by kernel_rfl⟩
theorem sc__law_numbers : FnScope d__law_numbers.N d__law_numbers.ps (defScope d__law_numbers.st) := ⟨rfl, rfl, rfl, by decide +kernel, rfl, by decide +kernel, by decide +kernel⟩
theorem bd__law_numbers (kV doc pm : Value) (an : Option Addr) (cdv ct : Value) (us : List Value) (hl : us.length = d__law_numbers.ps.length) : bindArgs (PySem.W.fnOf "_law_numbers" "_law_numbers" (defArgs d__law_numbers.st) (defBody d__law_numbers.st) (defScope d__law_numbers.st) .none kV doc pm an cdv ct) ⟨us, []⟩ = pure (d__law_numbers.ps.zip us) := match us, hl with | [_, _, _], _ => rfl
theorem cb__law_is_integer : ∃ n ap k, cB (cS d__law_is_integer.N n (defScope d__law_is_integer.st) ap k T []) (cPair d__law_is_integer.N (defScope d__law_is_integer.st).names T (cE d__law_is_integer.N T n (defScope d__law_is_integer.st)) ap) (defBody d__law_is_integer.st) = some d__law_is_integer.body := ⟨20, [], 20, by kernel_rfl⟩
theorem sc__law_is_integer : FnScope d__law_is_integer.N d__law_is_integer.ps (defScope d__law_is_integer.st) := ⟨rfl, rfl, rfl, by decide +kernel, rfl, by decide +kernel, by decide +kernel⟩
theorem bd__law_is_integer (kV doc pm : Value) (an : Option Addr) (cdv ct : Value) (us : List Value) (hl : us.length = d__law_is_integer.ps.length) : bindArgs (PySem.W.fnOf "_law_is_integer" "_law_is_integer" (defArgs d__law_is_integer.st) (defBody d__law_is_integer.st) (defScope d__law_is_integer.st) .none kV doc pm an cdv ct) ⟨us, []⟩ = pure (d__law_is_integer.ps.zip us) := match us, hl with | [_, _], _ => rfl
theorem cb__law_parts : ∃ n ap k, cB (cS d__law_parts.N n (defScope d__law_parts.st) ap k T []) (cPair d__law_parts.N (defScope d__law_parts.st).names T (cE d__law_parts.N T n (defScope d__law_parts.st)) ap) (defBody d__law_parts.st) = some d__law_parts.body := ⟨20, [1], 20, by kernel_rfl⟩
theorem sc__law_parts : FnScope d__law_parts.N d__law_parts.ps (defScope d__law_parts.st) := ⟨rfl, rfl, rfl, by decide +kernel, rfl, by decide +kernel, by decide +kernel⟩
theorem bd__law_parts (kV doc pm : Value) (an : Option Addr) (cdv ct : Value) (us : List Value) (hl : us.length = d__law_parts.ps.length) : bindArgs (PySem.W.fnOf "_law_parts" "_law_parts" (defArgs d__law_parts.st) (defBody d__law_parts.st) (defScope d__law_parts.st) .none kV doc pm an cdv ct) ⟨us, []⟩ = pure (d__law_parts.ps.zip us) := match us, hl with | [_], _ => rfl
theorem cb_law : ∃ n ap k, cB (cS d_law.N n (defScope d_law.st) ap k T []) (cPair d_law.N (defScope d_law.st).names T (cE d_law.N T n (defScope d_law.st)) ap) (defBody d_law.st) = some d_law.body := ⟨20, [6], 20, by kernel_rfl⟩
theorem sc_law : FnScope d_law.N d_law.ps (defScope d_law.st) := ⟨rfl, rfl, rfl, by decide +kernel, rfl, by decide +kernel, by decide +kernel⟩
theorem bd_law (kV doc pm : Value) (an : Option Addr) (cdv ct : Value) (us : List Value) (hl : us.length = d_law.ps.length) : bindArgs (PySem.W.fnOf "law" "law" (defArgs d_law.st) (defBody d_law.st) (defScope d_law.st) .none kV doc pm an cdv ct) ⟨us, []⟩ = pure (d_law.ps.zip us) := match us, hl with | [_], _ => rfl
def P : Tab := [(("share" : Str), d_share), (("shares" : Str), d_shares), (("_law_numbers" : Str), d__law_numbers), (("_law_is_integer" : Str), d__law_is_integer), (("_law_parts" : Str), d__law_parts), (("law" : Str), d_law)]
theorem fns_ok : T.fns.all (fun p => (P.lookup p.1).map (·.np) == some p.2) = true := by decide +kernel
theorem r_share {w k : Nat} {ds : List D} : run P w (k + 1) "share" ds = evD (run P w k) w 3 b_share ds := run_is (P := P) (d := d_share) (by kernel_rfl)
theorem r_shares {w k : Nat} {ds : List D} : run P w (k + 1) "shares" ds = evD (run P w k) w 8 b_shares ds := run_is (P := P) (d := d_shares) (by kernel_rfl)
theorem r__law_numbers {w k : Nat} {ds : List D} : run P w (k + 1) "_law_numbers" ds = evD (run P w k) w 8 b__law_numbers ds := run_is (P := P) (d := d__law_numbers) (by kernel_rfl)
theorem r__law_is_integer {w k : Nat} {ds : List D} : run P w (k + 1) "_law_is_integer" ds = evD (run P w k) w 2 b__law_is_integer ds := run_is (P := P) (d := d__law_is_integer) (by kernel_rfl)
theorem r__law_parts {w k : Nat} {ds : List D} : run P w (k + 1) "_law_parts" ds = evD (run P w k) w 5 b__law_parts ds := run_is (P := P) (d := d__law_parts) (by kernel_rfl)
theorem r_law {w k : Nat} {ds : List D} : run P w (k + 1) "law" ds = evD (run P w k) w 14 b_law ds := run_is (P := P) (d := d_law) (by kernel_rfl)
end K07

set_option Elab.async false
set_option linter.all false
set_option maxRecDepth 100000
set_option maxHeartbeats 4000000
namespace K07
open PySem L2 Pe
variable {w k : Nat} {ns : List Int}
theorem e_int {a b : Int} : run P w (k + 1) "_law_is_integer" [.int a, .int b] = .ok (.bool (a == b)) := by
  rw [r__law_is_integer]
  simp [evD_is, b__law_is_integer, c_law_is_integer_0, isT]
def shr (t p wh : Int) : Int := if wh = 0 then 0 else t * p / wh
theorem e_share {t p wh : Int} (m : mulOk t p = true) (h0 : 0 ≤ wh) (h1 : wh < 1000000000000) : run P w (k + 1) "share" [.int t, .int p, .int wh] = .ok (.int (shr t p wh)) := by
  rw [r_share]
  by_cases c : wh = 0
  · subst c; simp [evD_is, b_share, c_share_0, shr]
  · have c' : (wh == 0) = false := beq_eq_false_iff_ne.mpr c
    have h2 : 0 < wh := by omega
    have h3 : wh.natAbs.log2 < 9000 := of_eq_true (log_lt (by omega))
    simp [evD_is, b_share, c_share_0, c_share_1, shr, c', c, m, h2, h3]
/-- the shares, one by one -/
def go (t wh : Int) : Int → Int → List Int → List Int
  | _, _, [] => []
  | u, l, p :: ps => (shr t (u + p) wh - l) :: go t wh (u + p) (shr t (u + p) wh) ps
theorem go_len {t wh : Int} : ∀ {ps : List Int} {u l : Int}, (go t wh u l ps).length = ps.length
  | [], _, _ => rfl
  | p :: ps, u, l => by simp [go, go_len]
theorem go_sum {t wh : Int} : ∀ {ps : List Int} {u l : Int}, l = shr t u wh → (go t wh u l ps).sum = shr t (u + ps.sum) wh - l
  | [], u, l, h => by simp [go, h]
  | p :: ps, u, l, h => by
    simp only [go, List.sum_cons]
    rw [go_sum rfl, Int.add_assoc]
    omega
theorem shr_mono {t a b wh : Int} (ht : 0 ≤ t) (hw : 0 ≤ wh) (h : a ≤ b) : shr t a wh ≤ shr t b wh := by
  unfold shr
  by_cases c : wh = 0
  · simp [c]
  · rw [if_neg c, if_neg c]
    exact Int.ediv_le_ediv (by omega) (Int.mul_le_mul_of_nonneg_left h ht)
theorem go_pos {t wh : Int} (ht : 0 ≤ t) (hw : 0 ≤ wh) : ∀ {ps : List Int} {u l : Int}, l = shr t u wh → (∀ p ∈ ps, 0 ≤ p) → ∀ x ∈ go t wh u l ps, 0 ≤ x
  | [], _, _, _, _, x, hx => by cases hx
  | p :: ps, u, l, h, hp, x, hx => by
    rcases List.mem_cons.mp hx with rfl | hx
    · have := shr_mono ht hw (show u ≤ u + p by have := hp p List.mem_cons_self; omega)
      omega
    · exact go_pos ht hw rfl (fun q hq => hp q (List.mem_cons_of_mem _ hq)) x hx
theorem shr_zero {t wh : Int} : shr t 0 wh = 0 := by unfold shr; split <;> simp
theorem shr_all {t wh : Int} (h : 0 < wh) : shr t wh wh = t := by
  unfold shr
  rw [if_neg (by omega)]
  exact Int.mul_ediv_cancel _ (by omega)
theorem sum_bd : ∀ {ps : List Int}, (∀ p ∈ ps, 0 ≤ p ∧ p < 1000000) → 0 ≤ ps.sum ∧ ps.sum ≤ ps.length * 1000000
  | [], _ => by simp
  | p :: ps, h => by
    obtain ⟨a, b⟩ := sum_bd fun q hq => h q (List.mem_cons_of_mem _ hq)
    obtain ⟨c, d⟩ := h p List.mem_cons_self
    rw [List.sum_cons, List.length_cons]
    push_cast
    omega
/-- the loop of shares -/
theorem sh_loop {t wh : Int} (ht : t.natAbs < 18446744073709551616) (h0 : 0 ≤ wh) (h1 : wh < 1000000000000) {x : D} : ∀ {ps : List Int} {acc : List Int} {u l : Int} {s6 s7 : Sl}, acc.length + ps.length ≤ 1000 →
    ∃ u' l' s6' s7', forL (stepF (run P w (k + 1)) w (.inl 6) c_shares_4b) [.val (.int t), .val x, .val (.int wh), .own (acc.map .int), .val (.int u), .val (.int l), s6, s7] (ps.map .int) = .ok (.nx [.val (.int t), .val x, .val (.int wh), .own ((acc ++ go t wh u l ps).map .int), u', l', s6', s7'])
  | [], acc, u, l, s6, s7, _ => ⟨.val (.int u), .val (.int l), s6, s7, by simp [go]⟩
  | p :: ps, acc, u, l, s6, s7, hl => by
    rw [List.length_cons] at hl
    obtain ⟨u', l', s6', s7', e⟩ := sh_loop ht h0 h1 (x := x) (ps := ps) (acc := acc ++ [shr t (u + p) wh - l]) (u := u + p) (l := shr t (u + p) wh) (s6 := .val (.int p)) (s7 := .val (.int (shr t (u + p) wh))) (by simp only [List.length_append, List.length_cons, List.length_nil]; omega)
    refine ⟨u', l', s6', s7', ?_⟩
    have es := e_share (w := w) (k := k) (t := t) (p := u + p) (wh := wh) (mulOk_l (small_of ht)) h0 h1
    have hs : acc.length < sizeLine := by rw [sizeLine_eq]; omega
    have st : stepF (run P w (k + 1)) w (.inl 6) c_shares_4b [.val (.int t), .val x, .val (.int wh), .own (acc.map .int), .val (.int u), .val (.int l), s6, s7] (.int p) = .ok (.nx [.val (.int t), .val x, .val (.int wh), .own ((acc ++ [shr t (u + p) wh - l]).map .int), .val (.int (u + p)), .val (.int (shr t (u + p) wh)), .val (.int p), .val (.int (shr t (u + p) wh))]) := by
      simp [c_shares_4b, c_shares_4b_1, w_app, appR, es, hs]
    rw [List.map_cons, forL_nx st, e, List.append_assoc]
    rfl
theorem e_shares {t : Int} {ps : List Int} (ht : t.natAbs < 18446744073709551616) (hp : ∀ p ∈ ps, 0 ≤ p ∧ p < 1000000) (hl : ps.length ≤ 20) {x : D} (hx : x = .list (ps.map .int) ∨ x = .tuple (ps.map .int)) :
    run P w (k + 2) "shares" [.int t, x] = .ok (.tuple ((go t ps.sum 0 0 ps).map .int)) := by
  obtain ⟨a, b⟩ := sum_bd hp
  obtain ⟨u', l', s6', s7', e⟩ := sh_loop (w := w) (k := k) (t := t) (wh := ps.sum) ht a (by omega) (x := x) (ps := ps) (acc := []) (u := 0) (l := 0) (s6 := .un) (s7 := .un) (by simp only [List.length_nil]; omega)
  rw [List.nil_append, List.map_nil] at e
  rw [r_shares]
  rcases hx with rfl | rfl <;> simp [evD_is, b_shares, w_for, e]
end K07

set_option Elab.async false
set_option linter.all false
set_option maxRecDepth 100000
set_option maxHeartbeats 4000000
namespace K07
open PySem L2 Pe
variable {w k : Nat} {ns : List Int}
theorem last_at {xs : List Int} (h : 0 < xs.length) : ∃ x, atI (xs.map PyData.int) (-1) = some (.int x) ∧ x ∈ xs := by
  have e : atI (xs.map PyData.int) (-1) = atI (xs.map PyData.int) ((xs.length : Int) - 1) := by
    unfold atI ixN
    simp only [List.length_map]
    rw [if_neg (by omega), if_pos (by omega), if_pos (by omega), if_pos (by omega)]
    congr 1
  rw [e]
  exact at_ints (by omega) (by omega)
abbrev Pt (x : Int) : Prop := 0 ≤ x ∧ x < 1000000
theorem pt_step (h : Nums 66 ns) {i : Nat} (hi : i ≤ 19) {acc : List Int} (ha : ∀ x ∈ acc, Pt x) (hl : acc.length = i) {s2 s3 s4 : Sl} :
    ∃ x s3' s4', stepF (run P w k) w (.inl 2) c_law_parts_1b [.val (.list (ns.map .int)), .own (acc.map .int), s2, s3, s4] (.int i) = .ok (.nx [.val (.list (ns.map .int)), .own ((acc ++ [x]).map .int), .val (.int i), s3', s4']) ∧ Pt x := by
  obtain ⟨a, ea, a0, a1⟩ := num_at' h (i := 6 + 3 * (i : Int)) (by omega) (by omega)
  obtain ⟨b, eb, b0, b1⟩ := num_at' h (i := 7 + 3 * (i : Int)) (by omega) (by omega)
  obtain ⟨c, ec, c0, c1⟩ := num_at' h (i := 8 + 3 * (i : Int)) (by omega) (by omega)
  obtain ⟨n1, e1, _⟩ := num_at' h (i := 1) (by omega) (by omega)
  have m3 : mulOk 3 (i : Int) = true := mulOk_l (by decide)
  have ma : mulOk a 1000 = true := mulOk_r (by decide)
  have hs : acc.length < sizeLine := by rw [sizeLine_eq]; omega
  rw [stepF_one]
  unfold c_law_parts_1b
  have t0 : evS (run P w k) w ([Sl.val (.list (ns.map .int)), .own (acc.map .int), s2, s3, s4].set 2 (.val (.int i))) c_law_parts_1b_0 = .ok (.nx [.val (.list (ns.map .int)), .own (acc.map .int), .val (.int i), .val (.int (a * 1000 + b)), s4]) := by
    simp [c_law_parts_1b_0, m3, ea, eb, ma]
  rw [seq_nx t0]
  have t1 : evS (run P w k) w [Sl.val (.list (ns.map .int)), .own (acc.map .int), .val (.int i), .val (.int (a * 1000 + b)), s4] c_law_parts_1b_1 = .ok (.nx [.val (.list (ns.map .int)), .own (acc.map .int), .val (.int i), .val (.int (a * 1000 + b)), .val (.int (c % 6))]) := by
    simp [c_law_parts_1b_1, m3, ec]
  rw [seq_nx t1]
  have t2 : ∃ x, evS (run P w k) w [Sl.val (.list (ns.map .int)), .own (acc.map .int), .val (.int i), .val (.int (a * 1000 + b)), .val (.int (c % 6))] c_law_parts_1b_2 = .ok (.nx [.val (.list (ns.map .int)), .own (acc.map .int), .val (.int i), .val (.int x), .val (.int (c % 6))]) ∧ Pt x := by
    by_cases q0 : c % 6 = 0
    · exact ⟨0, by simp [c_law_parts_1b_2, q0], by decide⟩
    · have q0' : (c % 6 == 0) = false := beq_eq_false_iff_ne.mpr q0
      by_cases q1 : n1 % 8 = 0
      · exact ⟨0, by simp [c_law_parts_1b_2, q0', e1, q1], by decide⟩
      · have q1' : (n1 % 8 == 0) = false := beq_eq_false_iff_ne.mpr q1
        exact ⟨a * 1000 + b, by simp [c_law_parts_1b_2, q0', e1, q1'], by constructor <;> omega⟩
  obtain ⟨x2, t2, p2⟩ := t2
  rw [seq_nx t2]
  have t3 : ∃ x, evS (run P w k) w [Sl.val (.list (ns.map .int)), .own (acc.map .int), .val (.int i), .val (.int x2), .val (.int (c % 6))] c_law_parts_1b_3 = .ok (.nx [.val (.list (ns.map .int)), .own (acc.map .int), .val (.int i), .val (.int x), .val (.int (c % 6))]) ∧ Pt x := by
    by_cases q0 : c % 6 = 1
    · exact ⟨1, by simp [c_law_parts_1b_3, q0], by decide⟩
    · have q0' : (c % 6 == 1) = false := beq_eq_false_iff_ne.mpr q0
      exact ⟨x2, by simp [c_law_parts_1b_3, q0'], p2⟩
  obtain ⟨x3, t3, p3⟩ := t3
  rw [seq_nx t3]
  have t4 : ∃ x, evS (run P w k) w [Sl.val (.list (ns.map .int)), .own (acc.map .int), .val (.int i), .val (.int x3), .val (.int (c % 6))] c_law_parts_1b_4 = .ok (.nx [.val (.list (ns.map .int)), .own (acc.map .int), .val (.int i), .val (.int x), .val (.int (c % 6))]) ∧ Pt x := by
    by_cases q0 : c % 6 = 2
    · by_cases q1 : 0 < acc.length
      · obtain ⟨y, ey, my⟩ := last_at q1
        exact ⟨y, by simp [c_law_parts_1b_4, q0, q1, ey, noL], ha y my⟩
      · exact ⟨x3, by simp [c_law_parts_1b_4, q0, q1], p3⟩
    · have q0' : (c % 6 == 2) = false := beq_eq_false_iff_ne.mpr q0
      exact ⟨x3, by simp [c_law_parts_1b_4, q0'], p3⟩
  obtain ⟨x4, t4, p4⟩ := t4
  rw [seq_nx t4]
  exact ⟨x4, _, _, by simp [w_app, appR, hs]; exact ⟨rfl, rfl⟩, p4⟩
theorem e_parts (h : Nums 66 ns) : ∃ ps : List Int, run P w (k + 1) "_law_parts" [.list (ns.map .int)] = .ok (.list (ps.map .int)) ∧ (∀ x ∈ ps, Pt x) ∧ ps.length ≤ 20 := by
  obtain ⟨n0, e0, a0, a1⟩ := num_at' h (i := 0) (by omega) (by omega)
  -- how many
  have hm : ∃ m : Int, 0 ≤ m ∧ m ≤ 20 ∧ atI [PyData.int (n0 / 4 % 5), .int (n0 / 4 % 21)] (if n0 % 4 = 0 then 1 else 0) = some (.int m) := by
    by_cases q : n0 % 4 = 0
    · exact ⟨n0 / 4 % 21, by omega, by omega, by rw [if_pos q]; rfl⟩
    · exact ⟨n0 / 4 % 5, by omega, by omega, by rw [if_neg q]; rfl⟩
  obtain ⟨m, m0, m1, em⟩ := hm
  have hr : rngR (.int 0) (.int m) = .ok (.list (rangeL 0 m)) := rngR_int (by omega) (by omega) (by omega) (by omega)
  obtain ⟨ρ', e, ps, s2, s3, s4, rfl, h1, h2⟩ := forL_inv (g := stepF (run P w k) w (.inl 2) c_law_parts_1b) (ds := rangeL 0 m) (fun i ρ => ∃ (ps : List Int) (s2 s3 s4 : Sl), ρ = [.val (.list (ns.map .int)), .own (ps.map .int), s2, s3, s4] ∧ ps.length = i ∧ ∀ p ∈ ps, Pt p)
    (fun i ρ d hd ⟨ps, s2, s3, s4, hρ, hl, hb⟩ => by
      subst hρ
      have hi : i < (rangeL 0 m).length := (List.getElem?_eq_some_iff.mp hd).1
      rw [rangeL_len] at hi
      have hd' := range_at hd
      rw [Int.zero_add] at hd'
      subst hd'
      obtain ⟨x, s3', s4', e, px⟩ := pt_step (w := w) (k := k) h (i := i) (by omega) hb hl (s2 := s2) (s3 := s3) (s4 := s4)
      refine ⟨_, .inl e, ps ++ [x], _, _, _, rfl, by simp [hl], fun p hp => ?_⟩
      rcases List.mem_append.mp hp with q | q
      · exact hb p q
      · rw [List.mem_singleton] at q
        subst q
        exact px)
    (ρ := [.val (.list (ns.map .int)), .own [], .un, .un, .un]) ⟨[], .un, .un, .un, rfl, rfl, fun p hp => by cases hp⟩
  refine ⟨ps, ?_, h2, by rw [h1, rangeL_len]; omega⟩
  rw [r__law_parts]
  simp [evD_is, b__law_parts, c_law_parts_1, w_for, e0, em, hr, e, le_size]
end K07

set_option Elab.async false
set_option linter.all false
set_option maxRecDepth 100000
set_option maxHeartbeats 4000000
namespace K07
open PySem L2 Pe
variable {w k : Nat} {ns : List Int}
/-- the law's own loop -/
theorem lw_loop {t wh : Int} (ht : t.natAbs < 18446744073709551616) (h0 : 0 ≤ wh) (h1 : wh < 1000000000000) {s0 s1 s2 s3 s11 s12 s13 : Sl} : ∀ {ps : List Int} {acc : List Int} {u l : Int} {s9 s10 : Sl}, acc.length + ps.length ≤ 1000 →
    ∃ u' l' s9' s10', forL (stepF (run P w (k + 1)) w (.inl 9) c_law_0b_7b) [s0, s1, s2, s3, .val (.int wh), .val (.int t), .own (acc.map .int), .val (.int u), .val (.int l), s9, s10, s11, s12, s13] (ps.map .int) =
      .ok (.nx [s0, s1, s2, s3, .val (.int wh), .val (.int t), .own ((acc ++ go t wh u l ps).map .int), u', l', s9', s10', s11, s12, s13])
  | [], acc, u, l, s9, s10, _ => ⟨.val (.int u), .val (.int l), s9, s10, by simp [go]⟩
  | p :: ps, acc, u, l, s9, s10, hl => by
    rw [List.length_cons] at hl
    obtain ⟨u', l', s9', s10', e⟩ := lw_loop ht h0 h1 (s0 := s0) (s1 := s1) (s2 := s2) (s3 := s3) (s11 := s11) (s12 := s12) (s13 := s13) (ps := ps) (acc := acc ++ [shr t (u + p) wh - l]) (u := u + p) (l := shr t (u + p) wh) (s9 := .val (.int p)) (s10 := .val (.int (shr t (u + p) wh))) (by simp only [List.length_append, List.length_cons, List.length_nil]; omega)
    refine ⟨u', l', s9', s10', ?_⟩
    have m : ∀ x, mulOk t x = true := fun x => mulOk_l (small_of ht)
    have es := e_share (w := w) (k := k) (t := t) (p := u + p) (wh := wh) (m _) h0 h1
    have ei : ∀ a b : Int, run P w (k + 1) "_law_is_integer" [.int a, .int b] = .ok (.bool (a == b)) := fun a b => e_int (k := k)
    have hs : acc.length < sizeLine := by rw [sizeLine_eq]; omega
    have h3 : wh.natAbs.log2 < 9000 := of_eq_true (log_lt (by omega))
    have st : stepF (run P w (k + 1)) w (.inl 9) c_law_0b_7b [s0, s1, s2, s3, .val (.int wh), .val (.int t), .own (acc.map .int), .val (.int u), .val (.int l), s9, s10, s11, s12, s13] (.int p) =
        .ok (.nx [s0, s1, s2, s3, .val (.int wh), .val (.int t), .own ((acc ++ [shr t (u + p) wh - l]).map .int), .val (.int (u + p)), .val (.int (shr t (u + p) wh)), .val (.int p), .val (.int (shr t (u + p) wh)), s11, s12, s13]) := by
      by_cases c : 0 < wh
      · have e2 : t * (u + p) / wh = shr t (u + p) wh := by unfold shr; rw [if_neg (by omega)]
        simp [c_law_0b_7b, c_law_0b_7b_2, c_law_0b_7b_2a, c_law_0b_7b_3, w_app, appR, es, ei, hs, c, m, h3, e2]
      · have e2 : shr t (u + p) wh = 0 := by unfold shr; rw [if_pos (by omega)]
        rw [e2] at es ⊢
        simp [c_law_0b_7b, c_law_0b_7b_2, c_law_0b_7b_2a, c_law_0b_7b_3, w_app, appR, es, ei, hs, c]
    rw [List.map_cons, forL_nx st, e, List.append_assoc]
    rfl
/-- what is told, looked at one by one -/
theorem lw_loop2 {ds : List Int} (hp : ∀ x ∈ ds, 0 ≤ x) (hl : ds.length ≤ 1000) {s0 s1 s2 s3 s4 s5 s7 s8 s9 s10 s11 s13 : Sl} :
    ∃ s13', forL (stepF (run P w (k + 1)) w (.inl 13) c_law_0b_12b) [s0, s1, s2, s3, s4, s5, .val (.list (ds.map .int)), s7, s8, s9, s10, s11, .val (.tuple (ds.map .int)), s13] (rangeL 0 ds.length) = .ok (.nx [s0, s1, s2, s3, s4, s5, .val (.list (ds.map .int)), s7, s8, s9, s10, s11, .val (.tuple (ds.map .int)), s13']) := by
  obtain ⟨ρ', e, s13', rfl⟩ := forL_inv (g := stepF (run P w (k + 1)) w (.inl 13) c_law_0b_12b) (ds := rangeL 0 ds.length) (fun i ρ => ∃ s13', ρ = [s0, s1, s2, s3, s4, s5, .val (.list (ds.map .int)), s7, s8, s9, s10, s11, .val (.tuple (ds.map .int)), s13'])
    (fun i ρ d hd ⟨s13', hρ⟩ => by
      subst hρ
      have hi : i < (rangeL 0 (ds.length : Int)).length := (List.getElem?_eq_some_iff.mp hd).1
      rw [rangeL_len] at hi
      have hd' := range_at hd
      rw [Int.zero_add] at hd'
      subst hd'
      obtain ⟨x, ex, mx⟩ := at_ints (xs := ds) (i := (i : Int)) (by omega) (by omega)
      have hx := hp x mx
      have ei : ∀ a b : Int, run P w (k + 1) "_law_is_integer" [.int a, .int b] = .ok (.bool (a == b)) := fun a b => e_int (k := k)
      have hx' : ¬ x < 0 := by omega
      exact ⟨_, .inl (by simp [c_law_0b_12b, ex, ei, hx']; rfl), _, rfl⟩)
    (ρ := [s0, s1, s2, s3, s4, s5, .val (.list (ds.map .int)), s7, s8, s9, s10, s11, .val (.tuple (ds.map .int)), s13]) ⟨_, rfl⟩
  exact ⟨s13', e⟩
theorem eq_list {xs : List Int} (h : ∀ x ∈ xs, Pt x) (hl : xs.length ≤ 20) : eqB (.list (xs.map .int)) (.list (xs.map .int)) = some true := by
  have : WL 2 ((xs.map PyData.int).length * 1) (xs.map PyData.int) := WL.of fun d hd => by
    obtain ⟨p, hp, rfl⟩ := List.mem_map.mp hd
    have := h p hp
    exact W.int (by omega)
  exact eq_self (this.lst) (by decide)
end K07

set_option Elab.async false
set_option linter.all false
set_option maxRecDepth 100000
set_option maxHeartbeats 4000000
namespace K07
open PySem L2 Pe
variable {w k : Nat} {ns : List Int}
theorem lw_step {m : Int} (hm : m ≤ ns.length) (hm2 : m ≤ 63) : ∀ (i : Nat) (ρ : List Sl) (d : D), (rangeL 1 m)[i]? = some d → (∃ s1 s2 s3 s4 s5 s6 s7 s8 s9 s10 s11 s12 s13, ρ = [.val (.list (ns.map .int)), s1, s2, s3, s4, s5, s6, s7, s8, s9, s10, s11, s12, s13]) →
    ∃ ρ', (stepF (run P w 39) w (.inl 1) c_law_0b ρ d = .ok (.nx ρ') ∨ stepF (run P w 39) w (.inl 1) c_law_0b ρ d = .ok (.ct ρ')) ∧ (∃ s1 s2 s3 s4 s5 s6 s7 s8 s9 s10 s11 s12 s13, ρ' = [.val (.list (ns.map .int)), s1, s2, s3, s4, s5, s6, s7, s8, s9, s10, s11, s12, s13]) := by
  rintro i ρ d hd ⟨s1, s2, s3, s4, s5, s6, s7, s8, s9, s10, s11, s12, s13, rfl⟩
  have hi : (i : Int) < m - 1 := by
    have := (List.getElem?_eq_some_iff.mp hd).1
    rw [rangeL_len] at this
    omega
  have hd' := range_at hd
  subst hd'
  obtain ⟨c, a⟩ := cell_at (ns := ns) (i := 1 + (i : Int)) (by omega) (by omega)
  obtain ⟨xs, e1, hN⟩ := numbers_ok (w := w) (F := run P w 38) c (1 + (i : Int)) 66 (by decide)
  have e1' : run P w 39 "_law_numbers" [.int c, .int (1 + (i : Int)), .int 66] = .ok (.list (xs.map .int)) := by
    rw [show (39 : Nat) = 38 + 1 from rfl, r__law_numbers]
    exact e1
  obtain ⟨ps, e2, hp, hpl⟩ := e_parts (w := w) (k := 38) hN
  have e2' : run P w 39 "_law_parts" [.list (xs.map .int)] = .ok (.list (ps.map .int)) := e2
  obtain ⟨v0, v1⟩ := sum_bd hp
  have v2 : ps.sum < 1000000000000 := by omega
  obtain ⟨n1, g1, l1, u1⟩ := num_at' hN (i := 1) (by omega) (by omega)
  obtain ⟨n2, g2, l2, u2⟩ := num_at' hN (i := 2) (by omega) (by omega)
  obtain ⟨n3, g3, l3, u3⟩ := num_at' hN (i := 3) (by omega) (by omega)
  obtain ⟨n4, g4, l4, u4⟩ := num_at' hN (i := 4) (by omega) (by omega)
  obtain ⟨n5, g5, l5, u5⟩ := num_at' hN (i := 5) (by omega) (by omega)
  obtain ⟨t, et, mt⟩ := at_ints (xs := [0, 1, ps.sum, n2, n2 * 1000000 + n3 * 1000 + n4]) (i := n5 % 5) (by omega) (by simp only [List.length_cons, List.length_nil]; omega)
  have t0 : 0 ≤ t ∧ t < 1000000000000 := by
    simp only [List.mem_cons, List.not_mem_nil, or_false] at mt
    rcases mt with rfl | rfl | rfl | rfl | rfl <;> omega
  have ht : t.natAbs < 18446744073709551616 := by omega
  simp only [List.map_cons, List.map_nil] at et
  obtain ⟨u', l', s9', s10', el⟩ := lw_loop (w := w) (k := 38) (t := t) (wh := ps.sum) ht v0 v2 (s0 := .val (.list (ns.map .int))) (s1 := .val (.int (1 + (i : Int)))) (s2 := .val (.list (xs.map .int))) (s3 := .val (.list (ps.map .int))) (s11 := s11) (s12 := s12) (s13 := s13) (ps := ps) (acc := []) (u := 0) (l := 0) (s9 := s9) (s10 := s10) (by simp only [List.length_nil]; omega)
  rw [List.nil_append, List.map_nil] at el
  have el' := el
  generalize hgo : go t ps.sum 0 0 ps = ds at el'
  have hdl : ds.length = ps.length := by rw [← hgo]; exact go_len
  have hdp : ∀ x ∈ ds, 0 ≤ x := by rw [← hgo]; exact go_pos t0.1 v0 shr_zero.symm fun p q => (hp p q).1
  have hds : 0 < ps.sum → ds.sum = t := fun q => by rw [← hgo, go_sum shr_zero.symm, Int.zero_add, shr_all q]; omega
  have esh : ∀ x : D, (x = .list (ps.map .int) ∨ x = .tuple (ps.map .int)) → run P w 39 "shares" [.int t, x] = .ok (.tuple (ds.map .int)) := fun x hx => by
    rw [← hgo]; exact e_shares (k := 37) ht hp hpl hx
  have ei : ∀ a b : Int, run P w 39 "_law_is_integer" [.int a, .int b] = .ok (.bool (a == b)) := fun a b => e_int (k := 38)
  have ez : run P w 39 "share" [.int t, .int 0, .int ps.sum] = .ok (.int 0) := by
    have := e_share (w := w) (k := 38) (t := t) (p := 0) (wh := ps.sum) (mulOk_l (small_of ht)) v0 v2
    rw [shr_zero] at this
    exact this
  have ez0 : run P w 39 "share" [.int t, .int 0, .int 0] = .ok (.int 0) := by
    have := e_share (w := w) (k := 38) (t := t) (p := 0) (wh := 0) (mulOk_l (small_of ht)) (by decide) (by decide)
    rw [shr_zero] at this
    exact this
  have eq := eq_list hp hpl
  have m2 : mulOk n2 1000000 = true := mulOk_r (by decide)
  have m3 : mulOk n3 1000 = true := mulOk_r (by decide)
  have hl2 : ((ds.length : Int) == (ps.length : Int)) = true := by rw [hdl]; simp
  -- handed as a list or a tuple
  have key : ∀ (x : D) (q : Bool) (_ : (n1 / 8 % 2 == 0) = q) (_ : x = if q = true then .tuple (ps.map .int) else .list (ps.map .int)), ∃ r1 r2 r3 r4 r5 r6 r7 r8 r9 r10 r11 r12 r13,
      evS (run P w 39) w [.val (.list (ns.map .int)), .val (.int (1 + (i : Int))), .val (.list (xs.map .int)), .val (.list (ps.map .int)), .val (.int ps.sum), .val (.int t), .own (ds.map .int), u', l', s9', s10', .val x, s12, s13] (.seq c_law_0b_10 (.seq c_law_0b_11 (.seq c_law_0b_12 (.seq c_law_0b_13 c_law_0b_14)))) =
      .ok (.nx [.val (.list (ns.map .int)), r1, r2, r3, r4, r5, r6, r7, r8, r9, r10, r11, r12, r13]) := by
    intro x q hq hx
    have hx' : x = .list (ps.map .int) ∨ x = .tuple (ps.map .int) := by cases q <;> simp [hx]
    have el3 : bfD .list [x] = some (.list (ps.map .int)) := by rcases hx' with rfl | rfl <;> rfl
    obtain ⟨s13', e12⟩ := lw_loop2 (w := w) (k := 38) hdp (by omega) (s0 := .val (.list (ns.map .int))) (s1 := .val (.int (1 + (i : Int)))) (s2 := .val (.list (xs.map .int))) (s3 := .val (.list (ps.map .int))) (s4 := .val (.int ps.sum)) (s5 := .val (.int t)) (s7 := u') (s8 := l') (s9 := s9') (s10 := s10') (s11 := .val x) (s13 := s13)
    have e10 : evS (run P w 39) w [.val (.list (ns.map .int)), .val (.int (1 + (i : Int))), .val (.list (xs.map .int)), .val (.list (ps.map .int)), .val (.int ps.sum), .val (.int t), .own (ds.map .int), u', l', s9', s10', .val x, s12, s13] c_law_0b_10 = .ok (.nx [.val (.list (ns.map .int)), .val (.int (1 + (i : Int))), .val (.list (xs.map .int)), .val (.list (ps.map .int)), .val (.int ps.sum), .val (.int t), .own (ds.map .int), u', l', s9', s10', .val x, .val (.tuple (ds.map .int)), s13]) := by
      simp [c_law_0b_10, esh x hx']
    have e11 : evS (run P w 39) w [.val (.list (ns.map .int)), .val (.int (1 + (i : Int))), .val (.list (xs.map .int)), .val (.list (ps.map .int)), .val (.int ps.sum), .val (.int t), .own (ds.map .int), u', l', s9', s10', .val x, .val (.tuple (ds.map .int)), s13] c_law_0b_11 = .ok (.nx [.val (.list (ns.map .int)), .val (.int (1 + (i : Int))), .val (.list (xs.map .int)), .val (.list (ps.map .int)), .val (.int ps.sum), .val (.int t), .own (ds.map .int), u', l', s9', s10', .val x, .val (.tuple (ds.map .int)), s13]) := by
      simp [c_law_0b_11, isT, hdl, el3, eq]
    have hr : rngR (.int 0) (.int (ds.length : Int)) = .ok (.list (rangeL 0 ds.length)) := rngR_int (by omega) (by omega) (by omega) (by omega)
    rw [seq_nx e10, seq_nx e11]
    have e12' : evS (run P w 39) w [.val (.list (ns.map .int)), .val (.int (1 + (i : Int))), .val (.list (xs.map .int)), .val (.list (ps.map .int)), .val (.int ps.sum), .val (.int t), .own (ds.map .int), u', l', s9', s10', .val x, .val (.tuple (ds.map .int)), s13] c_law_0b_12 = .ok (.nx [.val (.list (ns.map .int)), .val (.int (1 + (i : Int))), .val (.list (xs.map .int)), .val (.list (ps.map .int)), .val (.int ps.sum), .val (.int t), .val (.list (ds.map .int)), u', l', s9', s10', .val x, .val (.tuple (ds.map .int)), s13']) := by
      simp [c_law_0b_12, w_for, hr, e12]
    rw [seq_nx e12']
    generalize hq : evS (run P w 39) w _ (Sm.seq c_law_0b_13 c_law_0b_14) = q
    by_cases c : 0 < ps.sum
    · have hs := hds c
      simp [c_law_0b_13, c_law_0b_14, c, hs, ez, ez0, ei] at hq
      subst hq
      exact ⟨_, _, _, _, _, _, _, _, _, _, _, _, _, rfl⟩
    · simp [c_law_0b_13, c_law_0b_14, c, ez, ez0, ei] at hq
      subst hq
      exact ⟨_, _, _, _, _, _, _, _, _, _, _, _, _, rfl⟩
  generalize hq : stepF (run P w 39) w (.inl 1) c_law_0b _ _ = q
  rw [stepF_one] at hq
  unfold c_law_0b at hq
  by_cases c1 : n1 / 8 % 2 = 0
  · obtain ⟨_, _, _, _, _, _, _, _, _, _, _, _, _, ek⟩ := key (.tuple (ps.map .int)) true (by simp [c1]) rfl
    simp only [w_seq] at ek
    simp [c_law_0b_0, c_law_0b_1, c_law_0b_3, c_law_0b_9, w_for, a, e1', e2', g1, g2, g3, g4, g5, et, m2, m3, el', c1, le_size] at hq
    rw [ek] at hq
    subst hq
    exact ⟨_, .inl rfl, _, _, _, _, _, _, _, _, _, _, _, _, _, rfl⟩
  · have c1' : (n1 / 8 % 2 == 0) = false := beq_eq_false_iff_ne.mpr c1
    obtain ⟨_, _, _, _, _, _, _, _, _, _, _, _, _, ek⟩ := key (.list (ps.map .int)) false c1' rfl
    simp only [w_seq] at ek
    simp [c_law_0b_0, c_law_0b_1, c_law_0b_3, c_law_0b_9, w_for, a, e1', e2', g1, g2, g3, g4, g5, et, m2, m3, el', c1', le_size] at hq
    rw [ek] at hq
    subst hq
    exact ⟨_, .inl rfl, _, _, _, _, _, _, _, _, _, _, _, _, _, rfl⟩
theorem holds_at (w : Nat) (ns : List Int) (h : ns.length ≤ 63) : run P w 40 "law" [.list (ns.map .int)] = .ok (.bool true) := by
  rw [show (40 : Nat) = 39 + 1 from rfl, r_law]
  have hm : (if (33 : Int) < (ns.length : Int) then 33 else (ns.length : Int)) ≤ ns.length := by split <;> omega
  have hm2 : (if (33 : Int) < (ns.length : Int) then 33 else (ns.length : Int)) ≤ 63 := by split <;> omega
  have hr : rngR (.int 1) (.int (if (33 : Int) < (ns.length : Int) then 33 else (ns.length : Int))) = .ok (.list (rangeL 1 (if (33 : Int) < (ns.length : Int) then 33 else (ns.length : Int)))) := rngR_int (by omega) (by omega) (by split <;> omega) (by omega)
  obtain ⟨ρ', e, s1, s2, s3, s4, s5, s6, s7, s8, s9, s10, s11, s12, s13, rfl⟩ := forL_inv _ (lw_step (w := w) (ns := ns) hm hm2) (ρ := [.val (.list (ns.map .int)), .un, .un, .un, .un, .un, .un, .un, .un, .un, .un, .un, .un, .un]) ⟨_, _, _, _, _, _, _, _, _, _, _, _, _, rfl⟩
  simp [evD_is, b_law, c_law_0, w_for, hr, e]
end K07

set_option Elab.async false
set_option maxRecDepth 100000
namespace K07
open PySem L2 Pe
def dep : Nat := 40
def wid : Nat := 0
theorem holds : ∀ ns : List Int, ns.length ≤ 63 → run P wid dep "law" [.list (ns.map .int)] = .ok (.bool true) := fun ns h => holds_at wid ns h
end K07
open PySem PySem.W PyProof.Rows
set_option maxRecDepth 100000 in
set_option maxHeartbeats 0 in
theorem PySem.Challenge.cw_oncecoin_k07_shares_add_up_holds : PySem.Challenge.rw_oncecoin_k07_shares_add_up.Holds := by
  w_on; o_law; k_head; (case hw => w_witness2)
  k_fill
  refine Pe.walk_G (l := PySem.Challenge.rw_oncecoin_k07_shares_add_up) (n := 63) (k := K07.dep) (w := K07.wid) (x := "script") (T := K07.T) (P := K07.P) (di := K07.d_law) rfl (by decide) rfl ⟨rfl, by decide, by decide⟩ (fun w h Y => PySem.W.kIn_of Y) rfl rfl ?top ?bind K07.holds
  case bind =>
    intro K fa fd F s u
    obtain ⟨oc, od, kV, doc, pm, an, cdv, ct, osl, rfl, lk, hcd⟩ := F.ex
    exact .of_eq rfl
  case top =>
    intro wo mg h X G
    refine ⟨Pe.allL_mem (l := Pe.bltNames) ?blt, Pe.allL_look (P := K07.T.cons) (Q := fun p => ∃ u v, mg p.1 = some u ∧ L2.RelV v u ∧ ∀ G, Pe.Dq _ G v p.2) ?gl, Pe.fns_of K07.fns_ok, Pe.allL_look (P := K07.P) (Q := fun p => Pe.DefOk _ mg K07.T p.1 p.2) ?defs, Pe.allL_look (P := K07.T.dcts) (Q := fun p => ∃ d : Addr, mg p.1 = some (.ref d) ∧ Pe.TabD _ wo d p.2) ?dct, Pe.allL_look (P := K07.T.ftabs) (Q := fun p => ∃ d : Addr, mg p.1 = some (.ref d) ∧ Pe.TabF _ mg wo d p.2) ?ftb, ?ers, ?cls, rfl, rfl⟩
    case blt =>
      refine ⟨?_, ?_, ?_, ?_, ?_, ?_, ?_, ?_, ?_, ?_, ?_, ?_, ?_, ?_, ?_, ?_, ?_, ?_, trivial⟩
      all_goals (refine PySem.W.mg_none_of X G ?a; (case a => k_is))
    case gl =>
      exact trivial
    case defs =>
      refine ⟨?_, ?_, ?_, ?_, ?_, ?_, trivial⟩
      · refine' Pe.def_of (x := "share") (d := K07.d_share) X G ?a ?l ?c ?k K07.bd_share K07.sc_share K07.cb_share; (case a => k_is); (case l => k_is); (case c => k_is); (case k => k_is)
      · refine' Pe.def_of (x := "shares") (d := K07.d_shares) X G ?a ?l ?c ?k K07.bd_shares K07.sc_shares K07.cb_shares; (case a => k_is); (case l => k_is); (case c => k_is); (case k => k_is)
      · refine' Pe.def_of (x := "_law_numbers") (d := K07.d__law_numbers) X G ?a ?l ?c ?k K07.bd__law_numbers K07.sc__law_numbers K07.cb__law_numbers; (case a => k_is); (case l => k_is); (case c => k_is); (case k => k_is)
      · refine' Pe.def_of (x := "_law_is_integer") (d := K07.d__law_is_integer) X G ?a ?l ?c ?k K07.bd__law_is_integer K07.sc__law_is_integer K07.cb__law_is_integer; (case a => k_is); (case l => k_is); (case c => k_is); (case k => k_is)
      · refine' Pe.def_of (x := "_law_parts") (d := K07.d__law_parts) X G ?a ?l ?c ?k K07.bd__law_parts K07.sc__law_parts K07.cb__law_parts; (case a => k_is); (case l => k_is); (case c => k_is); (case k => k_is)
      · refine' Pe.def_of (x := "law") (d := K07.d_law) X G ?a ?l ?c ?k K07.bd_law K07.sc_law K07.cb_law; (case a => k_is); (case l => k_is); (case c => k_is); (case k => k_is)
    case dct =>
      exact trivial
    case ftb =>
      exact trivial
    case ers =>
      intro c inf hc
      exact nomatch (show List.lookup c [] = some inf from hc)
    case cls => exact ⟨fun _ => .none, ⟨(fun c hc => nomatch (show c ∈ ([] : List PySem.Str) from hc)), (fun c fs ups C hc => nomatch (show (none : Option Addr) = some C from hc))⟩⟩

