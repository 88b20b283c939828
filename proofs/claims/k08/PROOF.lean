import PyProof.Rows.All
import Wide.All
import OpenK.AllK
import Wide.FinOn
import HandS.CallLocal
import HandS.Deep
import HandS.DictComp
import HandS.ExcField
import HandS.ExcInit
import HandS.ExcIs
import HandS.Flow
import HandS.ForExc
import HandS.ForMost
import HandS.IsInst
import HandS.More
import HandS.RaiseMore
import HandS.TupAny
import HandS.TupLe
import HandS.Walk
import HandS.Wide
import HandS.Zip
import KE.DataCmp
import KE.KTupSum
import KE.SortData
import PyProof.SliceStr2
import PySem.Challenge.RW_oncecoin_k08_refunds_stay_below
set_option Elab.async false
set_option linter.all false
set_option maxRecDepth 100000
set_option maxHeartbeats 2000000
/-! Pe1: data in the heap, what stays. -/
namespace Pe
open PySem L2
abbrev D := PyData
/-- the written part, the program and the world -/
structure Kx where
  K : PySem.W.Frag
  P : Program
  w : World
instance : Coe Kx PySem.W.Frag := ⟨Kx.K⟩
abbrev Fg := Kx
@[reducible] def _root_.L2.Cx.kx (X : Cx) : Kx := ⟨X.K, X.prog, X.w⟩

/-- a list that may be read, as the model lays lists: tracked, locked, or written at the top -/
def LsQ (K : PySem.W.Frag) (H : Hp) (a : Addr) (xs : List V) : Prop :=
  Rd H a (.lst xs) ∨ ∃ (its : Array Value) (n : Nat), K.lookup a = some { cls := .type "list", data := .seq its n } ∧ its.size ≤ sizeLine ∧ Vals xs its.toList
theorem LsQ.sq {K : PySem.W.Frag} {H : Hp} {a : Addr} {xs : List V} (h : LsQ K H a xs) : SqL K H a xs := by
  rcases h with h | ⟨its, n, h1, h2, h3⟩
  · exact .inl h
  · exact .inr ⟨_, its, n, h1, rfl, rfl, rfl, h2, h3⟩
/-! ### dicts: their keys, as data -/
def keyD : Key → D
  | .inl i => .int i
  | .inr x => .str x
def ksD (ks : List Key) : D := .tuple (ks.map keyD)
/-- a dict whose keys are tuples of ints and texts: each key with the place where its tuple stands -/
def DTo (P : Program) (w : World) (a : Addr) (ent : List (List Key × Addr × V)) : Heap → Prop := fun h => ent.length ≤ sizeLine ∧ (a == sysModules) = false ∧ ∃ xs : List (List Key × Addr × Value),
  Paired (fun p q => p.1 = q.1 ∧ p.2.1 = q.2.1 ∧ RelV p.2.2 q.2.2) ent xs ∧
  ∃ o es ep, h.get? a = some o ∧ o.ExactDict ∧ o.data = .dict es ep ∧ es.toList = xs.map (entryOfKey (tupleKind (mixKind P w))) ∧ (xs.map (·.1)).Nodup
abbrev dtO (K : Kx) (a : Addr) (ent : List (List Key × Addr × V)) : HO := .ext (DTo K.P K.w a ent)
/-! ### objects: their class's name, their fields -/
def fldD (x : Str × D) : D × D := (.list [.str x.1], x.2)
abbrev objD (c : Str) (ds : List (Str × D)) : D := .dict ((.list [], .str c) :: ds.map fldD)
/-- where the class of this name lies -/
def cnOf (K : PySem.W.Frag) (c : Str) : Option Addr := match PySem.W.nsIn K mainGlobals c with
  | some (some (.ref C)) => some C
  | _ => none
mutual
inductive Dq (K : Fg) (H : Hp) : V → D → Prop
  | non : Dq K H .non .none
  | bl (b : Bool) : Dq K H (.bl b) (.bool b)
  | int (i : Int) : Dq K H (.int i) (.int i)
  | str (x : Str) : Dq K H (.str x) (.str x)
  | lst {a : Addr} {xs : List V} {ds : List D} : LsQ K H a xs → DqAll K H xs ds → Dq K H (.ref a) (.list ds)
  | tup {a : Addr} {xs : List V} {ds : List D} : SqT K H a xs → DqAll K H xs ds → Dq K H (.ref a) (.tuple ds)
  | dctK {a : Addr} {kvs : List (Key × V)} {ds : List (D × D)} : Rd H a (.dK kvs) → DqKv K H kvs ds → Dq K H (.ref a) (.dict ds)
  | dctT {a : Addr} {ent : List (List Key × Addr × V)} {ds : List (D × D)} : Rd H a (dtO K a ent) → DqTv K H ent ds → ds ≠ [] → Dq K H (.ref a) (.dict ds)
  | obj {a C dx : Addr} {c : Str} {fs : List (Str × V)} {ds : List (Str × D)} : H a = some (.ins C dx fs) → cnOf K.K c = some C → DqFs K H fs ds → Dq K H (.ref a) (.dict ((.list [], .str c) :: ds.map fldD))
inductive DqFs (K : Fg) (H : Hp) : List (Str × V) → List (Str × D) → Prop
  | nil : DqFs K H [] []
  | cons {f : Str} {v : V} {fs : List (Str × V)} {d : D} {ds : List (Str × D)} : Dq K H v d → DqFs K H fs ds → DqFs K H ((f, v) :: fs) ((f, d) :: ds)
inductive DqAll (K : Fg) (H : Hp) : List V → List D → Prop
  | nil : DqAll K H [] []
  | cons {v : V} {vs : List V} {d : D} {ds : List D} : Dq K H v d → DqAll K H vs ds → DqAll K H (v :: vs) (d :: ds)
inductive DqKv (K : Fg) (H : Hp) : List (Key × V) → List (D × D) → Prop
  | nil : DqKv K H [] []
  | cons {k : Key} {v : V} {kvs : List (Key × V)} {d : D} {ds : List (D × D)} : Dq K H v d → DqKv K H kvs ds → DqKv K H ((k, v) :: kvs) ((keyD k, d) :: ds)
inductive DqTv (K : Fg) (H : Hp) : List (List Key × Addr × V) → List (D × D) → Prop
  | nil : DqTv K H [] []
  | cons {ks : List Key} {b : Addr} {v : V} {ent : List (List Key × Addr × V)} {d : D} {ds : List (D × D)} : SqT K H b (ks.map kV) → Dq K H v d → DqTv K H ent ds → DqTv K H ((ks, b, v) :: ent) ((ksD ks, d) :: ds)
end
theorem rd_same {H H' : Hp} {a : Addr} {o : HO} (e : Same H H') (h : Rd H a o) : Rd H' a o := by
  rcases h with h | ⟨u, h⟩
  · exact .inl (e _ _ h)
  · exact .inr ⟨u, e _ _ h⟩

theorem ls_same {K : PySem.W.Frag} {H H' : Hp} {a : Addr} {xs : List V} (e : Same H H') (h : LsQ K H a xs) : LsQ K H' a xs := by
  rcases h with h | h
  · exact .inl (rd_same e h)
  · exact .inr h
theorem seqT_same {K : PySem.W.Frag} {H H' : Hp} {a : Addr} {xs : List V} (e : Same H H') (h : SqT K H a xs) : SqT K H' a xs := by
  rcases h with (h | ⟨o, h⟩) | h
  · exact .inl (.inl (e _ _ h))
  · exact .inl (.inr ⟨o, e _ _ h⟩)
  · exact .inr h

section
variable {K : Fg} {H H' : Hp}
theorem dK_ne {kvs : List (Key × V)} : ∀ xs, HO.dK kvs ≠ .lst xs := fun _ z => by cases z
theorem ext_ne {φ : Heap → Prop} : ∀ xs, HO.ext φ ≠ .lst xs := fun _ z => by cases z
/-- what may be read goes on to be read -/
theorem dq_map (hl : ∀ a xs, LsQ K H a xs → LsQ K H' a xs) (ht : ∀ a xs, SqT K H a xs → SqT K H' a xs) (hd : ∀ a o, (∀ xs, o ≠ HO.lst xs) → Rd H a o → Rd H' a o) (hi : ∀ a C dx fs, H a = some (.ins C dx fs) → H' a = some (.ins C dx fs)) : ∀ (d : D) (v : V), Dq K H v d → Dq K H' v d := fun d v h =>
  Dq.rec (K := K) (H := H) (motive_1 := fun v d _ => Dq K H' v d) (motive_2 := fun vs ds _ => DqFs K H' vs ds) (motive_3 := fun vs ds _ => DqAll K H' vs ds) (motive_4 := fun vs ds _ => DqKv K H' vs ds) (motive_5 := fun vs ds _ => DqTv K H' vs ds)
    .non (fun b => .bl b) (fun i => .int i) (fun x => .str x) (fun h1 _ a => .lst (hl _ _ h1) a) (fun h1 _ a => .tup (ht _ _ h1) a) (fun h1 _ a => .dctK (hd _ _ dK_ne h1) a) (fun h1 _ ne a => .dctT (hd _ _ ext_ne h1) a ne) (fun h1 h2 _ a => .obj (hi _ _ _ _ h1) h2 a)
    .nil (fun _ _ a b => .cons a b) .nil (fun _ _ a b => .cons a b) .nil (fun _ _ a b => .cons a b) .nil (fun h1 _ _ a b => .cons (ht _ _ h1) a b) h
theorem dqa_map (hl : ∀ a xs, LsQ K H a xs → LsQ K H' a xs) (ht : ∀ a xs, SqT K H a xs → SqT K H' a xs) (hd : ∀ a o, (∀ xs, o ≠ HO.lst xs) → Rd H a o → Rd H' a o) (hi : ∀ a C dx fs, H a = some (.ins C dx fs) → H' a = some (.ins C dx fs)) : ∀ {ds : List D} {vs : List V}, DqAll K H vs ds → DqAll K H' vs ds
  | _, _, .nil => .nil
  | _, _, .cons a b => .cons (dq_map hl ht hd hi _ _ a) (dqa_map hl ht hd hi b)
theorem dp_same (e : Same H H') : ∀ (d : D) (v : V), Dq K H v d → Dq K H' v d := dq_map (fun _ _ => ls_same e) (fun _ _ => seqT_same e) (fun _ _ _ => rd_same e) fun _ _ _ _ h => e _ _ h
theorem dpa_same (e : Same H H') : ∀ (ds : List D) (vs : List V), DqAll K H vs ds → DqAll K H' vs ds := fun _ _ => dqa_map (fun _ _ => ls_same e) (fun _ _ => seqT_same e) (fun _ _ _ => rd_same e) fun _ _ _ _ h => e _ _ h
theorem dkv_same (e : Same H H') : ∀ {ds : List (D × D)} {vs : List (Key × V)}, DqKv K H vs ds → DqKv K H' vs ds
  | _, _, .nil => .nil
  | _, _, .cons a b => .cons (dp_same e _ _ a) (dkv_same e b)
theorem dfs_same (e : Same H H') : ∀ {ds : List (Str × D)} {vs : List (Str × V)}, DqFs K H vs ds → DqFs K H' vs ds
  | _, _, .nil => .nil
  | _, _, .cons a b => .cons (dp_same e _ _ a) (dfs_same e b)
theorem dtv_same (e : Same H H') : ∀ {ds : List (D × D)} {vs : List (List Key × Addr × V)}, DqTv K H vs ds → DqTv K H' vs ds
  | _, _, .nil => .nil
  | _, _, .cons q a b => .cons (seqT_same e q) (dp_same e _ _ a) (dtv_same e b)
end

section
variable {K : Fg} {H : Hp}
mutual
theorem dq_dp : ∀ (d : D) (v : V), d.hasDict = false → Dq K H v d → Dp K H v d
  | .none, _, _, h => by cases h; exact .non
  | .bool b, _, _, h => by cases h; exact .bl b
  | .int i, _, _, h => by cases h; exact .int i
  | .str x, _, _, h => by cases h; exact .str x
  | .list ds, _, n, h => by
    cases h with
    | lst hs ha => exact .lst hs.sq (dqa_dpa ds _ n ha)
  | .tuple ds, _, n, h => by
    cases h with
    | tup hs ha => exact .tup hs (dqa_dpa ds _ n ha)
  | .dict _, _, n, _ => by cases n
theorem dqa_dpa : ∀ (ds : List D) (vs : List V), PyData.hasDictAll ds = false → DqAll K H vs ds → DpAll K H vs ds
  | [], _, _, h => by cases h; exact .nil
  | d :: ds, _, n, h => by
    have n' : (d.hasDict || PyData.hasDictAll ds) = false := n
    rw [Bool.or_eq_false_iff] at n'
    cases h with
    | cons h1 h2 => exact .cons (dq_dp d _ n'.1 h1) (dqa_dpa ds _ n'.2 h2)
end
end

mutual
theorem lay_nd : ∀ d : D, d.canLay0 = true → d.hasDict = false
  | .none, _ => rfl
  | .bool _, _ => rfl
  | .int _, _ => rfl
  | .str _, _ => rfl
  | .list ds, h => layAll_nd ds h
  | .tuple ds, h => layAll_nd ds h
  | .dict _, h => by cases h
theorem layAll_nd : ∀ ds : List D, PyData.canLayAll0 ds = true → PyData.hasDictAll ds = false
  | [], _ => rfl
  | d :: ds, h => by
    have h' : (d.canLay0 && PyData.canLayAll0 ds) = true := h
    rw [Bool.and_eq_true] at h'
    show (d.hasDict || PyData.hasDictAll ds) = false
    rw [lay_nd d h'.1, layAll_nd ds h'.2]; rfl
end
theorem shaped_nd {d : D} (h : SeqAt.shaped d = true) : d.hasDict = false := lay_nd d (SeqAt.canLay_of_shaped h)

/-! no list within -/
mutual
def noL : D → Bool
  | .list _ => false
  | .dict _ => false
  | .tuple xs => noLAll xs
  | .none => true
  | .bool _ => true
  | .int _ => true
  | .str _ => true
def noLAll : List D → Bool
  | [] => true
  | x :: xs => noL x && noLAll xs
end

section
variable {K : Fg} {G G' : Hp}
theorem seqT_drop (hG : ∀ a o, G a = some o → Mut (some o) ∨ G' a = some o) {a : Addr} {xs : List V} (h : SqT K G a xs) : SqT K G' a xs := by
  rcases h with (h | ⟨o, h⟩) | h
  · rcases hG _ _ h with q | q
    · exact q.elim
    · exact .inl (.inl q)
  · rcases hG _ _ h with q | q
    · exact q.elim
    · exact .inl (.inr ⟨o, q⟩)
  · exact .inr h
mutual
theorem dp_drop (hG : ∀ a o, G a = some o → Mut (some o) ∨ G' a = some o) : ∀ (d : D) (v : V), noL d = true → Dq K G v d → Dq K G' v d
  | .none, _, _, h => by cases h; exact .non
  | .bool b, _, _, h => by cases h; exact .bl b
  | .int i, _, _, h => by cases h; exact .int i
  | .str x, _, _, h => by cases h; exact .str x
  | .list ds, _, n, _ => by cases n
  | .tuple ds, _, n, h => by
    cases h with
    | tup hs ha => exact .tup (seqT_drop hG hs) (dpa_drop hG ds _ n ha)
  | .dict _, _, n, _ => by cases n
theorem dpa_drop (hG : ∀ a o, G a = some o → Mut (some o) ∨ G' a = some o) : ∀ (ds : List D) (vs : List V), noLAll ds = true → DqAll K G vs ds → DqAll K G' vs ds
  | [], _, _, h => by cases h; exact .nil
  | d :: ds, _, n, h => by
    have n' : (noL d && noLAll ds) = true := n
    rw [Bool.and_eq_true] at n'
    cases h with
    | cons h1 h2 => exact .cons (dp_drop hG d _ n'.1 h1) (dpa_drop hG ds _ n'.2 h2)
end
end

section
variable {K : Fg} {G : Hp}
theorem dpa_len : ∀ {vs : List V} {ds : List D}, DqAll K G vs ds → vs.length = ds.length
  | _, _, .nil => rfl
  | _, _, .cons _ t => congrArg (· + 1) (dpa_len t)
theorem dpa_get : ∀ {vs : List V} {ds : List D} {i : Nat} {d : D}, DqAll K G vs ds → ds[i]? = some d → ∃ v, vs[i]? = some v ∧ Dq K G v d
  | _, _, _, _, .nil, h => by simp at h
  | _, _, 0, _, .cons r _, h => by simp at h; subst h; exact ⟨_, rfl, r⟩
  | _, _, i + 1, _, .cons _ t, h => by
    obtain ⟨v, h1, h2⟩ := dpa_get (i := i) t (by simpa using h)
    exact ⟨v, by simpa using h1, h2⟩
theorem dpa_get' {vs : List V} {ds : List D} {i : Nat} {v : V} (h : DqAll K G vs ds) (e : vs[i]? = some v) : ∃ d, ds[i]? = some d ∧ Dq K G v d := by
  obtain ⟨hi, _⟩ := List.getElem?_eq_some_iff.mp e
  have hd : i < ds.length := by rw [← dpa_len h]; exact hi
  obtain ⟨v', e', r⟩ := dpa_get h (List.getElem?_eq_getElem hd)
  rw [e] at e'
  cases e'
  exact ⟨ds[i], List.getElem?_eq_getElem hd, r⟩
theorem dpa_append : ∀ {vs ws : List V} {ds es : List D}, DqAll K G vs ds → DqAll K G ws es → DqAll K G (vs ++ ws) (ds ++ es)
  | _, _, _, _, .nil, s => s
  | _, _, _, _, .cons r t, s => .cons r (dpa_append t s)
theorem dpa_take : ∀ (n : Nat) {vs : List V} {ds : List D}, DqAll K G vs ds → DqAll K G (vs.take n) (ds.take n)
  | 0, _, _, _ => by simpa using DqAll.nil
  | n + 1, _, _, .nil => by simpa using DqAll.nil
  | n + 1, _, _, .cons r t => by simpa using DqAll.cons r (dpa_take n t)
theorem dpa_drop' : ∀ (n : Nat) {vs : List V} {ds : List D}, DqAll K G vs ds → DqAll K G (vs.drop n) (ds.drop n)
  | 0, _, _, h => by simpa using h
  | n + 1, _, _, .nil => by simpa using DqAll.nil
  | n + 1, _, _, .cons r t => by simpa using dpa_drop' n t
theorem dpa_nil_iff {vs : List V} {ds : List D} (h : DqAll K G vs ds) : vs = [] ↔ ds = [] := by
  cases h <;> simp
theorem dpa_rev {vs : List V} {ds : List D} (h : DqAll K G vs ds) : DqAll K G vs.reverse ds.reverse := by
  induction vs generalizing ds with
  | nil => cases h; exact .nil
  | cons v vs ih =>
    cases h with
    | cons r t =>
      simp only [List.reverse_cons]
      exact dpa_append (ih t) (.cons r .nil)
end

/-! ### results -/
/-- what is raised: its class, the names of its fields, the classes that it is of, the fields -/
structure Err where
  cls : Str
  fs : List Str
  ups : List Str
  args : List D
inductive Res (α : Type) where
  | ok (a : α)
  | err (e : Err)
  | no
namespace Res
def bind {α β : Type} (r : Res α) (f : α → Res β) : Res β := match r with
  | .ok a => f a
  | .err e => .err e
  | .no => .no
def ofO {α : Type} : Option α → Res α
  | some a => .ok a
  | none => .no
def noErr {α : Type} : Res α → Res α
  | .err _ => .no
  | r => r
@[simp] theorem bind_ok {α β : Type} (a : α) (f : α → Res β) : (Res.ok a).bind f = f a := id rfl
@[simp] theorem bind_err {α β : Type} (e : Err) (f : α → Res β) : (Res.err e).bind f = .err e := id rfl
@[simp] theorem bind_no {α β : Type} (f : α → Res β) : (Res.no).bind f = .no := id rfl
@[simp] theorem ofO_some {α : Type} (a : α) : Res.ofO (some a) = .ok a := id rfl
@[simp] theorem ofO_none {α : Type} : Res.ofO (none : Option α) = .no := id rfl
@[simp] theorem noErr_ok {α : Type} (a : α) : (Res.ok a).noErr = .ok a := id rfl
@[simp] theorem noErr_no {α : Type} : (Res.no : Res α).noErr = .no := id rfl
@[simp] theorem noErr_err {α : Type} (e : Err) : (Res.err e : Res α).noErr = .no := id rfl
end Res

/-- the heap goes on: what is told of it grows, by new things alone -/
structure Nx (G H G' H' : Hp) : Prop where
  g : Same G G'
  s : Same G' H'
  h : Same H H'
  n : ∀ a, G a = none → H a ≠ none → G' a = none
theorem Nx.refl {G H : Hp} (s : Same G H) : Nx G H G H := ⟨Same.refl G, s, Same.refl H, fun _ e _ => e⟩
theorem Nx.trans {G H G1 H1 G2 H2 : Hp} (x : Nx G H G1 H1) (y : Nx G1 H1 G2 H2) : Nx G H G2 H2 :=
  ⟨x.g.trans y.g, y.s, x.h.trans y.h, fun a e n => y.n a (x.n a e n) fun z => n (x.h.free z)⟩
/-- where the class of an error lies: by its name, its fields' names, its classes' names -/
abbrev Co := Str → List Str → List Str → Option Addr
/-- the fields of an exception's dict -/
def XdL (K : Fg) (G : Hp) (ps : List (Str × V)) (e : Err) : Prop := ∀ f d, (e.fs.zip e.args).lookup f = some d → ∃ v, ps.lookup f = some v ∧ Dq K G v d
theorem XdL.mono {K : Fg} {G G' : Hp} {ps : List (Str × V)} {e : Err} (h : XdL K G ps e) (s : Same G G') : XdL K G' ps e := fun f d q =>
  let ⟨v, h1, h2⟩ := h f d q
  ⟨v, h1, dp_same s d v h2⟩
/-- what is wanted of an error: wherever it lies, its fields told -/
def EW (K : Fg) (co : Co) (E : XK) (e : Err) (G H : Hp) : Prop :=
  ∀ (C dx : Addr) (ps : List (Str × V)) (G' H' : Hp), co e.cls e.fs e.ups = some C → Nx G H G' H' → G' dx = none → H dx = none → H' dx = some (.xd ps) → XdL K G' ps e → E (.ref C) (some dx) H'
theorem EW.mono {K : Fg} {co : Co} {E : XK} {e : Err} {G H G1 H1 : Hp} (h : EW K co E e G H) (x : Nx G H G1 H1) : EW K co E e G1 H1 :=
  fun C dx ps G' H' h1 h2 h3 h4 h5 => h C dx ps G' H' h1 (x.trans h2) h3 (x.h.free h4) h5
/-- the exception that a suite holds: the slot of its name, itself, its dict -/
structure XI where
  i : Nat
  a : Addr
  dd : Addr
  e : Err
abbrev Zx := Option XI
def XdQ (K : Fg) (G : Hp) (q : XI) : Prop := ∃ ps, G q.dd = some (.xd ps) ∧ XdL K G ps q.e
theorem XdQ.mono {K : Fg} {G G' : Hp} {q : XI} (h : XdQ K G q) (s : Same G G') : XdQ K G' q := let ⟨ps, h1, h2⟩ := h
  ⟨ps, s _ _ h1, h2.mono s⟩

/-- what is to follow a result -/
def Pst (K : Fg) (co : Co) (E : XK) (r : Res D) (G H : Hp) (Q : VK) : Prop := match r with
  | .ok d => ∀ (v : V) (G' H' : Hp), Nx G H G' H' → Dq K G' v d → Q v H'
  | .err e => EW K co E e G H
  | .no => False
section
variable {K : Fg} {co : Co} {E : XK} {G H G1 H1 : Hp} {Q Q' : VK}
theorem Pst.mono {r : Res D} (h : Pst K co E r G H Q) (x : Nx G H G1 H1) : Pst K co E r G1 H1 Q := by
  cases r with
  | ok d => exact fun v G' H' y hv => h v G' H' (x.trans y) hv
  | err e => exact EW.mono h x
  | no => exact h
end

/-- the slots as data -/
structure RepV (K : Fg) (z : Zx) (σ : St) (ν : List (Option D)) (G H : Hp) : Prop where
  same : Same G H
  len : ν.length = σ.length
  get : ∀ (i : Nat) (d : D), ν[i]? = some (some d) → ∃ v, σ[i]? = some (some v) ∧ Dq K G v d
  x : ∀ q, z = some q → (ν[q.i]? = some none → σ[q.i]? = some (some (.ref q.a))) ∧ XdQ K G q
theorem RepV.mono {K : Fg} {z : Zx} {σ : St} {ν : List (Option D)} {G H G1 H1 : Hp} (r : RepV K z σ ν G H) (x : Nx G H G1 H1) : RepV K z σ ν G1 H1 :=
  ⟨x.s, r.len, fun i d e => let ⟨v, h1, h2⟩ := r.get i d e; ⟨v, h1, dp_same x.g d v h2⟩, fun q e => ⟨(r.x q e).1, (r.x q e).2.mono x.g⟩⟩
theorem RepV.drop {K : Fg} {z : Zx} {σ : St} {ν : List (Option D)} {G H : Hp} (r : RepV K z σ ν G H) : RepV K none σ ν G H := ⟨r.same, r.len, r.get, fun q e => by cases e⟩

/-- readings may be made stronger -/
theorem pe_imp {X : Cx} {e : Expr} {t t' : TE} (h : PE X e t) (k : ∀ σ H Q, t' σ H Q → t σ H Q) : PE X e t' := ⟨fun pins s σ H Q I q => h.run pins s σ H Q I (k σ H Q q)⟩
theorem pt_imp {X : Cx} {e : Expr} {t t' : TT} (h : PT X e t) (k : ∀ σ H Q, t' σ H Q → t σ H Q) : PT X e t' := ⟨fun pins s σ H Q I q => h.run pins s σ H Q I (k σ H Q q)⟩
theorem pa_imp {X : Cx} {es : List Expr} {t t' : TA} (h : PA X es t) (k : ∀ σ H Q, t' σ H Q → t σ H Q) : PA X es t' := ⟨fun pos pins s σ H Q I q => h.run pos pins s σ H Q I (k σ H Q q)⟩
theorem ps_imp {X : Cx} {st : Stmt} {t t' : TS} (h : PS X st t) (k : ∀ D σ H, t' D σ H → t D σ H) : PS X st t' := ⟨fun pins s σ H D I q => h.run pins s σ H D I (k D σ H q)⟩
theorem pss_imp {X : Cx} {st : List Stmt} {t t' : TS} (h : PSs X st t) (k : ∀ D σ H, t' D σ H → t D σ H) : PSs X st t' := ⟨fun pins s σ H D I q => h.run pins s σ H D I (k D σ H q)⟩
theorem opR_imp {X : Cx} {f : Value → Value → Sem Value} {r r' : R2} (h : OpR X f r) (k : ∀ x y H Q, r' x y H Q → r x y H Q) : OpR X f r' := fun pins s σ H x y v u Q I rx ry q => h pins s σ H x y v u Q I rx ry (k _ _ _ _ q)

/-- a new tuple, a new list -/
theorem same_upd {H : Hp} {p : Addr} {o : HO} (h : H p = none) : Same H (upd H p o) := fun b u e => by rw [upd_ne (ne_of_none e h)]; exact e
theorem same_upd2 {G H : Hp} {p : Addr} {o : HO} (s : Same G H) : Same (upd G p o) (upd H p o) := fun b u e => by
  by_cases q : b = p
  · subst q; rw [upd_same] at e ⊢; exact e
  · rw [upd_ne q] at e ⊢; exact s _ _ e
theorem dp_newT {K : Fg} {G H : Hp} {vs : List V} {ds : List D} {p : Addr} (a : DqAll K G vs ds) (s : Same G H) (hp : H p = none) : Dq K (upd G p (.tup vs)) (.ref p) (.tuple ds) :=
  .tup (SqT.of upd_same) (dpa_same (same_upd (s.free hp)) ds vs a)
theorem dp_newL {K : Fg} {G H : Hp} {vs : List V} {ds : List D} {p : Addr} (a : DqAll K G vs ds) (s : Same G H) (hp : H p = none) : Dq K (upd G p (.lst vs)) (.ref p) (.list ds) :=
  .lst (.inl (Rd.of upd_same)) (dpa_same (same_upd (s.free hp)) ds vs a)
/-- a new thing, told -/
theorem Nx.new {G H : Hp} {p : Addr} {o : HO} (s : Same G H) (hp : H p = none) : Nx G H (upd G p o) (upd H p o) :=
  ⟨same_upd (s.free hp), same_upd2 s, same_upd hp, fun a e n => by
    by_cases q : a = p
    · subst q; exact absurd hp n
    · rw [upd_ne q]; exact e⟩
/-- a new thing, not told -/
theorem Nx.hid {G H : Hp} {p : Addr} {o : HO} (s : Same G H) (hp : H p = none) : Nx G H G (upd H p o) :=
  ⟨Same.refl G, s.trans (same_upd hp), same_upd hp, fun _ e _ => e⟩
end Pe

set_option Elab.async false
set_option linter.all false
set_option maxRecDepth 100000
set_option maxHeartbeats 4000000
/-! Dd: dicts as data. -/
namespace Pe
open PySem L2 PySem.Spec PyProof.Rows
def scK : D → Bool
  | .int _ => true
  | .str _ => true
  | _ => false
/-- what may be a key -/
def keyOk : D → Bool
  | .int _ => true
  | .str _ => true
  | .tuple ds => ds.all scK
  | _ => false
def isTupK : D → Bool
  | .tuple _ => true
  | _ => false
/-- no object's fields -/
def isL : D → Bool
  | .list _ => true
  | _ => false
/-- a key of this dict's kind -/
def kindOk (kvs : List (D × D)) (k : D) : Bool := match kvs with
  | [] => true
  | kv :: _ => (isTupK kv.1 == isTupK k) && !isL kv.1
def dfind (kvs : List (D × D)) (k : D) : Option D := (kvs.find? fun kv => PyData.eqv kv.1 k).map (·.2)
def dput (kvs : List (D × D)) (k d : D) : List (D × D) := if (kvs.any fun kv => PyData.eqv kv.1 k) = true then kvs.map fun kv => if PyData.eqv kv.1 k = true then (kv.1, d) else kv else kvs ++ [(k, d)]
def dkOk (kvs : List (D × D)) (k : D) : Bool := keyOk k && kindOk kvs k

/-! ### keys -/
theorem scK_key : ∀ {d : D}, scK d = true → ∃ k, d = keyD k
  | .int i, _ => ⟨.inl i, rfl⟩
  | .str x, _ => ⟨.inr x, rfl⟩
  | .none, h => by cases h
  | .bool _, h => by cases h
  | .list _, h => by cases h
  | .tuple _, h => by cases h
  | .dict _, h => by cases h
theorem scKs : ∀ {ds : List D}, ds.all scK = true → ∃ ks : List Key, ds = ks.map keyD
  | [], _ => ⟨[], rfl⟩
  | d :: ds, h => by
    rw [List.all_cons, Bool.and_eq_true] at h
    obtain ⟨k, rfl⟩ := scK_key h.1
    obtain ⟨ks, rfl⟩ := scKs h.2
    exact ⟨k :: ks, rfl⟩
theorem keyOk_is {d : D} (h : keyOk d = true) : (∃ k, d = keyD k) ∨ ∃ ks, d = ksD ks := by
  cases d with
  | int i => exact .inl ⟨.inl i, rfl⟩
  | str x => exact .inl ⟨.inr x, rfl⟩
  | tuple ds =>
    obtain ⟨ks, rfl⟩ := scKs h
    exact .inr ⟨ks, rfl⟩
  | _ => cases h
theorem isTupK_key {k : Key} : isTupK (keyD k) = false := by cases k <;> rfl
theorem isTupK_ks {ks : List Key} : isTupK (ksD ks) = true := rfl
theorem eqv_key {a b : Key} : PyData.eqv (keyD a) (keyD b) = decide (a = b) := by
  cases a with
  | inl i => cases b with
    | inl j => rw [key_ll]; simp [keyD, PyData.eqv]
    | inr y => rw [key_lr]; rfl
  | inr x => cases b with
    | inl j => rw [key_rl]; rfl
    | inr y =>
      rw [key_rr]
      show (x == y) = decide (x = y)
      by_cases e : x = y <;> simp [e]
theorem eqv_kss : ∀ {a b : List Key}, PyData.eqvAll (a.map keyD) (b.map keyD) = decide (a = b)
  | [], [] => by simp [PyData.eqvAll]
  | [], _ :: _ => by simp [PyData.eqvAll]
  | _ :: _, [] => by simp [PyData.eqvAll]
  | x :: xs, y :: ys => by
    have e1 := eqv_key (a := x) (b := y)
    have e2 := eqv_kss (a := xs) (b := ys)
    show (PyData.eqv (keyD x) (keyD y) && PyData.eqvAll (xs.map keyD) (ys.map keyD)) = _
    rw [e1, e2]
    by_cases h1 : x = y <;> by_cases h2 : xs = ys <;> simp [h1, h2]
theorem eqv_ks {a b : List Key} : PyData.eqv (ksD a) (ksD b) = decide (a = b) := eqv_kss
section
variable {K : Fg} {G : Hp}
theorem dq_key {v : V} {k : Key} (h : Dq K G v (keyD k)) : v = kV k := by
  cases k with
  | inl i => cases h; rfl
  | inr x => cases h; rfl
theorem dqa_keys : ∀ {ks : List Key} {vs : List V}, DqAll K G vs (ks.map keyD) → vs = ks.map kV
  | [], vs, h => by cases h; rfl
  | k :: ks, vs, h => by
    rw [List.map_cons] at h
    cases h with
    | cons r t => rw [dq_key r, dqa_keys t]; rfl
theorem dq_ks {v : V} {ks : List Key} (h : Dq K G v (ksD ks)) : ∃ b, v = .ref b ∧ SqT K G b (ks.map kV) := by
  cases h with
  | tup hs a => exact ⟨_, rfl, by rw [← dqa_keys a]; exact hs⟩
/-- what stands at a key -/
def RelDO (K : Fg) (G : Hp) : Option V → Option D → Prop
  | some v, some d => Dq K G v d
  | none, none => True
  | _, _ => False
theorem dkv_len : ∀ {kvs : List (Key × V)} {ds : List (D × D)}, DqKv K G kvs ds → kvs.length = ds.length
  | _, _, .nil => rfl
  | _, _, .cons _ t => congrArg (· + 1) (dkv_len t)
theorem dtv_len : ∀ {kvs : List (List Key × Addr × V)} {ds : List (D × D)}, DqTv K G kvs ds → kvs.length = ds.length
  | _, _, .nil => rfl
  | _, _, .cons _ _ t => congrArg (· + 1) (dtv_len t)
theorem dkv_find (k : Key) : ∀ {kvs : List (Key × V)} {ds : List (D × D)}, DqKv K G kvs ds → RelDO K G (valV kvs k) (dfind ds (keyD k))
  | _, _, .nil => trivial
  | _, _, .cons (k := j) (v := v) (kvs := kvs) (d := d) (ds := ds) r t => by
    have ih := dkv_find k t
    by_cases e : j = k
    · subst e
      rw [valV_pos (p := (j, v)) rfl]
      unfold dfind
      rw [List.find?_cons_of_pos (by rw [eqv_key]; simp)]
      exact r
    · rw [valV_neg (p := (j, v)) e]
      unfold dfind at ih ⊢
      rw [List.find?_cons_of_neg (by rw [eqv_key]; simp [e])]
      exact ih
def entV (ent : List (List Key × Addr × V)) (ks : List Key) : Option V := (ent.find? fun e => decide (e.1 = ks)).map (·.2.2)
theorem dtv_find (ks : List Key) : ∀ {ent : List (List Key × Addr × V)} {ds : List (D × D)}, DqTv K G ent ds → RelDO K G (entV ent ks) (dfind ds (ksD ks))
  | _, _, .nil => trivial
  | _, _, .cons (ks := j) (v := v) (ent := ent) (d := d) (ds := ds) q r t => by
    have ih := dtv_find ks t
    unfold entV dfind at ih ⊢
    by_cases e : j = ks
    · subst e
      rw [List.find?_cons_of_pos (by simp), List.find?_cons_of_pos (by rw [eqv_ks]; simp)]
      exact r
    · rw [List.find?_cons_of_neg (by simp [e]), List.find?_cons_of_neg (by rw [eqv_ks]; simp [e])]
      exact ih
end

/-! ### the dict in the heap -/
/-- entries and what the model lays -/
abbrev EntX : List (List Key × Addr × V) → List (List Key × Addr × Value) → Prop := Paired fun p q => p.1 = q.1 ∧ p.2.1 = q.2.1 ∧ RelV p.2.2 q.2.2
theorem entX_find {ks : List Key} : ∀ {ent : List (List Key × Addr × V)} {xs : List (List Key × Addr × Value)}, EntX ent xs → RelO (entV ent ks) ((atKey xs ks).map (·.2))
  | _, _, .nil => trivial
  | _, _, .cons (a := p) (b := q) h t => by
    obtain ⟨h1, h2, h3⟩ := h
    have ih := entX_find (ks := ks) t
    unfold entV at ih ⊢
    by_cases e : p.1 = ks
    · have e' : q.1 = ks := h1.symm.trans e
      have b : ∀ qs, atKey (q :: qs) ks = some q.2 := fun qs => by simp [atKey, List.find?_cons, e']
      rw [List.find?_cons_of_pos (by simp [e]), b]
      exact h3
    · have e' : ¬ q.1 = ks := fun z => e (h1.trans z)
      have b : ∀ qs, atKey (q :: qs) ks = atKey qs ks := fun qs => by simp [atKey, List.find?_cons, e']
      rw [List.find?_cons_of_neg (by simp [e]), b]
      exact ih
section
variable {X : Cx} {pins : List (Addr × Obj)} {σ : L2.St} {H : Hp} {s : Shared}
theorem key_sq (I : Inv X pins σ H s) {ks : List Key} {b : Addr} (e : SqT X.kx H b (ks.map kV)) : (tupleKind (mixKind X.prog X.w)).is s.heap ks b := by
  obtain ⟨its, r, ⟨o, h1, h2, n, h3⟩, _⟩ := I.tuple e
  exact ⟨o, its.toArray, n, h1, h2, h3, by simpa using items_are r⟩
theorem ents_key (I : Inv X pins σ H s) : ∀ {ent : List (List Key × Addr × V)} {xs : List (List Key × Addr × Value)} {ds : List (D × D)}, EntX ent xs → DqTv X.kx H ent ds → ∀ x ∈ xs, (tupleKind (mixKind X.prog X.w)).is s.heap x.1 x.2.1
  | _, _, _, .nil, _, x, hx => by cases hx
  | _, _, _, .cons h t, q, x, hx => by
    cases q with
    | cons q1 q2 q3 =>
      rcases List.mem_cons.mp hx with rfl | hx
      · rw [← h.1, ← h.2.1]; exact key_sq I q1
      · exact ents_key I t q3 x hx
/-- a dict with keys that are tuples, in the heap -/
theorem dt_ofH (I : Inv X pins σ H s) {a : Addr} {ent : List (List Key × Addr × V)} {ds : List (D × D)} (h : Rd H a (dtO X.kx a ent)) (q : DqTv X.kx H ent ds) :
    ent.length ≤ sizeLine ∧ (a == sysModules) = false ∧ ∃ xs, EntX ent xs ∧ s.heap.DictOfH (tupleKind (mixKind X.prog X.w)) a xs := by
  obtain ⟨⟨z, y, xs, r, o, es, ep, h1, h2, h3, h4, h5⟩, _⟩ := (show ObjOk X.prog X.w H s.heap a (dtO X.kx a ent) from h.ok I.hok)
  exact ⟨z, y, xs, r, o, es, ep, h1, h2, h3, h4, ents_key I r q, h5⟩
theorem kind_head {kv : D × D} {r : List (D × D)} {k : D} (h : kindOk (kv :: r) k = true) : isTupK kv.1 = isTupK k := by
  have h' : ((isTupK kv.1 == isTupK k) && !isL kv.1) = true := h
  rw [Bool.and_eq_true] at h'
  exact eq_of_beq h'.1
/-- no object -/
def nob : List (D × D) → Bool
  | kv :: _ => !isL kv.1
  | [] => true
theorem kind_nob {kvs : List (D × D)} {k : D} (h : kindOk kvs k = true) : nob kvs = true := by
  cases kvs with
  | nil => rfl
  | cons kv r =>
    have h' : ((isTupK kv.1 == isTupK k) && !isL kv.1) = true := h
    rw [Bool.and_eq_true] at h'
    exact h'.2
theorem obj_no {c : Str} {r : List (D × D)} {k : D} (h : kindOk ((.list [], .str c) :: r) k = true) : False := by
  have := kind_nob h
  cases this
/-- a dict at a tuple -/
theorem tup_look (I : Inv X pins σ H s) {G : Hp} (sm : Same G H) {x : V} {ds : List (D × D)} {ks : List Key} (hx : Dq X.kx G x (.dict ds)) (hk : kindOk ds (ksD ks) = true) : ∃ a xs, x = .ref a ∧ (a == sysModules) = false ∧ s.heap.DictOfH (tupleKind (mixKind X.prog X.w)) a xs ∧
    (∀ d, dfind ds (ksD ks) = some d → ∃ p v, atKey xs ks = some p ∧ RelV v p.2 ∧ Dq X.kx G v d) ∧ (dfind ds (ksD ks) = none → atKey xs ks = none) := by
  cases hx with
  | dctT h q ne =>
    rename_i a ent
    obtain ⟨z, y, xs, r, dd⟩ := dt_ofH I (rd_same sm h) (dtv_same sm q)
    have r1 := dtv_find ks q
    have r2 := entX_find (ks := ks) r
    refine ⟨a, xs, rfl, y, dd, fun d e => ?_, fun e => ?_⟩
    · rw [e] at r1
      cases e1 : entV ent ks with
      | none => rw [e1] at r1; exact r1.elim
      | some v =>
        rw [e1] at r1 r2
        cases e2 : atKey xs ks with
        | none => rw [e2] at r2; exact r2.elim
        | some p => rw [e2] at r2; exact ⟨p, v, rfl, r2, r1⟩
    · rw [e] at r1
      cases e1 : entV ent ks with
      | some v => rw [e1] at r1; exact r1.elim
      | none =>
        rw [e1] at r2
        cases e2 : atKey xs ks with
        | none => rfl
        | some p => rw [e2] at r2; exact r2.elim
  | dctK h q =>
    rename_i a kvs
    cases q with
    | cons _ _ =>
      have e := kind_head hk
      rw [isTupK_key, isTupK_ks] at e
      cases e
    | nil =>
      obtain ⟨z, y, vs, r, o, es, ep, h1, h2, h3, _, h5, _⟩ := dk_rd I.hok (rd_same sm h)
      cases r
      refine ⟨a, [], rfl, y, ⟨o, es, ep, h1, h2, h3, ?_, (fun x hx => nomatch hx), List.nodup_nil⟩, (fun d e => nomatch e), fun _ => rfl⟩
      cases e : es.toList with
      | nil => rfl
      | cons _ _ => rw [e] at h5; cases h5
  | obj _ _ _ => exact (obj_no hk).elim
/-- .. at an int or a text -/
theorem sc_look (I : Inv X pins σ H s) {G : Hp} (sm : Same G H) {x : V} {ds : List (D × D)} {k : Key} (hx : Dq X.kx G x (.dict ds)) (hk : kindOk ds (keyD k) = true) : ∃ a vs, x = .ref a ∧ (a == sysModules) = false ∧ s.heap.DictOf (mixKind X.prog X.w) a vs ∧
    (∀ d, dfind ds (keyD k) = some d → ∃ u v, valueAt vs k = some u ∧ RelV v u ∧ Dq X.kx G v d) ∧ (dfind ds (keyD k) = none → valueAt vs k = none) := by
  cases hx with
  | dctK h q =>
    rename_i a kvs
    obtain ⟨z, y, vs, r, dd⟩ := dk_rd I.hok (rd_same sm h)
    have r1 := dkv_find k q
    have r2 := r.val k
    refine ⟨a, vs, rfl, y, dd, fun d e => ?_, fun e => ?_⟩
    · rw [e] at r1
      cases e1 : valV kvs k with
      | none => rw [e1] at r1; exact r1.elim
      | some v =>
        rw [e1] at r1 r2
        cases e2 : valueAt vs k with
        | none => rw [e2] at r2; exact r2.elim
        | some p => rw [e2] at r2; exact ⟨p, v, rfl, r2, r1⟩
    · rw [e] at r1
      cases e1 : valV kvs k with
      | some v => rw [e1] at r1; exact r1.elim
      | none =>
        rw [e1] at r2
        cases e2 : valueAt vs k with
        | none => rfl
        | some p => rw [e2] at r2; exact r2.elim
  | dctT h q ne =>
    rename_i a ent
    cases q with
    | cons _ _ _ =>
      have e := kind_head hk
      rw [isTupK_key, isTupK_ks] at e
      cases e
    | nil =>
      obtain ⟨z, y, xs, r, o, es, ep, h1, h2, h3, h4, _⟩ := dt_ofH I (rd_same sm h) .nil
      cases r
      have e : es = #[] := by
        have : es.toList = [] := h4
        simpa using this
      subst e
      exact ⟨a, [], rfl, y, ⟨o, #[], ep, h1, h2, h3, (fun e he => absurd he (by simp)), .nil, List.nodup_nil⟩, (fun d e => nomatch e), fun _ => rfl⟩
  | obj _ _ _ => exact (obj_no hk).elim

/-- its length -/
theorem sc_len (I : Inv X pins σ H s) {G : Hp} (sm : Same G H) {x : V} {ds : List (D × D)} (hx : Dq X.kx G x (.dict ds)) (hk : kindOk ds (.int 0) = true) : ∃ a vs, x = .ref a ∧ (a == sysModules) = false ∧ s.heap.DictOf (mixKind X.prog X.w) a vs ∧ ds.length ≤ sizeLine ∧ vs.length = ds.length := by
  cases hx with
  | dctK h q =>
    rename_i a kvs
    obtain ⟨z, y, vs, r, dd⟩ := dk_rd I.hok (rd_same sm h)
    exact ⟨a, vs, rfl, y, dd, by rw [← dkv_len q]; exact z, by rw [← r.length, dkv_len q]⟩
  | dctT h q ne =>
    rename_i a ent
    cases q with
    | cons _ _ _ =>
      have e := kind_head hk
      rw [isTupK_ks] at e
      cases e
    | nil =>
      obtain ⟨z, y, xs, r, o, es, ep, h1, h2, h3, h4, _⟩ := dt_ofH I (rd_same sm h) .nil
      cases r
      have e : es = #[] := by
        have : es.toList = [] := h4
        simpa using this
      subst e
      exact ⟨a, [], rfl, y, ⟨o, #[], ep, h1, h2, h3, (fun e he => absurd he (by simp)), .nil, List.nodup_nil⟩, Nat.zero_le _, rfl⟩
  | obj _ _ _ => exact (obj_no hk).elim

/-! ### rules -/
theorem dkOk_of {ds : List (D × D)} {k : D} (h : dkOk ds k = true) : keyOk k = true ∧ kindOk ds k = true := Bool.and_eq_true_iff.mp h
variable {A : Around} {E : Value → Shared → Prop} {x y : V} {u iv : Value} {ds : List (D × D)} {k : D}
theorem dict_item {d : D} {Q : Value → Shared → Prop} (hu : A.units + 1 < cLine) (I : Inv X pins σ H s) {G : Hp} (sm : Same G H) (hx : Dq X.kx G x (.dict ds)) (hy : Dq X.kx G y k) (rx : RelV x u) (ry : RelV y iv) (ok : dkOk ds k = true) (e : dfind ds k = some d)
    (h : ∀ v w' s', Inv X pins σ H s' → RelV v w' → Dq X.kx G v d → Q w' s') : wpAny (model X.prog X.w) A (getItem u iv) Q E s := by
  obtain ⟨o1, o2⟩ := dkOk_of ok
  rcases keyOk_is o1 with ⟨key, rfl⟩ | ⟨ks, rfl⟩
  · obtain ⟨a, vs, rfl, hd, dd, l1, _⟩ := sc_look I sm hx o2
    obtain ⟨w', v, hw, rw', q⟩ := l1 d e
    cases rx
    rw [dq_key hy] at ry
    exact wpAny_getItem_of (kV_is ry) dd.mapOf hw (h v w' _ (I.tok _) rw' q)
  · obtain ⟨a, xs, rfl, hd, dd, l1, _⟩ := tup_look I sm hx o2
    obtain ⟨p, v, hp, rw', q⟩ := l1 d e
    obtain ⟨b, rfl, sq⟩ := dq_ks hy
    cases rx
    cases ry
    exact wpAny_getItem_heap (tupleKind_room_in1 hu) (key_sq I (seqT_same sm sq)) dd hp (h v p.2 _ (I.tok _) rw' q)
theorem dict_in {Q : Value → Shared → Prop} (hu : A.units + 1 < cLine) (I : Inv X pins σ H s) {G : Hp} (sm : Same G H) (hx : Dq X.kx G x (.dict ds)) (hy : Dq X.kx G y k) (rx : RelV x u) (ry : RelV y iv) (ok : dkOk ds k = true)
    (h : ∀ s', Inv X pins σ H s' → Q (.bool (dfind ds k).isSome) s') : wpAny (model X.prog X.w) A (compareOp .In iv u) Q E s := by
  obtain ⟨o1, o2⟩ := dkOk_of ok
  rcases keyOk_is o1 with ⟨key, rfl⟩ | ⟨ks, rfl⟩
  · obtain ⟨a, vs, rfl, hd, dd, l1, l2⟩ := sc_look I sm hx o2
    cases rx
    rw [dq_key hy] at ry
    refine wpAny_in_of (kV_is ry) hd dd.mapOf ?_
    have e2 : (valueAt vs key).isSome = (dfind ds (keyD key)).isSome := by
      cases e : dfind ds (keyD key) with
      | some d => obtain ⟨w', v, hw, _⟩ := l1 d e; rw [hw]; rfl
      | none => rw [l2 e]; rfl
    rw [e2]
    exact h _ (I.tok _)
  · obtain ⟨a, xs, rfl, hd, dd, l1, l2⟩ := tup_look I sm hx o2
    obtain ⟨b, rfl, sq⟩ := dq_ks hy
    cases rx
    cases ry
    refine wpAny_in_heap (tupleKind_room_in1 hu) (key_sq I (seqT_same sm sq)) hd dd ?_
    have e2 : (atKey xs ks).isSome = (dfind ds (ksD ks)).isSome := by
      cases e : dfind ds (ksD ks) with
      | some d => obtain ⟨w', v, hw, _⟩ := l1 d e; rw [hw]; rfl
      | none => rw [l2 e]; rfl
    rw [e2]
    exact h _ (I.tok _)
theorem dict_notin {Q : Value → Shared → Prop} (hu : A.units + 1 < cLine) (I : Inv X pins σ H s) {G : Hp} (sm : Same G H) (hx : Dq X.kx G x (.dict ds)) (hy : Dq X.kx G y k) (rx : RelV x u) (ry : RelV y iv) (ok : dkOk ds k = true)
    (h : ∀ s', Inv X pins σ H s' → Q (.bool (!(dfind ds k).isSome)) s') : wpAny (model X.prog X.w) A (compareOp .NotIn iv u) Q E s := by
  obtain ⟨o1, o2⟩ := dkOk_of ok
  rcases keyOk_is o1 with ⟨key, rfl⟩ | ⟨ks, rfl⟩
  · obtain ⟨a, vs, rfl, hd, dd, l1, l2⟩ := sc_look I sm hx o2
    cases rx
    rw [dq_key hy] at ry
    refine wpAny_notIn_of (kV_is ry) hd dd.mapOf ?_
    have e2 : (valueAt vs key).isSome = (dfind ds (keyD key)).isSome := by
      cases e : dfind ds (keyD key) with
      | some d => obtain ⟨w', v, hw, _⟩ := l1 d e; rw [hw]; rfl
      | none => rw [l2 e]; rfl
    rw [e2]
    exact h _ (I.tok _)
  · obtain ⟨a, xs, rfl, hd, dd, l1, l2⟩ := tup_look I sm hx o2
    obtain ⟨b, rfl, sq⟩ := dq_ks hy
    cases rx
    cases ry
    refine wpAny_notIn_heap (tupleKind_room_in1 hu) (key_sq I (seqT_same sm sq)) hd dd ?_
    have e2 : (atKey xs ks).isSome = (dfind ds (ksD ks)).isSome := by
      cases e : dfind ds (ksD ks) with
      | some d => obtain ⟨w', v, hw, _⟩ := l1 d e; rw [hw]; rfl
      | none => rw [l2 e]; rfl
    rw [e2]
    exact h _ (I.tok _)
theorem dict_ty (I : Inv X pins σ H s) (hx : Dq X.kx H x (.dict ds)) (hn : nob ds = true) : ∃ a ob, x = .ref a ∧ s.heap.get? a = some ob ∧ ob.cls = .type "dict" ∧ ob.dict = none := by
  cases hx with
  | dctK h q =>
    obtain ⟨_, _, vs, _, ob, es, ep, h1, h2, h3⟩ := dk_rd I.hok h
    exact ⟨_, ob, rfl, h1, h2.1, h2.2.1⟩
  | dctT h q ne =>
    obtain ⟨_, _, xs, _, ob, es, ep, h1, h2, h3⟩ := dt_ofH I h q
    exact ⟨_, ob, rfl, h1, h2.1, h2.2.1⟩
  | obj _ _ _ => cases hn
end
end Pe

set_option Elab.async false
set_option linter.all false
set_option maxRecDepth 100000
set_option maxHeartbeats 4000000
/-! Pe2: the operators and the built-in functions upon data. -/
namespace Pe
open PySem L2

/-- what is to follow a value -/
def PsO (K : Fg) (d : D) (G H : Hp) (Q : VK) : Prop := ∀ (v : V) (G' H' : Hp), Nx G H G' H' → Dq K G' v d → Q v H'
section
variable {K : Fg} {G H G1 H1 : Hp} {Q : VK}
theorem PsO.now {v : V} {d : D} (h : PsO K d G H Q) (s : Same G H) (a : Dq K G v d) : Q v H := h v G H (Nx.refl s) a
theorem PsO.tup {vs : List V} {ds : List D} (h : PsO K (.tuple ds) G H Q) (s : Same G H) (a : DqAll K G vs ds) : ∀ p, H p = none → Q (.ref p) (upd H p (.tup vs)) := fun p hp =>
  h _ _ _ (Nx.new s hp) (dp_newT a s hp)
theorem PsO.lst {vs : List V} {ds : List D} (h : PsO K (.list ds) G H Q) (s : Same G H) (a : DqAll K G vs ds) : ∀ p, H p = none → Q (.ref p) (upd H p (.lst vs)) := fun p hp =>
  h _ _ _ (Nx.new s hp) (dp_newL a s hp)
end
/-- a new list with these data -/
def PsL (K : Fg) (ds : List D) (G H : Hp) (Q : VK) : Prop := ∀ p vs, H p = none → DqAll K G vs ds → Q (.ref p) (upd H p (.lst vs))
theorem PsO.toL {K : Fg} {G H : Hp} {Q : VK} {ds : List D} (h : PsO K (.list ds) G H Q) (s : Same G H) : PsL K ds G H Q := fun p vs hp a => h.lst s a p hp
def rD2 (K : Fg) (f : D → D → Option D) : R2 := fun x y H Q => ∃ G dx dy d, Same G H ∧ Dq K G x dx ∧ Dq K G y dy ∧ f dx dy = some d ∧ PsO K d G H Q
def rD1 (K : Fg) (f : D → Option D) : V → Hp → VK → Prop := fun x H Q => ∃ G dx d, Same G H ∧ Dq K G x dx ∧ f dx = some d ∧ PsO K d G H Q
def rDc (K : Fg) (f : List D → Option D) : List V → Hp → VK → Prop := fun xs H Q => ∃ G ds d, Same G H ∧ DqAll K G xs ds ∧ f ds = some d ∧ PsO K d G H Q

/-! ### arithmetic -/
def small (i : Int) : Bool := decide (i.natAbs < 18446744073709551616)
def addD : D → D → Option D
  | .int i, .int j => some (.int (i + j))
  | .str i, .str j => if i.length + j.length ≤ sizeLine then some (.str (i ++ j)) else none
  | .list xs, .list ys => if xs.length + ys.length ≤ sizeLine then some (.list (xs ++ ys)) else none
  | .tuple xs, .tuple ys => if xs.length + ys.length ≤ sizeLine then some (.tuple (xs ++ ys)) else none
  | _, _ => none
def subD : D → D → Option D
  | .int i, .int j => some (.int (i - j))
  | _, _ => none
def mulOk (i j : Int) : Bool := small j || small i || decide (i.natAbs.log2 + j.natAbs.log2 < 1000000)
def mulD : D → D → Option D
  | .int i, .int j => if mulOk i j = true then some (.int (i * j)) else none
  | .list xs, .int k => if -(9223372036854775808) ≤ k ∧ k < 9223372036854775808 ∧ xs.length * k.toNat ≤ sizeLine then some (.list (List.replicate k.toNat xs).flatten) else none
  | _, _ => none
def divD : D → D → Option D
  | .int i, .int j => if 0 < j ∧ j.natAbs.log2 < 9000 then some (.int (i / j)) else none
  | _, _ => none
def modD : D → D → Option D
  | .int i, .int j => if 0 < j then some (.int (i % j)) else none
  | _, _ => none
def powD : D → D → Option D
  | .int i, .int j => if 0 ≤ j ∧ j ≤ 1000000 ∧ i.natAbs < 18446744073709551616 then some (.int (i ^ j.toNat)) else none
  | _, _ => none
def binD : Operator → D → D → Option D
  | .Add => addD
  | .Sub => subD
  | .Mult => mulD
  | .FloorDiv => divD
  | .Mod => modD
  | .Pow => powD
  | _ => fun _ _ => none
def negD : D → Option D
  | .int i => some (.int (-i))
  | _ => none

theorem of_ite_some {α : Type} {c : Prop} [Decidable c] {a b : α} (h : (if c then some a else none) = some b) : c ∧ a = b := by
  by_cases q : c
  · rw [if_pos q] at h; exact ⟨q, Option.some.inj h⟩
  · rw [if_neg q] at h; cases h
theorem small_lt {i : Int} (h : small i = true) : -(2 ^ 64) < i ∧ i < 2 ^ 64 := by
  have := of_decide_eq_true h
  omega
theorem LsQ.lstM {X : Cx} {pins : List (Addr × Obj)} {σ : St} {H : Hp} {s : Shared} {a : Addr} {xs : List V} (I : Inv X pins σ H s) (h : LsQ X.kx H a xs) :
    ∃ (its : List Value) (n : Nat), Vals xs its ∧ xs.length = its.length ∧ s.heap.get? a = some { cls := .type "list", data := .seq its.toArray n } := by
  rcases h with h | ⟨its, n, h1, h2, h3⟩
  · obtain ⟨z, its, n, r, e⟩ := Rd.ok h I.hok
    exact ⟨its, n, r, r.length, e⟩
  · exact ⟨its.toList, n, h3, h3.length, by simpa using I.kIn a _ h1⟩
section
variable {X : Cx}
theorem op_catD : OpR X (binaryOp .Add) (fun x y H Q => ∃ l b xs zs, x = .ref l ∧ y = .ref b ∧ LsQ X.kx H l xs ∧ LsQ X.kx H b zs ∧ xs.length + zs.length ≤ sizeLine ∧ ∀ p, H p = none → Q (.ref p) (upd H p (.lst (xs ++ zs)))) := by
  rintro pins s σ H _ _ v u Q I rx ry ⟨l, b, xs, zs, rfl, rfl, h1, h2, hz, q⟩
  cases rx
  cases ry
  obtain ⟨its, n, r, hl, e⟩ := LsQ.lstM I h1
  obtain ⟨jts, m, r', hl', e'⟩ := LsQ.lstM I h2
  refine PySem.P.add_list e e' ?_ (by simp only [List.size_toArray]; omega)
  rw [show its.toArray ++ jts.toArray = (its ++ jts).toArray by simp]
  refine ⟨.ref _, _, I.lnew (t' := s.toks) (r.append r') ?_, rfl, q _ I.fresh⟩
  rw [List.length_append]
  exact hz
theorem op_addD : OpR X (binaryOp .Add) (rD2 X.kx addD) := by
  rintro pins s σ H x y v u Q I rx ry ⟨G, dx, dy, d, sm, hx, hy, hf, q⟩
  cases hx with
  | int i =>
    cases hy with
    | int j => cases hf; exact op_add pins s σ H _ _ v u Q I rx ry ⟨i, j, rfl, rfl, q.now sm (.int _)⟩
    | _ => cases hf
  | str i =>
    cases hy with
    | str j =>
      obtain ⟨hz, rfl⟩ := of_ite_some hf
      exact op_add_str pins s σ H _ _ v u Q I rx ry ⟨i, j, rfl, rfl, hz, q.now sm (.str _)⟩
    | _ => cases hf
  | lst h1 a1 =>
    cases hy with
    | lst h2 a2 =>
      obtain ⟨hz, rfl⟩ := of_ite_some hf
      exact op_catD pins s σ H _ _ v u Q I rx ry ⟨_, _, _, _, rfl, rfl, ls_same sm h1, ls_same sm h2, by rw [dpa_len a1, dpa_len a2]; exact hz, q.lst sm (dpa_append a1 a2)⟩
    | _ => cases hf
  | tup h1 a1 =>
    cases hy with
    | tup h2 a2 =>
      obtain ⟨hz, rfl⟩ := of_ite_some hf
      refine op_catA pins s σ H _ _ v u Q I rx ry ⟨_, _, _, _, rfl, rfl, seqT_same sm h1, seqT_same sm h2, by rw [dpa_len a1, dpa_len a2]; exact hz, fun e => ?_, fun _ e => ?_, fun _ _ => q.tup sm (dpa_append a1 a2)⟩
      · subst e
        have e1 := (dpa_nil_iff a1).mp rfl
        subst e1
        exact q.now sm (.tup h2 a2)
      · subst e
        have e2 := (dpa_nil_iff a2).mp rfl
        subst e2
        exact q.now sm (by rw [List.append_nil]; exact .tup h1 a1)
    | _ => cases hf
  | _ => cases hf
theorem op_subD : OpR X (binaryOp .Sub) (rD2 X.kx subD) := by
  rintro pins s σ H x y v u Q I rx ry ⟨G, dx, dy, d, sm, hx, hy, hf, q⟩
  cases hx with
  | int i =>
    cases hy with
    | int j => cases hf; exact op_sub pins s σ H _ _ v u Q I rx ry ⟨i, j, rfl, rfl, q.now sm (.int _)⟩
    | _ => cases hf
  | _ => cases hf
theorem op_repD : OpR X (binaryOp .Mult) (fun x y H Q => ∃ l k xs, x = .ref l ∧ y = .int k ∧ LsQ X.kx H l xs ∧ -(2 ^ 63) ≤ k ∧ k < 2 ^ 63 ∧ xs.length * k.toNat ≤ sizeLine ∧ ∀ p, H p = none → Q (.ref p) (upd H p (.lst (List.replicate k.toNat xs).flatten))) := by
  rintro pins s σ H _ _ v u Q I rx ry ⟨l, k, xs, rfl, rfl, h1, k1, k2, hz, q⟩
  cases rx
  obtain ⟨t, rfl⟩ := ry
  obtain ⟨its, n, r, hl, e⟩ := LsQ.lstM I h1
  have room : its.toArray.size * k.toNat ≤ sizeLine := by
    simp only [List.size_toArray]
    rw [← hl]
    exact hz
  have line : (sizeLine : Nat) ≤ (2 ^ 63 - 1) / 8 := by decide
  have fits : ¬ (!Builtin.List.listFitsIndex k) = true := by simp [fitsIndex_both k1 k2]
  have caps : ¬ its.toArray.size * k.toNat > (2 ^ 63 - 1) / 8 := by omega
  have long : ¬ Builtin.List.listTooLong (its.toArray.size * k.toNat) = true := by rw [notLongL room]; simp
  have made : List.foldl (· ++ ·) #[] (List.replicate (if its.toArray.isEmpty = true then 0 else k.toNat) its.toArray)
      = (List.replicate k.toNat its).flatten.toArray := by
    have step (m : Nat) : List.foldl (· ++ ·) #[] (List.replicate m its.toArray) = (List.replicate m its).flatten.toArray := by
      simpa using foldl_rep its m []
    rw [step]
    cases its with
    | nil => simp
    | cons a r' => rw [if_neg (by simp)]
  have inner := PySem.AutoListH.list___mul___list_int_3 l its.toArray n k t fits caps long
  refine wpAny_binaryOp_repeat_ref (T := "list") (U := "int") (by decide) ⟨_, e, rfl⟩ (fun s' => typeIs_int s' k t)
    noFill_list_mul F.fills_int_mul F.slot_int_rmul repeat_list F.slot_int_index.lookup ?_
  refine call_meets F.slot_int_rmul (typeIs_int s k t) F.entry_int_rmul (F.args_int_rmul_2 _ _)
    (int___rmul___int_list k t l its.toArray n) ⟨e, rfl, ⟨_, e, rfl⟩, ?_⟩
  refine call_meets F.slot_list_mul ⟨_, e, rfl⟩ F.entry_list_mul (F.args_list_mul_2 _ _) inner ⟨e, ?_⟩
  rw [made]
  refine ⟨.ref _, _, I.lnew (t' := s.toks) (r.rep k.toNat) ?_, rfl, q _ I.fresh⟩
  rw [PyProof.Rows.lm_len_rep_flat, Nat.mul_comm]
  exact hz
theorem op_mulD : OpR X (binaryOp .Mult) (rD2 X.kx mulD) := by
  rintro pins s σ H x y v u Q I rx ry ⟨G, dx, dy, d, sm, hx, hy, hf, q⟩
  cases hx with
  | int i =>
    cases hy with
    | int j =>
      obtain ⟨hz, rfl⟩ := of_ite_some hf
      have q' := q.now sm (.int _)
      unfold mulOk at hz
      simp only [Bool.or_eq_true] at hz
      rcases hz with (hz | hz) | hz
      · exact op_mul pins s σ H _ _ v u Q I rx ry ⟨i, j, rfl, rfl, .inr (small_lt hz), q'⟩
      · exact op_mul pins s σ H _ _ v u Q I rx ry ⟨i, j, rfl, rfl, .inl (small_lt hz), q'⟩
      · exact op_mulW pins s σ H _ _ v u Q I rx ry ⟨i, j, rfl, rfl, (of_decide_eq_true hz : i.natAbs.log2 + j.natAbs.log2 < 1000000), q'⟩
    | _ => cases hf
  | lst h1 a1 =>
    cases hy with
    | int k =>
      obtain ⟨⟨k1, k2, hz⟩, rfl⟩ := of_ite_some hf
      refine op_repD pins s σ H _ _ v u Q I rx ry ⟨_, k, _, rfl, rfl, ls_same sm h1, by omega, by omega, by rw [dpa_len a1]; exact hz, q.lst sm ?_⟩
      generalize k.toNat = n
      induction n with
      | zero => exact .nil
      | succ n ih =>
        simp only [List.replicate_succ, List.flatten_cons]
        exact dpa_append a1 ih
    | _ => cases hf
  | _ => cases hf
theorem op_divD : OpR X (binaryOp .FloorDiv) (rD2 X.kx divD) := by
  rintro pins s σ H x y v u Q I rx ry ⟨G, dx, dy, d, sm, hx, hy, hf, q⟩
  cases hx with
  | int i =>
    cases hy with
    | int j =>
      obtain ⟨⟨hz, hb⟩, rfl⟩ := of_ite_some hf
      exact op_fdivW pins s σ H _ _ v u Q I rx ry ⟨i, j, rfl, rfl, ⟨hz, hb⟩, q.now sm (.int _)⟩
    | _ => cases hf
  | _ => cases hf
theorem op_modD : OpR X (binaryOp .Mod) (rD2 X.kx modD) := by
  rintro pins s σ H x y v u Q I rx ry ⟨G, dx, dy, d, sm, hx, hy, hf, q⟩
  cases hx with
  | int i =>
    cases hy with
    | int j =>
      obtain ⟨hz, rfl⟩ := of_ite_some hf
      exact op_mod pins s σ H _ _ v u Q I rx ry ⟨i, j, rfl, rfl, hz, q.now sm (.int _)⟩
    | _ => cases hf
  | _ => cases hf
theorem op_powD : OpR X (binaryOp .Pow) (rD2 X.kx powD) := by
  rintro pins s σ H x y v u Q I rx ry ⟨G, dx, dy, d, sm, hx, hy, hf, q⟩
  cases hx with
  | int i =>
    cases hy with
    | int j =>
      obtain ⟨⟨h1, h2, h3⟩, rfl⟩ := of_ite_some hf
      exact op_pow pins s σ H _ _ v u Q I rx ry ⟨i, j, rfl, rfl, ⟨h1, h2, by simpa using h3⟩, q.now sm (.int _)⟩
    | _ => cases hf
  | _ => cases hf
theorem op_binD (op : Operator) : OpR X (binaryOp op) (rD2 X.kx (binD op)) := by
  cases op with
  | Add => exact op_addD
  | Sub => exact op_subD
  | Mult => exact op_mulD
  | FloorDiv => exact op_divD
  | Mod => exact op_modD
  | Pow => exact op_powD
  | _ =>
    rintro pins s σ H x y v u Q I rx ry ⟨G, dx, dy, d, sm, hx, hy, hf, q⟩
    cases hf
theorem un_negD : UnR X (unaryOp .USub) (rD1 X.kx negD) := by
  rintro pins s σ H x v Q I rx ⟨G, dx, d, sm, hx, hf, q⟩
  cases hx with
  | int i => cases hf; exact un_neg pins s σ H _ v Q I rx ⟨i, rfl, q.now sm (.int _)⟩
  | _ => cases hf
end

/-! ### comparisons -/
def scalD : D → D → Bool
  | .none, .none => true | .none, .int _ => true | .int _, .none => true | .none, .bool _ => true | .bool _, .none => true | .none, .str _ => true | .str _, .none => true
  | .int _, .int _ => true | .bool _, .bool _ => true | .str _, .str _ => true
  | .int _, .str _ => true | .str _, .int _ => true | .bool _, .str _ => true | .str _, .bool _ => true
  | _, _ => false
def eqB (x y : D) : Option Bool := if scalD x y = true then some (PyData.eqv x y) else if SeqAt.shaped x = true ∧ SeqAt.shaped y = true then some (PyData.eqv x y) else none
mutual
def wal : D → D → Bool
  | .none, .none => true
  | .bool _, .bool _ => true
  | .int _, .int _ => true
  | .str _, .str _ => true
  | .tuple xs, .tuple ys => walL xs ys
  | _, _ => false
def walL : List D → List D → Bool
  | x :: xs, y :: ys => wal x y && (!PyData.eqv x y || walL xs ys)
  | _, _ => true
end
abbrev LX (a b : List (Int ⊕ List Nat)) : Bool := PyProof.Rows.lexLt PyProof.Rows.itemOrd a b
def ltB : D → D → Option Bool
  | .int i, .int j => some (decide (i < j))
  | .str i, .str j => some (decide (i.cps.toList < j.cps.toList))
  | _, _ => none
def leB : D → D → Option Bool
  | .int i, .int j => some (decide (i ≤ j))
  | .str i, .str j => some (!decide (j.cps.toList < i.cps.toList))
  | _, _ => none
/-- tuples too -/
def leW : D → D → Option Bool
  | .tuple xs, .tuple ys => if walL xs ys = true ∧ SeqAt.shaped (.tuple xs) = true ∧ SeqAt.shaped (.tuple ys) = true ∧ PyData.depth (.tuple xs) ≤ 60 ∧ PyData.depth (.tuple ys) ≤ 60 then some (!LX (PySem.W.keyToksAll ys) (PySem.W.keyToksAll xs)) else none
  | x, y => leB x y
def isB : D → D → Option Bool
  | .none, .none => some true
  | .bool a, .bool b => some (decide (a = b))
  | _, .none => some false
  | _, _ => none
def inB (d c : D) : Option Bool := match c with
  | .str y => match d with
    | .str x => some (!(Builtin.Str.occurrences y x 0 y.length 1).isEmpty)
    | _ => none
  | .list ds => if SeqAt.shaped d = true ∧ SeqAt.shaped (.list ds) = true then some (ds.any fun z => PyData.eqv z d) else none
  | .tuple ds => if SeqAt.shaped d = true ∧ SeqAt.shaped (.tuple ds) = true then some (ds.any fun z => PyData.eqv z d) else none
  | .dict kvs => if dkOk kvs d = true then some (dfind kvs d).isSome else none
  | _ => none
def bD : Option Bool → Option D
  | some b => some (.bool b)
  | none => none
def nD : Option Bool → Option D
  | some b => some (.bool (!b))
  | none => none
def cmpD : CmpOp → D → D → Option D
  | .Eq => fun x y => bD (eqB x y)
  | .NotEq => fun x y => nD (eqB x y)
  | .Lt => fun x y => bD (ltB x y)
  | .LtE => fun x y => bD (leW x y)
  | .Gt => fun x y => bD (ltB y x)
  | .GtE => fun x y => bD (leB y x)
  | .Is => fun x y => bD (isB x y)
  | .IsNot => fun x y => nD (isB x y)
  | .In => fun x y => bD (inB x y)
  | .NotIn => fun x y => nD (inB x y)
theorem of_bD {o : Option Bool} {d : D} (h : bD o = some d) : ∃ b, o = some b ∧ d = .bool b := by
  cases o with
  | none => cases h
  | some b => cases h; exact ⟨b, rfl, rfl⟩
theorem of_nD {o : Option Bool} {d : D} (h : nD o = some d) : ∃ b, o = some b ∧ d = .bool (!b) := by
  cases o with
  | none => cases h
  | some b => cases h; exact ⟨b, rfl, rfl⟩

section
variable {X : Cx}
theorem scal_of {K : Fg} {G : Hp} {x y : V} {dx dy : D} (hx : Dq K G x dx) (hy : Dq K G y dy) (h : scalD dx dy = true) : scal x y = true ∧ decide (x = y) = PyData.eqv dx dy := by
  cases hx <;> cases hy <;> first
    | (exact absurd (show false = true from h) Bool.false_ne_true)
    | (refine ⟨rfl, ?_⟩; first | exact dec_int | exact dec_bl | exact dec_str | simp [PyData.eqv])
theorem op_eqD' (hu : X.A.units + 64 < cLine) : OpR X (compareOp .Eq) (rD2 X.kx (cmpD .Eq)) := by
  rintro pins s σ H x y v u Q I rx ry ⟨G, dx, dy, d, sm, hx, hy, hf, q⟩
  obtain ⟨b, hb, rfl⟩ := of_bD hf
  unfold eqB at hb
  have q' := q.now sm (.bl b)
  by_cases hs : scalD dx dy = true
  · rw [if_pos hs] at hb
    cases hb
    obtain ⟨h1, h2⟩ := scal_of hx hy hs
    exact op_eq pins s σ H _ _ v u Q I rx ry ⟨h1, by rw [h2]; exact q'⟩
  · rw [if_neg hs] at hb
    obtain ⟨⟨h1, h2⟩, rfl⟩ := of_ite_some hb
    exact op_eqD hu pins s σ H _ _ v u Q I rx ry ⟨dx, dy, dq_dp _ _ (shaped_nd h1) (dp_same sm _ _ hx), dq_dp _ _ (shaped_nd h2) (dp_same sm _ _ hy), h1, h2, q'⟩
theorem op_neD' (hu : X.A.units + 64 < cLine) : OpR X (compareOp .NotEq) (rD2 X.kx (cmpD .NotEq)) := by
  rintro pins s σ H x y v u Q I rx ry ⟨G, dx, dy, d, sm, hx, hy, hf, q⟩
  obtain ⟨b, hb, rfl⟩ := of_nD hf
  unfold eqB at hb
  have q' := q.now sm (.bl (!b))
  by_cases hs : scalD dx dy = true
  · rw [if_pos hs] at hb
    cases hb
    obtain ⟨h1, h2⟩ := scal_of hx hy hs
    exact op_ne pins s σ H _ _ v u Q I rx ry ⟨h1, by rw [h2]; exact q'⟩
  · rw [if_neg hs] at hb
    obtain ⟨⟨h1, h2⟩, rfl⟩ := of_ite_some hb
    exact op_neD hu pins s σ H _ _ v u Q I rx ry ⟨dx, dy, dq_dp _ _ (shaped_nd h1) (dp_same sm _ _ hx), dq_dp _ _ (shaped_nd h2) (dp_same sm _ _ hy), h1, h2, q'⟩
theorem op_ltD : OpR X (compareOp .Lt) (rD2 X.kx (cmpD .Lt)) := by
  rintro pins s σ H x y v u Q I rx ry ⟨G, dx, dy, d, sm, hx, hy, hf, q⟩
  obtain ⟨b, hb, rfl⟩ := of_bD hf
  have q' := q.now sm (.bl b)
  cases hx <;> cases hy <;> first
    | (cases hb; exact op_lt pins s σ H _ _ v u Q I rx ry ⟨_, _, rfl, rfl, q'⟩)
    | (cases hb; exact op_lt_str pins s σ H _ _ v u Q I rx ry ⟨_, _, rfl, rfl, q'⟩)
    | cases hb
theorem op_gtD : OpR X (compareOp .Gt) (rD2 X.kx (cmpD .Gt)) := by
  rintro pins s σ H x y v u Q I rx ry ⟨G, dx, dy, d, sm, hx, hy, hf, q⟩
  obtain ⟨b, hb, rfl⟩ := of_bD hf
  have q' := q.now sm (.bl b)
  cases hx <;> cases hy <;> first
    | (cases hb; exact op_gt pins s σ H _ _ v u Q I rx ry ⟨_, _, rfl, rfl, q'⟩)
    | (cases hb; obtain ⟨t, rfl⟩ := rx; obtain ⟨t', rfl⟩ := ry; exact PySem.P.gt_str (fin_bl I q' rfl))
    | cases hb
theorem op_geD : OpR X (compareOp .GtE) (rD2 X.kx (cmpD .GtE)) := by
  rintro pins s σ H x y v u Q I rx ry ⟨G, dx, dy, d, sm, hx, hy, hf, q⟩
  obtain ⟨b, hb, rfl⟩ := of_bD hf
  have q' := q.now sm (.bl b)
  cases hx <;> cases hy <;> first
    | (cases hb; exact op_ge pins s σ H _ _ v u Q I rx ry ⟨_, _, rfl, rfl, q'⟩)
    | (cases hb; obtain ⟨t, rfl⟩ := rx; obtain ⟨t', rfl⟩ := ry; exact PySem.P.ge_str (fin_bl I q' rfl))
    | cases hb
theorem op_isD : OpR X (compareOp .Is) (rD2 X.kx (cmpD .Is)) := by
  rintro pins s σ H x y v u Q I rx ry ⟨G, dx, dy, d, sm, hx, hy, hf, q⟩
  obtain ⟨b, hb, rfl⟩ := of_bD hf
  have q' := q.now sm (.bl b)
  cases hx <;> cases hy <;> first
    | (cases hb; exact op_isN pins s σ H _ _ v u Q I rx ry ⟨rfl, q'⟩)
    | (cases hb; exact op_is_bl pins s σ H _ _ v u Q I rx ry ⟨_, _, rfl, rfl, q'⟩)
    | cases hb
theorem op_isntD : OpR X (compareOp .IsNot) (rD2 X.kx (cmpD .IsNot)) := by
  rintro pins s σ H x y v u Q I rx ry ⟨G, dx, dy, d, sm, hx, hy, hf, q⟩
  obtain ⟨b, hb, rfl⟩ := of_nD hf
  have q' := q.now sm (.bl (!b))
  cases hx <;> cases hy <;> first
    | (cases hb; exact op_notN pins s σ H _ _ v u Q I rx ry ⟨rfl, q'⟩)
    | (cases hb; exact op_isnot_bl pins s σ H _ _ v u Q I rx ry ⟨_, _, rfl, rfl, q'⟩)
    | cases hb
end
end Pe

set_option Elab.async false
set_option linter.all false
set_option maxRecDepth 100000
set_option maxHeartbeats 8000000
/-! Sw1: tuples of several kinds, compared: each two go together as far as they are equal, and one place more. -/
namespace Pe
open PySem L2 PySem.Spec PyProof.Rows PySem.W PySem.SeqAt
theorem lx_self (i : Int ⊕ List Nat) (a b : List (Int ⊕ List Nat)) : LX (i :: a) (i :: b) = LX a b := lex_self (O := itemOrd) i a b
theorem lx_pre (i : Int ⊕ List Nat) (p a b : List (Int ⊕ List Nat)) : LX (i :: (p ++ a)) (i :: (p ++ b)) = LX a b := (lx_self _ _ _).trans (lex_pre p a b)
theorem walL_cons {x y : D} {xs ys : List D} (h : walL (x :: xs) (y :: ys) = true) : wal x y = true ∧ (PyData.eqv x y = true → walL xs ys = true) := by
  have h' : (wal x y && (!PyData.eqv x y || walL xs ys)) = true := h
  rw [Bool.and_eq_true] at h'
  exact ⟨h'.1, fun e => by have h2 := h'.2; rw [e] at h2; exact h2⟩
mutual
theorem wal_toks : ∀ (x y : D), wal x y = true → (PyData.eqv x y = true → keyToks x = keyToks y) ∧ (PyData.eqv x y = false → ∀ l m, LX (keyToks x ++ l) (keyToks y ++ m) = LX (keyToks x) (keyToks y))
  | .none, y, h => by
    cases y with
    | none => exact toks_eqv _ _ (by simp [alike])
    | _ => cases h
  | .bool _, y, h => by
    cases y with
    | bool _ => exact toks_eqv _ _ (by simp [alike])
    | _ => cases h
  | .int _, y, h => by
    cases y with
    | int _ => exact toks_eqv _ _ (by simp [alike])
    | _ => cases h
  | .str _, y, h => by
    cases y with
    | str _ => exact toks_eqv _ _ (by simp [alike])
    | _ => cases h
  | .tuple xs, y, h => by
    cases y with
    | tuple ys =>
      have q := walL_toks xs ys h
      simp only [keyToks, PyData.eqv]
      exact q
    | _ => cases h
  | .list _, y, h => by cases y <;> cases h
  | .dict _, y, h => by cases y <;> cases h
theorem walL_toks : ∀ (xs ys : List D), walL xs ys = true → (PyData.eqvAll xs ys = true → keyToksAll xs = keyToksAll ys) ∧ (PyData.eqvAll xs ys = false → ∀ l m, LX (keyToksAll xs ++ l) (keyToksAll ys ++ m) = LX (keyToksAll xs) (keyToksAll ys))
  | [], ys, _ => toksAll_eqv [] ys (by simp [alikeAll])
  | x :: xs, [], _ => toksAll_eqv (x :: xs) [] (by simp [alikeAll])
  | x :: xs, y :: ys, h => by
    obtain ⟨h1, h2⟩ := walL_cons h
    have a := wal_toks x y h1
    cases hx : PyData.eqv x y with
    | true =>
      have b := walL_toks xs ys (h2 hx)
      have et := a.1 hx
      refine ⟨fun e => ?_, fun e l m => ?_⟩
      · rw [eqv_all_cons, hx] at e
        rw [toks_all_cons, toks_all_cons, et, b.1 e]
      · rw [eqv_all_cons, hx] at e
        have c := b.2 e l m
        simp only [toks_all_cons, et, List.cons_append, List.append_assoc, lx_pre]
        exact c
    | false =>
      refine ⟨fun e => ?_, fun _ l m => ?_⟩
      · rw [eqv_all_cons, hx] at e; cases e
      · have c := a.2 hx
        simp only [toks_all_cons, List.cons_append, List.append_assoc, lx_self]
        exact (c _ _).trans (c _ _).symm
end
theorem toksL_yes {x y : D} {xs ys : List D} (h : wal x y = true) (e : PyData.eqv x y = true) : LX (keyToksAll (x :: xs)) (keyToksAll (y :: ys)) = LX (keyToksAll xs) (keyToksAll ys) := by
  simp only [toks_all_cons, (wal_toks x y h).1 e, lx_pre]
theorem toksL_no {x y : D} {xs ys : List D} (h : wal x y = true) (e : PyData.eqv x y = false) : LX (keyToksAll (x :: xs)) (keyToksAll (y :: ys)) = LX (keyToks x) (keyToks y) := by
  simp only [toks_all_cons, lx_self]
  exact (wal_toks x y h).2 e _ _
theorem in1_units (A : Around) : A.in1.units = A.units + 1 := rfl
theorem canL_mem : ∀ {xs : List D}, PyData.canLay0 (.tuple xs) = true → ∀ x ∈ xs, PyData.canLay0 x = true := by
  intro xs h x hx
  simp only [PyData.canLay0] at h
  induction xs with
  | nil => cases hx
  | cons y ys ih =>
    simp only [PyData.canLayAll0, Bool.and_eq_true] at h
    rcases List.mem_cons.mp hx with rfl | hx
    · exact h.1
    · exact ih h.2 hx
theorem depL_mem : ∀ {xs : List D} {x : D}, x ∈ xs → x.depth ≤ PyData.depthAll xs
  | y :: ys, x, h => by
    simp only [PyData.depthAll]
    rcases List.mem_cons.mp h with rfl | h
    · omega
    · have := depL_mem h
      omega
theorem shT {xs : List D} (h : SeqAt.shaped (.tuple xs) = true) : ∀ x ∈ xs, SeqAt.shaped x = true := fun x hx => by
  have h1 := canL_mem (canLay_of_shaped h) x hx
  have h2 := depth_of_shaped h
  have h3 := depL_mem hx
  simp only [PyData.depth] at h2
  unfold SeqAt.shaped
  rw [h1]
  exact decide_eq_true (by omega)
/-- the first place that differs decides -/
inductive LexW (A : Around) (s : Shared) : List Value → List Value → Bool → Prop
  | nil : LexW A s [] [] false
  | less {y : Value} {ys : List Value} : LexW A s [] (y :: ys) true
  | more {x : Value} {xs : List Value} : LexW A s (x :: xs) [] false
  | yes {x y : Value} {xs ys : List Value} {k : Bool} : EqAt A s x y true → LexW A s xs ys k → LexW A s (x :: xs) (y :: ys) k
  | no {x y : Value} {xs ys : List Value} {k : Bool} : EqAt A s x y false → RcLt A s x y k → LexW A s (x :: xs) (y :: ys) k
theorem tup_ltW (p q : Addr) (us vs : Array Value) (c c2 : Nat) (e1 e2 : Option Addr) (t1 t2 : Array (Option Value)) (k : Bool) : Meets (Builtin.«tuple.__lt__» ⟨[.ref p, .ref q], []⟩) (fun A R s => s.heap.get? p = some ⟨.type "tuple", e1, .seq us c, t1⟩ ∧ s.heap.get? q = some ⟨.type "tuple", e2, .seq vs c2, t2⟩ ∧ LexW A.in1 s us.toList vs.toList k ∧ R (.ok (.ret (.bool k))) s) :=
  .of_wp fun prog w A R s hh => by
    obtain ⟨hp, g, d, tk, os⟩ := s
    obtain ⟨h1, h2, hx, hR⟩ := hh
    have sub := AutoSeq1.sub_tuple_tuple
    wp_walk using AutoSeq1.wpAny_loadPart' h1, AutoSeq1.wpAny_loadPart' h2, wpAny_forIn_list _ (fun rest b s' => b.1 = none ∧ s' = ⟨hp, g, d, tk, os⟩ ∧ ∃ as bs, rest = as.zip bs ∧ LexW A.in1 ⟨hp, g, d, tk, os⟩ as bs k ∧ as.length + vs.size = bs.length + us.size) _
    case turn =>
      rintro ⟨y, x⟩ rest b s' ⟨hb, rfl, as, bs, hz, hw, hl⟩
      cases hw with
      | nil => cases hz
      | less => cases hz
      | more => cases hz
      | yes he hw =>
        cases hz
        refine wpAny_bind (he prog w _ _ ?_)
        wp_walk
        exact ⟨rfl, rfl, _, _, rfl, hw, by simp only [List.length_cons] at hl; omega⟩
      | no he hr =>
        cases hz
        refine wpAny_bind (he prog w _ _ ?_)
        have hr' : ∀ E Q, Q (.bool k) ⟨hp, g, d, tk, os⟩ → wpAny (model prog w) A.in1 (richCompare .Lt y x) Q E ⟨hp, g, d, tk, os⟩ := fun E Q hq => hr prog w E Q hq
        generalize richCompare .Lt y x = m at hr' ⊢
        wp_walk
        refine hr' _ _ ?_
        wp_walk
        exact ⟨_, rfl, hR⟩
    case fin =>
      rintro ⟨b1, b2⟩ s' ⟨hb, rfl, as, bs, hz, hw, hl⟩
      simp only at hb
      subst hb
      have hk : decide (us.size < vs.size) = k := by
        cases hw with
        | nil => exact decide_eq_false (by simp only [List.length_nil] at hl; omega)
        | less => exact decide_eq_true (by simp only [List.length_nil, List.length_cons] at hl; omega)
        | more => exact decide_eq_false (by simp only [List.length_nil, List.length_cons] at hl; omega)
        | yes => cases hz
        | no => cases hz
      wp_walk
      exact ⟨_, rfl, by simpa [Builtin.Tuple.tupleCompareSizes, hk] using hR⟩
    case h =>
      exact ⟨rfl, rfl, us.toList, vs.toList, rfl, hx, by simp; omega⟩
theorem rcLtW {A : Around} {s : Shared} {p q : Addr} {us vs : Array Value} {k : Bool} (h1 : s.heap.IsTuple p us) (h2 : s.heap.IsTuple q vs) (hu : A.units < cLine) (hw : LexW A.in1 s us.toList vs.toList k) : RcLt A s (.ref p) (.ref q) k := fun prog w E Q hq => by
  obtain ⟨⟨_, e1, _, t1⟩, o1, k1, c, d1⟩ := id h1
  obtain ⟨⟨_, e2, _, t2⟩, o2, k2, c2, d2⟩ := id h2
  cases k1
  cases d1
  cases k2
  cases d2
  exact richCompare_meets_room (op := .Lt) ⟨_, o1, rfl⟩ ⟨_, o2, rfl⟩ F.slot_tuple_lt F.entry_tuple_lt (F.args_tuple_lt_2 _ _) (tup_ltW p q us vs c c2 e1 e2 t1 t2 k) ⟨o1, o2, hw, ⟨(fun x => nomatch x), hq⟩⟩ hu
mutual
/-- x < y, of data that go together so far -/
theorem wal_lt : ∀ (x y : D) (A : Around) (s : Shared) (a b : Value) (as bs : List Addr), Reads s.heap a x as → Reads s.heap b y bs → wal x y = true → x ≠ .none → SeqAt.shaped x = true → SeqAt.shaped y = true → A.units + x.depth < cLine → RcLt A s a b (LX (keyToks x) (keyToks y))
  | .none, _, _, _, _, _, _, _, _, _, _, hn, _, _, _ => absurd rfl hn
  | .bool i, y, A, s, a, b, as, bs, ra, rb, h, hn, sx, sy, hu => by
    cases y with
    | bool j => exact rcLt_alike (.bool i) (.bool j) A s a b as bs ra rb (by simp [alike]) hn (by simp only [PyData.depth]; omega)
    | _ => cases h
  | .int i, y, A, s, a, b, as, bs, ra, rb, h, hn, sx, sy, hu => by
    cases y with
    | int j => exact rcLt_alike (.int i) (.int j) A s a b as bs ra rb (by simp [alike]) hn (by simp only [PyData.depth]; omega)
    | _ => cases h
  | .str i, y, A, s, a, b, as, bs, ra, rb, h, hn, sx, sy, hu => by
    cases y with
    | str j => exact rcLt_alike (.str i) (.str j) A s a b as bs ra rb (by simp [alike]) hn (by simp only [PyData.depth]; omega)
    | _ => cases h
  | .tuple xs, y, A, s, a, b, as, bs, ra, rb, h, hn, sx, sy, hu => by
    cases y with
    | tuple ys =>
      cases ra with
      | tuple p1 p2 p3 p4 =>
        cases rb with
        | tuple q1 q2 q3 q4 =>
          simp only [keyToks]
          exact rcLtW ⟨_, p1, p2, _, p3⟩ ⟨_, q1, q2, _, q3⟩ (by omega) (walL_lt xs ys A.in1 s _ _ _ _ p4 q4 h (shT sx) (shT sy) (by have := in1_units A; simp only [PyData.depth] at hu; omega))
    | _ => cases h
  | .list _, y, _, _, _, _, _, _, _, _, h, _, _, _, _ => by cases y <;> cases h
  | .dict _, y, _, _, _, _, _, _, _, _, h, _, _, _, _ => by cases y <;> cases h
theorem walL_lt : ∀ (xs ys : List D) (A : Around) (s : Shared) (us vs : List Value) (as bs : List Addr), ReadsAll s.heap us xs as → ReadsAll s.heap vs ys bs → walL xs ys = true → (∀ x ∈ xs, SeqAt.shaped x = true) → (∀ y ∈ ys, SeqAt.shaped y = true) → A.units + PyData.depthAll xs < cLine → LexW A s us vs (LX (keyToksAll xs) (keyToksAll ys))
  | [], [], _, _, _, _, _, _, ra, rb, _, _, _, _ => by
    cases ra
    cases rb
    have e : LX (keyToksAll []) (keyToksAll []) = false := lex_irrefl _
    rw [e]
    exact .nil
  | [], y :: ys, _, _, _, _, _, _, ra, rb, _, _, _, _ => by
    cases ra
    cases rb
    have e : LX (keyToksAll []) (keyToksAll (y :: ys)) = true := by
      simp only [keyToksAll]
      exact (lex_diff (O := itemOrd) (by simp)).trans (by simp [itemLt])
    rw [e]
    exact .less
  | x :: xs, [], _, _, _, _, _, _, ra, rb, _, _, _, _ => by
    cases ra
    cases rb
    have e : LX (keyToksAll (x :: xs)) (keyToksAll []) = false := by
      simp only [keyToksAll]
      exact (lex_diff (O := itemOrd) (by simp)).trans (by simp [itemLt])
    rw [e]
    exact .more
  | x :: xs, y :: ys, A, s, _, _, _, _, ra, rb, h, sx, sy, hu => by
    obtain ⟨h1, h2⟩ := walL_cons h
    have zx := sx x List.mem_cons_self
    have zy := sy y List.mem_cons_self
    cases ra with
    | cons r rs =>
      cases rb with
      | cons r' rs' =>
        have eq := eqAt_reads x y A s _ _ _ _ r r' (canLay_of_shaped zx) (canLay_of_shaped zy) (by have := depL_mem (List.mem_cons_self : x ∈ x :: xs); omega)
        have hd : x.depth ≤ PyData.depthAll (x :: xs) ∧ PyData.depthAll xs ≤ PyData.depthAll (x :: xs) := by
          simp only [PyData.depthAll]
          omega
        cases e : PyData.eqv x y with
        | true =>
          rw [toksL_yes h1 e]
          rw [e] at eq
          exact .yes eq (walL_lt xs ys A s _ _ _ _ rs rs' (h2 e) (fun z hz => sx z (List.mem_cons_of_mem _ hz)) (fun z hz => sy z (List.mem_cons_of_mem _ hz)) (by omega))
        | false =>
          rw [toksL_no h1 e]
          rw [e] at eq
          refine .no eq (wal_lt x y A s _ _ _ _ r r' h1 (fun z => ?_) zx zy (by omega))
          subst z
          cases y with
          | none => simp [PyData.eqv] at e
          | _ => cases h1
end

inductive LexE (A : Around) (s : Shared) : List Value → List Value → Bool → Prop where
  | nil : LexE A s [] [] true
  | less {y : Value} {ys : List Value} : LexE A s [] (y :: ys) true
  | more {x : Value} {xs : List Value} : LexE A s (x :: xs) [] false
  | yes {x y : Value} {xs ys : List Value} {k : Bool} : EqAt A s x y true → LexE A s xs ys k → LexE A s (x :: xs) (y :: ys) k
  | no {x y : Value} {xs ys : List Value} {k : Bool} : EqAt A s x y false → RcOp .LtE A s x y k → LexE A s (x :: xs) (y :: ys) k
theorem tup_leW (p q : Addr) (us vs : Array Value) (c c2 : Nat) (e1 e2 : Option Addr) (t1 t2 : Array (Option Value)) (k : Bool) : Meets (Builtin.«tuple.__le__» ⟨[.ref p, .ref q], []⟩) (fun A R s => s.heap.get? p = some ⟨.type "tuple", e1, .seq us c, t1⟩ ∧ s.heap.get? q = some ⟨.type "tuple", e2, .seq vs c2, t2⟩ ∧ LexE A.in1 s us.toList vs.toList k ∧ R (.ok (.ret (.bool k))) s) :=
  .of_wp fun prog w A R s hh => by
    obtain ⟨hp, g, d, tk, os⟩ := s
    obtain ⟨h1, h2, hx, hR⟩ := hh
    have sub := AutoSeq1.sub_tuple_tuple
    wp_walk using AutoSeq1.wpAny_loadPart' h1, AutoSeq1.wpAny_loadPart' h2, wpAny_forIn_list _ (fun rest b s' => b.1 = none ∧ s' = ⟨hp, g, d, tk, os⟩ ∧ ∃ as bs, rest = as.zip bs ∧ LexE A.in1 ⟨hp, g, d, tk, os⟩ as bs k ∧ as.length + vs.size = bs.length + us.size) _
    case turn =>
      rintro ⟨y, x⟩ rest b s' ⟨hb, rfl, as, bs, hz, hw, hl⟩
      cases hw with
      | nil => cases hz
      | less => cases hz
      | more => cases hz
      | yes he hw =>
        cases hz
        refine wpAny_bind (he prog w _ _ ?_)
        wp_walk
        exact ⟨rfl, rfl, _, _, rfl, hw, by simp only [List.length_cons] at hl; omega⟩
      | no he hr =>
        cases hz
        refine wpAny_bind (he prog w _ _ ?_)
        have hr' : ∀ E Q, Q (.bool k) ⟨hp, g, d, tk, os⟩ → wpAny (model prog w) A.in1 (richCompare .LtE y x) Q E ⟨hp, g, d, tk, os⟩ := fun E Q hq => hr prog w E Q hq
        generalize richCompare .LtE y x = m at hr' ⊢
        wp_walk
        refine hr' _ _ ?_
        wp_walk
        exact ⟨_, rfl, hR⟩
    case fin =>
      rintro ⟨b1, b2⟩ s' ⟨hb, rfl, as, bs, hz, hw, hl⟩
      simp only at hb
      subst hb
      have hk : decide (us.size ≤ vs.size) = k := by
        cases hw with
        | nil => exact decide_eq_true (by simp only [List.length_nil] at hl; omega)
        | less => exact decide_eq_true (by simp only [List.length_nil, List.length_cons] at hl; omega)
        | more => exact decide_eq_false (by simp only [List.length_nil, List.length_cons] at hl; omega)
        | yes => cases hz
        | no => cases hz
      wp_walk
      exact ⟨_, rfl, by simpa [Builtin.Tuple.tupleCompareSizes, hk] using hR⟩
    case h =>
      exact ⟨rfl, rfl, us.toList, vs.toList, rfl, hx, by simp; omega⟩
theorem rcLeW {A : Around} {s : Shared} {p q : Addr} {us vs : Array Value} {k : Bool} (h1 : s.heap.IsTuple p us) (h2 : s.heap.IsTuple q vs) (hu : A.units < cLine) (hw : LexE A.in1 s us.toList vs.toList k) : RcOp .LtE A s (.ref p) (.ref q) k := fun prog w E Q hq => by
  obtain ⟨⟨_, e1, _, t1⟩, o1, k1, c, d1⟩ := id h1
  obtain ⟨⟨_, e2, _, t2⟩, o2, k2, c2, d2⟩ := id h2
  cases k1
  cases d1
  cases k2
  cases d2
  exact richCompare_meets_room (op := .LtE) ⟨_, o1, rfl⟩ ⟨_, o2, rfl⟩ F.slot_tuple_le F.entry_tuple_le (F.args_tuple_le_2 _ _) (tup_leW p q us vs c c2 e1 e2 t1 t2 k) ⟨o1, o2, hw, ⟨(fun x => nomatch x), hq⟩⟩ hu
mutual
theorem wal_commT : ∀ (x y : D), wal x y = wal y x
  | .none, y => by cases y <;> rfl
  | .bool _, y => by cases y <;> rfl
  | .int _, y => by cases y <;> rfl
  | .str _, y => by cases y <;> rfl
  | .list _, y => by cases y <;> rfl
  | .dict _, y => by cases y <;> rfl
  | .tuple xs, y => by
    cases y with
    | tuple ys => exact walL_commT xs ys
    | _ => rfl
theorem walL_commT : ∀ (xs ys : List D), walL xs ys = walL ys xs
  | [], [] => rfl
  | [], _ :: _ => rfl
  | _ :: _, [] => rfl
  | x :: xs, y :: ys => by
    show (wal x y && (!PyData.eqv x y || walL xs ys)) = (wal y x && (!PyData.eqv y x || walL ys xs))
    rw [wal_commT x y, eqv_comm x y, walL_commT xs ys]
end
mutual
/-- x ≤ y, of data that go together so far -/
theorem wal_le : ∀ (x y : D) (A : Around) (s : Shared) (a b : Value) (as bs : List Addr), Reads s.heap a x as → Reads s.heap b y bs → wal x y = true → x ≠ .none → SeqAt.shaped x = true → SeqAt.shaped y = true → A.units + x.depth < cLine → RcOp .LtE A s a b (!LX (keyToks y) (keyToks x))
  | .none, _, _, _, _, _, _, _, _, _, _, hn, _, _, _ => absurd rfl hn
  | .bool i, y, A, s, a, b, as, bs, ra, rb, h, hn, sx, sy, hu => by
    cases y with
    | bool j => exact rcLe_alike (.bool i) (.bool j) A s a b as bs ra rb (by simp [alike]) hn (by simp only [PyData.depth]; omega)
    | _ => cases h
  | .int i, y, A, s, a, b, as, bs, ra, rb, h, hn, sx, sy, hu => by
    cases y with
    | int j => exact rcLe_alike (.int i) (.int j) A s a b as bs ra rb (by simp [alike]) hn (by simp only [PyData.depth]; omega)
    | _ => cases h
  | .str i, y, A, s, a, b, as, bs, ra, rb, h, hn, sx, sy, hu => by
    cases y with
    | str j => exact rcLe_alike (.str i) (.str j) A s a b as bs ra rb (by simp [alike]) hn (by simp only [PyData.depth]; omega)
    | _ => cases h
  | .tuple xs, y, A, s, a, b, as, bs, ra, rb, h, hn, sx, sy, hu => by
    cases y with
    | tuple ys =>
      cases ra with
      | tuple p1 p2 p3 p4 =>
        cases rb with
        | tuple q1 q2 q3 q4 =>
          simp only [keyToks]
          exact rcLeW ⟨_, p1, p2, _, p3⟩ ⟨_, q1, q2, _, q3⟩ (by omega) (walL_le xs ys A.in1 s _ _ _ _ p4 q4 h (shT sx) (shT sy) (by have := in1_units A; simp only [PyData.depth] at hu; omega))
    | _ => cases h
  | .list _, y, _, _, _, _, _, _, _, _, h, _, _, _, _ => by cases y <;> cases h
  | .dict _, y, _, _, _, _, _, _, _, _, h, _, _, _, _ => by cases y <;> cases h
theorem walL_le : ∀ (xs ys : List D) (A : Around) (s : Shared) (us vs : List Value) (as bs : List Addr), ReadsAll s.heap us xs as → ReadsAll s.heap vs ys bs → walL xs ys = true → (∀ x ∈ xs, SeqAt.shaped x = true) → (∀ y ∈ ys, SeqAt.shaped y = true) → A.units + PyData.depthAll xs < cLine → LexE A s us vs (!LX (keyToksAll ys) (keyToksAll xs))
  | [], [], _, _, _, _, _, _, ra, rb, _, _, _, _ => by
    cases ra
    cases rb
    have e : LX (keyToksAll []) (keyToksAll []) = false := lex_irrefl _
    rw [e]
    exact .nil
  | [], y :: ys, _, _, _, _, _, _, ra, rb, _, _, _, _ => by
    cases ra
    cases rb
    have e : LX (keyToksAll (y :: ys)) (keyToksAll []) = false := by
      simp only [keyToksAll]
      exact (lex_diff (O := itemOrd) (by simp)).trans (by simp [itemLt])
    rw [e]
    exact .less
  | x :: xs, [], _, _, _, _, _, _, ra, rb, _, _, _, _ => by
    cases ra
    cases rb
    have e : LX (keyToksAll []) (keyToksAll (x :: xs)) = true := by
      simp only [keyToksAll]
      exact (lex_diff (O := itemOrd) (by simp)).trans (by simp [itemLt])
    rw [e]
    exact .more
  | x :: xs, y :: ys, A, s, _, _, _, _, ra, rb, h, sx, sy, hu => by
    obtain ⟨h1, h2⟩ := walL_cons h
    have zx := sx x List.mem_cons_self
    have zy := sy y List.mem_cons_self
    cases ra with
    | cons r rs =>
      cases rb with
      | cons r' rs' =>
        have eq := eqAt_reads x y A s _ _ _ _ r r' (canLay_of_shaped zx) (canLay_of_shaped zy) (by have := depL_mem (List.mem_cons_self : x ∈ x :: xs); omega)
        have hd : x.depth ≤ PyData.depthAll (x :: xs) ∧ PyData.depthAll xs ≤ PyData.depthAll (x :: xs) := by
          simp only [PyData.depthAll]
          omega
        cases e : PyData.eqv x y with
        | true =>
          rw [toksL_yes (by rw [wal_commT]; exact h1) (by rw [eqv_comm]; exact e)]
          rw [e] at eq
          exact .yes eq (walL_le xs ys A s _ _ _ _ rs rs' (h2 e) (fun z hz => sx z (List.mem_cons_of_mem _ hz)) (fun z hz => sy z (List.mem_cons_of_mem _ hz)) (by omega))
        | false =>
          rw [toksL_no (by rw [wal_commT]; exact h1) (by rw [eqv_comm]; exact e)]
          rw [e] at eq
          refine .no eq (wal_le x y A s _ _ _ _ r r' h1 (fun z => ?_) zx zy (by omega))
          subst z
          cases y with
          | none => simp [PyData.eqv] at e
          | _ => cases h1
end
section
variable {X : Cx}
theorem op_leD (hu : X.A.units + 64 < cLine) : OpR X (compareOp .LtE) (rD2 X.kx (cmpD .LtE)) := by
  rintro pins s σ H x y v u Q I rx ry ⟨G, dx, dy, d, sm, hx, hy, hf, q⟩
  obtain ⟨b, hb, rfl⟩ := of_bD hf
  have q' := q.now sm (.bl b)
  by_cases ht : ∃ xs ys, dx = .tuple xs ∧ dy = .tuple ys
  · obtain ⟨xs, ys, rfl, rfl⟩ := ht
    obtain ⟨⟨h1, h2, h3, h4, h5⟩, rfl⟩ := of_ite_some hb
    obtain ⟨as, ra⟩ := Dp.reads I _ _ _ (dq_dp _ _ (shaped_nd h2) (dp_same sm _ _ hx)) rx
    obtain ⟨bs, rb⟩ := Dp.reads I _ _ _ (dq_dp _ _ (shaped_nd h3) (dp_same sm _ _ hy)) ry
    have r := wal_le (.tuple xs) (.tuple ys) X.A s _ _ _ _ ra rb h1 (fun e => nomatch e) h2 h3 (by omega)
    simp only [keyToks] at r
    exact r X.prog X.w _ _ (fin_bl I q' rfl)
  · cases hx <;> cases hy <;> first
      | (exact absurd ⟨_, _, rfl, rfl⟩ ht)
      | (cases hb; exact op_le pins s σ H _ _ v u Q I rx ry ⟨_, _, rfl, rfl, q'⟩)
      | (cases hb; obtain ⟨t, rfl⟩ := rx; obtain ⟨t', rfl⟩ := ry; exact PySem.P.le_str (fin_bl I q' rfl))
      | cases hb
end
end Pe

set_option Elab.async false
set_option linter.all false
set_option maxRecDepth 100000
set_option maxHeartbeats 4000000
/-! Pe3: in, subscripts, slices, built-in functions upon data. -/
namespace Pe
open PySem L2
section
variable {X : Cx}
theorem op_inDD (hu : X.A.units + 65 < cLine) : OpR X (compareOp .In) (rD2 X.kx (cmpD .In)) := by
  rintro pins s σ H x y v u Q I rx ry ⟨G, dx, dy, d, sm, hx, hy, hf, q⟩
  obtain ⟨b, hb, rfl⟩ := of_bD hf
  have q' := q.now sm (.bl b)
  have hxH := dp_same sm _ _ hx
  have hyH := dp_same sm _ _ hy
  cases hy with
  | lst h2 a2 =>
    obtain ⟨⟨h1, h3⟩, rfl⟩ := of_ite_some hb
    exact op_inD hu pins s σ H _ _ v u Q I rx ry ⟨dx, _, dq_dp _ _ (shaped_nd h1) hxH, dq_dp _ _ (shaped_nd h3) hyH, h1, h3, q'⟩
  | tup h2 a2 =>
    obtain ⟨⟨h1, h3⟩, rfl⟩ := of_ite_some hb
    obtain ⟨as, r1⟩ := Dp.reads I _ _ v (dq_dp _ _ (shaped_nd h1) hxH) rx
    obtain ⟨bs, r2⟩ := Dp.reads I _ _ u (dq_dp _ _ (shaped_nd h3) hyH) ry
    refine SeqAt.in_tuple_reads r2 r1 (SeqAt.canLay_of_shaped h3) (SeqAt.canLay_of_shaped h1) ?_ ⟨.bl _, H, I, rfl, q'⟩
    have e1 := SeqAt.depth_of_shaped h1
    have e2 := Nat.min_le_right (PyData.depthAll ‹List PyData›) dx.depth
    omega
  | str y' =>
    cases hx with
    | str x' => cases hb; exact op_in_str pins s σ H _ _ v u Q I rx ry ⟨_, _, rfl, rfl, q'⟩
    | _ => cases hb
  | dctK h2 a2 =>
    obtain ⟨ok, rfl⟩ := of_ite_some hb
    exact dict_in (by omega) I sm (.dctK h2 a2) hx ry rx ok fun s' I' => ⟨.bl _, H, I', rfl, q'⟩
  | dctT h2 a2 ne =>
    obtain ⟨ok, rfl⟩ := of_ite_some hb
    exact dict_in (by omega) I sm (.dctT h2 a2 ne) hx ry rx ok fun s' I' => ⟨.bl _, H, I', rfl, q'⟩
  | obj h2 h3 a2 =>
    obtain ⟨ok, rfl⟩ := of_ite_some hb
    exact (obj_no (dkOk_of ok).2).elim
  | _ => cases hb
theorem op_notinDD (hu : X.A.units + 65 < cLine) : OpR X (compareOp .NotIn) (rD2 X.kx (cmpD .NotIn)) := by
  rintro pins s σ H x y v u Q I rx ry ⟨G, dx, dy, d, sm, hx, hy, hf, q⟩
  obtain ⟨b, hb, rfl⟩ := of_nD hf
  have q' := q.now sm (.bl (!b))
  have hxH := dp_same sm _ _ hx
  have hyH := dp_same sm _ _ hy
  cases hy with
  | lst h2 a2 =>
    obtain ⟨⟨h1, h3⟩, rfl⟩ := of_ite_some hb
    exact op_notInD hu pins s σ H _ _ v u Q I rx ry ⟨dx, _, dq_dp _ _ (shaped_nd h1) hxH, dq_dp _ _ (shaped_nd h3) hyH, h1, h3, q'⟩
  | tup h2 a2 =>
    obtain ⟨⟨h1, h3⟩, rfl⟩ := of_ite_some hb
    obtain ⟨as, r1⟩ := Dp.reads I _ _ v (dq_dp _ _ (shaped_nd h1) hxH) rx
    obtain ⟨bs, r2⟩ := Dp.reads I _ _ u (dq_dp _ _ (shaped_nd h3) hyH) ry
    refine SeqAt.notIn_tuple_reads r2 r1 (SeqAt.canLay_of_shaped h3) (SeqAt.canLay_of_shaped h1) ?_ ⟨.bl _, H, I, rfl, q'⟩
    have e1 := SeqAt.depth_of_shaped h1
    have e2 := Nat.min_le_right (PyData.depthAll ‹List PyData›) dx.depth
    omega
  | str y' =>
    cases hx with
    | str x' => cases hb; exact op_notin_str pins s σ H _ _ v u Q I rx ry ⟨_, _, rfl, rfl, q'⟩
    | _ => cases hb
  | dctK h2 a2 =>
    obtain ⟨ok, rfl⟩ := of_ite_some hb
    exact dict_notin (by omega) I sm (.dctK h2 a2) hx ry rx ok fun s' I' => ⟨.bl _, H, I', rfl, q'⟩
  | dctT h2 a2 ne =>
    obtain ⟨ok, rfl⟩ := of_ite_some hb
    exact dict_notin (by omega) I sm (.dctT h2 a2 ne) hx ry rx ok fun s' I' => ⟨.bl _, H, I', rfl, q'⟩
  | obj h2 h3 a2 =>
    obtain ⟨ok, rfl⟩ := of_ite_some hb
    exact (obj_no (dkOk_of ok).2).elim
  | _ => cases hb
theorem op_cmpD (hu : X.A.units + 65 < cLine) (op : CmpOp) : OpR X (compareOp op) (rD2 X.kx (cmpD op)) := by
  cases op with
  | Eq => exact op_eqD' (by omega)
  | NotEq => exact op_neD' (by omega)
  | Lt => exact op_ltD
  | LtE => exact (op_leD (by omega))
  | Gt => exact op_gtD
  | GtE => exact op_geD
  | Is => exact op_isD
  | IsNot => exact op_isntD
  | In => exact op_inDD hu
  | NotIn => exact op_notinDD hu
end

/-! ### subscripts, slices -/
def idxD : D → D → Option D
  | .list ds, .int i => atI ds i
  | .tuple ds, .int i => atI ds i
  | .str z, .int i => if z.length ≤ sizeLine then (atI z.cps.toList i).map fun c => .str ⟨#[c]⟩ else none
  | .dict kvs, k => if dkOk kvs k = true then dfind kvs k else none
  | _, _ => none
theorem idx_ok {kvs : List (D × D)} {k d : D} (h : idxD (.dict kvs) k = some d) : dkOk kvs k = true := by
  have h' : (if dkOk kvs k = true then dfind kvs k else none) = some d := h
  by_cases c : dkOk kvs k = true
  · exact c
  · rw [if_neg c] at h'; cases h'
theorem dqa_at {K : Fg} {G : Hp} {vs : List V} {ds : List D} {i : Int} {d : D} (a : DqAll K G vs ds) (h : atI ds i = some d) : ∃ v, atI vs i = some v ∧ Dq K G v d := by
  unfold atI at h ⊢
  rw [dpa_len a]
  cases e : ixN ds.length i with
  | none => rw [e] at h; cases h
  | some j =>
    rw [e] at h
    exact dpa_get a h
def partI : Option D → Option (Option Int)
  | none => some none
  | some (.int i) => some (some i)
  | _ => none
def cutL {α : Type} (xs : List α) (lo hi : Option Int) : List α := (xs.drop (HT.sIx xs.length 0 lo)).take (HT.sIx xs.length xs.length hi - HT.sIx xs.length 0 lo)
def slcD (x : D) (lo hi : Option Int) : Option D := match x with
  | .list ds => some (.list (cutL ds lo hi))
  | .tuple ds => some (.tuple (cutL ds lo hi))
  | .str z => if z.length ≤ sizeLine then some (.str (cutS z lo hi)) else none
  | _ => none
theorem dqa_cut {K : Fg} {G : Hp} {vs : List V} {ds : List D} (a : DqAll K G vs ds) (lo hi : Option Int) : DqAll K G (cutV vs lo hi) (cutL ds lo hi) := by
  unfold cutV cutL
  rw [dpa_len a]
  exact dpa_take _ (dpa_drop' _ a)
def rSlD (K : Fg) : V → Option Int → Option Int → Hp → VK → Prop := fun x lo hi H Q => ∃ G dx d, Same G H ∧ Dq K G x dx ∧ slcD dx lo hi = some d ∧ PsO K d G H Q
section
variable {X : Cx}
open PySem.Spec PyProof.Rows in
/-- d[k] -/
theorem ix_dict (hu : X.A.units + 1 < cLine) : IxR X (fun x y H Q => ∃ G ds k d, Same G H ∧ Dq X.kx G x (.dict ds) ∧ Dq X.kx G y k ∧ (if dkOk ds k = true then dfind ds k else none) = some d ∧ PsO X.kx d G H Q) := by
  rintro va sl pins s σ H x y v u Q I rx ry ⟨G, ds, k, d, sm, hx, hy, hf, q⟩ hs
  have ok0 : dkOk ds k = true := by
    by_cases c : dkOk ds k = true
    · exact c
    · rw [if_neg c] at hf
      cases hf
  obtain ⟨a, ob, rfl, t1, t2, t3⟩ := dict_ty I (dp_same sm _ _ hx) (kind_nob (dkOk_of ok0).2)
  obtain rfl : v = Value.ref a := rx
  have ty : s.TypeIs (.ref a) "dict" := ⟨ob, t1, t2⟩
  by_cases ok : dkOk ds k = true
  · rw [if_pos ok] at hf
    unfold subscriptTail
    refine wpAny_bind ?_
    rw [getitemInPython_of_ne ty.not_modules]
    refine wpAny_bind (wpAny_specialOf ty PySem.F.slot_dict_getitem.lookup ?_)
    have fin : wpAny (model X.prog X.w) X.A (subscripted sl false (.ref a) u) (fun r s₃ => wpAny (model X.prog X.w) X.A (letTemporaryGo va (.ref a) r >>= fun _ => pure r) (EP X pins σ Q) X.xe s₃) X.xe s := by
      rw [hs]
      exact wpAny_operating (dict_item hu I sm hx hy rfl ry ok hf fun v' w' s' I' rw' hv => wpAny_bind (wpAny_letTemporaryGo (wpAny_pure ⟨v', H, I', rw', q.now sm hv⟩)))
    first
      | exact wpAny_pure (wpAny_bind fin)
      | exact wpAny_bind (wpAny_pure (wpAny_bind fin))
      | exact wpAny_bind fin
  · rw [if_neg ok] at hf; cases hf
theorem ix_D (hu : X.A.units + 1 < cLine) : IxR X (rD2 X.kx idxD) := by
  rintro va sl pins s σ H x y v u Q I rx ry ⟨G, dx, dy, d, sm, hx, hy, hf, q⟩ hs
  cases hx with
  | lst h1 a1 =>
    cases hy with
    | int i =>
      obtain ⟨w, e, r⟩ := dqa_at a1 hf
      exact ix_list va sl pins s σ H _ _ v u Q I rx ry ⟨_, _, i, w, rfl, rfl, (ls_same sm h1).sq, e, q.now sm r⟩ hs
    | _ => cases hf
  | tup h1 a1 =>
    cases hy with
    | int i =>
      obtain ⟨w, e, r⟩ := dqa_at a1 hf
      exact ix_tup va sl pins s σ H _ _ v u Q I rx ry ⟨_, _, i, w, rfl, rfl, seqT_same sm h1, e, q.now sm r⟩ hs
    | _ => cases hf
  | str z =>
    cases hy with
    | int i =>
      have hf' : (if z.length ≤ sizeLine then (atI z.cps.toList i).map (fun c => PyData.str ⟨#[c]⟩) else none) = some d := hf
      by_cases hz : z.length ≤ sizeLine
      · rw [if_pos hz] at hf'
        cases e : atI z.cps.toList i with
        | none => rw [e] at hf'; cases hf'
        | some c =>
          rw [e] at hf'
          cases hf'
          exact ix_str va sl pins s σ H _ _ v u Q I rx ry ⟨z, i, c, rfl, rfl, hz, e, q.now sm (.str _)⟩ hs
      · rw [if_neg hz] at hf'; cases hf'
    | _ => cases hf
  | dctK h1 a1 => exact ix_dict hu va sl pins s σ H _ _ v u Q I rx ry ⟨G, _, dy, d, sm, .dctK h1 a1, hy, hf, q⟩ hs
  | dctT h1 a1 ne => exact ix_dict hu va sl pins s σ H _ _ v u Q I rx ry ⟨G, _, dy, d, sm, .dctT h1 a1 ne, hy, hf, q⟩ hs
  | obj h1 h3 a1 =>
    exact (obj_no (dkOk_of (idx_ok hf)).2).elim
  | _ => cases hf
theorem sl_listD : SlR X (fun x lo hi H Q => ∃ a xs, x = .ref a ∧ LsQ X.kx H a xs ∧ ∀ p, H p = none → Q (.ref p) (upd H p (.lst (cutV xs lo hi)))) := by
  rintro pins s σ H x v vl vu lo hi sl Q I rx hs pl pu ⟨a, xs, rfl, h, q⟩
  exact sl_list pins s σ H _ v vl vu lo hi sl Q I rx hs pl pu ⟨a, xs, rfl, h.sq, q⟩
theorem sl_D : SlR X (rSlD X.kx) := by
  rintro pins s σ H x v vl vu lo hi sl Q I rx hs pl pu ⟨G, dx, d, sm, hx, hf, q⟩
  cases hx with
  | lst h1 a1 =>
    cases hf
    exact sl_list pins s σ H _ v vl vu lo hi sl Q I rx hs pl pu ⟨_, _, rfl, (ls_same sm h1).sq, q.lst sm (dqa_cut a1 lo hi)⟩
  | tup h1 a1 =>
    cases hf
    refine sl_tupA pins s σ H _ v vl vu lo hi sl Q I rx hs pl pu ⟨_, _, rfl, seqT_same sm h1, fun e => ?_, fun _ => q.tup sm (dqa_cut a1 lo hi)⟩
    refine q.now sm ?_
    have e2 := dpa_len a1
    rw [e2] at e
    unfold cutL
    rw [e.1, e.2]
    simpa using Dq.tup h1 a1
  | str z =>
    have hf' : (if z.length ≤ sizeLine then some (PyData.str (cutS z lo hi)) else none) = some d := hf
    obtain ⟨hz, rfl⟩ := of_ite_some hf'
    exact sl_str pins s σ H _ v vl vu lo hi sl Q I rx hs pl pu ⟨z, rfl, hz, q.now sm (.str _)⟩
  | _ => cases hf
end

/-! ### kinds -/
inductive Ty where
  | int | str | bool | tuple | list
  deriving DecidableEq
def Ty.nm : Ty → String
  | .int => "int" | .str => "str" | .bool => "bool" | .tuple => "tuple" | .list => "list"
def tyD : D → String
  | .none => "NoneType" | .bool _ => "bool" | .int _ => "int" | .str _ => "str" | .list _ => "list" | .tuple _ => "tuple" | .dict _ => "dict"
def isT : Ty → D → Bool
  | .int, .int _ => true
  | .int, .bool _ => true
  | .str, .str _ => true
  | .bool, .bool _ => true
  | .tuple, .tuple _ => true
  | .list, .list _ => true
  | _, _ => false
theorem kit_none : ∀ t : Ty, kitB "NoneType" t.nm = some (isT t .none) := by intro t; cases t <;> decide +kernel
theorem kit_bool : ∀ t : Ty, kitB "bool" t.nm = some (isT t (.bool true)) := by intro t; cases t <;> decide +kernel
theorem kit_int : ∀ t : Ty, kitB "int" t.nm = some (isT t (.int 0)) := by intro t; cases t <;> decide +kernel
theorem kit_str : ∀ t : Ty, kitB "str" t.nm = some (isT t (.str Str.empty)) := by intro t; cases t <;> decide +kernel
theorem kit_list : ∀ t : Ty, kitB "list" t.nm = some (isT t (.list [])) := by intro t; cases t <;> decide +kernel
theorem kit_tuple : ∀ t : Ty, kitB "tuple" t.nm = some (isT t (.tuple [])) := by intro t; cases t <;> decide +kernel
theorem kit_isT (t : Ty) : ∀ d : D, (∀ kvs, d ≠ .dict kvs) → kitB (tyD d) t.nm = some (isT t d) := by
  intro d hd
  cases d with
  | dict kvs => exact absurd rfl (hd kvs)
  | none => exact kit_none t
  | bool b => exact (kit_bool t).trans (by cases t <;> rfl)
  | int b => exact (kit_int t).trans (by cases t <;> rfl)
  | str b => exact (kit_str t).trans (by cases t <;> rfl)
  | list b => exact (kit_list t).trans (by cases t <;> rfl)
  | tuple b => exact (kit_tuple t).trans (by cases t <;> rfl)
theorem ty_of {X : Cx} {H : Hp} {x : V} {d : D} (h : Dq X.kx H x d) (nd : ∀ kvs, d ≠ .dict kvs) : TyX X.kx H x (.type (tyD d)) := by
  cases h with
  | non => exact .base .non
  | bl b => exact .base (.bl b)
  | int i => exact .base (.int i)
  | str z => exact .base (.str z)
  | lst h a =>
    rcases h with (h | ⟨o, h⟩) | ⟨its, n, h1, _⟩
    · exact .base (.lst h)
    · exact .base (.frz h)
    · exact .kList h1 rfl
  | tup h a =>
    rcases h with (h | ⟨o, h⟩) | ⟨o, its, n, hk, hc, _⟩
    · exact .base (.tup h)
    · exact .fTuple h
    · exact .kTuple hk hc
  | dctK _ _ => exact absurd rfl (nd _)
  | dctT _ _ _ => exact absurd rfl (nd _)
  | obj _ _ _ => exact absurd rfl (nd _)
/-- an object -/
def isOb : D → Bool
  | .dict kvs => !nob kvs
  | _ => false
theorem kit_dict : ∀ t : Ty, kitB "dict" t.nm = some (isT t (.dict [])) := by intro t; cases t <;> decide +kernel
theorem kit_all (t : Ty) (d : D) : kitB (tyD d) t.nm = some (isT t d) := by
  cases d with
  | dict kvs => exact (kit_dict t).trans (by cases t <;> rfl)
  | _ => exact kit_isT t _ fun _ e => by cases e
theorem kit_dq {X : Cx} {pins : List (Addr × Obj)} {σ : St} {H : Hp} {s : Shared} {x : V} {u : Value} {d : D} (I : Inv X pins σ H s) (hx : Dq X.kx H x d) (ho : isOb d = false) (rx : RelV x u) : ∃ P : Heap → Prop, PySem.W.KitX X.K u (.type (tyD d)) P ∧ P s.heap ∧ u ≠ .builtin "__main__.__loader__#opaque" := by
  by_cases hd : ∃ kvs, d = .dict kvs
  · obtain ⟨kvs, rfl⟩ := hd
    obtain ⟨a, ob, rfl, h1, h2, _⟩ := dict_ty I hx (by
      have : (!nob kvs) = false := ho
      cases e : nob kvs with
      | true => rfl
      | false => rw [e] at this; cases this)
    obtain rfl : u = Value.ref a := rx
    exact ⟨_, PySem.W.kitx_dict, ⟨ob, h1, h2⟩, fun z => nomatch z⟩
  · exact kit_of I rx (ty_of hx fun kvs e => hd ⟨kvs, e⟩)
section
variable {X : Cx}
/-- isinstance(x, T) -/
theorem call_isD (t : Ty) : CallR X (.builtin "isinstance") (fun xs H Q => ∃ G x d, xs = [x, .ty t.nm] ∧ Same G H ∧ Dq X.kx G x d ∧ isOb d = false ∧ Q (.bl (isT t d)) H) := by
  rintro pins s σ H xs us Q I r ⟨G, x, d, rfl, sm, hx, ho, q⟩
  obtain ⟨u1, u2, rfl, r1, r2⟩ := vals2 r
  cases (show u2 = Value.type t.nm from r2)
  obtain ⟨P, Z, p, hp⟩ := kit_dq I (dp_same sm _ _ hx) ho r1
  exact PySem.W.kia_one Z I.kIn p (kit_ty (kit_all t d)) hp fun tk => ⟨.bl _, H, I.tok tk, rfl, q⟩
/-- isinstance(x, (T1, T2)) -/
def anyT (ts : List Ty) (d : D) : Bool := ts.any fun t => isT t d
theorem kit_anyT {K : PySem.W.Frag} {d : D} : ∀ ts : List Ty, PySem.W.kitAny K (.type (tyD d)) (ts.map fun t => Value.type t.nm) = some (anyT ts d)
  | [] => rfl
  | t :: ts => by
    refine kitAny_cons (kit_ty (kit_all t d)) (fun e => ?_) (fun e => ?_)
    · rw [kit_anyT ts]
      simp [anyT, e]
    · simp [anyT, e]
theorem paired_tyV : ∀ ts : List Ty, Paired ClsV (ts.map fun t => V.ty t.nm) (ts.map fun t => Value.type t.nm)
  | [] => .nil
  | t :: ts => .cons (.ty _) (paired_tyV ts)
theorem call_isTD (ts : List Ty) : CallR X (.builtin "isinstance") (fun xs H Q => ∃ G x d tp, xs = [x, .ref tp] ∧ Same G H ∧ Dq X.kx G x d ∧ isOb d = false ∧ H tp = some (.tup (ts.map fun t => V.ty t.nm)) ∧ Q (.bl (anyT ts d)) H) := by
  rintro pins s σ H xs us Q I r ⟨G, x, d, tp, rfl, sm, hx, ho, hT, q⟩
  obtain ⟨u1, u2, rfl, r1, r2⟩ := vals2 r
  cases (show u2 = Value.ref tp from r2)
  obtain ⟨P, Z, p, hp⟩ := kit_dq I (dp_same sm _ _ hx) ho r1
  obtain ⟨_, its, rv, o, h1, h2, n, h3⟩ := (show ObjOk X.prog X.w H s.heap tp (.tup (ts.map fun t => V.ty t.nm)) from I.hok tp _ hT)
  have e3 := ClsV.all (paired_tyV ts) rv
  obtain ⟨oc, od, dt, sl⟩ := o
  simp only at h2 h3
  subst h2 h3
  subst e3
  exact PySem.W.kia_tup Z I.kIn p h1 (kit_anyT ts) hp fun tk => ⟨.bl _, H, I.tok tk, rfl, q⟩
end

/-! ### what may be sorted -/
/-- all of one kind, tuples that are not empty, or none of them -/
def alikeB (xs : List D) : Bool := xs.all fun d => xs.all fun d' => PySem.W.alike d d'
def tupB : D → Bool
  | .tuple (_ :: _) => true
  | _ => false
def othB : D → Bool
  | .none => false
  | .tuple _ => false
  | _ => true
/-- no list and no dict in it -/
def pl : D → Bool
  | .list _ => false
  | .dict _ => false
  | .tuple xs => plL xs
  | _ => true
where plL : List D → Bool
  | [] => true
  | x :: xs => pl x && plL xs
/-- tuples that go together as far as they are equal, and one place more -/
def sortW (xs : List D) : Bool := (xs.all fun d => pl d && tupB d && SeqAt.shaped d && decide (d.depth ≤ 60)) && xs.all fun d => xs.all fun e => wal d e
def sortA (xs : List D) : Bool := alikeB xs && ((xs.all tupB) || xs.all othB) && (xs.all fun d => decide (d.depth ≤ 60) && !d.hasDict)
def sortOk (xs : List D) : Bool := sortA xs || sortW xs
def sortD (xs : List D) : List D := xs.mergeSort (PySem.W.dataLe false id)
def sorD : List D → Option D
  | [.list xs] => if sortOk xs = true then some (.list (sortD xs)) else none
  | _ => none
/-! ### built-in functions -/
def blsOf : List D → Option (List Bool)
  | [] => some []
  | .bool b :: r => (blsOf r).map (b :: ·)
  | _ => none
def intsOf : List D → Option (List Int)
  | [] => some []
  | .int b :: r => (intsOf r).map (b :: ·)
  | _ => none
def strsOf : List D → Option (List Str)
  | [] => some []
  | .str b :: r => (strsOf r).map (b :: ·)
  | _ => none
theorem vs_bls {K : Fg} {G : Hp} : ∀ {vs : List V} {ds : List D} {bs : List Bool}, DqAll K G vs ds → blsOf ds = some bs → vs = bs.map V.bl
  | _, [], _, .nil, h => by cases h; rfl
  | _, d :: ds, bs, .cons r t, h => by
    cases d with
    | bool b =>
      have h' : (blsOf ds).map (b :: ·) = some bs := h
      cases e : blsOf ds with
      | none => rw [e] at h'; cases h'
      | some cs =>
        rw [e] at h'
        cases h'
        cases r
        rw [vs_bls t e]
        rfl
    | _ => cases h
theorem vs_ints {K : Fg} {G : Hp} : ∀ {vs : List V} {ds : List D} {bs : List Int}, DqAll K G vs ds → intsOf ds = some bs → vs = bs.map V.int
  | _, [], _, .nil, h => by cases h; rfl
  | _, d :: ds, bs, .cons r t, h => by
    cases d with
    | int b =>
      have h' : (intsOf ds).map (b :: ·) = some bs := h
      cases e : intsOf ds with
      | none => rw [e] at h'; cases h'
      | some cs =>
        rw [e] at h'
        cases h'
        cases r
        rw [vs_ints t e]
        rfl
    | _ => cases h
theorem vs_strs {K : Fg} {G : Hp} : ∀ {vs : List V} {ds : List D} {bs : List Str}, DqAll K G vs ds → strsOf ds = some bs → vs = bs.map V.str
  | _, [], _, .nil, h => by cases h; rfl
  | _, d :: ds, bs, .cons r t, h => by
    cases d with
    | str b =>
      have h' : (strsOf ds).map (b :: ·) = some bs := h
      cases e : strsOf ds with
      | none => rw [e] at h'; cases h'
      | some cs =>
        rw [e] at h'
        cases h'
        cases r
        rw [vs_strs t e]
        rfl
    | _ => cases h
def seqOf : D → Option (List D)
  | .list ds => some ds
  | .tuple ds => some ds
  | _ => none
inductive Bf where
  | len | abs | int | max2 | min2 | repr | str | all | any | tuple | list | sum | sorted
  deriving DecidableEq
def bfD : Bf → List D → Option D
  | .len, [.str z] => if z.length ≤ sizeLine then some (.int z.length) else none
  | .len, [.list ds] => some (.int ds.length)
  | .len, [.tuple ds] => some (.int ds.length)
  | .len, [.dict kvs] => if kindOk kvs (.int 0) = true then some (.int kvs.length) else none
  | .abs, [.int i] => some (.int (if i < 0 then -i else i))
  | .int, [.int i] => some (.int i)
  | .int, [.bool b] => some (.int (if b = true then 1 else 0))
  | .max2, [.int i, .int j] => some (.int (if j > i then j else i))
  | .min2, [.int i, .int j] => some (.int (if j < i then j else i))
  | .repr, [d] => if d.showable = true ∧ d.shown.length ≤ sizeLine ∧ d.depth ≤ 64 ∧ d.hasDict = false then some (.str d.shown) else none
  | .str, [.int i] => if i.natAbs.log2 < 1920 then some (.str (toString i)) else none
  | .str, [.str z] => some (.str z)
  | .all, [.list ds] => (blsOf ds).map fun bs => .bool (bs.all id)
  | .any, [.list ds] => (blsOf ds).map fun bs => .bool (bs.any id)
  | .tuple, [.list ds] => some (.tuple ds)
  | .tuple, [.tuple ds] => some (.tuple ds)
  | .list, [.list ds] => some (.list ds)
  | .list, [.tuple ds] => some (.list ds)
  | .sum, [.list ds] => (intsOf ds).map fun ns => .int ns.sum
  | .sum, [.tuple ds] => (intsOf ds).map fun ns => .int ns.sum
  | .sorted, ds => sorD ds
  | _, _ => none
def Bf.val : Bf → Value
  | .len => .builtin "len" | .abs => .builtin "abs" | .int => .type "int" | .max2 => .builtin "max" | .min2 => .builtin "min" | .repr => .builtin "repr" | .str => .type "str"
  | .all => .builtin "all" | .any => .builtin "any" | .tuple => .type "tuple" | .list => .type "list" | .sum => .builtin "sum" | .sorted => .builtin "sorted"
end Pe

set_option Elab.async false
set_option linter.all false
set_option maxRecDepth 100000
set_option maxHeartbeats 4000000
/-! Rv: tuples and lists turned round; sorted. -/
namespace Pe
open PySem L2 PySem.Spec PyProof.Rows
section
variable {prog : Program} {w : World} {A : Around} {E : Value → Shared → Prop} {s : Shared}
theorem adjust_back (n : Nat) : Builtin.Slice.sliceAdjust none none (-1) (n : Int) = ((n : Int) - 1, -1) := by
  unfold Builtin.Slice.sliceAdjust
  rfl
theorem places_back (n : Nat) : Builtin.Slice.slicePlaces ((n : Int) - 1) (-1) (-1) = n := by
  unfold Builtin.Slice.slicePlaces
  have h1 : ¬ ((-1 : Int) > 0) := by omega
  simp only [h1, if_false, Int.neg_neg, Int.ediv_one]
  split <;> omega
theorem back_of {sl : Addr} {vs : Value} {n : Nat} {Q : Int × Int × Nat → Shared → Prop} (hs : s.heap.IsSliceOf sl .none .none vs) (ps : IsPart vs (some (-1))) (h : Q ((n : Int) - 1, -1, n) s) :
    wpAny (model prog w) A (Builtin.Slice.sliceApplied (.ref sl) (pure (n : Int))) Q E s := by
  obtain ⟨os, k1, k2, k3⟩ := id hs
  unfold Builtin.Slice.sliceApplied Builtin.Slice.sliceFields
  refine wpAny_bind (wpAny_bind (wpAny_field k1 k3 (x := .none) rfl (wpAny_bind (wpAny_field k1 k3 (x := .none) rfl (wpAny_bind (wpAny_field k1 k3 (x := vs) rfl (wpAny_pure ?_)))))))
  refine wpAny_bind (HT.slicePart_ ps ?_)
  show wpAny _ _ (if ((-1 : Int) == 0) = true then _ else _) _ _ s
  rw [if_neg (by decide)]
  refine wpAny_bind (HT.slicePart_ .none (wpAny_bind (HT.slicePart_ .none (wpAny_bind (wpAny_pure ?_)))))
  show wpAny _ _ (match Builtin.Slice.sliceAdjust none none (-1) (n : Int) with | (lo, hi) => pure (lo, (-1 : Int), Builtin.Slice.slicePlaces lo hi (-1))) _ _ s
  rw [adjust_back n]
  show wpAny _ _ (pure ((n : Int) - 1, (-1 : Int), Builtin.Slice.slicePlaces ((n : Int) - 1) (-1) (-1))) _ _ s
  rw [places_back]
  exact wpAny_pure h
theorem pick_back (xs : List Value) : ((List.range xs.length).filterMap fun (k : Nat) => xs.toArray[(((xs.length : Nat) : Int) - 1 + (k : Int) * (-1)).toNat]?) = xs.reverse := by
  have e : ∀ n, n ≤ xs.length → ((List.range n).filterMap fun (k : Nat) => xs.toArray[(((xs.length : Nat) : Int) - 1 + (k : Int) * (-1)).toNat]?) = xs.reverse.take n := by
    intro n
    induction n with
    | zero => intro _; simp
    | succ n ih =>
      intro h
      rw [List.range_succ, List.filterMap_append, ih (by omega), List.take_add_one]
      congr 1
      have i1 : (((xs.length : Nat) : Int) - 1 + (n : Int) * (-1)).toNat = xs.length - 1 - n := by omega
      have i2 : xs.length - 1 - n < xs.length := by omega
      simp only [List.filterMap_cons, List.filterMap_nil, i1, List.getElem?_toArray]
      rw [List.getElem?_reverse (by omega), List.getElem?_eq_getElem i2]
      rfl
  have := e xs.length (Nat.le_refl _)
  rw [this, List.take_of_length_le (by simp)]
theorem item_back {t sl : Addr} {xs : List Value} {vs : Value} {Q : Value → Shared → Prop} (ht : IsTup s.heap t xs.toArray) (hs : s.heap.IsSliceOf sl .none .none vs) (ps : IsPart vs (some (-1)))
    (hz : xs.length ≤ sizeLine) (h : Q (.ref s.heap.objs.size) { s with heap := s.heap.push { cls := .type "tuple", data := .seq xs.reverse.toArray } }) : wpAny (model prog w) A (getItem (.ref t) (.ref sl)) Q E s := by
  have room : sizeOk (.seq xs.reverse.toArray) := by
    show xs.reverse.toArray.size ≤ sizeLine
    simpa using hz
  obtain ⟨os, k1, k2, k3⟩ := id hs
  have kind : s.TypeIs (.ref sl) "slice" := ⟨os, k1, k2⟩
  unfold getItem
  try with_reducible refine wpAny_holding ?_
  first | refine wpAny_bind (wpAny_pure ?_) | skip
  refine wpAny_bind (wpAny_sequenceKey ht.typeIs (by decide) ?_)
  refine wpAny_bind (wpAny_callSpecial?_slot (name := Str.ofString "__getitem__") ht.typeIs PyProof.Rows.slot_tuple_getitem (wpAny_call_entry PyProof.Rows.slot_tuple_getitem ht.typeIs entry_tuple_getitem ?_ (args_tuple_getitem _ _)))
  show wpAny _ _ (Builtin.Tuple.tupleItemsOf (.ref t) >>= _) _ _ s
  refine wpAny_bind (tupleItemsOf_ ht ?_)
  refine wpAny_bind (wpAny_typeOf kind ?_)
  rw [if_pos (by decide)]
  refine wpAny_bind (back_of hs ps ?_)
  have no : ¬ ((((xs.toArray.size : Nat) : Int) - 1 == 0 && (-1 : Int) == 1 && xs.toArray.size == xs.toArray.size) = true) := by
    intro q
    rw [Bool.and_eq_true, Bool.and_eq_true] at q
    exact absurd q.1.2 (by decide)
  show wpAny _ _ (if (((xs.toArray.size : Nat) : Int) - 1 == 0 && (-1 : Int) == 1 && xs.toArray.size == xs.toArray.size) = true then _ else _) _ _ s
  rw [if_neg no]
  have e := pick_back xs
  rw [show xs.length = xs.toArray.size by simp] at e
  rw [e]
  first
    | exact wpAny_bind (m := Builtin.Tuple.tupleExact _) (wpAny_newObj_type (wpAny_pure ⟨_, rfl, wpAny_pure h⟩) room)
    | exact wpAny_bind (m := Builtin.Tuple.tupleExact _) (wpAny_newObj_type (wpAny_bind (wpAny_pure (wpAny_pure ⟨_, rfl, wpAny_pure h⟩))) room)
    | exact wpAny_bind (wpAny_bind (m := Builtin.Tuple.tupleExact _) (wpAny_newObj_type (wpAny_pure (wpAny_pure ⟨_, rfl, wpAny_pure h⟩)) room))
    | exact wpAny_bind (wpAny_bind (m := Builtin.Tuple.tupleExact _) (wpAny_newObj_type (wpAny_pure ⟨_, rfl, wpAny_pure h⟩) room))
end
theorem range_back (n : Nat) : Builtin.Str.strSliceIndices none none (-1) n = (List.range n).map fun k => n - 1 - k := by
  show sliceRange ((n : Int) - 1) (-1) (-1) = _
  unfold sliceRange
  have h1 : ¬ ((-1 : Int) > 0) := by decide
  simp only [h1, if_false]
  by_cases h : (n : Int) - 1 > -1
  · rw [if_pos h]
    have e : (((n : Int) - 1 - -1 - -1 - 1) / - -1).toNat = n := by
      rw [Int.neg_neg, Int.ediv_one]
      omega
    rw [e]
    refine List.map_congr_left fun k hk => ?_
    have := List.mem_range.mp hk
    omega
  · rw [if_neg h]
    have : n = 0 := by omega
    subst this
    rfl
theorem picked_back (xs : List Nat) : ((Builtin.Str.strSliceIndices none none (-1) xs.length).filterMap fun i => xs.toArray[i]?) = xs.reverse := by
  rw [range_back]
  have e : ∀ n, n ≤ xs.length → (((List.range n).map fun k => xs.length - 1 - k).filterMap fun i => xs.toArray[i]?) = xs.reverse.take n := by
    intro n
    induction n with
    | zero => intro _; simp
    | succ n ih =>
      intro h
      rw [List.range_succ, List.map_append, List.filterMap_append, ih (by omega), List.take_add_one]
      congr 1
      have i2 : xs.length - 1 - n < xs.length := by omega
      simp only [List.map_cons, List.map_nil, List.filterMap_cons, List.filterMap_nil, List.getElem?_toArray]
      rw [List.getElem?_reverse (by omega), List.getElem?_eq_getElem i2]
      rfl
  have := e xs.length (Nat.le_refl _)
  rw [this, List.take_of_length_le (by simp)]
def revS (z : Str) : Str := ⟨z.cps.toList.reverse.toArray⟩
theorem str_back (z : Str) : (⟨((Builtin.Str.strSliceIndices none none (-1) z.length).filterMap (z.cps[·]?)).toArray⟩ : Str) = revS z := by
  have h := picked_back z.cps.toList
  have e : z.cps.toList.length = z.length := by simp [Str.length]
  rw [e] at h
  have e2 : z.cps.toList.toArray = z.cps := by simp
  rw [e2] at h
  unfold revS
  exact congrArg (fun l => (⟨List.toArray l⟩ : Str)) h
/-- turned round: a list, a tuple, a text -/
def revD : D → Option D
  | .list ds => some (.list ds.reverse)
  | .tuple ds => some (.tuple ds.reverse)
  | .str z => if z.length ≤ sizeLine then some (.str (revS z)) else none
  | _ => none
def tRevD (K : Fg) (te : TE) : TE := fun σ H Q => te σ H fun x H1 => ∃ G dx d, Same G H1 ∧ Dq K G x dx ∧ revD dx = some d ∧ PsO K d G H1 Q
theorem pe_revD {X : Cx} {e : Expr} {te : TE} {k : Nat} {p1 p2 p3 pos : Pos} (he : PE X e te) : PE X (.Subscript e (.Slice none none (some (.UnaryOp .USub (.Constant (.int 1) k p1) p2)) p3) pos) (tRevD X.kx te) := by
  refine ⟨fun pins s σ H Q I h => ?_⟩
  refine Subscript_ (thn (he.run pins s σ H _ I h) fun v s1 ⟨x, H1, I1, r1, G, dx, d, sm, hx, hf, q⟩ => ?_)
  have part : PO X (some (.UnaryOp .USub (.Constant (.int 1) k p1) p2)) (tPart (tUn (rU fun i => .int (-i)) (tC (.int 1)))) := po_some (pe_un un_neg pe_int)
  refine wpAny_Slice (thn (po_none.run pins s1 σ H1 (fun o H2 => o = none ∧ H2 = H1) I1 ⟨rfl, rfl⟩) fun vl s2 ⟨l, H2, I2, pl, el, e2⟩ => ?_)
  subst el e2
  refine thn (po_none.run pins s2 σ H2 (fun o H3 => o = none ∧ H3 = H2) I2 ⟨rfl, rfl⟩) fun vu s3 ⟨u, H3, I3, pu, eu, e3⟩ => ?_
  subst eu e3
  refine thn (part.run pins s3 σ H3 (fun o H4 => o = some (-1) ∧ H4 = H3) I3 ⟨1, rfl, -1, rfl, rfl, rfl⟩) fun vs s4 ⟨o, H4, I4, ps, eo, e4⟩ => ?_
  subst eo e4
  cases pl
  cases pu
  have I5 : Inv X pins σ H4 { s4 with heap := s4.heap.push { cls := .type "slice", data := .fields #[.none, .none, vs] } } := I4.kept (t' := s4.toks) fun b ob q => Heap.get?_push_of_some _ q
  cases hx with
  | lst h1 a1 =>
    cases hf
    cases r1
    obtain ⟨its, r, ht, hz⟩ := I5.list (ls_same sm h1).sq
    have hlen := r.length
    show wpAny (model X.prog X.w) X.A (subscriptTail e (.Slice none none (some (.UnaryOp .USub (.Constant (.int 1) k p1) p2)) p3) (.ref _) (.ref s4.heap.objs.size)) (EP X pins σ Q) X.xe { s4 with heap := s4.heap.push { cls := .type "slice", data := .fields #[.none, .none, vs] } }
    refine tail_any (ops := [.ref _, .ref s4.heap.objs.size]) ht.isList.typeIs (PySem.slot_list_getitem.lookup) ?_ (by with_unfolding_all rfl)
    refine wpAny_getItem_list_slice ht.isList (Heap.IsSliceOf.new _ .none .none vs) .none .none ps (by decide) ?_ (by rw [List.size_toArray]; omega)
    rw [PySem.W.krv_pick]
    refine ⟨.ref _, _, I5.laid (t' := s4.toks) (o := .lst _) (fun b ob q => Heap.get?_push_of_some _ q) (Nat.le_refl _) ?_, rfl, q.lst sm (dpa_rev a1) _ (I5.hok.fresh (Nat.le_refl _))⟩
    refine ⟨by rw [List.length_reverse]; omega, its.reverse, 0, r.reverse, ?_⟩
    first
      | exact Heap.get?_push_size _ rfl
      | (rw [show its.toArray.toList = its by simp]; exact Heap.get?_push_size _ rfl)
  | tup h1 a1 =>
    cases hf
    cases r1
    obtain ⟨its, r, ht, hz⟩ := I5.tuple (seqT_same sm h1)
    have hlen := r.length
    show wpAny (model X.prog X.w) X.A (subscriptTail e (.Slice none none (some (.UnaryOp .USub (.Constant (.int 1) k p1) p2)) p3) (.ref _) (.ref s4.heap.objs.size)) (EP X pins σ Q) X.xe { s4 with heap := s4.heap.push { cls := .type "slice", data := .fields #[.none, .none, vs] } }
    refine tail_any (ops := [.ref _, .ref s4.heap.objs.size]) ht.typeIs (PyProof.Rows.slot_tuple_getitem.lookup) ?_ (by with_unfolding_all rfl)
    refine item_back ht (Heap.IsSliceOf.new _ .none .none vs) ps (by omega) ?_
    refine ⟨.ref _, _, I5.laid (t' := s4.toks) (o := .tup _) (fun b ob q => Heap.get?_push_of_some _ q) (Nat.le_refl _) ?_, rfl, q.tup sm (dpa_rev a1) _ (I5.hok.fresh (Nat.le_refl _))⟩
    exact ⟨by rw [List.length_reverse]; omega, _, r.reverse, IsTup.new _ _⟩
  | str z =>
    have hf' : (if z.length ≤ sizeLine then some (PyData.str (revS z)) else none) = some d := hf
    obtain ⟨hz, rfl⟩ := of_ite_some hf'
    obtain ⟨t, rfl⟩ := r1
    obtain ⟨l, rfl, el⟩ := IsPart.raw ps
    show wpAny (model X.prog X.w) X.A (subscriptTail e (.Slice none none (some (.UnaryOp .USub (.Constant (.int 1) k p1) p2)) p3) (.str z t) (.ref s4.heap.objs.size)) (EP X pins σ Q) X.xe { s4 with heap := s4.heap.push { cls := .type "slice", data := .fields #[.none, .none, partValue l] } }
    refine tail_any (ops := [.ref s4.heap.objs.size, .str z t]) (typeIs_str _ z t) (F.slot_str_getitem.lookup) ?_ (by with_unfolding_all rfl)
    refine wpAny_getItem_str_slice (l := none) (u := none) (st := l) ⟨_, Heap.get?_push_size _ rfl, rfl, rfl⟩ (by rw [el]; rfl) ?_
    have hl : (revS z).length ≤ sizeLine := by
      show z.cps.toList.reverse.toArray.size ≤ sizeLine
      simpa [Str.length] using hz
    rw [← str_back] at hl q
    show Made.post (if ((l.map (·.1)).getD 1 == 1 && (Builtin.Str.strSliceIndices none none ((l.map (·.1)).getD 1) z.length).length == z.length) = true then Made.val (.str z t)
      else Made.str ⟨((Builtin.Str.strSliceIndices none none ((l.map (·.1)).getD 1) z.length).filterMap (z.cps[·]?)).toArray⟩) (EP X pins σ Q) _
    rw [el]
    show Made.post (if ((-1 : Int) == 1 && (Builtin.Str.strSliceIndices none none (-1) z.length).length == z.length) = true then Made.val (.str z t)
      else Made.str ⟨((Builtin.Str.strSliceIndices none none (-1) z.length).filterMap (z.cps[·]?)).toArray⟩) (EP X pins σ Q) _
    rw [if_neg (by simp)]
    exact ⟨hl, .str _, _, I5.tok _, ⟨_, rfl⟩, q.now sm (.str _)⟩
  | _ => cases hf
end Pe

set_option Elab.async false
set_option linter.all false
set_option maxRecDepth 100000
set_option maxHeartbeats 8000000
/-! Sw: tuples of several kinds, sorted: each two go together as far as they are equal, and one place more. -/
namespace Pe
open PySem L2 PySem.Spec PyProof.Rows PySem.W PySem.SeqAt
mutual
theorem pl_uniq {h : Heap} : ∀ (x y : D) (v : Value) (as bs : List Addr), pl x = true → pl y = true → Reads h v x as → Reads h v y bs → x = y
  | .none, _, _, _, _, _, _, r, q => by cases r; cases q; rfl
  | .bool _, _, _, _, _, _, _, r, q => by cases r; cases q; rfl
  | .int _, _, _, _, _, _, _, r, q => by cases r; cases q; rfl
  | .str _, _, _, _, _, _, _, r, q => by cases r; cases q; rfl
  | .tuple xs, y, _, _, _, px, py, r, q => by
    cases r with
    | tuple r1 r2 r3 r4 =>
      cases q with
      | tuple q1 q2 q3 q4 =>
        rw [r1] at q1; cases q1
        rw [r3] at q3; cases q3
        rw [plL_uniq xs _ _ _ _ px py r4 q4]
      | list _ _ _ _ => cases py
      | dict _ _ _ _ _ => cases py
  | .list _, _, _, _, _, px, _, _, _ => by cases px
  | .dict _, _, _, _, _, px, _, _, _ => by cases px
theorem plL_uniq {h : Heap} : ∀ (xs ys : List D) (vs : List Value) (as bs : List Addr), pl.plL xs = true → pl.plL ys = true → ReadsAll h vs xs as → ReadsAll h vs ys bs → xs = ys
  | [], _, _, _, _, _, _, r, q => by cases r; cases q; rfl
  | x :: xs, [], _, _, _, _, _, r, q => by cases q; cases r
  | x :: xs, y :: ys, _, _, _, px, py, r, q => by
    have px' : (pl x && pl.plL xs) = true := px
    have py' : (pl y && pl.plL ys) = true := py
    rw [Bool.and_eq_true] at px' py'
    cases r with
    | cons r1 r2 =>
      cases q with
      | cons q1 q2 => rw [pl_uniq x y _ _ _ px'.1 py'.1 r1 q1, plL_uniq xs ys _ _ _ px'.2 py'.2 r2 q2]
end
/-- what may be sorted so -/
structure SoW (ds : List D) : Prop where
  p : ∀ d ∈ ds, pl d = true
  t : ∀ d ∈ ds, ∃ x r, d = .tuple (x :: r)
  s : ∀ d ∈ ds, SeqAt.shaped d = true
  w : ∀ d ∈ ds, ∀ e ∈ ds, wal d e = true
theorem kind_key {h : Heap} {ds : List D} (o : SoW ds) {v : Value} {d : D} {as : List Addr} (hd : d ∈ ds) (r : Reads h v d as) : (dataKind h ds).keyOf v = some (keyToks d) := by
  have q : ∃ d, d ∈ ds ∧ ∃ as, Reads h v d as := ⟨d, hd, as, r⟩
  have hv : (dataKind h ds).keyOf v = some (keyToks q.choose) := dif_pos q
  obtain ⟨m, bs, r2⟩ := q.choose_spec
  rw [hv, pl_uniq _ _ _ _ _ (o.p _ m) (o.p _ hd) r2 r]
theorem keys_each {h : Heap} {ds : List D} (o : SoW ds) {vs : List Value} (e : EachIs (fun v d => ∃ as, Reads h v d as) vs ds) : EachIs (fun v d => (dataKind h ds).keyOf v = some (keyToks d)) vs ds :=
  (each_mem e).mono fun _ _ z => let ⟨⟨_, r⟩, hd⟩ := z; kind_key o hd r
theorem wal_type {x y : D} (h : wal x y = true) : dataType x = dataType y := by
  cases x <;> cases y <;> first | rfl | cases h
theorem wal_flat {x y : D} (h : wal x y = true) (n : ∀ t, x ≠ .tuple t) : alike x y = true := by
  cases x <;> cases y <;> first | (simp [alike]; done) | cases h | exact absurd rfl (n _)
section
variable {prog : Program} {w : World} {A : Around} {s : Shared}
theorem kat_W {b fin : Bool} {Q : Bool → Shared → Prop} : ∀ (xs ys : List D) (i : Nat) (us vs : List Value) (as bs : List Addr), ReadsAll s.heap us xs as → ReadsAll s.heap vs ys bs → walL xs ys = true → (∀ x ∈ xs, SeqAt.shaped x = true) → (∀ y ∈ ys, SeqAt.shaped y = true) → A.units + PyData.depthAll xs < cLine →
    (b = true → i = 0 → ∀ x r t, xs = x :: r → x ≠ .tuple t) → fin = decide (xs.length < ys.length) → Q (LX (keyToksAll xs) (keyToksAll ys)) s → KatLex prog w A b fin Q (us.zip vs) i s
  | [], [], _, _, _, _, _, ra, rb, _, _, _, _, _, hf, hq => by
    cases ra
    cases rb
    subst hf
    have e : LX (keyToksAll []) (keyToksAll []) = false := lex_irrefl _
    rw [e] at hq
    exact kat_nil hq
  | [], y :: ys, _, _, _, _, _, ra, rb, _, _, _, _, _, hf, hq => by
    cases ra
    subst hf
    have e : LX (keyToksAll []) (keyToksAll (y :: ys)) = true := by
      simp only [keyToksAll]
      exact (lex_diff (O := itemOrd) (by simp)).trans (by simp [itemLt])
    rw [e] at hq
    rw [List.zip_nil_left]
    exact kat_nil (by simpa using hq)
  | x :: xs, [], _, _, _, _, _, ra, rb, _, _, _, _, _, hf, hq => by
    cases rb
    subst hf
    have e : LX (keyToksAll (x :: xs)) (keyToksAll []) = false := by
      simp only [keyToksAll]
      exact (lex_diff (O := itemOrd) (by simp)).trans (by simp [itemLt])
    rw [e] at hq
    rw [List.zip_nil_right]
    exact kat_nil (by simpa using hq)
  | x :: xs, y :: ys, i, _, _, _, _, ra, rb, h, sx, sy, hu, hb, hf, hq => by
    obtain ⟨h1, h2⟩ := walL_cons h
    have zx := sx x List.mem_cons_self
    have zy := sy y List.mem_cons_self
    have hd : x.depth ≤ PyData.depthAll (x :: xs) ∧ PyData.depthAll xs ≤ PyData.depthAll (x :: xs) := by
      simp only [PyData.depthAll]
      omega
    have hf2 : fin = decide (xs.length < ys.length) := by
      rw [hf, List.length_cons, List.length_cons]
      exact decide_eq_decide.mpr (by omega)
    cases ra with
    | cons r rs =>
      cases rb with
      | cons r' rs' =>
        rw [List.zip_cons_cons]
        have eq := eqAt_reads x y A s _ _ _ _ r r' (canLay_of_shaped zx) (canLay_of_shaped zy) (by omega)
        refine kat_cons (eq prog w _ _ ?_)
        cases e : PyData.eqv x y with
        | true =>
          rw [toksL_yes h1 e] at hq
          exact kat_yes (kat_W xs ys (i + 1) _ _ _ _ rs rs' (h2 e) (fun z hz => sx z (List.mem_cons_of_mem _ hz)) (fun z hz => sy z (List.mem_cons_of_mem _ hz)) (by omega) (fun _ z => nomatch z) hf2 hq)
        | false =>
          rw [toksL_no h1 e] at hq
          have nn : x ≠ .none := fun z => by
            subst z
            cases y with
            | none => simp [PyData.eqv] at e
            | _ => cases h1
          refine kat_no ?_
          cases f : (b && i == 0) with
          | false => exact kat_one _ _ (wal_lt x y A s _ _ _ _ r r' h1 nn zx zy (by omega) prog w _ _ hq)
          | true =>
            rw [Bool.and_eq_true] at f
            have nt := fun t => hb f.1 (by simpa using f.2) x xs t rfl
            exact oneLt_alike (fun _ => nt) r r' (wal_flat h1 nt) nn (by omega) hq
theorem sortsW {vs : List Value} {ds : List D} (e : EachIs (fun v d => ∃ as, Reads s.heap v d as) vs ds) (o : SoW ds) (hu : ∀ d ∈ ds, A.units + d.depth < cLine) : SortsAt prog w A s (dataKind s.heap ds) vs := by
  refine ⟨fun v hv => let ⟨d, hd, as, r⟩ := e.left v hv; ⟨_, kind_key o hd r⟩, ?_⟩
  cases ds with
  | nil =>
    cases e
    exact ⟨general', (fun E x y a b Q ha _ _ => nomatch (dataKind_inv ha).choose_spec.choose_spec.1), fun z => absurd z (by simp)⟩
  | cons d0 ds0 =>
    obtain ⟨x0, r0, e0⟩ := o.t d0 List.mem_cons_self
    have first : ∀ x r, PyData.tuple (x :: r) ∈ d0 :: ds0 → dataType x = dataType x0 := fun x r m => by
      have z := o.w _ m d0 List.mem_cons_self
      rw [e0] at z
      exact wal_type (walL_cons z).1
    refine ⟨tuples' (dataType x0 != Value.type "tuple"), fun E x y a b Q ha hb hq => ?_, fun h2 E Q hq => ?_⟩
    · obtain ⟨d, as, hd, ra, rfl⟩ := dataKind_inv ha
      obtain ⟨d', as', hd', rb, rfl⟩ := dataKind_inv hb
      have hw := o.w d hd d' hd'
      have hr := hu d hd
      have s1 := o.s d hd
      have s2 := o.s d' hd'
      obtain ⟨x1, r1, rfl⟩ := o.t d hd
      obtain ⟨x2, r2, rfl⟩ := o.t d' hd'
      have hq2 : Q (LX (keyToks (.tuple (x1 :: r1))) (keyToks (.tuple (x2 :: r2)))) s := hq
      simp only [keyToks] at hq2
      cases ra with
      | tuple a1 a2 a3 a4 =>
        cases rb with
        | tuple b1 b2 b3 b4 =>
          have n1 := SeqAt.ReadsAll.length _ _ _ a4
          have n2 := SeqAt.ReadsAll.length _ _ _ b4
          simp only [PyData.depth] at hr
          refine kat_lt a1 a3 b1 b3 (kat_W (x1 :: r1) (x2 :: r2) 0 _ _ _ _ a4 b4 hw (shT s1) (shT s2) (by omega) (fun hb _ x r t ex => ?_) (by rw [← Array.length_toList, ← Array.length_toList, n1, n2]) hq2)
          cases ex
          rw [← first _ _ hd] at hb
          exact dataType_tuple hb t
    · obtain ⟨fs, t1, t2, t3⟩ := each_katTups e o.t
      refine kat_kind (T := dataType x0) t1 (by omega) (fun f hf => ?_) (beq_self_eq_true _) hq
      obtain ⟨x, r, as, m1, m2⟩ := t3 f hf
      rw [← first x r m1]
      exact looks_reads m2
theorem sorted_dataW {β : Type} {R : Value → β → Prop} {enc : β → D} {vs : List Value} {bs : List β} {E : Value → Shared → Prop} {l : Addr} {Q : Value → Shared → Prop} (hl : s.heap.IsList l vs.toArray) (e : EachIs R vs bs) (er : EachIs (fun v b => ∃ as, Reads s.heap v (enc b) as) vs bs) (o : SoW (bs.map enc)) (hL : bs.length ≤ sizeLine) (hu : ∀ d ∈ bs.map enc, A.units + 2 + d.depth < cLine)
    (h : ∀ out, out.length = bs.length → EachIs R out (bs.mergeSort (dataLe false enc)) → Q (.ref (s.heap.objs.size + 1)) { s with heap := sortedAll s.heap vs (List.toArray out) }) : wpAny (model prog w) A (call (.builtin "sorted") [.ref l]) Q E s := by
  have k : EachIs (fun v b => ∃ as, Reads (sortingHeap (copyHeap s.heap vs) (s.heap.objs.size + 1) vs) v (enc b) as) vs bs := er.mono fun _ _ z => let ⟨as, r⟩ := z; ⟨as, PyProof.Rows.Reads.keeps (fun _ _ => sorting_copy_old) r⟩
  have km := each_map (R := fun v d => ∃ as, Reads (sortingHeap (copyHeap s.heap vs) (s.heap.objs.size + 1) vs) v d as) enc k
  refine sorted_vals hl (sortsW (s := { s with heap := sortingHeap (copyHeap s.heap vs) (s.heap.objs.size + 1) vs }) km o hu) (by rw [e.length]; exact hL) (h _ ?_ ?_)
  · rw [sortVals_length false rfl]
    exact e.length
  · exact sortVals_each (κ := dataKind (sortingHeap (copyHeap s.heap vs) (s.heap.objs.size + 1) vs) (bs.map enc)) (fun b => keyToks (enc b)) e (each_of_map enc (keys_each o km))
end
end Pe

set_option Elab.async false
set_option linter.all false
set_option maxRecDepth 100000
set_option maxHeartbeats 4000000
/-! So: sorted, of data of one kind. -/
namespace Pe
open PySem L2 PySem.Spec PyProof.Rows PySem.W
theorem dq1 {K : Fg} {G : Hp} {xs : List V} {d : D} (h : DqAll K G xs [d]) : ∃ x, xs = [x] ∧ Dq K G x d := by
  cases h with
  | cons r t => cases t; exact ⟨_, rfl, r⟩
theorem dq2 {K : Fg} {G : Hp} {xs : List V} {d e : D} (h : DqAll K G xs [d, e]) : ∃ x y, xs = [x, y] ∧ Dq K G x d ∧ Dq K G y e := by
  cases h with
  | cons r t =>
    obtain ⟨y, rfl, r'⟩ := dq1 t
    exact ⟨_, _, rfl, r, r'⟩
theorem alikeB_of {xs : List D} (h : alikeB xs = true) : AllAlike xs := fun d hd d' hd' => List.all_eq_true.mp (List.all_eq_true.mp h d hd) d' hd'
theorem sortable_of {xs : List D} (h : ((xs.all tupB) || xs.all othB) = true) : Sortable xs := by
  rcases Bool.or_eq_true_iff.mp h with h | h
  · refine .inl fun d hd => ?_
    have q := List.all_eq_true.mp h d hd
    cases d with
    | tuple zs => cases zs with
      | nil => cases q
      | cons x r => exact ⟨x, r, rfl⟩
    | _ => cases q
  · refine .inr fun d hd => ?_
    have q := List.all_eq_true.mp h d hd
    cases d with
    | none => cases q
    | tuple _ => cases q
    | _ => exact ⟨(fun z => by cases z), (fun xs z => by cases z)⟩
theorem fst_zip {α β : Type} : ∀ {xs : List α} {ys : List β}, ys.length = xs.length → (xs.zip ys).map Prod.fst = xs
  | [], _, _ => by simp
  | x :: xs, [], h => by cases h
  | x :: xs, y :: ys, h => by
    rw [List.zip_cons_cons, List.map_cons, fst_zip (by simpa using h)]
theorem each_zip {K : Fg} {G : Hp} : ∀ {ds : List D} {xs : List V} {us : List Value}, DqAll K G xs ds → Vals xs us → EachIs (fun (v : Value) (b : D × V) => RelV b.2 v) us (ds.zip xs)
  | _, _, _, .nil, r => by cases r; exact .nil
  | _, _, _, .cons _ t, r => by
    cases r with
    | cons r1 r2 => exact .cons r1 (each_zip t r2)
theorem each_rd {X : Cx} {pins : List (Addr × Obj)} {σ : L2.St} {H : Hp} {s : Shared} (I : Inv X pins σ H s) : ∀ {ds : List D} {xs : List V} {us : List Value}, (∀ d ∈ ds, d.hasDict = false) → DqAll X.kx H xs ds → Vals xs us → EachIs (fun (v : Value) (b : D × V) => ∃ as, Reads s.heap v b.1 as) us (ds.zip xs)
  | _, _, _, _, .nil, r => by cases r; exact .nil
  | _, _, _, nd, .cons q t, r => by
    cases r with
    | cons r1 r2 => exact .cons (Dp.reads I _ _ _ (dq_dp _ _ (nd _ List.mem_cons_self) q) r1) (each_rd I (fun d hd => nd d (List.mem_cons_of_mem _ hd)) t r2)
theorem each_vals : ∀ {us : List Value} {bs : List (D × V)}, EachIs (fun (v : Value) (b : D × V) => RelV b.2 v) us bs → Vals (bs.map Prod.snd) us
  | _, _, .nil => .nil
  | _, _, .cons h t => .cons h (each_vals t)
theorem dqa_of {K : Fg} {G : Hp} : ∀ {bs : List (D × V)}, (∀ b ∈ bs, Dq K G b.2 b.1) → DqAll K G (bs.map Prod.snd) (bs.map Prod.fst)
  | [], _ => .nil
  | b :: bs, h => .cons (h b List.mem_cons_self) (dqa_of fun c hc => h c (List.mem_cons_of_mem _ hc))
theorem dqa_mem {K : Fg} {G : Hp} : ∀ {ds : List D} {xs : List V}, DqAll K G xs ds → ∀ b ∈ ds.zip xs, Dq K G b.2 b.1
  | _, _, .nil, b, hb => by simp at hb
  | _, _, .cons q t, b, hb => by
    rw [List.zip_cons_cons] at hb
    rcases List.mem_cons.mp hb with e | hb
    · subst e; exact q
    · exact dqa_mem t b hb
theorem call_sortR {X : Cx} (hu : X.A.units + 65 < cLine) : CallR X (.builtin "sorted") (fun xs H Q => ∃ G zs x, xs = [x] ∧ Same G H ∧ Dq X.kx G x (.list zs) ∧ sortOk zs = true ∧ PsL X.kx (sortD zs) G H Q) := by
  rintro pins s σ H xs us Q I r ⟨G, zs, x, rfl, sm, hx, ok, q⟩
  obtain ⟨u, rfl, ru⟩ := vals1 r
  · skip
    skip
    cases hx with
    | lst h1 a1 =>
      cases ru
      rename_i l ws
      obtain ⟨its, rv, ht, hz⟩ := I.list (ls_same sm h1).sq
      have ol : ws.length = zs.length := dpa_len a1
      have ez := each_zip a1 rv
      have em : (zs.zip ws).map Prod.fst = zs := fst_zip ol
      rcases Bool.or_eq_true_iff.mp (show (sortA zs || sortW zs) = true from ok) with ok | ok
      · have ok' := ok
        unfold sortA at ok'
        rw [Bool.and_eq_true] at ok'
        have nd : ∀ d ∈ zs, d.hasDict = false := fun d hd => by
          have := List.all_eq_true.mp ok'.2 d hd
          rw [Bool.and_eq_true] at this
          simpa using this.2
        have er := each_rd I nd (dpa_same sm _ _ a1) rv
        unfold sortA at ok
        rw [Bool.and_eq_true, Bool.and_eq_true] at ok
        refine sorted_data (enc := Prod.fst) ht.isList ez er (by rw [em]; exact alikeB_of ok.1.1) (by rw [em]; exact sortable_of ok.1.2) (by rw [List.length_zip]; omega) (fun b hb => ?_) fun out ho eo => ?_
        · have m : b.1 ∈ zs := by rw [← em]; exact List.mem_map.mpr ⟨b, hb, rfl⟩
          have := List.all_eq_true.mp ok.2 _ m
          rw [Bool.and_eq_true] at this
          have := of_decide_eq_true this.1
          omega
        · obtain ⟨c, hc⟩ := sortedAll_at s.heap its out.toArray
          have hs : ((zs.zip ws).mergeSort (dataLe false Prod.fst)).map Prod.fst = sortD zs := by
            have e := sort_maps (r := dataLe false (Prod.fst : D × V → D)) (s := dataLe false (id : D → D)) Prod.fst (l := zs.zip ws) (fun _ _ _ _ => rfl)
            rw [em] at e
            exact e
          have da : DqAll X.kx G (((zs.zip ws).mergeSort (dataLe false Prod.fst)).map Prod.snd) (sortD zs) := by
            rw [← hs]
            exact dqa_of fun b hb => dqa_mem a1 b ((List.mergeSort_perm _ _).mem_iff.mp hb)
          have vo := each_vals eo
          have hl := vo.length
          refine ⟨.ref _, _, I.laid (t' := s.toks) (o := .lst _) (fun b o q => sortedAll_old q) (Nat.le_succ _) ?_, rfl, q _ _ (I.hok.fresh (Nat.le_succ _)) da⟩
          refine ⟨?_, out, c, vo, ?_⟩
          · rw [hl, ho, List.length_zip]
            omega
          · exact hc
      · unfold sortW at ok
        rw [Bool.and_eq_true] at ok
        have each : ∀ d ∈ zs, ((pl d = true ∧ tupB d = true) ∧ SeqAt.shaped d = true) ∧ d.depth ≤ 60 := fun d hd => by
          have := List.all_eq_true.mp ok.1 d hd
          rw [Bool.and_eq_true, Bool.and_eq_true, Bool.and_eq_true] at this
          exact ⟨this.1, of_decide_eq_true this.2⟩
        have er := each_rd I (fun d hd => shaped_nd (each d hd).1.2) (dpa_same sm _ _ a1) rv
        have ot : ∀ d ∈ zs, ∃ x r, d = .tuple (x :: r) := fun d hd => by
          have q := (each d hd).1.1.2
          cases d with
          | tuple ts => cases ts with
            | nil => cases q
            | cons x r => exact ⟨x, r, rfl⟩
          | _ => cases q
        have o : SoW zs := ⟨fun d hd => (each d hd).1.1.1, ot, fun d hd => (each d hd).1.2, fun d hd e he => List.all_eq_true.mp (List.all_eq_true.mp ok.2 d hd) e he⟩
        refine sorted_dataW (enc := Prod.fst) ht.isList ez er (by rw [em]; exact o) (by rw [List.length_zip]; omega) (fun d hd => ?_) fun out ho eo => ?_
        · rw [em] at hd
          have := (each d hd).2
          omega
        · obtain ⟨c, hc⟩ := sortedAll_at s.heap its out.toArray
          have hs : ((zs.zip ws).mergeSort (dataLe false Prod.fst)).map Prod.fst = sortD zs := by
            have e := sort_maps (r := dataLe false (Prod.fst : D × V → D)) (s := dataLe false (id : D → D)) Prod.fst (l := zs.zip ws) (fun _ _ _ _ => rfl)
            rw [em] at e
            exact e
          have da : DqAll X.kx G (((zs.zip ws).mergeSort (dataLe false Prod.fst)).map Prod.snd) (sortD zs) := by
            rw [← hs]
            exact dqa_of fun b hb => dqa_mem a1 b ((List.mergeSort_perm _ _).mem_iff.mp hb)
          have vo := each_vals eo
          have hl := vo.length
          refine ⟨.ref _, _, I.laid (t' := s.toks) (o := .lst _) (fun b o q => sortedAll_old q) (Nat.le_succ _) ?_, rfl, q _ _ (I.hok.fresh (Nat.le_succ _)) da⟩
          refine ⟨?_, out, c, vo, ?_⟩
          · rw [hl, ho, List.length_zip]
            omega
          · exact hc
theorem call_sortD {X : Cx} (hu : X.A.units + 65 < cLine) : CallR X (.builtin "sorted") (rDc X.kx sorD) := by
  rintro pins s σ H xs us Q I r ⟨G, ds, d, sm, a, hf, q⟩
  match ds, hf with
  | [.list zs], hf =>
    obtain ⟨ok, rfl⟩ := of_ite_some hf
    obtain ⟨x, rfl, hx⟩ := dq1 a
    exact call_sortR hu pins s σ H _ us Q I r ⟨G, zs, x, rfl, sm, hx, ok, q.toL sm⟩
end Pe

set_option Elab.async false
set_option linter.all false
set_option maxRecDepth 100000
set_option maxHeartbeats 4000000
/-! Pe4: the built-in functions' rules. -/
namespace Pe
open PySem L2
section
variable {X : Cx}
theorem call_reprD (hg : X.A.guards = some []) (hu : X.A.units + 65 < cLine) : CallR X (.builtin "repr") (rDc X.kx (bfD .repr)) := by
  rintro pins s σ H xs us Q I r ⟨G, ds, d, sm, a, hf, q⟩
  match ds, hf with
  | [d0], hf =>
    obtain ⟨⟨h1, h2, h3, nd⟩, rfl⟩ := of_ite_some hf
    obtain ⟨x, rfl, hx⟩ := dq1 a
    have q' := q.now sm (.str _)
    have px := dq_dp _ _ nd (dp_same sm _ _ hx)
    obtain ⟨u, rfl, ru⟩ := vals1 r
    have fin : ∀ {h' : Heap} {u' : Tok} {tk : Nat}, (∀ b o, s.heap.get? b = some o → h'.get? b = some o) → EP X pins σ Q (.str d0.shown u') { s with heap := h', toks := tk } := fun k =>
      ⟨.str _, H, I.kept k, ⟨_, rfl⟩, q'⟩
    cases hx with
    | non =>
      cases ru
      exact PySem.P.repr_of_none (fin (h' := s.heap) fun _ _ e => e)
    | bl b =>
      cases ru
      refine PySem.P.repr_of_bool ?_
      have e := fin (h' := s.heap) (u' := s.toks) (tk := s.toks + 1) fun _ _ e => e
      rw [PyData.shown_bool] at e
      exact e
    | int i =>
      obtain ⟨t, rfl⟩ := ru
      refine PySem.P.repr_of_int (by simpa [PyData.showable] using h1) ?_
      have e := fin (h' := s.heap) (u' := s.toks) (tk := s.toks + 1) fun _ _ e => e
      rw [PyData.shown_int] at e
      exact e
    | str z =>
      obtain ⟨t, rfl⟩ := ru
      rw [PyData.shown_str] at h2
      refine PySem.P.repr_of_str ?_ h2
      have e := fin (h' := s.heap) (u' := s.toks) (tk := s.toks + 1) fun _ _ e => e
      rw [PyData.shown_str] at e
      exact e
    | lst hh aa =>
      obtain ⟨as, rd⟩ := Dp.reads I _ _ u px ru
      cases ru
      exact PySem.repr_of_reads' rd h1 (fun e => by rw [nd] at e; cases e) hg (by omega) (fun _ _ e => e) (fun h' u' tk k => fin k) h2
    | tup hh aa =>
      obtain ⟨as, rd⟩ := Dp.reads I _ _ u px ru
      cases ru
      exact PySem.repr_of_reads' rd h1 (fun e => by rw [nd] at e; cases e) hg (by omega) (fun _ _ e => e) (fun h' u' tk k => fin k) h2
    | dctK _ _ => cases nd
    | dctT _ _ _ => cases nd
    | obj _ _ _ => cases nd
/-- sum(t), a tuple -/
theorem cr_sumT (hc : X.calm = true) : CallR X (.builtin "sum") (fun vs H Q => ∃ (a : Addr) (ns : List Int), vs = [V.ref a] ∧ SqT X.kx H a (ns.map V.int) ∧ Q (.int ns.sum) H) := by
  intro pins s σ H vs us Q I r h
  obtain ⟨a, ns, rfl, hs, q⟩ := h
  obtain ⟨its, rv, ⟨o, ho, hcl, n, hd⟩, _⟩ := I.tuple hs
  rw [Vals.ref1 r]
  have hi := rv.ints
  obtain ⟨xs, e⟩ := hi.allInts.items
  have hn : numsOf (intItems xs).toList = ns := by rw [← e]; exact hi.numsOf
  rw [nums_intItems] at hn
  refine PySem.W.ktm_sumG (xs := xs) (I.ok.hd hc) ⟨o, ho, hcl, n, by rw [← e]; exact hd⟩ fun h' tk t' hk => ?_
  rw [preSum_eq, List.take_of_length_le (by simp), hn]
  exact ⟨.int _, H, I.kept hk, ⟨_, rfl⟩, q⟩
/-- not within an except suite -/
def Bf.cold : Bf → Bool
  | .max2 => true | .min2 => true | .all => true | .any => true | .sum => true
  | _ => false
theorem call_bfD (f : Bf) (hcc : f.cold = true → X.calm = true) (hg : X.A.guards = some []) (hu : X.A.units + 65 < cLine) : CallR X f.val (rDc X.kx (bfD f)) := by
  cases f with
  | sorted => exact call_sortD hu
  | repr => exact call_reprD hg hu
  | len =>
    rintro pins s σ H xs us Q I r ⟨G, ds, d, sm, a, hf, q⟩
    match ds, hf with
    | [.str z], hf =>
      obtain ⟨hz, rfl⟩ := of_ite_some hf
      obtain ⟨x, rfl, hx⟩ := dq1 a
      cases hx
      exact call_len_str pins s σ H _ us Q I r ⟨z, rfl, hz, q.now sm (.int _)⟩
    | [.list es], hf =>
      cases hf
      obtain ⟨x, rfl, hx⟩ := dq1 a
      cases hx with
      | lst h1 a1 => exact call_len_seq pins s σ H _ us Q I r ⟨_, _, rfl, .inl (ls_same sm h1).sq, by rw [dpa_len a1]; exact q.now sm (.int _)⟩
    | [.tuple es], hf =>
      cases hf
      obtain ⟨x, rfl, hx⟩ := dq1 a
      cases hx with
      | tup h1 a1 => exact call_len_seq pins s σ H _ us Q I r ⟨_, _, rfl, .inr (seqT_same sm h1), by rw [dpa_len a1]; exact q.now sm (.int _)⟩
    | [.dict kvs], hf =>
      obtain ⟨hk, rfl⟩ := of_ite_some hf
      obtain ⟨x, rfl, hx⟩ := dq1 a
      obtain ⟨u, rfl, ru⟩ := vals1 r
      obtain ⟨b, vs, rfl, hd, dd, hz, hl⟩ := sc_len I sm hx hk
      cases ru
      refine call_len_dict hd dd (by rw [hl]; rw [sizeLine_eq] at hz; omega) ⟨.int _, H, I.tok _, ⟨_, rfl⟩, ?_⟩
      rw [hl]
      exact q.now sm (.int _)
  | abs =>
    rintro pins s σ H xs us Q I r ⟨G, ds, d, sm, a, hf, q⟩
    match ds, hf with
    | [.int i], hf =>
      cases hf
      obtain ⟨x, rfl, hx⟩ := dq1 a
      cases hx
      exact call_abs pins s σ H _ us Q I r ⟨i, rfl, q.now sm (.int _)⟩
  | int =>
    rintro pins s σ H xs us Q I r ⟨G, ds, d, sm, a, hf, q⟩
    match ds, hf with
    | [.int i], hf =>
      cases hf
      obtain ⟨x, rfl, hx⟩ := dq1 a
      cases hx
      exact call_int1 pins s σ H _ us Q I r (.inl ⟨i, rfl, q.now sm (.int _)⟩)
    | [.bool b], hf =>
      cases hf
      obtain ⟨x, rfl, hx⟩ := dq1 a
      cases hx
      exact call_int1 pins s σ H _ us Q I r (.inr ⟨b, rfl, q.now sm (.int _)⟩)
  | max2 =>
    have hc := hcc rfl
    rintro pins s σ H xs us Q I r ⟨G, ds, d, sm, a, hf, q⟩
    match ds, hf with
    | [.int i, .int j], hf =>
      cases hf
      obtain ⟨x, y, rfl, hx, hy⟩ := dq2 a
      cases hx
      cases hy
      exact call_max2 hc pins s σ H _ us Q I r ⟨i, j, rfl, q.now sm (.int _)⟩
  | min2 =>
    have hc := hcc rfl
    rintro pins s σ H xs us Q I r ⟨G, ds, d, sm, a, hf, q⟩
    match ds, hf with
    | [.int i, .int j], hf =>
      cases hf
      obtain ⟨x, y, rfl, hx, hy⟩ := dq2 a
      cases hx
      cases hy
      exact call_min2 hc pins s σ H _ us Q I r ⟨i, j, rfl, q.now sm (.int _)⟩
  | str =>
    rintro pins s σ H xs us Q I r ⟨G, ds, d, sm, a, hf, q⟩
    match ds, hf with
    | [.int i], hf =>
      obtain ⟨hz, rfl⟩ := of_ite_some hf
      obtain ⟨x, rfl, hx⟩ := dq1 a
      cases hx
      exact call_str_int pins s σ H _ us Q I r ⟨i, rfl, hz, q.now sm (.str _)⟩
    | [.str z], hf =>
      cases hf
      obtain ⟨x, rfl, hx⟩ := dq1 a
      cases hx
      exact SkE.call_str_str pins s σ H _ us Q I r ⟨z, rfl, q.now sm (.str _)⟩
  | all =>
    have hc := hcc rfl
    rintro pins s σ H xs us Q I r ⟨G, ds, d, sm, a, hf, q⟩
    match ds, hf with
    | [.list es], hf =>
      obtain ⟨x, rfl, hx⟩ := dq1 a
      have hf' : (blsOf es).map (fun bs => PyData.bool (bs.all id)) = some d := hf
      cases e : blsOf es with
      | none => rw [e] at hf'; cases hf'
      | some bs =>
        rw [e] at hf'
        cases hf'
        cases hx with
        | lst h1 a1 =>
          have ev := vs_bls a1 e
          exact cr_all hc pins s σ H _ us Q I r ⟨_, bs, rfl, by rw [← ev]; exact (ls_same sm h1).sq, q.now sm (.bl _)⟩
  | any =>
    have hc := hcc rfl
    rintro pins s σ H xs us Q I r ⟨G, ds, d, sm, a, hf, q⟩
    match ds, hf with
    | [.list es], hf =>
      obtain ⟨x, rfl, hx⟩ := dq1 a
      have hf' : (blsOf es).map (fun bs => PyData.bool (bs.any id)) = some d := hf
      cases e : blsOf es with
      | none => rw [e] at hf'; cases hf'
      | some bs =>
        rw [e] at hf'
        cases hf'
        cases hx with
        | lst h1 a1 =>
          have ev := vs_bls a1 e
          exact cr_any hc pins s σ H _ us Q I r ⟨_, bs, rfl, by rw [← ev]; exact (ls_same sm h1).sq, q.now sm (.bl _)⟩
  | sum =>
    have hc := hcc rfl
    rintro pins s σ H xs us Q I r ⟨G, ds, d, sm, a, hf, q⟩
    match ds, hf with
    | [.list es], hf =>
      obtain ⟨x, rfl, hx⟩ := dq1 a
      have hf' : (intsOf es).map (fun bs => PyData.int bs.sum) = some d := hf
      cases e : intsOf es with
      | none => rw [e] at hf'; cases hf'
      | some bs =>
        rw [e] at hf'
        cases hf'
        cases hx with
        | lst h1 a1 =>
          have ev := vs_ints a1 e
          exact cr_sum hc pins s σ H _ us Q I r ⟨_, bs, rfl, by rw [← ev]; exact (ls_same sm h1).sq, q.now sm (.int _)⟩
    | [.tuple es], hf =>
      obtain ⟨x, rfl, hx⟩ := dq1 a
      have hf' : (intsOf es).map (fun bs => PyData.int bs.sum) = some d := hf
      cases e : intsOf es with
      | none => rw [e] at hf'; cases hf'
      | some bs =>
        rw [e] at hf'
        cases hf'
        cases hx with
        | tup h1 a1 =>
          have ev := vs_ints a1 e
          exact cr_sumT hc pins s σ H _ us Q I r ⟨_, bs, rfl, by rw [← ev]; exact seqT_same sm h1, q.now sm (.int _)⟩
  | tuple =>
    rintro pins s σ H xs us Q I r ⟨G, ds, d, sm, a, hf, q⟩
    match ds, hf with
    | [.list es], hf =>
      cases hf
      obtain ⟨x, rfl, hx⟩ := dq1 a
      cases hx with
      | lst h1 a1 => exact call_tuple_of pins s σ H _ us Q I r ⟨_, _, rfl, .inl ⟨(ls_same sm h1).sq, q.tup sm a1⟩⟩
    | [.tuple es], hf =>
      cases hf
      obtain ⟨x, rfl, hx⟩ := dq1 a
      cases hx with
      | tup h1 a1 => exact call_tuple_of pins s σ H _ us Q I r ⟨_, _, rfl, .inr ⟨seqT_same sm h1, q.now sm (.tup h1 a1)⟩⟩
  | list =>
    rintro pins s σ H xs us Q I r ⟨G, ds, d, sm, a, hf, q⟩
    match ds, hf with
    | [.list es], hf =>
      cases hf
      obtain ⟨x, rfl, hx⟩ := dq1 a
      cases hx with
      | lst h1 a1 => exact call_list_of pins s σ H _ us Q I r ⟨_, _, rfl, .inl (ls_same sm h1).sq, q.lst sm a1⟩
    | [.tuple es], hf =>
      cases hf
      obtain ⟨x, rfl, hx⟩ := dq1 a
      cases hx with
      | tup h1 a1 => exact call_list_of pins s σ H _ us Q I r ⟨_, _, rfl, .inr (seqT_same sm h1), q.lst sm a1⟩
/-- y.join(xs) -/
def joinD : D → D → Option D
  | .str y, .list ds => match strsOf ds with
    | some ts => if (ts.map (·.length)).sum + ts.length * y.length ≤ 16777216 then some (.str (Txt.join y ts)) else none
    | none => none
  | _, _ => none
theorem mt_joinD : MtR X "str.join" (fun x xs H Q => ∃ G dx dy y d, xs = [y] ∧ Same G H ∧ Dq X.kx G x dx ∧ Dq X.kx G y dy ∧ joinD dx dy = some d ∧ PsO X.kx d G H Q) := by
  rintro pins s σ H x xs v us Q I rx rxs ⟨G, dx, dy, y, d, rfl, sm, hx, hy, hf, q⟩
  cases hx with
  | str z =>
    cases hy with
    | lst h1 a1 =>
      rename_i es
      have hf' : (match strsOf es with
        | some ts => if (ts.map (·.length)).sum + ts.length * z.length ≤ 16777216 then some (PyData.str (Txt.join z ts)) else none
        | none => none) = some d := hf
      cases e : strsOf es with
      | none => rw [e] at hf'; cases hf'
      | some ts =>
        rw [e] at hf'
        obtain ⟨hz, rfl⟩ := of_ite_some hf'
        have ev := vs_strs a1 e
        exact mt_join pins s σ H _ _ v us Q I rx rxs ⟨z, _, ts, rfl, rfl, .inl (by rw [← ev]; exact (ls_same sm h1).sq), hz, q.now sm (.str _)⟩
    | _ => cases hf
  | _ => cases hf
end
end Pe

set_option Elab.async false
set_option linter.all false
set_option maxRecDepth 100000
set_option maxHeartbeats 4000000
/-! Pe5: expressions as data makers; how they are evaluated; how they are read off a text. -/
namespace Pe
open PySem L2

inductive Ex where
  | cst (d : D)
  | var (i : Nat)
  | bin (op : Operator) (a b : Ex)
  | neg (a : Ex)
  | cmp (op : CmpOp) (a b : Ex)
  | chn (op op' : CmpOp) (a b c : Ex)
  | and (a b : Ex)
  | or (a b : Ex)
  | not (a : Ex)
  | ite (c a b : Ex)
  | anil
  | acons (a r : Ex)
  | tup (as : Ex)
  | lst (as : Ex)
  | idx (a b : Ex)
  | slc (a lo hi : Ex)
  | nopart
  | call (f : Str) (as : Ex)
  | bf (f : Bf) (as : Ex)
  | isi (a : Ex) (t : Ty)
  | isis (a : Ex) (ts : List Ty)
  | join (a b : Ex)
  | seq (a : Ex)
  | rng (a b : Ex)
  | zip (a b : Ex)
  | enu (a : Ex)
  | seqD (i : Nat)
  | comp (elt it cond : Ex) (tg : Sum Nat (List Nat)) (own : List Nat)
  | dsp (a : Ex)
  | comp2 (elt it it1 : Ex) (tg : Sum Nat (List Nat)) (own : List Nat) (tg1 : Sum Nat (List Nat)) (own1 : List Nat)
  | dcomp (kx vx it cond : Ex) (tg : Sum Nat (List Nat)) (own : List Nat)
  | inT (a : Ex) (es : List (Str × D))
  | atT (a : Ex) (es : List (Str × D))
  | rev (a : Ex)
  | xis (i : Nat) (cs : List Str)
  | xat (i : Nat) (f : Str)
  | atr (a : Ex) (f : Str) (cs : List Str)
  | meth (a : Ex) (m : Str) (tb : List (Str × Str)) (as : Ex)

/-- a value's truth -/
def truD : D → Option Bool
  | .none => some false
  | .bool b => some b
  | .int i => some (i != 0)
  | .str y => if y.length ≤ sizeLine then some ((y.length : Int) != 0) else none
  | .list xs => some (!xs.isEmpty)
  | .tuple xs => some (!xs.isEmpty)
  | .dict _ => none
def signs (z : Str) : List D := z.cps.toList.map fun c => .str ⟨#[c]⟩
def boolR {α : Type} (d : D) (t f : Res α) : Res α := match d with
  | .bool true => t
  | .bool false => f
  | _ => .no
def setAll (ν : List (Option D)) : List Nat → List D → Option (List (Option D))
  | [], [] => some ν
  | i :: is, d :: ds => setAll (ν.set i (some d)) is ds
  | _, _ => none
def setTg (ν : List (Option D)) (tg : Sum Nat (List Nat)) (d : D) : Option (List (Option D)) := match tg with
  | .inl i => some (ν.set i (some d))
  | .inr is => match d with
    | .tuple ds => setAll ν is ds
    | _ => none
def wipeD (ν : List (Option D)) : List Nat → List (Option D)
  | [] => ν
  | v :: vs => (wipeD ν vs).set v none
/-- item by item: none is left out -/
def compL (f : D → Res (Option D)) : List D → Res (List D)
  | [] => .ok []
  | d :: ds => (f d).bind fun o => (compL f ds).bind fun r => .ok (match o with
    | some x => x :: r
    | none => r)
def flatL (f : D → Res (List D)) : List D → Res (List D)
  | [] => .ok []
  | d :: ds => (f d).bind fun r => (flatL f ds).bind fun r' => .ok (r ++ r')
/-- keys and values in turn -/
def dspD : List D → List (D × D) → Option (List (D × D))
  | k :: v :: r, acc => if scK k = true then dspD r (dput acc k v) else none
  | [], acc => some acc
  | _, _ => none
def dcL (f : D → Res (Option (D × D))) : List D → List (D × D) → Res (List (D × D))
  | [], acc => .ok acc
  | d :: ds, acc => (f d).bind fun o => match o with
    | some kv => if scK kv.1 = true then dcL f ds (dput acc kv.1 kv.2) else .no
    | none => dcL f ds acc
def listR {α : Type} (d : D) (f : List D → Res α) : Res α := match d with
  | .list ds => f ds
  | _ => .no
def rangeL (i j : Int) : List D := (List.range (j - i).toNat).map fun k => .int (i + (k : Nat))
def near (i : Int) : Bool := decide (-4611686018427387904 ≤ i ∧ i < 4611686018427387904)
def pairs : List D → List D → List D
  | x :: xs, y :: ys => .tuple [x, y] :: pairs xs ys
  | _, _ => []
def countL : Nat → List D → List D
  | _, [] => []
  | k, x :: xs => .tuple [.int (k : Nat), x] :: countL (k + 1) xs

/-- a slice's part -/
def partE (x : Ex) (r : Res D) : Res (Option Int) := match x with
  | .nopart => .ok none
  | _ => r.bind fun d => match d with
    | .int i => .ok (some i)
    | _ => .no
def isPart : Ex → Bool
  | .nopart => false
  | _ => true

/-- a module's table: is it a key, what stands there -/
def inTD (es : List (Str × D)) : D → Option D
  | .str z => some (.bool (es.lookup z).isSome)
  | _ => none
def atTD (es : List (Str × D)) : D → Option D
  | .str z => es.lookup z
  | _ => none
/-- no key is a tuple -/
def scKeys (kvs : List (D × D)) : Bool := kvs.all fun kv => !isTupK kv.1 && !isL kv.1
/-! objects: their class, a field, a method's def -/
def clsD : D → Option Str
  | .dict ((.list [], .str c) :: _) => some c
  | _ => none
def fldL (r : List (D × D)) (f : Str) : Option D := (r.find? fun kv => match kv.1 with
  | .list [.str g] => decide (g = f)
  | _ => false).map (·.2)
def atrD (cs : List Str) (f : Str) : D → Option D
  | .dict ((.list [], .str c) :: r) => if cs.contains c = true then fldL r f else none
  | _ => none
def methD (tb : List (Str × Str)) (m : Str) : D → Option Str
  | .dict ((.list [], .str c) :: r) => if (fldL r m).isSome = true then none else tb.lookup c
  | _ => none
/-- of which kind: not asked of an object -/
def isTO (t : Ty) (x : D) : Option D := if isOb x = true then none else some (.bool (isT t x))
def anyTO (ts : List Ty) (x : D) : Option D := if isOb x = true then none else some (.bool (anyT ts x))
theorem isTO_some {t : Ty} {x r : D} (h : isTO t x = some r) : isOb x = false ∧ r = .bool (isT t x) := by
  unfold isTO at h
  cases e : isOb x with
  | true => rw [e] at h; cases h
  | false => rw [e] at h; cases h; exact ⟨rfl, rfl⟩
theorem anyTO_some {t : List Ty} {x r : D} (h : anyTO t x = some r) : isOb x = false ∧ r = .bool (anyT t x) := by
  unfold anyTO at h
  cases e : isOb x with
  | true => rw [e] at h; cases h
  | false => rw [e] at h; cases h; exact ⟨rfl, rfl⟩
def evE (F : Str → List D → Res D) : List (Option D) → Ex → Res D
  | _, .cst d => .ok d
  | ν, .var i => match ν[i]? with
    | some (some d) => .ok d
    | _ => .no
  | ν, .bin op a b => (evE F ν a).bind fun x => (evE F ν b).bind fun y => .ofO (binD op x y)
  | ν, .neg a => (evE F ν a).bind fun x => .ofO (negD x)
  | ν, .cmp op a b => (evE F ν a).bind fun x => (evE F ν b).bind fun y => .ofO (cmpD op x y)
  | ν, .chn op op' a b c => (evE F ν a).bind fun x => (evE F ν b).bind fun y => (Res.ofO (cmpD op x y)).bind fun r => boolR r ((evE F ν c).bind fun z => .ofO (cmpD op' y z)) (.ok (.bool false))
  | ν, .and a b => (evE F ν a).bind fun x => boolR x (evE F ν b) (.ok (.bool false))
  | ν, .or a b => (evE F ν a).bind fun x => boolR x (.ok (.bool true)) (evE F ν b)
  | ν, .not a => (evE F ν a).bind fun x => (Res.ofO (truD x)).bind fun k => .ok (.bool (!k))
  | ν, .ite c a b => (evE F ν c).bind fun x => (Res.ofO (truD x)).bind fun k => if k = true then evE F ν a else evE F ν b
  | _, .anil => .ok (.list [])
  | ν, .acons a r => (evE F ν a).bind fun x => (evE F ν r).bind fun y => listR y fun ds => .ok (.list (x :: ds))
  | ν, .tup as => (evE F ν as).bind fun y => listR y fun ds => if ds.length ≤ sizeLine then .ok (.tuple ds) else .no
  | ν, .lst as => (evE F ν as).bind fun y => listR y fun ds => if ds.length ≤ sizeLine then .ok (.list ds) else .no
  | ν, .idx a b => (evE F ν a).bind fun x => (evE F ν b).bind fun y => .ofO (idxD x y)
  | ν, .slc a lo hi => (evE F ν a).bind fun x => (partE lo (evE F ν lo)).bind fun l => (partE hi (evE F ν hi)).bind fun h => .ofO (slcD x l h)
  | _, .nopart => .ok .none
  | ν, .call f as => (evE F ν as).bind fun y => listR y fun ds => F f ds
  | ν, .bf f as => (evE F ν as).bind fun y => listR y fun ds => .ofO (bfD f ds)
  | ν, .isi a t => (evE F ν a).bind fun x => .ofO (isTO t x)
  | ν, .isis a ts => (evE F ν a).bind fun x => .ofO (anyTO ts x)
  | ν, .join a b => (evE F ν a).bind fun x => (evE F ν b).bind fun y => .ofO (joinD x y)
  | ν, .seq a => (evE F ν a).bind fun x => match x with
    | .list ds => .ok (.list ds)
    | .tuple ds => .ok (.list ds)
    | .str z => .ok (.list (signs z))
    | _ => .no
  | ν, .rng a b => (evE F ν a).bind fun x => (evE F ν b).bind fun y => match x, y with
    | .int i, .int j => if near i = true ∧ near j = true then .ok (.list (rangeL i j)) else .no
    | _, _ => .no
  | ν, .zip a b => (evE F ν a).bind fun x => (evE F ν b).bind fun y => match x, y with
    | .list xs, .list ys => .ok (.list (pairs xs ys))
    | .tuple xs, .tuple ys => .ok (.list (pairs xs ys))
    | _, _ => .no
  | ν, .enu a => (evE F ν a).bind fun x => listR x fun xs => .ok (.list (countL 0 xs))
  | ν, .seqD i => match ν[i]? with
    | some (some (.dict kvs)) => if scKeys kvs = true ∧ kvs.length ≤ sizeLine then .ok (.list (kvs.map Prod.fst)) else .no
    | some (some (.list ds)) => .ok (.list ds)
    | some (some (.tuple ds)) => .ok (.list ds)
    | some (some (.str z)) => .ok (.list (signs z))
    | _ => .no
  | ν, .comp2 elt it it1 tg own tg1 own1 => (evE F ν it).bind fun y => listR y fun ds => (flatL (fun d => match setTg (wipeD ν own) tg d with
      | some ν' => (evE F ν' it1).noErr.bind fun y => listR y fun ds1 => compL (fun d => match setTg (wipeD ν' own1) tg1 d with
        | some ν' => (evE F ν' elt).noErr.bind fun x => .ok (some x)
        | none => .no) ds1
      | none => .no) ds).bind fun r => if r.length ≤ sizeLine then .ok (.list r) else .no
  | ν, .dsp a => (evE F ν a).bind fun y => listR y fun ds => (Res.ofO (dspD ds [])).bind fun r => .ok (.dict r)
  | ν, .dcomp kx vx it cond tg own => (evE F ν it).bind fun y => listR y fun ds => if ds.length ≤ sizeLine then
      (dcL (fun d => match setTg (wipeD ν own) tg d with
        | some ν' => (evE F ν' cond).noErr.bind fun c => (Res.ofO (truD c)).bind fun k => if k = true then (evE F ν' kx).noErr.bind fun x => (evE F ν' vx).noErr.bind fun y => .ok (some (x, y)) else .ok none
        | none => .no) ds []).bind fun r => .ok (.dict r) else .no
  | ν, .comp elt it cond tg own => (evE F ν it).bind fun y => listR y fun ds => if ds.length ≤ sizeLine then
      (compL (fun d => match setTg (wipeD ν own) tg d with
        | some ν' => (evE F ν' cond).noErr.bind fun c => (Res.ofO (truD c)).bind fun k => if k = true then (evE F ν' elt).noErr.bind fun x => .ok (some x) else .ok none
        | none => .no) ds).bind fun r => .ok (.list r) else .no
  | ν, .inT a es => (evE F ν a).bind fun x => .ofO (inTD es x)
  | ν, .atT a es => (evE F ν a).bind fun x => .ofO (atTD es x)
  | ν, .rev a => (evE F ν a).bind fun x => .ofO (revD x)
  | ν, .xis i cs => match ν[i]? with
    | some none => F "<is>" (cs.map .str)
    | _ => .no
  | ν, .xat i f => match ν[i]? with
    | some none => F "<at>" [.str f]
    | _ => .no
  | ν, .atr a f cs => (evE F ν a).bind fun x => .ofO (atrD cs f x)
  | ν, .meth a m tb as => (evE F ν a).bind fun x => (Res.ofO (methD tb m x)).bind fun g => (evE F ν as).bind fun y => listR y fun ds => F g (x :: ds)

/-! ### from the text -/
structure ErI where
  fs : List Str
  ups : List Str
/-- a class: its plain fields, its methods and their defs' names here -/
structure OCl where
  flds : List Str
  ms : List (Str × Str)
/-- the module: its defs and their numbers of parameters; constants; tables of data, of defs; own errors; classes that may be asked for; whether it is an except suite, and its name -/
structure Tbl where
  fns : List (Str × Nat)
  cons : List (Str × D)
  dcts : List (Str × List (Str × D)) := []
  ftabs : List (Str × List (Str × Str)) := []
  ers : List (Str × ErI) := []
  cls : List Str := []
  hot : Bool := false
  xv : Option Str := none
  frs : List Str := []
  ocls : List (Str × OCl) := []
  mfns : List (Str × Nat) := []
def visB (nm : List (Str × NameKind)) (x : Str) : Bool := match nm.lookup x with
  | some .local => true
  | some .cell => true
  | some .free => true
  | _ => false
def locB (nm : List (Str × NameKind)) (x : Str) : Bool := match nm.lookup x with
  | some .local => true
  | some .cell => true
  | _ => false
def glB (nm : List (Str × NameKind)) (x : Str) : Bool := match nm.lookup x with
  | some .globalImplicit => true
  | _ => false
def ixOf (x : Str) : List Str → Nat → Option Nat
  | [], _ => none
  | y :: ys, k => if y = x then some k else ixOf x ys (k + 1)
def bfOf (x : Str) (n : Nat) : Option Bf :=
  if x = "len" ∧ n = 1 then some .len else if x = "abs" ∧ n = 1 then some .abs else if x = "int" ∧ n = 1 then some .int else if x = "max" ∧ n = 2 then some .max2
  else if x = "min" ∧ n = 2 then some .min2 else if x = "repr" ∧ n = 1 then some .repr else if x = "str" ∧ n = 1 then some .str else if x = "all" ∧ n = 1 then some .all
  else if x = "any" ∧ n = 1 then some .any else if x = "tuple" ∧ n = 1 then some .tuple else if x = "list" ∧ n = 1 then some .list else if x = "sum" ∧ n = 1 then some .sum else if x = "sorted" ∧ n = 1 then some .sorted else none
def tyOf (x : Str) : Option Ty :=
  if x = "int" then some .int else if x = "str" then some .str else if x = "bool" then some .bool else if x = "tuple" then some .tuple else if x = "list" then some .list else none
def bltNames : List Str := ["len", "abs", "int", "max", "min", "repr", "str", "all", "any", "tuple", "list", "sum", "sorted", "isinstance", "bool", "range", "zip", "enumerate"]
def cArgs (f : Expr → Option Ex) : List Expr → Option Ex
  | [] => some .anil
  | e :: es => match f e, cArgs f es with
    | some a, some r => some (.acons a r)
    | _, _ => none
def cConst : Const → Option Ex
  | .none => some (.cst .none)
  | .bool b => some (.cst (.bool b))
  | .int i => some (.cst (.int i))
  | .str s => some (.cst (.str s))
  | _ => none
def cName (N : List Str) (nm : List (Str × NameKind)) (T : Tbl) (x : Str) : Option Ex :=
  if visB nm x = true then (if x = "__debug__" ∨ x = "__classdict__" then none else (ixOf x N 0).map .var)
  else if glB nm x = true ∧ x ≠ "__debug__" then (T.cons.lookup x).map .cst else none
def notSlice : Expr → Bool
  | .Slice _ _ _ _ => false
  | _ => true
def notSet : Expr → Bool
  | .Set _ _ _ => false
  | _ => true
def plainT : Expr → Bool
  | .BoolOp _ _ _ => false
  | .UnaryOp .Not _ _ => false
  | .IfExp _ _ _ _ => false
  | .Compare _ _ _ _ => false
  | _ => true
def testOk : Expr → Bool
  | .IfExp _ _ _ _ => false
  | _ => true
def cPart (f : Expr → Option Ex) : Option Expr → Option Ex
  | none => some .nopart
  | some e => match f e with
    | some x => if isPart x = true then some x else none
    | none => none
def cTys (nm : List (Str × NameKind)) : List Expr → Option (List Ty)
  | [] => some []
  | .Name x _ :: es => if glB nm x = true then (match tyOf x, cTys nm es with
    | some t, some r => some (t :: r)
    | _, _ => none) else none
  | _ => none
def tabOf (nm : List (Str × NameKind)) (T : Tbl) : Expr → Option (List (Str × D))
  | .Name y _ => if glB nm y = true ∧ y ≠ "__debug__" then T.dcts.lookup y else none
  | _ => none
/-- a module's table, asked for its keys -/
def inF (tb : List (Str × Str)) : List (Str × D) := tb.map fun p => (p.1, .none)
def inOf (nm : List (Str × NameKind)) (T : Tbl) : Expr → Option (List (Str × D))
  | .Name y _ => if glB nm y = true ∧ y ≠ "__debug__" then (match T.dcts.lookup y with
    | some es => some es
    | none => (T.ftabs.lookup y).map inF) else none
  | _ => none
/-- what is asked of an exception: its class, a field -/
def cClss (nm : List (Str × NameKind)) (T : Tbl) : List Expr → Option (List Str)
  | [] => some []
  | .Name c _ :: es => if glB nm c = true ∧ T.cls.contains c = true then (cClss nm T es).map (c :: ·) else none
  | _ => none
def cXq (N : List Str) (nm : List (Str × NameKind)) (T : Tbl) : Expr → Option Ex
  | .Call (.Name g _) [.Name y _, c] [] _ => if g = "isinstance" ∧ glB nm g = true ∧ T.xv = some y ∧ visB nm y = true ∧ y ≠ "__debug__" ∧ y ≠ "__classdict__" then (match ixOf y N 0, (match c with
      | .Tuple es _ _ => cClss nm T es
      | c => cClss nm T [c]) with
    | some i, some cs => if cs.length ≤ 1000 then some (.xis i cs) else none
    | _, _ => none) else none
  | .Attribute (.Name y _) f _ => if T.xv = some y ∧ visB nm y = true ∧ y ≠ "__debug__" ∧ y ≠ "__classdict__" then (ixOf y N 0).map fun i => .xat i f else none
  | _ => none
def cCall (N : List Str) (nm : List (Str × NameKind)) (T : Tbl) (f : Expr → Option Ex) (x : Str) (as : List Expr) : Option Ex :=
  if glB nm x = true ∧ x ≠ "__debug__" ∧ x ≠ "__name__" then
    (match T.fns.lookup x with
    | some n => if as.length = n ∧ T.hot = false then (cArgs f as).map (.call x) else none
    | none => if x = "isinstance" then (match as with
        | [a, .Name t _] => if glB nm t = true then (match f a, tyOf t with
            | some a', some t' => some (.isi a' t')
            | _, _ => none) else none
        | [a, .Tuple ts _ _] => (match f a, cTys nm ts with
            | some a', some ts' => if ts'.length ≤ 1000 then some (.isis a' ts') else none
            | _, _ => none)
        | _ => none)
      else match bfOf x as.length with
        | some b => if b.cold = true ∧ T.hot = true then none else (cArgs f as).map (.bf b)
        | none => none)
  else none
def cMeth (f : Expr → Option Ex) (o : Expr) (m : Str) (as : List Expr) (ln : Bool) : Option Ex :=
  match o, as with
  | .Constant (.str y) _ _, [a] => if m = "join" ∧ ln = true then (f a).map (.join (.cst (.str y))) else none
  | _, _ => none
def cTgs (N : List Str) (nm : List (Str × NameKind)) : List Expr → Option (List Nat)
  | [] => some []
  | .Name x _ :: es => if locB nm x = true then (match ixOf x N 0, cTgs N nm es with
    | some i, some r => some (i :: r)
    | _, _ => none) else none
  | _ => none
def cTg (N : List Str) (nm : List (Str × NameKind)) : Expr → Option (Sum Nat (List Nat))
  | .Name x _ => if locB nm x = true then (ixOf x N 0).map .inl else none
  | .Tuple es _ _ => (cTgs N nm es).map .inr
  | _ => none
def tgIn (own : List Nat) : Sum Nat (List Nat) → Bool
  | .inl i => own.contains i
  | .inr is => is.all fun i => own.contains i
def isTupE : Expr → Bool
  | .Tuple _ _ _ => true
  | _ => false
def cIter (nm : List (Str × NameKind)) (T : Tbl) (f : Expr → Option Ex) (tg e : Expr) : Option Ex :=
  match e with
  | .Call (.Name x _) as [] _ => if x = "range" then (if glB nm x = true then (match as with
      | [a] => (f a).map (.rng (.cst (.int 0)))
      | [a, b] => (match f a, f b with
        | some a', some b' => some (.rng a' b')
        | _, _ => none)
      | _ => none) else none)
    else if x = "zip" then (if glB nm x = true ∧ isTupE tg = true then (match as with
      | [a, b] => (match f a, f b with
        | some a', some b' => some (.zip a' b')
        | _, _ => none)
      | _ => none) else none)
    else if x = "enumerate" then (if glB nm x = true ∧ isTupE tg = true then (match as with
      | [a] => (f a).map .enu
      | _ => none) else none)
    else (f e).map .seq
  | _ => if notSet e = true then (f e).map .seq else none
def ownOf (N : List Str) : List (Str × NameKind) → List (Str × Nat)
  | [] => []
  | (x, k) :: r => if k = .local ∨ k = .cell then (match ixOf x N 0 with
    | some i => (x, i) :: ownOf N r
    | none => ownOf N r) else ownOf N r
def cBool (f : Expr → Option Ex) (op : BoolOp) : List Expr → Option Ex
  | [] => none
  | [a] => f a
  | a :: b :: es => match f a, cBool f op (b :: es) with
    | some a', some r => some (match op with
      | .And => .and a' r
      | .Or => .or a' r)
    | _, _ => none
def tgSl : Sum Nat (List Nat) → List Nat
  | .inl i => [i]
  | .inr is => is
/-- a display's keys and values, in turn -/
def cDsp (f : Expr → Option Ex) : List (Option Expr) → List Expr → Option Ex
  | [], [] => some .anil
  | some k :: ks, v :: vs => match f k, f v, cDsp f ks vs with
    | some k', some v', some r => some (.acons k' (.acons v' r))
    | _, _, _ => none
  | _, _ => none
/-- what a comprehension walks: a name's thing may be a dict -/
def seqC (e : Expr) (x : Ex) : Ex := match e, x with
  | .Name _ _, .seq (.var i) => .seqD i
  | _, x => x
/-- whose attribute may be read -/
def attO : Expr → Bool
  | .Name _ _ => true
  | .Attribute _ _ _ => true
  | .Subscript _ _ _ => true
  | _ => false
/-- the classes with this field -/
def clsWith (T : Tbl) (f : Str) : List Str := (T.ocls.filter fun p => p.2.flds.contains f).map (·.1)
/-- the defs of this method, by class -/
def methsOf (T : Tbl) (m : Str) (n : Nat) : List (Str × Str) := T.ocls.filterMap fun p => match p.2.ms.lookup m with
  | some g => if T.mfns.lookup g = some n then some (p.1, g) else none
  | none => none
def cE (N : List Str) (T : Tbl) : Nat → Scope → Expr → Option Ex
  | 0, _, _ => none
  | n + 1, sc, e => match e with
    | .Constant c _ _ => cConst c
    | .Name x _ => cName N sc.names T x
    | .BinOp a op b _ => (match cE N T n sc a, cE N T n sc b with
      | some a', some b' => some (.bin op a' b')
      | _, _ => none)
    | .UnaryOp .USub a _ => (cE N T n sc a).map .neg
    | .UnaryOp .Not a _ => if testOk a = true then (cE N T n sc a).map .not else none
    | .BoolOp op vs _ => if vs.all testOk = true ∧ 2 ≤ vs.length then cBool (cE N T n sc) op vs else none
    | .Compare a [op] [b] _ => match inOf sc.names T b with
      | some es => (match op with
        | .In => (cE N T n sc a).map fun a' => .inT a' es
        | .NotIn => (cE N T n sc a).map fun a' => .not (.inT a' es)
        | _ => none)
      | none => if behindInMarks op b = false then (match cE N T n sc a, cE N T n sc b with
      | some a', some b' => some (.cmp op a' b')
      | _, _ => none) else none
    | .Compare a [op, op'] [b, c] _ => if lastMarks [op, op'] [b, c] = false then (match cE N T n sc a, cE N T n sc b, cE N T n sc c with
      | some a', some b', some c' => some (.chn op op' a' b' c')
      | _, _, _ => none) else none
    | .IfExp c a b _ => if testOk c = true then (match cE N T n sc c, cE N T n sc a, cE N T n sc b with
      | some c', some a', some b' => some (.ite c' a' b')
      | _, _, _ => none) else none
    | .Tuple es _ _ => (cArgs (cE N T n sc) es).map .tup
    | .List es _ => (cArgs (cE N T n sc) es).map .lst
    | .Subscript a (.Slice none none (some (.UnaryOp .USub (.Constant (.int 1) _ _) _)) _) _ => (cE N T n sc a).map .rev
    | .Subscript a (.Slice lo hi none _) _ => (match cE N T n sc a, cPart (cE N T n sc) lo, cPart (cE N T n sc) hi with
      | some a', some l', some h' => some (.slc a' l' h')
      | _, _, _ => none)
    | .Subscript a b _ => match tabOf sc.names T a with
      | some es => if notSlice b = true then (cE N T n sc b).map fun b' => .atT b' es else none
      | none => if notSlice b = true then (match cE N T n sc a, cE N T n sc b with
      | some a', some b' => some (.idx a' b')
      | _, _ => none) else none
    | .Call (.Name x p) as [] pos => match cXq N sc.names T (.Call (.Name x p) as [] pos) with
      | some y => some y
      | none => cCall N sc.names T (cE N T n sc) x as
    | .Attribute o m p => (match cXq N sc.names T (.Attribute o m p) with
      | some y => some y
      | none => if T.hot = false ∧ attO o = true then (cE N T n sc o).map fun a => .atr a m (clsWith T m) else none)
    | .Call (.Attribute o m ap) as [] cp => (match cMeth (cE N T n sc) o m as (ap.endLine == cp.line) with
      | some y => some y
      | none => if T.hot = false ∧ attO o = true ∧ (ap.endLine == cp.line) = true ∧ as.length ≤ 20 ∧ (methsOf T m (as.length + 1)).isEmpty = false then (match cE N T n sc o, cArgs (cE N T n sc) as with
        | some a, some x => some (.meth a m (methsOf T m (as.length + 1)) x)
        | _, _ => none) else none)
    | .ListComp elt [⟨tg, iter, ifs, 0⟩] scope _ => if notSet iter = true ∧ blkC N sc scope (ownOf N scope.names) = true ∧ T.hot = false then
        (match (cIter sc.names T (cE N T n sc) tg iter).map (seqC iter), cTg N scope.names tg, cE N T n (relS scope sc) elt with
        | some it', some tg', some el' => if tgIn ((ownOf N scope.names).map (·.2)) tg' = true then (match ifs with
          | [] => some (.comp el' it' (.cst (.bool true)) tg' ((ownOf N scope.names).map (·.2)))
          | [c] => if testOk c = true then (cE N T n (relS scope sc) c).map fun c' => .comp el' it' c' tg' ((ownOf N scope.names).map (·.2)) else none
          | _ => none) else none
        | _, _, _ => none) else none
    | .ListComp elt [⟨tg, iter, [], 0⟩, ⟨tg1, iter1, [], 0⟩] scope _ => if notSet iter = true ∧ notSet iter1 = true ∧ blkC N sc scope (ownOf N scope.names) = true ∧ T.hot = false then
        (match cIter sc.names T (cE N T n sc) tg iter, cTg N scope.names tg, cE N T n (relS scope sc) elt, cIter (relS scope sc).names T (cE N T n (relS scope sc)) tg1 iter1, cTg N scope.names tg1 with
        | some it', some tg', some el', some it1', some tg1' => if tgIn ((ownOf N scope.names).map (·.2)) tg' = true ∧ (tgSl tg1').all (fun i => ((ownOf N scope.names).map (·.2)).contains i) = true then some (.comp2 el' it' it1' tg' ((ownOf N scope.names).map (·.2)) tg1' (tgSl tg1')) else none
        | _, _, _, _, _ => none) else none
    | .Dict (k :: ks) vs _ => if ks.length ≤ 14 then (cDsp (cE N T n sc) (k :: ks) vs).map .dsp else none
    | .DictComp kx vx [⟨tg, iter, ifs, 0⟩] scope _ => if notSet iter = true ∧ blkC N sc scope (ownOf N scope.names) = true ∧ T.hot = false then
        (match (cIter sc.names T (cE N T n sc) tg iter).map (seqC iter), cTg N scope.names tg, cE N T n (relS scope sc) kx, cE N T n (relS scope sc) vx with
        | some it', some tg', some kx', some vx' => if tgIn ((ownOf N scope.names).map (·.2)) tg' = true then (match ifs with
          | [] => some (.dcomp kx' vx' it' (.cst (.bool true)) tg' ((ownOf N scope.names).map (·.2)))
          | [c] => if testOk c = true then (cE N T n (relS scope sc) c).map fun c' => .dcomp kx' vx' it' c' tg' ((ownOf N scope.names).map (·.2)) else none
          | _ => none) else none
        | _, _, _, _ => none) else none
    | _ => none
end Pe

set_option Elab.async false
set_option linter.all false
set_option maxRecDepth 100000
set_option maxHeartbeats 4000000
/-! Pe6: what is read off a text is what the machine does: expressions. -/
namespace Pe
open PySem L2

/-- a def's promise where no repr runs around -/
structure FnG (P : Program) (w : World) (K : Fg) (mg : Str → Option Value) (base : Heap) (k : Nat) (f : Addr) (fd : FuncData) (ps : List Str) (sp : Sp) : Prop where
  len : ∀ vs H Q E, sp vs H Q E → vs.length = ps.length
  run : ∀ (A : Around) (outer : List Env) (s : Shared) (H : Hp) (args : Args) (us : List Value) (vs : List V) (Q : VK) (E : XK),
    Room k A → A.guards = some [] → Env0 P w K mg base A outer s H → BindsTo s fd args (ps.zip us) → Vals vs us → sp vs H Q E →
    codeAny (model P w) A (.call (.ref f) args) (CR (L2.CX P w) outer P w H s Q E) s

/-- what a def of data promises -/
def spD (K : Fg) (co : Co) (n : Nat) (f : List D → Res D) : Sp := fun vs H Q E => ∃ G ds, Same G H ∧ DqAll K G vs ds ∧ ds.length = n ∧ Pst K co E (f ds) G H Q
/-- a result and what is to follow, of any kind -/
def PsR {α : Type} (K : Fg) (co : Co) (E : XK) (r : Res α) (G H : Hp) (k : α → Prop) : Prop := match r with
  | .ok a => k a
  | .err e => EW K co E e G H
  | .no => False
/-- .. a def that gives a new list -/
def FrL (K : Fg) (G H : Hp) (Q : VK) (r : List D) : Prop := ∀ L acc G' H', Nx G H G' H' → G' L = none → H L = none → H' L = some (.lst acc) → DqAll K G' acc r → Q (.ref L) H'
def spF (K : Fg) (co : Co) (n : Nat) (f : List D → Res D) : Sp := fun vs H Q E => ∃ G ds, Same G H ∧ DqAll K G vs ds ∧ ds.length = n ∧ PsR K co E ((f ds).bind fun y => listR y .ok) G H (FrL K G H Q)
structure Held1 (X : Cx) (co : Co) (n : Nat) (f g : List D → Res D) (x : Str) : Prop where
  fr : ∃ (a : Addr) (fd : FuncData) (ps : List Str) (k : Nat), FnG X.prog X.w X.kx X.mg X.base k a fd ps (spF X.kx co n g) ∧ Room k X.A ∧ X.mg x = some (.ref a) ∧ PySem.W.keepIn X.kx (.ref a) = true ∧ Binds X.kx fd ps []
  ex : ∃ (a : Addr) (fd : FuncData) (ps : List Str) (k : Nat), FnG X.prog X.w X.kx X.mg X.base k a fd ps (spD X.kx co n f) ∧ Room k X.A ∧ X.mg x = some (.ref a) ∧ PySem.W.keepIn X.kx (.ref a) = true ∧ Binds X.kx fd ps []
/-- a module's dict with text keys: of data, of defs -/
structure TabD (K : Fg) (w : World) (d : Addr) (es : List (Str × D)) : Prop where
  kd : ∃ en n, KDict K w d en n
  get : ∀ z x, es.lookup z = some x → ∃ u v, PySem.W.nsIn K d z = some (some u) ∧ RelV v u ∧ ∀ G, Dq K G v x
  non : ∀ z, es.lookup z = none → PySem.W.nsIn K d z = some none
structure TabF (K : PySem.W.Frag) (mg : Str → Option Value) (w : World) (d : Addr) (es : List (Str × Str)) : Prop where
  kd : ∃ en n, KDict K w d en n
  get : ∀ z g, es.lookup z = some g → ∃ a, PySem.W.nsIn K d z = some (some (.ref a)) ∧ mg g = some (.ref a)
  non : ∀ z, es.lookup z = none → PySem.W.nsIn K d z = some none
/-- such a dict, as far as its keys go -/
structure TabI (K : PySem.W.Frag) (w : World) (d : Addr) (es : List (Str × D)) : Prop where
  kd : ∃ en n, KDict K w d en n
  get : ∀ z x, es.lookup z = some x → ∃ u, PySem.W.nsIn K d z = some (some u)
  non : ∀ z, es.lookup z = none → PySem.W.nsIn K d z = some none
theorem TabD.toI {K : Fg} {w : World} {d : Addr} {es : List (Str × D)} (t : TabD K w d es) : TabI K.K w d es :=
  ⟨t.kd, fun z x h => let ⟨u, _, h1, _⟩ := t.get z x h; ⟨u, h1⟩, t.non⟩
theorem inF_look (z : Str) : ∀ tb : List (Str × Str), (inF tb).lookup z = (tb.lookup z).map fun _ => PyData.none
  | [] => rfl
  | (x, g) :: tb => by
    show List.lookup z ((x, PyData.none) :: inF tb) = _
    simp only [List.lookup]
    cases z == x
    · exact inF_look z tb
    · rfl
theorem TabF.toI {K : PySem.W.Frag} {mg : Str → Option Value} {w : World} {d : Addr} {tb : List (Str × Str)} (t : TabF K mg w d tb) : TabI K w d (inF tb) :=
  ⟨t.kd, fun z x h => by
    rw [inF_look] at h
    cases e : tb.lookup z with
    | none => rw [e] at h; cases h
    | some g => exact let ⟨a, h1, _⟩ := t.get z g e; ⟨_, h1⟩, fun z h => t.non z (by
      rw [inF_look] at h
      cases e : tb.lookup z with
      | none => rfl
      | some g => rw [e] at h; cases h)⟩
def tE (K : Fg) (z : Zx) (co : Co) (F : Str → List D → Res D) (E : St → XK) (x : Ex) : TE := fun σ H Q => ∃ ν G, RepV K z σ ν G H ∧ Pst K co (E σ) (evE F ν x) G H Q
/-- a method is at hand -/
structure HeldM (X : Cx) (co : Co) (n : Nat) (f : List D → Res D) (C : Addr) (m : Str) : Prop where
  ex : ∃ (a : Addr) (fd : FuncData) (ps : List Str) (k : Nat), FnG X.prog X.w X.kx X.mg X.base k a fd ps (spD X.kx co n f) ∧ Room k X.A ∧ Meth X.K C m a ∧ Binds X.kx fd ps []
/-- a class is at hand -/
structure ClsM (X : Cx) (T : Tbl) (F : Str → List D → Res D) (co : Co) (c : Str) (oc : OCl) : Prop where
  ex : ∃ C, cnOf X.K c = some C ∧ Cls X.K C ∧ (∀ f ∈ oc.flds, NoAttr X.K C f) ∧ ∀ m g n, oc.ms.lookup m = some g → T.mfns.lookup g = some n → HeldM X co n (F g) C m
structure Ok1 (X : Cx) (T : Tbl) (F : Str → List D → Res D) (z : Zx) (co : Co) (E : St → XK) : Prop where
  nd : X.N.Nodup
  calm : T.hot = false → X.calm = true
  gd : X.A.guards = some []
  hu : X.A.units + 65 < cLine
  blt : ∀ x ∈ bltNames, X.mg x = none
  call : T.hot = false → ∀ f n, T.fns.lookup f = some n → Held1 X co n (F f) (fun ds => F "<new>" (.str f :: ds)) f
  gl : ∀ x d, T.cons.lookup x = some d → ∃ u v, X.mg x = some u ∧ RelV v u ∧ ∀ G, Dq X.kx G v d
  dct : ∀ y es, T.dcts.lookup y = some es → ∃ d : Addr, X.mg y = some (.ref d) ∧ TabD X.kx X.w d es
  ftb : ∀ y es, T.ftabs.lookup y = some es → ∃ d : Addr, X.mg y = some (.ref d) ∧ TabF X.kx X.mg X.w d es
  pas : T.hot = false → ∀ σ, PassesAt (L2.CX X.prog X.w) X σ (E σ)
  cool : T.hot = false → T.xv = none
  xq : ∀ e x, cXq X.N X.env.scope.names T e = some x → PE X e (tE X.kx z co F E x)
  obj : T.hot = false → ∀ c oc, (c, oc) ∈ T.ocls → ClsM X T F co c oc
theorem xq_cool {N : List Str} {nm : List (Str × NameKind)} {T : Tbl} {e : Expr} (h : T.xv = none) : cXq N nm T e = none := by
  unfold cXq
  split
  · rw [h, if_neg (fun q => by cases q.2.2.1)]
  · rw [h, if_neg (fun q => by cases q.1)]
  · rfl

def tT (K : Fg) (z : Zx) (co : Co) (F : Str → List D → Res D) (E : St → XK) (x : Ex) : TT := fun σ H Q => ∃ ν G, RepV K z σ ν G H ∧
  PsR K co (E σ) ((evE F ν x).bind fun d => Res.ofO (truD d)) G H fun b => ∀ G' H', Nx G H G' H' → Q b H'
def tA (K : Fg) (z : Zx) (co : Co) (F : Str → List D → Res D) (E : St → XK) (x : Ex) : TA := fun σ H Q => ∃ ν G, RepV K z σ ν G H ∧
  PsR K co (E σ) ((evE F ν x).bind fun d => listR d .ok) G H fun ds => ∀ vs G' H', Nx G H G' H' → DqAll K G' vs ds → Q vs H'
/-- a walk that gives these data -/
def WalkD (K : Fg) (J : It) (ds : List D) (G : Hp) : Prop := ∃ Y, Walk J ds.length (fun H => Same G H) Y ∧
  ∀ (i : Nat) (d : D) (G1 H1 H2 : Hp) (v : V), ds[i]? = some d → Same G G1 → Same G1 H1 → Y i H1 v H2 → ∃ G2, Nx G1 H1 G2 H2 ∧ Dq K G2 v d
/-- .. walks of a kind -/
def tIg (W : It → List D → Hp → Prop) (K : Fg) (z : Zx) (co : Co) (F : Str → List D → Res D) (E : St → XK) (x : Ex) : TI := fun σ H R => ∃ ν G, RepV K z σ ν G H ∧
  PsR K co (E σ) ((evE F ν x).bind fun d => listR d .ok) G H fun ds => ∀ J G' H', Nx G H G' H' → W J ds G' → R J H'
def tI (K : Fg) (z : Zx) (co : Co) (F : Str → List D → Res D) (E : St → XK) (x : Ex) : TI := tIg (WalkD K) K z co F E x


section
variable {K : Fg} {z : Zx} {co : Co} {E : XK} {G H : Hp}
theorem PsR.mono {α : Type} {r : Res α} {k k' : α → Prop} {G1 H1 : Hp} (h : PsR K co E r G H k) (x : Nx G H G1 H1) (kk : ∀ x, r = .ok x → k x → k' x) : PsR K co E r G1 H1 k' := by
  cases r with
  | ok x => exact kk x rfl h
  | err e => exact EW.mono h x
  | no => exact h
theorem Pst.toR {r : Res D} {Q : VK} (h : Pst K co E r G H Q) : PsR K co E r G H fun d => ∀ v G' H', Nx G H G' H' → Dq K G' v d → Q v H' := by
  cases r <;> exact h
theorem PsR.toP {r : Res D} {Q : VK} (h : PsR K co E r G H fun d => ∀ v G' H', Nx G H G' H' → Dq K G' v d → Q v H') : Pst K co E r G H Q := by
  cases r <;> exact h
/-- an expression, then something with its value -/
theorem tE.then {E : St → XK} {F : Str → List D → Res D} {x : Ex} {σ : St} {ν : List (Option D)} {α : Type} {f : D → Res α} {k : α → Prop} {Q : VK} (R : RepV K z σ ν G H) (h : PsR K co (E σ) ((evE F ν x).bind f) G H k)
    (kk : ∀ (d : D) (v : V) (G' H' : Hp), evE F ν x = .ok d → Nx G H G' H' → Dq K G' v d → RepV K z σ ν G' H' → PsR K co (E σ) (f d) G' H' k → Q v H') : tE K z co F E x σ H Q := by
  refine ⟨ν, G, R, ?_⟩
  cases e : evE F ν x with
  | ok d =>
    rw [e] at h
    exact fun v G' H' h1 h4 => kk d v G' H' e h1 h4 (R.mono h1) (PsR.mono (r := f d) h h1 fun _ _ z => z)
  | err e' =>
    rw [e] at h
    exact h
  | no =>
    rw [e] at h
    exact h
theorem PsR.ofO {α : Type} {o : Option α} {k : α → Prop} (h : PsR K co E (Res.ofO o) G H k) : ∃ a, o = some a ∧ k a := by
  cases o with
  | none => exact h.elim
  | some a => exact ⟨a, rfl, h⟩
theorem Pst.ofO {o : Option D} {Q : VK} (h : Pst K co E (Res.ofO o) G H Q) : ∃ d, o = some d ∧ PsO K d G H Q := by
  cases o with
  | none => exact h.elim
  | some a => exact ⟨a, rfl, h⟩
end

section
variable {X : Cx} {T : Tbl} {F : Str → List D → Res D} {z : Zx} {co : Co} {E : St → XK}

/-! ### names -/
theorem vis_of {nm : List (Str × NameKind)} {sc : Scope} {x : Str} (e : sc.names = nm) (h : visB nm x = true) : Vis sc x := by
  subst e
  unfold visB at h
  unfold Vis
  cases q : sc.names.lookup x with
  | none => rw [q] at h; cases h
  | some k => cases k <;> simp_all
theorem loc_of {sc : Scope} {x : Str} (h : locB sc.names x = true) : L2.Loc sc x := by
  unfold locB at h
  unfold L2.Loc
  cases q : sc.names.lookup x with
  | none => rw [q] at h; cases h
  | some k => cases k <;> simp_all
theorem gl_of {x : Str} (h : glB X.env.scope.names x = true) : Gl X x := by
  unfold glB at h
  show X.env.scope.names.lookup x = some .globalImplicit
  cases q : X.env.scope.names.lookup x with
  | none => rw [q] at h; cases h
  | some k => cases k <;> simp_all
theorem ixOf_some {x : Str} : ∀ {N : List Str} {k i : Nat}, ixOf x N k = some i → k ≤ i ∧ N[i - k]? = some x
  | [], _, _, h => by cases h
  | y :: ys, k, i, h => by
    unfold ixOf at h
    by_cases e : y = x
    · rw [if_pos e] at h
      cases h
      exact ⟨Nat.le_refl _, by simp [e]⟩
    · rw [if_neg e] at h
      obtain ⟨h1, h2⟩ := ixOf_some h
      refine ⟨by omega, ?_⟩
      rw [show i - k = (i - (k + 1)) + 1 by omega]
      simpa using h2
theorem ixOf_get {x : Str} {N : List Str} {i : Nat} (h : ixOf x N 0 = some i) : N[i]? = some x := (ixOf_some h).2
theorem pe_cst {e : Expr} {v : V} {d : D} (h : PE X e (tC v)) (r : ∀ G, Dq X.kx G v d) : PE X e (tE X.kx z co F E (.cst d)) :=
  pe_imp h fun σ H Q ⟨ν, G, R, p⟩ => p v G H (Nx.refl R.same) (r G)
theorem snd_const {c : Const} {k : Nat} {p : Pos} {x : Ex} (h : cConst c = some x) : PE X (.Constant c k p) (tE X.kx z co F E x) := by
  cases c with
  | none => cases h; exact pe_cst pe_non fun _ => .non
  | bool b => cases h; exact pe_cst pe_bl fun _ => .bl b
  | int b => cases h; exact pe_cst pe_int fun _ => .int b
  | str b => cases h; exact pe_cst pe_str fun _ => .str b
  | _ => cases h
theorem ne_beq {a b : Str} (h : a ≠ b) : (a == b) = false := by simp [h]
theorem snd_name (O : Ok1 X T F z co E) {y : Str} {p : Pos} {x : Ex} (h : cName X.N X.env.scope.names T y = some x) : PE X (.Name y p) (tE X.kx z co F E x) := by
  unfold cName at h
  by_cases hv : visB X.env.scope.names y = true
  · rw [if_pos hv] at h
    by_cases hd : y = "__debug__" ∨ y = "__classdict__"
    · rw [if_pos hd] at h; cases h
    · rw [if_neg hd] at h
      rw [not_or] at hd
      cases e : ixOf y X.N 0 with
      | none => rw [e] at h; cases h
      | some i =>
        rw [e] at h
        cases h
        refine pe_imp (pe_var (ixOf_get e) (vis_of rfl hv) (ne_beq hd.1) (ne_beq hd.2)) fun σ H Q ⟨ν, G, R, p⟩ => ?_
        simp only [evE] at p
        split at p
        · rename_i d q
          obtain ⟨v, h1, h2⟩ := R.get i d q
          exact ⟨v, h1, p v G H (Nx.refl R.same) h2⟩
        · exact p.elim
  · rw [if_neg hv] at h
    by_cases hg : glB X.env.scope.names y = true ∧ y ≠ "__debug__"
    · rw [if_pos hg] at h
      cases e : T.cons.lookup y with
      | none => rw [e] at h; cases h
      | some d =>
        rw [e] at h
        cases h
        obtain ⟨u, v, h1, h2, h3⟩ := O.gl y d e
        exact pe_cst (pe_glob (gl_of hg.1) h1 h2 (ne_beq hg.2)) h3
    · rw [if_neg hg] at h; cases h

/-! ### argument lists -/
theorem star_of {e : Expr} {es : List Expr} {env : Env} (h : ∀ a p, e ≠ .Starred a p) : starEach (e :: es) env = (false, eval e env) :: starEach es env := by
  cases e with
  | Starred a p => exact absurd rfl (h a p)
  | _ => rfl
theorem cE_star {N : List Str} {n : Nat} {sc : Scope} {e : Expr} {x : Ex} (h : cE N T n sc e = some x) : ∀ a p, e ≠ .Starred a p := by
  rintro a p rfl
  cases n <;> cases h
/-- what holds of the parts -/
structure Snd (X : Cx) (T : Tbl) (F : Str → List D → Res D) (z : Zx) (co : Co) (E : St → XK) (f : Expr → Option Ex) : Prop where
  e : ∀ a x, f a = some x → PE X a (tE X.kx z co F E x)
  t : ∀ a x, f a = some x → testOk a = true → PT X a (tT X.kx z co F E x)
  star : ∀ a x, f a = some x → ∀ b p, a ≠ .Starred b p
theorem args_star {f : Expr → Option Ex} (S : Snd X T F z co E f) : ∀ {es : List Expr} {x : Ex}, cArgs f es = some x → ∀ a ∈ es, ∀ b p, a ≠ .Starred b p
  | [], _, _, a, ha => by cases ha
  | e :: es, x, h, a, ha => by
    unfold cArgs at h
    cases e1 : f e with
    | none => rw [e1] at h; cases h
    | some a1 =>
      cases e2 : cArgs f es with
      | none => rw [e1, e2] at h; cases h
      | some r =>
        rcases List.mem_cons.mp ha with rfl | ha
        · exact S.star _ _ e1
        · exact args_star S e2 a ha
theorem snd_args {f : Expr → Option Ex} (S : Snd X T F z co E f) : ∀ {es : List Expr} {x : Ex}, cArgs f es = some x → PA X es (tA X.kx z co F E x)
  | [], x, h => by
    cases h
    exact pa_imp pa_nil fun σ H Q ⟨ν, G, R, p⟩ => p [] G H (Nx.refl R.same) .nil
  | e :: es, x, h => by
    have hs := args_star S h e List.mem_cons_self
    unfold cArgs at h
    cases e1 : f e with
    | none => rw [e1] at h; cases h
    | some a1 =>
      cases e2 : cArgs f es with
      | none => rw [e1, e2] at h; cases h
      | some r =>
        rw [e1, e2] at h
        cases h
        refine pa_imp (pa_cons (S.e _ _ e1) (snd_args S e2) (star_of hs)) fun σ H Q ⟨ν, G, R, p⟩ => ?_
        have p' : PsR X.kx co (E σ) ((evE F ν a1).bind fun x => (evE F ν r).bind fun y => listR y fun ds => .ok (x :: ds)) G H fun ds => ∀ vs G' H', Nx G H G' H' → DqAll X.kx G' vs ds → Q vs H' := by
          revert p
          simp only [evE]
          cases evE F ν a1 with
          | ok d =>
            cases evE F ν r with
            | ok y => cases y <;> exact id
            | err _ => exact id
            | no => exact id
          | err _ => exact id
          | no => exact id
        refine tE.then R p' fun d v G1 H1 _ s hv R1 p1 => ⟨ν, G1, R1, ?_⟩
        revert p1
        cases evE F ν r with
        | ok y =>
          cases y with
          | list ds => exact fun p1 vs G2 H2 t ha => p1 (v :: vs) G2 H2 (s.trans t) (.cons (dp_same t.g _ _ hv) ha)
          | _ => exact id
        | err _ => exact id
        | no => exact id
end
end Pe

set_option Elab.async false
set_option linter.all false
set_option maxRecDepth 100000
set_option maxHeartbeats 4000000
/-! Pe7: expressions, by their forms. -/
namespace Pe
open PySem L2
section
variable {X : Cx} {T : Tbl} {F : Str → List D → Res D} {z : Zx} {co : Co} {E : St → XK} {f : Expr → Option Ex}

theorem tru_of {K : Fg} {G H : Hp} {v : V} {d : D} {k : Bool} (h : Dq K G v d) (s : Same G H) (e : truD d = some k) : TruV K v H k := by
  cases h with
  | non => cases e; rfl
  | bl b => cases e; rfl
  | int i => cases e; rfl
  | str z =>
    obtain ⟨h1, rfl⟩ := of_ite_some e
    exact ⟨h1, rfl⟩
  | lst h a =>
    cases e
    refine .inl ⟨_, (ls_same s h).sq, ?_⟩
    have := dpa_nil_iff a
    cases a <;> rfl
  | tup h a =>
    cases e
    refine .inr (.inl ⟨_, seqT_same s h, ?_⟩)
    cases a <;> rfl
  | dctK _ _ => cases e
  | dctT _ _ _ => cases e
  | obj _ _ _ => cases e

/-! ### forms of values -/
theorem snd_bin (S : Snd X T F z co E f) {op : Operator} {a b : Expr} {p : Pos} {a' b' : Ex} (h1 : f a = some a') (h2 : f b = some b') : PE X (.BinOp a op b p) (tE X.kx z co F E (.bin op a' b')) := by
  refine pe_imp (pe_op (op_binD op) (S.e _ _ h1) (S.e _ _ h2)) fun σ H Q ⟨ν, G, R, q⟩ => ?_
  simp only [evE] at q
  refine tE.then R q.toR fun d v G1 H1 _ s hv R1 q1 => tE.then R1 q1 fun d2 v2 G2 H2 _ t hv2 R2 q2 => ?_
  obtain ⟨r, e, k⟩ := q2.ofO
  exact ⟨G2, d, d2, r, t.s, dp_same t.g _ _ hv, hv2, e, fun v3 G3 H3 u hv3 => k v3 G3 H3 (s.trans (t.trans u)) hv3⟩
theorem snd_cmp (O : Ok1 X T F z co E) (S : Snd X T F z co E f) {op : CmpOp} {a b : Expr} {p : Pos} {a' b' : Ex} (hm : behindInMarks op b = false) (h1 : f a = some a') (h2 : f b = some b') : PE X (.Compare a [op] [b] p) (tE X.kx z co F E (.cmp op a' b')) := by
  refine pe_imp (pe_cmpR (op_cmpD O.hu op) (S.e _ _ h1) (S.e _ _ h2) hm) fun σ H Q ⟨ν, G, R, q⟩ => ?_
  simp only [evE] at q
  refine tE.then R q.toR fun d v G1 H1 _ s hv R1 q1 => tE.then R1 q1 fun d2 v2 G2 H2 _ t hv2 R2 q2 => ?_
  obtain ⟨r, e, k⟩ := q2.ofO
  exact ⟨G2, d, d2, r, t.s, dp_same t.g _ _ hv, hv2, e, fun v3 G3 H3 u hv3 => k v3 G3 H3 (s.trans (t.trans u)) hv3⟩
theorem cmp_bool {op : CmpOp} {x y r : D} (h : cmpD op x y = some r) : ∃ b, r = .bool b := by
  cases op with
  | NotEq => obtain ⟨b, _, e⟩ := of_nD h; exact ⟨_, e⟩
  | IsNot => obtain ⟨b, _, e⟩ := of_nD h; exact ⟨_, e⟩
  | NotIn => obtain ⟨b, _, e⟩ := of_nD h; exact ⟨_, e⟩
  | _ => obtain ⟨b, _, e⟩ := of_bD h; exact ⟨_, e⟩
/-- the chain's reading, whatever is to follow -/
theorem chn_go (O : Ok1 X T F z co E) (S : Snd X T F z co E f) {op op' : CmpOp} {a b c : Expr} {a' b' c' : Ex} {σ : St} {ν : List (Option D)} {G H : Hp} {Q : VK} (h1 : f a = some a') (h2 : f b = some b') (h3 : f c = some c') (R : RepV X.kx z σ ν G H)
    (q : PsR X.kx co (E σ) (evE F ν (.chn op op' a' b' c')) G H fun d => ∀ v G' H', Nx G H G' H' → Dq X.kx G' v d → Q v H') :
    tChain (rD2 X.kx (cmpD op)) (rD2 X.kx (cmpD op')) (tE X.kx z co F E a') (tE X.kx z co F E b') (tE X.kx z co F E c') σ H Q := by
  simp only [evE] at q
  refine tE.then R q fun d v G1 H1 _ s hv R1 q1 => tE.then R1 q1 fun d2 v2 G2 H2 _ t hv2 R2 q2 => ?_
  cases e : cmpD op d d2 with
  | none => rw [e] at q2; exact q2.elim
  | some r =>
    rw [e] at q2
    obtain ⟨k, rfl⟩ := cmp_bool e
    refine ⟨G2, d, d2, .bool k, t.s, dp_same t.g _ _ hv, hv2, e, fun v3 G3 H3 u hv3 => ?_⟩
    cases hv3
    refine ⟨k, rfl, ?_⟩
    cases k with
    | false => exact iteF (q2 _ G3 H3 (s.trans (t.trans u)) (.bl false))
    | true =>
      refine iteT ?_
      have q3 : PsR X.kx co (E σ) ((evE F ν c').bind fun z => Res.ofO (cmpD op' d2 z)) G2 H2 _ := q2
      refine tE.then (R2.mono u) (PsR.mono q3 u fun _ _ z => z) fun d4 v4 G4 H4 _ w hv4 _ q4 => ?_
      obtain ⟨r', e', k'⟩ := q4.ofO
      exact ⟨G4, d2, d4, r', w.s, dp_same (u.trans w).g _ _ hv2, hv4, e', fun v5 G5 H5 x hv5 => k' v5 G5 H5 (s.trans (t.trans (u.trans (w.trans x)))) hv5⟩
theorem snd_chn (O : Ok1 X T F z co E) (S : Snd X T F z co E f) {op op' : CmpOp} {a b c : Expr} {p : Pos} {a' b' c' : Ex} (hm : lastMarks [op, op'] [b, c] = false) (h1 : f a = some a') (h2 : f b = some b') (h3 : f c = some c') :
    PE X (.Compare a [op, op'] [b, c] p) (tE X.kx z co F E (.chn op op' a' b' c')) :=
  pe_imp (pe_chain (op_cmpD O.hu op) (op_cmpD O.hu op') (S.e _ _ h1) (S.e _ _ h2) (S.e _ _ h3) hm) fun σ H Q ⟨ν, G, R, q⟩ => chn_go O S h1 h2 h3 R q.toR
theorem snd_neg (S : Snd X T F z co E f) {a : Expr} {p : Pos} {a' : Ex} (h1 : f a = some a') : PE X (.UnaryOp .USub a p) (tE X.kx z co F E (.neg a')) := by
  refine pe_imp (pe_un un_negD (S.e _ _ h1)) fun σ H Q ⟨ν, G, R, q⟩ => ?_
  simp only [evE] at q
  refine tE.then R q.toR fun d v G1 H1 _ s hv R1 q1 => ?_
  obtain ⟨r, e, k⟩ := q1.ofO
  exact ⟨G1, d, r, s.s, hv, e, fun v3 G3 H3 u hv3 => k v3 G3 H3 (s.trans u) hv3⟩
theorem snd_not (S : Snd X T F z co E f) {a : Expr} {p : Pos} {a' : Ex} (h1 : f a = some a') : PE X (.UnaryOp .Not a p) (tE X.kx z co F E (.not a')) := by
  refine pe_imp (pe_notT (S.e _ _ h1)) fun σ H Q ⟨ν, G, R, q⟩ => ?_
  simp only [evE] at q
  refine tE.then R q.toR fun d v G1 H1 _ s hv R1 q1 => ?_
  cases e : truD d with
  | none => rw [e] at q1; exact q1.elim
  | some k =>
    rw [e] at q1
    exact ⟨k, tru_of hv s.s e, q1 _ G1 H1 s (.bl _)⟩
theorem boolR_cases {α : Type} {E : XK} {K : Fg} {G H : Hp} {d : D} {t e : Res α} {k : α → Prop} (h : PsR K co E (boolR d t e) G H k) : (d = .bool true ∧ PsR K co E t G H k) ∨ (d = .bool false ∧ PsR K co E e G H k) := by
  cases d with
  | bool b => cases b with
    | true => exact .inl ⟨rfl, h⟩
    | false => exact .inr ⟨rfl, h⟩
  | _ => exact h.elim
theorem snd_bool (S : Snd X T F z co E f) {op : BoolOp} {p : Pos} : ∀ {vs : List Expr} {x : Ex}, cBool f op vs = some x → PE X (.BoolOp op vs p) (tE X.kx z co F E x)
  | [], _, h => by cases h
  | [a], x, h => pe_one (S.e _ _ h)
  | a :: b :: es, x, h => by
    unfold cBool at h
    cases e1 : f a with
    | none => rw [e1] at h; cases h
    | some a' =>
      cases e2 : cBool f op (b :: es) with
      | none => rw [e1, e2] at h; cases h
      | some r =>
        rw [e1, e2] at h
        have ih := snd_bool S (p := p) e2
        cases op with
        | And =>
          cases h
          refine pe_imp (pe_and (S.e _ _ e1) ih) fun σ H Q ⟨ν, G, R, q⟩ => ?_
          simp only [evE] at q
          refine tE.then R q.toR fun d v G1 H1 _ s hv R1 q1 => ?_
          rcases boolR_cases q1 with ⟨rfl, q2⟩ | ⟨rfl, q2⟩
          · cases hv
            exact ⟨true, rfl, iteT ⟨ν, G1, R1, PsR.toP (PsR.mono q2 (Nx.refl R1.same) fun _ _ z v G' H' a => z v G' H' (s.trans a))⟩⟩
          · cases hv
            exact ⟨false, rfl, iteF (q2 _ G1 H1 s (.bl false))⟩
        | Or =>
          cases h
          refine pe_imp (pe_or (S.e _ _ e1) ih) fun σ H Q ⟨ν, G, R, q⟩ => ?_
          simp only [evE] at q
          refine tE.then R q.toR fun d v G1 H1 _ s hv R1 q1 => ?_
          rcases boolR_cases q1 with ⟨rfl, q2⟩ | ⟨rfl, q2⟩
          · cases hv
            exact ⟨true, rfl, iteT (q2 _ G1 H1 s (.bl true))⟩
          · cases hv
            exact ⟨false, rfl, iteF ⟨ν, G1, R1, PsR.toP (PsR.mono q2 (Nx.refl R1.same) fun _ _ z v G' H' a => z v G' H' (s.trans a))⟩⟩
/-- a test, then something -/
theorem tT.then {K : Fg} {G H : Hp} {x : Ex} {σ : St} {ν : List (Option D)} {α : Type} {g : Bool → Res α} {k : α → Prop} {Q : Bool → Hp → Prop} (R : RepV K z σ ν G H) (h : PsR K co (E σ) ((evE F ν x).bind fun d => (Res.ofO (truD d)).bind g) G H k)
    (kk : ∀ (b : Bool) (G' H' : Hp), Nx G H G' H' → RepV K z σ ν G' H' → PsR K co (E σ) (g b) G' H' k → Q b H') : tT K z co F E x σ H Q := by
  refine ⟨ν, G, R, ?_⟩
  cases e : evE F ν x with
  | ok d =>
    rw [e] at h
    have h' : PsR K co (E σ) ((Res.ofO (truD d)).bind g) G H k := h
    show PsR K co (E σ) (Res.ofO (truD d)) G H _
    cases e2 : truD d with
    | none => rw [e2] at h'; exact h'
    | some b =>
      rw [e2] at h'
      exact fun G' H' h1 => kk b G' H' h1 (R.mono h1) (PsR.mono (r := g b) h' h1 fun _ _ z => z)
  | err e' => rw [e] at h; exact h
  | no => rw [e] at h; exact h
theorem snd_ite (S : Snd X T F z co E f) {c a b : Expr} {p : Pos} {c' a' b' : Ex} (ht : testOk c = true) (h0 : f c = some c') (h1 : f a = some a') (h2 : f b = some b') : PE X (.IfExp c a b p) (tE X.kx z co F E (.ite c' a' b')) := by
  refine pe_imp (pe_ifExp (S.t _ _ h0 ht) (S.e _ _ h1) (S.e _ _ h2)) fun σ H Q ⟨ν, G, R, q⟩ => ?_
  simp only [evE] at q
  refine tT.then R q.toR fun k G1 H1 s R1 q1 => ?_
  cases k with
  | true => exact iteT ⟨ν, G1, R1, PsR.toP (PsR.mono q1 (Nx.refl R1.same) fun _ _ z v G' H' a => z v G' H' (s.trans a))⟩
  | false => exact iteF ⟨ν, G1, R1, PsR.toP (PsR.mono q1 (Nx.refl R1.same) fun _ _ z v G' H' a => z v G' H' (s.trans a))⟩
/-- arguments, then something -/
theorem tA.then {K : Fg} {G H : Hp} {x : Ex} {σ : St} {ν : List (Option D)} {α : Type} {g : List D → Res α} {k : α → Prop} {Q : List V → Hp → Prop} (R : RepV K z σ ν G H) (h : PsR K co (E σ) ((evE F ν x).bind fun d => listR d g) G H k)
    (kk : ∀ (ds : List D) (vs : List V) (G' H' : Hp), Nx G H G' H' → DqAll K G' vs ds → RepV K z σ ν G' H' → PsR K co (E σ) (g ds) G' H' k → Q vs H') : tA K z co F E x σ H Q := by
  refine ⟨ν, G, R, ?_⟩
  cases e : evE F ν x with
  | ok d =>
    rw [e] at h
    cases d with
    | list ds => exact fun vs G' H' h1 h4 => kk ds vs G' H' h1 h4 (R.mono h1) (PsR.mono (r := g ds) h h1 fun _ _ z => z)
    | _ => exact h
  | err e' => rw [e] at h; exact h
  | no => rw [e] at h; exact h
theorem snd_tup (S : Snd X T F z co E f) {es : List Expr} {j : Nat} {p : Pos} {x : Ex} (h : cArgs f es = some x) : PE X (.Tuple es j p) (tE X.kx z co F E (.tup x)) := by
  refine pe_imp (pe_tup (snd_args S h)) fun σ H Q ⟨ν, G, R, q⟩ => ?_
  simp only [evE] at q
  refine tA.then R q.toR fun ds vs G1 H1 s ha R1 q1 => ?_
  by_cases hz : ds.length ≤ sizeLine
  · rw [if_pos hz] at q1
    exact ⟨by rw [dpa_len ha]; exact hz, fun p' hp => q1 (.ref p') _ _ (s.trans (Nx.new s.s hp)) (dp_newT ha s.s hp)⟩
  · rw [if_neg hz] at q1; exact q1.elim
theorem snd_lst (S : Snd X T F z co E f) {es : List Expr} {p : Pos} {x : Ex} (h : cArgs f es = some x) : PE X (.List es p) (tE X.kx z co F E (.lst x)) := by
  refine pe_imp (pe_lst (snd_args S h)) fun σ H Q ⟨ν, G, R, q⟩ => ?_
  simp only [evE] at q
  refine tA.then R q.toR fun ds vs G1 H1 s ha R1 q1 => ?_
  by_cases hz : ds.length ≤ sizeLine
  · rw [if_pos hz] at q1
    exact ⟨by rw [dpa_len ha]; exact hz, fun p' hp => q1 (.ref p') _ _ (s.trans (Nx.new s.s hp)) (dp_newL ha s.s hp)⟩
  · rw [if_neg hz] at q1; exact q1.elim
theorem plainIx_of {b : Expr} (h : notSlice b = true) : PlainIx b := by
  intro o i
  cases b with
  | Slice _ _ _ _ => cases h
  | _ => rfl
theorem snd_idx (O : Ok1 X T F z co E) (S : Snd X T F z co E f) {a b : Expr} {p : Pos} {a' b' : Ex} (hm : notSlice b = true) (h1 : f a = some a') (h2 : f b = some b') : PE X (.Subscript a b p) (tE X.kx z co F E (.idx a' b')) := by
  refine pe_imp (pe_ix (ix_D (by have := O.hu; omega)) (S.e _ _ h1) (S.e _ _ h2) (plainIx_of hm)) fun σ H Q ⟨ν, G, R, q⟩ => ?_
  simp only [evE] at q
  refine tE.then R q.toR fun d v G1 H1 _ s hv R1 q1 => tE.then R1 q1 fun d2 v2 G2 H2 _ t hv2 R2 q2 => ?_
  obtain ⟨r, e, k⟩ := q2.ofO
  exact ⟨G2, d, d2, r, t.s, dp_same t.g _ _ hv, hv2, e, fun v3 G3 H3 u hv3 => k v3 G3 H3 (s.trans (t.trans u)) hv3⟩
def tP (K : Fg) (z : Zx) (co : Co) (F : Str → List D → Res D) (E : St → XK) (x : Ex) : TO := fun σ H Q => ∃ ν G, RepV K z σ ν G H ∧
  PsR K co (E σ) (partE x (evE F ν x)) G H fun o => ∀ G' H', Nx G H G' H' → Q o H'
theorem tP.then {K : Fg} {G H : Hp} {x : Ex} {σ : St} {ν : List (Option D)} {α : Type} {g : Option Int → Res α} {k : α → Prop} {Q : Option Int → Hp → Prop} (R : RepV K z σ ν G H) (h : PsR K co (E σ) ((partE x (evE F ν x)).bind g) G H k)
    (kk : ∀ (o : Option Int) (G' H' : Hp), Nx G H G' H' → RepV K z σ ν G' H' → PsR K co (E σ) (g o) G' H' k → Q o H') : tP K z co F E x σ H Q := by
  refine ⟨ν, G, R, ?_⟩
  cases e : partE x (evE F ν x) with
  | ok o =>
    rw [e] at h
    exact fun G' H' h1 => kk o G' H' h1 (R.mono h1) (PsR.mono (r := g o) h h1 fun _ _ z => z)
  | err e' => rw [e] at h; exact h
  | no => rw [e] at h; exact h
theorem partE_is {x : Ex} {r : Res D} (h : isPart x = true) : partE x r = r.bind fun d => match d with
    | .int i => .ok (some i)
    | _ => .no := by
  cases x <;> first | rfl | cases h
theorem snd_part (S : Snd X T F z co E f) {o : Option Expr} {x : Ex} (h : cPart f o = some x) : PO X o (tP X.kx z co F E x) := by
  cases o with
  | none =>
    cases h
    refine ⟨fun pins s σ H Q I q => po_none.run pins s σ H Q I ?_⟩
    obtain ⟨ν, G, R, q⟩ := q
    exact q G H (Nx.refl R.same)
  | some e =>
    unfold cPart at h
    cases e1 : f e with
    | none => simp only [e1] at h; cases h
    | some y =>
      simp only [e1] at h
      by_cases hp : isPart y = true
      · rw [if_pos hp] at h
        cases h
        refine ⟨fun pins s σ H Q I q => (po_some (S.e _ _ e1)).run pins s σ H Q I ?_⟩
        obtain ⟨ν, G, R, q⟩ := q
        rw [partE_is hp] at q
        refine tE.then R q fun d v G1 H1 _ s hv R1 q1 => ?_
        cases hv with
        | int i => exact ⟨i, rfl, q1 G1 H1 s⟩
        | _ => exact q1.elim
      · rw [if_neg hp] at h; cases h
theorem snd_slc (S : Snd X T F z co E f) {a : Expr} {lo hi : Option Expr} {p p2 : Pos} {a' l' h' : Ex} (h1 : f a = some a') (h2 : cPart f lo = some l') (h3 : cPart f hi = some h') : PE X (.Subscript a (.Slice lo hi none p2) p) (tE X.kx z co F E (.slc a' l' h')) := by
  refine pe_imp (pe_slice sl_D (S.e _ _ h1) (snd_part S h2) (snd_part S h3)) fun σ H Q ⟨ν, G, R, q⟩ => ?_
  simp only [evE] at q
  refine tE.then R q.toR fun d v G1 H1 _ s hv R1 q1 => tP.then R1 q1 fun l G2 H2 t R2 q2 => tP.then R2 q2 fun u G3 H3 u R3 q3 => ?_
  obtain ⟨r, e, k⟩ := q3.ofO
  exact ⟨G3, d, r, u.s, dp_same (t.trans u).g _ _ hv, e, fun v4 G4 H4 w hv4 => k v4 G4 H4 (s.trans (t.trans (u.trans w))) hv4⟩

/-! ### calls -/
/-- an own def runs -/
theorem run_G {pins : List (Addr × Obj)} {σ : St} {H : Hp} {s : Shared} {Q : VK} {us : List Value} {vs : List V} {k : Nat} {a : Addr} {fd : FuncData} {ps : List Str} {sp : Sp} (P : FnG X.prog X.w X.kx X.mg X.base k a fd ps sp)
    (room : Room k X.A) (gd : X.A.guards = some []) (b : Binds X.kx fd ps []) (pas : PassesAt (L2.CX X.prog X.w) X σ (E σ)) (I : Inv X pins σ H s) (r : Vals vs us) (want : sp vs H Q (E σ)) :
    wpAny (model X.prog X.w) X.A (call (.ref a) us) (EP X pins σ Q) X.xe s := by
  have n : (us ++ []).length = ps.length := by
    rw [List.append_nil, ← r.length]
    exact P.len _ _ _ _ want
  have bound := b s us I.kIn n
  rw [List.append_nil] at bound
  refine wpAny_call (codeAny_mono (P.run X.A X.stack s H ⟨us, []⟩ us vs Q (E σ) room gd I.env0 bound r want) ?_)
  intro res s' end_
  match res, end_ with
  | .ok (.ret u), end_ => exact I.after end_
  | .error e, end_ => exact pas pins H s e s' I end_
theorem pe_callG {k : Nat} {a : Addr} {fd : FuncData} {ps : List Str} {sp : Sp} {x : Str} {e : Expr} {es : List Expr} {p pos : Pos} {t : TA} (P : FnG X.prog X.w X.kx X.mg X.base k a fd ps sp)
    (room : Room k X.A) (gd : X.A.guards = some []) (g : Gl X x) (m : X.mg x = some (.ref a)) (kp : PySem.W.keepIn X.kx (.ref a) = true) (b : Binds X.kx fd ps []) (pas : ∀ σ, PassesAt (L2.CX X.prog X.w) X σ (E σ))
    (args : PA X (e :: es) t) (dbg : (x == ("__debug__" : Str)) = false) (st : starEach (e :: es) X.env = (false, eval e X.env) :: starEach es X.env) (pl : (backTo pos (starEach es X.env)).any (·.1) = false) :
    PE X (.Call (.Name x p) (e :: es) [] pos) (fun σ H Q => t σ H fun vs H1 => sp vs H1 Q (E σ)) := by
  constructor
  intro pins s σ H Q I want
  apply wpAny_Call_Name_kw
  refine ld_glob I g m ?_ dbg
  refine PySem.W.callWith_K (h₀ := X.base) I.ok.mod.kin kp ?_ st pl
  exact thn (args.run pos pins s σ H _ I want) fun us s1 ⟨vs, H1, I1, r, q⟩ => ⟨I1.kIn, run_G P room gd b (pas σ) I1 r q⟩
theorem pe_callG0 {k : Nat} {a : Addr} {fd : FuncData} {ps : List Str} {sp : Sp} {x : Str} {p pos : Pos} (P : FnG X.prog X.w X.kx X.mg X.base k a fd ps sp)
    (room : Room k X.A) (gd : X.A.guards = some []) (g : Gl X x) (m : X.mg x = some (.ref a)) (kp : PySem.W.keepIn X.kx (.ref a) = true) (b : Binds X.kx fd ps []) (pas : ∀ σ, PassesAt (L2.CX X.prog X.w) X σ (E σ)) (dbg : (x == ("__debug__" : Str)) = false) :
    PE X (.Call (.Name x p) [] [] pos) (fun σ H Q => sp [] H Q (E σ)) := by
  constructor
  intro pins s σ H Q I want
  apply wpAny_Call_Name_kw
  refine ld_glob I g m ?_ dbg
  exact PySem.W.callWith_K0 (first := []) I.kIn kp (run_G P room gd b (pas σ) I .nil want)
theorem noStars {es : List Expr} {env : Env} {pos : Pos} (h : ∀ a ∈ es, ∀ b p, a ≠ .Starred b p) : (backTo pos (starEach es env)).any (·.1) = false := by
  induction es with
  | nil => rfl
  | cons e es ih =>
    rw [star_of (h e List.mem_cons_self)]
    show (false || (backTo pos (starEach es env)).any (·.1)) = false
    rw [ih fun a ha => h a (List.mem_cons_of_mem _ ha)]
    rfl
theorem args_len {ν : List (Option D)} : ∀ {es : List Expr} {x : Ex} {ds : List D}, cArgs f es = some x → evE F ν x = .ok (.list ds) → ds.length = es.length
  | [], x, ds, h, hev => by
    cases h
    simp only [evE] at hev
    cases hev
    rfl
  | e :: es, x, ds, h, hev => by
    unfold cArgs at h
    cases e1 : f e with
    | none => rw [e1] at h; cases h
    | some a1 =>
      cases e2 : cArgs f es with
      | none => rw [e1, e2] at h; cases h
      | some r =>
        rw [e1, e2] at h
        cases h
        simp only [evE] at hev
        cases e3 : evE F ν a1 with
        | ok d =>
          rw [e3] at hev
          cases e4 : evE F ν r with
          | ok y =>
            simp only [e4, Res.bind_ok] at hev
            cases y with
            | list ys =>
              cases hev
              exact congrArg (· + 1) (args_len e2 e4)
            | _ => cases hev
          | err _ => simp only [e4, Res.bind_ok, Res.bind_err] at hev; cases hev
          | no => simp only [e4, Res.bind_ok, Res.bind_no] at hev; cases hev
        | err _ => rw [e3] at hev; cases hev
        | no => rw [e3] at hev; cases hev
theorem snd_own (O : Ok1 X T F z co E) (S : Snd X T F z co E f) {y : Str} {as : List Expr} {x : Ex} {n : Nat} {p pos : Pos} (g : glB X.env.scope.names y = true) (hd : y ≠ "__debug__") (hf : T.fns.lookup y = some n) (hl : as.length = n) (cool : T.hot = false) (h : cArgs f as = some x) :
    PE X (.Call (.Name y p) as [] pos) (tE X.kx z co F E (.call y x)) := by
  obtain ⟨a, fd, ps, k, P, room, m, kp, b⟩ := (O.call cool y n hf).ex
  cases as with
  | nil =>
    cases h
    refine pe_imp (pe_callG0 P room O.gd (gl_of g) m kp b (O.pas cool) (ne_beq hd)) fun σ H Q ⟨ν, G, R, q⟩ => ?_
    simp only [evE] at q
    exact ⟨G, [], R.same, .nil, hl, q⟩
  | cons e es =>
    have st := args_star S h
    refine pe_imp (pe_callG P room O.gd (gl_of g) m kp b (O.pas cool) (snd_args S h) (ne_beq hd) (star_of (st e List.mem_cons_self)) (noStars fun a ha => st a (List.mem_cons_of_mem _ ha))) fun σ H Q ⟨ν, G, R, q⟩ => ?_
    simp only [evE] at q
    refine ⟨ν, G, R, ?_⟩
    cases ev : evE F ν x with
    | ok d =>
      rw [ev] at q
      cases d with
      | list ds => exact fun vs G1 H1 s ha => ⟨G1, ds, s.s, ha, (args_len h ev).trans hl, Pst.mono (r := F y ds) q s⟩
      | _ => exact q
    | err _ => rw [ev] at q; exact q
    | no => rw [ev] at q; exact q
theorem bf_boot : ∀ (y : Str) (n : Nat) (b : Bf), bfOf y n = some b → y ∈ bltNames ∧ y ≠ "__name__" ∧ y ≠ "__debug__" ∧ ((∃ id, b.val = .builtin id ∧ bootBuiltins y = some (.builtin id)) ∨ (∃ id, b.val = .type id ∧ bootBuiltins y = some (.type id))) ∧ 0 < n := by
  intro y n b h
  unfold bfOf at h
  by_cases c0 : y = "len" ∧ n = 1
  · rw [if_pos c0] at h
    cases h
    obtain ⟨rfl, rfl⟩ := c0
    exact ⟨by decide +kernel, by decide +kernel, by decide +kernel, .inl ⟨_, rfl, by decide +kernel⟩, by decide⟩
  rw [if_neg c0] at h
  by_cases c1 : y = "abs" ∧ n = 1
  · rw [if_pos c1] at h
    cases h
    obtain ⟨rfl, rfl⟩ := c1
    exact ⟨by decide +kernel, by decide +kernel, by decide +kernel, .inl ⟨_, rfl, by decide +kernel⟩, by decide⟩
  rw [if_neg c1] at h
  by_cases c2 : y = "int" ∧ n = 1
  · rw [if_pos c2] at h
    cases h
    obtain ⟨rfl, rfl⟩ := c2
    exact ⟨by decide +kernel, by decide +kernel, by decide +kernel, .inr ⟨_, rfl, by decide +kernel⟩, by decide⟩
  rw [if_neg c2] at h
  by_cases c3 : y = "max" ∧ n = 2
  · rw [if_pos c3] at h
    cases h
    obtain ⟨rfl, rfl⟩ := c3
    exact ⟨by decide +kernel, by decide +kernel, by decide +kernel, .inl ⟨_, rfl, by decide +kernel⟩, by decide⟩
  rw [if_neg c3] at h
  by_cases c4 : y = "min" ∧ n = 2
  · rw [if_pos c4] at h
    cases h
    obtain ⟨rfl, rfl⟩ := c4
    exact ⟨by decide +kernel, by decide +kernel, by decide +kernel, .inl ⟨_, rfl, by decide +kernel⟩, by decide⟩
  rw [if_neg c4] at h
  by_cases c5 : y = "repr" ∧ n = 1
  · rw [if_pos c5] at h
    cases h
    obtain ⟨rfl, rfl⟩ := c5
    exact ⟨by decide +kernel, by decide +kernel, by decide +kernel, .inl ⟨_, rfl, by decide +kernel⟩, by decide⟩
  rw [if_neg c5] at h
  by_cases c6 : y = "str" ∧ n = 1
  · rw [if_pos c6] at h
    cases h
    obtain ⟨rfl, rfl⟩ := c6
    exact ⟨by decide +kernel, by decide +kernel, by decide +kernel, .inr ⟨_, rfl, by decide +kernel⟩, by decide⟩
  rw [if_neg c6] at h
  by_cases c7 : y = "all" ∧ n = 1
  · rw [if_pos c7] at h
    cases h
    obtain ⟨rfl, rfl⟩ := c7
    exact ⟨by decide +kernel, by decide +kernel, by decide +kernel, .inl ⟨_, rfl, by decide +kernel⟩, by decide⟩
  rw [if_neg c7] at h
  by_cases c8 : y = "any" ∧ n = 1
  · rw [if_pos c8] at h
    cases h
    obtain ⟨rfl, rfl⟩ := c8
    exact ⟨by decide +kernel, by decide +kernel, by decide +kernel, .inl ⟨_, rfl, by decide +kernel⟩, by decide⟩
  rw [if_neg c8] at h
  by_cases c9 : y = "tuple" ∧ n = 1
  · rw [if_pos c9] at h
    cases h
    obtain ⟨rfl, rfl⟩ := c9
    exact ⟨by decide +kernel, by decide +kernel, by decide +kernel, .inr ⟨_, rfl, by decide +kernel⟩, by decide⟩
  rw [if_neg c9] at h
  by_cases c10 : y = "list" ∧ n = 1
  · rw [if_pos c10] at h
    cases h
    obtain ⟨rfl, rfl⟩ := c10
    exact ⟨by decide +kernel, by decide +kernel, by decide +kernel, .inr ⟨_, rfl, by decide +kernel⟩, by decide⟩
  rw [if_neg c10] at h
  by_cases c11 : y = "sum" ∧ n = 1
  · rw [if_pos c11] at h
    cases h
    obtain ⟨rfl, rfl⟩ := c11
    exact ⟨by decide +kernel, by decide +kernel, by decide +kernel, .inl ⟨_, rfl, by decide +kernel⟩, by decide⟩
  rw [if_neg c11] at h
  by_cases c12 : y = "sorted" ∧ n = 1
  · rw [if_pos c12] at h
    cases h
    obtain ⟨rfl, rfl⟩ := c12
    exact ⟨by decide +kernel, by decide +kernel, by decide +kernel, .inl ⟨_, rfl, by decide +kernel⟩, by decide⟩
  rw [if_neg c12] at h
  cases h
/-! ### a module's tables; turned round -/
theorem tab_is {nm : List (Str × NameKind)} {T : Tbl} {b : Expr} {es : List (Str × D)} (h : tabOf nm T b = some es) : ∃ y p, b = .Name y p ∧ glB nm y = true ∧ y ≠ "__debug__" ∧ T.dcts.lookup y = some es := by
  unfold tabOf at h
  split at h
  · rename_i y p
    by_cases c : glB nm y = true ∧ y ≠ "__debug__"
    · rw [if_pos c] at h; exact ⟨y, p, rfl, c.1, c.2, h⟩
    · rw [if_neg c] at h; cases h
  · cases h
theorem in_is {nm : List (Str × NameKind)} {T : Tbl} {b : Expr} {es : List (Str × D)} (h : inOf nm T b = some es) : ∃ y p, b = .Name y p ∧ glB nm y = true ∧ y ≠ "__debug__" ∧ (T.dcts.lookup y = some es ∨ ∃ tb, T.ftabs.lookup y = some tb ∧ es = inF tb) := by
  unfold inOf at h
  split at h
  · rename_i y p
    by_cases c : glB nm y = true ∧ y ≠ "__debug__"
    · rw [if_pos c] at h
      split at h
      · rename_i es' e
        cases h
        exact ⟨y, p, rfl, c.1, c.2, .inl e⟩
      · cases e : T.ftabs.lookup y with
        | none => rw [e] at h; cases h
        | some tb => rw [e] at h; cases h; exact ⟨y, p, rfl, c.1, c.2, .inr ⟨tb, e, rfl⟩⟩
    · rw [if_neg c] at h; cases h
  · cases h
theorem Ok1.tabI (O : Ok1 X T F z co E) {y : Str} {es : List (Str × D)} (h : T.dcts.lookup y = some es ∨ ∃ tb, T.ftabs.lookup y = some tb ∧ es = inF tb) : ∃ d : Addr, X.mg y = some (.ref d) ∧ TabI X.kx.K X.w d es := by
  rcases h with h | ⟨tb, h, rfl⟩
  · exact let ⟨d, m, t⟩ := O.dct y es h; ⟨d, m, t.toI⟩
  · exact let ⟨d, m, t⟩ := O.ftb y tb h; ⟨d, m, t.toI⟩
theorem op_inT {d : Addr} {es : List (Str × D)} (t : TabI X.kx.K X.w d es) : OpR X (compareOp .In) (fun x y H Q => y = .ref d ∧ rD1 X.kx (inTD es) x H Q) := by
  rintro pins s σ H x y v u Q I rx ry ⟨rfl, G, dx, r, sm, hx, hf, q⟩
  obtain ⟨en, n, kd⟩ := t.kd
  cases hx with
  | str y0 =>
    cases hf
    refine op_in_kd kd pins s σ H _ _ v u Q I rx ry ?_
    cases e : es.lookup y0 with
    | some x =>
      obtain ⟨u1, h1⟩ := t.get y0 x e
      rw [e] at q
      exact ⟨y0, _, rfl, rfl, h1, q.now sm (.bl true)⟩
    | none =>
      rw [e] at q
      exact ⟨y0, _, rfl, rfl, t.non y0 e, q.now sm (.bl false)⟩
  | _ => cases hf
theorem pe_tabName {d : Addr} {y : Str} {p : Pos} (g : glB X.env.scope.names y = true) (m : X.mg y = some (.ref d)) (hd : y ≠ "__debug__") : PE X (.Name y p) (tC (.ref d)) := pe_glob (gl_of g) m rfl (ne_beq hd)
theorem tE1 {a' x : Ex} {h : D → Option D} {d0 : Addr} {σ : St} {H : Hp} {Q : VK} (ev : ∀ ν, evE F ν x = (evE F ν a').bind fun d => Res.ofO (h d)) (q : tE X.kx z co F E x σ H Q) : tE X.kx z co F E a' σ H fun v H1 => rD1 X.kx h v H1 Q := by
  obtain ⟨ν, G, R, q⟩ := q
  rw [ev] at q
  refine tE.then R q.toR fun d v G1 H1 _ s hv R1 q1 => ?_
  obtain ⟨r, e, k⟩ := q1.ofO
  exact ⟨G1, d, r, s.s, hv, e, fun v3 G3 H3 u hv3 => k v3 G3 H3 (s.trans u) hv3⟩
theorem marks_name {op : CmpOp} {y : Str} {p : Pos} : behindInMarks op (.Name y p) = false := by cases op <;> rfl
theorem snd_inT (O : Ok1 X T F z co E) (S : Snd X T F z co E f) {a b : Expr} {a' : Ex} {es : List (Str × D)} {p : Pos} (ht : inOf X.env.scope.names T b = some es) (h : f a = some a') : PE X (.Compare a [.In] [b] p) (tE X.kx z co F E (.inT a' es)) := by
  obtain ⟨y, q, rfl, g, hd, e⟩ := in_is ht
  obtain ⟨d, m, t⟩ := O.tabI e
  exact pe_imp (pe_cmpR (op_inT t) (S.e _ _ h) (pe_tabName g m hd) marks_name) fun σ H Q q => by
    obtain ⟨ν, G, R, q⟩ := tE1 (a' := a') (d0 := d) (h := inTD es) (fun ν => by simp only [evE]) q
    exact ⟨ν, G, R, by cases ev : evE F ν a' <;> rw [ev] at q <;> first | exact fun v G1 H1 s hv => ⟨rfl, q v G1 H1 s hv⟩ | exact q⟩
theorem tst_inT (O : Ok1 X T F z co E) (S : Snd X T F z co E f) {a b : Expr} {a' : Ex} {es : List (Str × D)} {p : Pos} (ht : inOf X.env.scope.names T b = some es) (h : f a = some a') : PT X (.Compare a [.In] [b] p) (tT X.kx z co F E (.inT a' es)) := by
  obtain ⟨y, q, rfl, g, hd, e⟩ := in_is ht
  obtain ⟨d, m, t⟩ := O.tabI e
  refine pt_imp (pt_cmpR (op_inT t) (S.e _ _ h) (pe_tabName g m hd) marks_name) fun σ H Q ⟨ν, G, R, q⟩ => ?_
  simp only [evE] at q
  have q' : PsR X.kx co (E σ) ((evE F ν a').bind fun x => (Res.ofO (inTD es x)).bind fun d => Res.ofO (truD d)) G H fun b => ∀ G' H', Nx G H G' H' → Q b H' := by
    revert q
    cases evE F ν a' <;> exact id
  show tOp _ _ _ σ H _
  refine tE.then R q' fun d1 v G1 H1 _ s hv R1 q1 => ?_
  cases e : inTD es d1 with
  | none => rw [e] at q1; exact q1.elim
  | some r =>
    rw [e] at q1
    cases d1 with
    | str y0 =>
      cases e
      refine ⟨rfl, G1, .str y0, _, s.s, hv, rfl, fun v3 G3 H3 u hv3 => ?_⟩
      cases hv3
      exact ⟨_, rfl, q1 G3 H3 (s.trans u)⟩
    | _ => cases e
theorem op_ninT {d : Addr} {es : List (Str × D)} (t : TabI X.kx.K X.w d es) : OpR X (compareOp .NotIn) (fun x y H Q => y = .ref d ∧ rD1 X.kx (fun v => (inTD es v).bind fun r => match r with
    | .bool b => some (.bool (!b))
    | _ => none) x H Q) := by
  rintro pins s σ H x y v u Q I rx ry ⟨rfl, G, dx, r, sm, hx, hf, q⟩
  obtain ⟨en, n, kd⟩ := t.kd
  cases hx with
  | str y0 =>
    cases hf
    refine op_notIn_kd kd pins s σ H _ _ v u Q I rx ry ?_
    cases e : es.lookup y0 with
    | some x =>
      obtain ⟨u1, h1⟩ := t.get y0 x e
      rw [e] at q
      exact ⟨y0, _, rfl, rfl, h1, q.now sm (.bl false)⟩
    | none =>
      rw [e] at q
      exact ⟨y0, _, rfl, rfl, t.non y0 e, q.now sm (.bl true)⟩
  | _ => cases hf
def ninD (es : List (Str × D)) (v : D) : Option D := (inTD es v).bind fun r => match r with
    | .bool b => some (.bool (!b))
    | _ => none
theorem ev_nin {a' : Ex} {es : List (Str × D)} (ν : List (Option D)) : evE F ν (.not (.inT a' es)) = (evE F ν a').bind fun d => Res.ofO (ninD es d) := by
  simp only [evE]
  cases evE F ν a' with
  | ok d =>
    cases d with
    | str y => rfl
    | _ => rfl
  | err _ => rfl
  | no => rfl
theorem snd_ninT (O : Ok1 X T F z co E) (S : Snd X T F z co E f) {a b : Expr} {a' : Ex} {es : List (Str × D)} {p : Pos} (ht : inOf X.env.scope.names T b = some es) (h : f a = some a') : PE X (.Compare a [.NotIn] [b] p) (tE X.kx z co F E (.not (.inT a' es))) := by
  obtain ⟨y, q, rfl, g, hd, e⟩ := in_is ht
  obtain ⟨d, m, t⟩ := O.tabI e
  exact pe_imp (pe_cmpR (op_ninT t) (S.e _ _ h) (pe_tabName g m hd) marks_name) fun σ H Q q => by
    obtain ⟨ν, G, R, q⟩ := tE1 (a' := a') (d0 := d) (h := ninD es) ev_nin q
    exact ⟨ν, G, R, by cases ev : evE F ν a' <;> rw [ev] at q <;> first | exact fun v G1 H1 s hv => ⟨rfl, q v G1 H1 s hv⟩ | exact q⟩
theorem tst_ninT (O : Ok1 X T F z co E) (S : Snd X T F z co E f) {a b : Expr} {a' : Ex} {es : List (Str × D)} {p : Pos} (ht : inOf X.env.scope.names T b = some es) (h : f a = some a') : PT X (.Compare a [.NotIn] [b] p) (tT X.kx z co F E (.not (.inT a' es))) := by
  obtain ⟨y, q, rfl, g, hd, e⟩ := in_is ht
  obtain ⟨d, m, t⟩ := O.tabI e
  refine pt_imp (pt_cmpR (op_ninT t) (S.e _ _ h) (pe_tabName g m hd) marks_name) fun σ H Q ⟨ν, G, R, q⟩ => ?_
  rw [ev_nin] at q
  have q' : PsR X.kx co (E σ) ((evE F ν a').bind fun x => (Res.ofO (ninD es x)).bind fun d => Res.ofO (truD d)) G H fun b => ∀ G' H', Nx G H G' H' → Q b H' := by
    revert q
    cases evE F ν a' <;> exact id
  show tOp _ _ _ σ H _
  refine tE.then R q' fun d1 v G1 H1 _ s hv R1 q1 => ?_
  cases e : ninD es d1 with
  | none => rw [e] at q1; exact q1.elim
  | some r =>
    rw [e] at q1
    cases d1 with
    | str y0 =>
      cases e
      refine ⟨rfl, G1, .str y0, _, s.s, hv, rfl, fun v3 G3 H3 u hv3 => ?_⟩
      cases hv3
      exact ⟨_, rfl, q1 G3 H3 (s.trans u)⟩
    | _ => cases e
theorem ix_tabD {d : Addr} {es : List (Str × D)} (t : TabD X.kx X.w d es) : IxR X (fun x y H Q => x = .ref d ∧ rD1 X.kx (atTD es) y H Q) := by
  rintro va sl pins s σ H x y v u Q I rx ry ⟨rfl, G, dx, r, sm, hx, hf, q⟩ hs
  obtain ⟨en, n, kd⟩ := t.kd
  cases hx with
  | str y0 =>
    obtain ⟨u1, v1, h1, h2, h3⟩ := t.get y0 r hf
    exact ix_kdict va sl pins s σ H _ _ v u Q I rx ry ⟨d, y0, v1, rfl, rfl, ⟨en, n, u1, kd.at_, kd.lit, h1, h2⟩, q.now sm (h3 G)⟩ hs
  | _ => cases hf
theorem snd_atT (O : Ok1 X T F z co E) (S : Snd X T F z co E f) {a b : Expr} {b' : Ex} {es : List (Str × D)} {p : Pos} (ht : tabOf X.env.scope.names T a = some es) (hm : notSlice b = true) (h : f b = some b') : PE X (.Subscript a b p) (tE X.kx z co F E (.atT b' es)) := by
  obtain ⟨y, q, rfl, g, hd, e⟩ := tab_is ht
  obtain ⟨d, m, t⟩ := O.dct y es e
  exact pe_imp (pe_ix (ix_tabD t) (pe_tabName g m hd) (S.e _ _ h) (plainIx_of hm)) fun σ H Q q => by
    obtain ⟨ν, G, R, q⟩ := tE1 (a' := b') (d0 := d) (h := atTD es) (fun ν => by simp only [evE]) q
    exact ⟨ν, G, R, by cases ev : evE F ν b' <;> rw [ev] at q <;> first | exact fun v G1 H1 s hv => ⟨rfl, q v G1 H1 s hv⟩ | exact q⟩
theorem snd_rev (S : Snd X T F z co E f) {a : Expr} {a' : Ex} {k : Nat} {p1 p2 p3 p : Pos} (h : f a = some a') : PE X (.Subscript a (.Slice none none (some (.UnaryOp .USub (.Constant (.int 1) k p1) p2)) p3) p) (tE X.kx z co F E (.rev a')) :=
  pe_imp (pe_revD (S.e _ _ h)) fun σ H Q q => tE1 (d0 := 0) (h := revD) (fun ν => by simp only [evE]) q
end
end Pe

set_option Elab.async false
set_option linter.all false
set_option maxRecDepth 100000
set_option maxHeartbeats 4000000
/-! Pe8: built-in calls, isinstance, join; what a for walks. -/
namespace Pe
open PySem L2
section
variable {X : Cx} {T : Tbl} {F : Str → List D → Res D} {z : Zx} {co : Co} {E : St → XK} {f : Expr → Option Ex}

theorem snd_bf (O : Ok1 X T F z co E) (S : Snd X T F z co E f) {y : Str} {as : List Expr} {x : Ex} {b : Bf} {p pos : Pos} (g : glB X.env.scope.names y = true) (hb : bfOf y as.length = some b) (hc : ¬ (b.cold = true ∧ T.hot = true)) (h : cArgs f as = some x) :
    PE X (.Call (.Name y p) as [] pos) (tE X.kx z co F E (.bf b x)) := by
  obtain ⟨k1, k2, k3, k4, k5⟩ := bf_boot _ _ _ hb
  have m := O.blt y k1
  cases as with
  | nil => exact absurd k5 (Nat.lt_irrefl 0)
  | cons e es =>
    have st := args_star S h
    have rd : ∀ (σ : St) (H : Hp) (Q : VK), tE X.kx z co F E (.bf b x) σ H Q → tCB (rDc X.kx (bfD b)) (tA X.kx z co F E x) σ H Q := fun σ H Q ⟨ν, G, R, q⟩ => by
      simp only [evE] at q
      refine tA.then R q.toR fun ds vs G1 H1 s ha R1 q1 => ?_
      obtain ⟨r, er, k⟩ := q1.ofO
      exact ⟨G1, ds, r, s.s, ha, er, fun v3 G3 H3 u hv3 => k v3 G3 H3 (s.trans u) hv3⟩
    have c := call_bfD (X := X) b (fun z => O.calm (by
      cases e : T.hot with
      | false => rfl
      | true => exact absurd ⟨z, e⟩ hc)) O.gd O.hu
    rcases k4 with ⟨id, e1, e2⟩ | ⟨id, e1, e2⟩
    · rw [e1] at c
      exact pe_imp (pe_callB c (gl_of g) m e2 (snd_args S h) k2 (ne_beq k3) (star_of (st e List.mem_cons_self)) (noStars fun a ha => st a (List.mem_cons_of_mem _ ha))) rd
    · rw [e1] at c
      exact pe_imp (pe_callTy c (gl_of g) m e2 (snd_args S h) k2 (ne_beq k3) (star_of (st e List.mem_cons_self)) (noStars fun a ha => st a (List.mem_cons_of_mem _ ha))) rd

/-! ### isinstance -/
theorem ty_boot {y : Str} {t : Ty} (h : tyOf y = some t) : y ∈ bltNames ∧ y ≠ "__name__" ∧ y ≠ "__debug__" ∧ bootBuiltins y = some (.type t.nm) := by
  unfold tyOf at h
  by_cases c : y = "int"
  · rw [if_pos c] at h; cases h; subst c; exact ⟨by decide +kernel, by decide +kernel, by decide +kernel, by decide +kernel⟩
  rw [if_neg c] at h; clear c
  by_cases c : y = "str"
  · rw [if_pos c] at h; cases h; subst c; exact ⟨by decide +kernel, by decide +kernel, by decide +kernel, by decide +kernel⟩
  rw [if_neg c] at h; clear c
  by_cases c : y = "bool"
  · rw [if_pos c] at h; cases h; subst c; exact ⟨by decide +kernel, by decide +kernel, by decide +kernel, by decide +kernel⟩
  rw [if_neg c] at h; clear c
  by_cases c : y = "tuple"
  · rw [if_pos c] at h; cases h; subst c; exact ⟨by decide +kernel, by decide +kernel, by decide +kernel, by decide +kernel⟩
  rw [if_neg c] at h; clear c
  by_cases c : y = "list"
  · rw [if_pos c] at h; cases h; subst c; exact ⟨by decide +kernel, by decide +kernel, by decide +kernel, by decide +kernel⟩
  rw [if_neg c] at h; cases h
theorem pe_ty (O : Ok1 X T F z co E) {y : Str} {t : Ty} {p : Pos} (g : glB X.env.scope.names y = true) (h : tyOf y = some t) : PE X (.Name y p) (tC (.ty t.nm)) := by
  obtain ⟨k1, k2, k3, k4⟩ := ty_boot h
  exact pe_bltn (gl_of g) (O.blt y k1) k4 rfl k2 (ne_beq k3)
theorem snd_isi (O : Ok1 X T F z co E) (S : Snd X T F z co E f) {a : Expr} {ty : Str} {a' : Ex} {t : Ty} {p p1 pos : Pos} (g : glB X.env.scope.names "isinstance" = true) (gt : glB X.env.scope.names ty = true) (h : f a = some a') (ht : tyOf ty = some t) :
    PE X (.Call (.Name "isinstance" p) [a, .Name ty p1] [] pos) (tE X.kx z co F E (.isi a' t)) := by
  have st := S.star _ _ h
  have pa : PA X [a, .Name ty p1] (tCons (tE X.kx z co F E a') (tCons (tC (.ty t.nm)) tNil)) := pa_cons (S.e _ _ h) (pa_cons (pe_ty O gt ht) pa_nil) (star_of st)
  refine pe_imp (pe_callB (call_isD t) (gl_of g) (O.blt _ (by decide +kernel)) (by decide +kernel) pa (by decide +kernel) (by decide +kernel) (star_of st) rfl) fun σ H Q ⟨ν, G, R, q⟩ => ?_
  simp only [evE] at q
  refine tE.then R q.toR fun d v G1 H1 _ s hv R1 q1 => ?_
  obtain ⟨r, e, k⟩ := q1.ofO
  obtain ⟨ho, rfl⟩ := isTO_some e
  exact ⟨G1, v, d, rfl, s.s, hv, ho, k _ G1 H1 s (.bl _)⟩
theorem pa_tys (O : Ok1 X T F z co E) : ∀ {es : List Expr} {ts : List Ty}, cTys X.env.scope.names es = some ts → PA X es (fun _ H Q => Q (ts.map fun t => V.ty t.nm) H)
  | [], ts, h => by cases h; exact pa_nil
  | .Name y p :: es, ts, h => by
    unfold cTys at h
    by_cases g : glB X.env.scope.names y = true
    · rw [if_pos g] at h
      cases e1 : tyOf y with
      | none => rw [e1] at h; cases h
      | some t =>
        cases e2 : cTys X.env.scope.names es with
        | none => rw [e1, e2] at h; cases h
        | some r =>
          rw [e1, e2] at h
          cases h
          exact pa_imp (pa_cons (pe_ty O g e1) (pa_tys O e2)) fun σ H Q q => q
    · rw [if_neg g] at h; cases h
theorem tys_len : ∀ {es : List Expr} {nm : List (Str × NameKind)} {ts : List Ty}, cTys nm es = some ts → ts.length = es.length
  | [], _, ts, h => by cases h; rfl
  | .Name y p :: es, nm, ts, h => by
    unfold cTys at h
    by_cases g : glB nm y = true
    · rw [if_pos g] at h
      cases e1 : tyOf y with
      | none => rw [e1] at h; cases h
      | some t =>
        cases e2 : cTys nm es with
        | none => rw [e1, e2] at h; cases h
        | some r =>
          rw [e1, e2] at h
          cases h
          exact congrArg (· + 1) (tys_len e2)
    · rw [if_neg g] at h; cases h
theorem paired_ty : ∀ ts : List Ty, Paired ClsV (ts.map fun t => V.ty t.nm) (ts.map fun t => Value.type t.nm)
  | [] => .nil
  | t :: ts => .cons (.ty _) (paired_ty ts)
theorem snd_isis (O : Ok1 X T F z co E) (S : Snd X T F z co E f) {a : Expr} {es : List Expr} {j : Nat} {a' : Ex} {ts : List Ty} {p p1 pos : Pos} (g : glB X.env.scope.names "isinstance" = true) (h : f a = some a') (ht : cTys X.env.scope.names es = some ts) (hl : ts.length ≤ 1000) :
    PE X (.Call (.Name "isinstance" p) [a, .Tuple es j p1] [] pos) (tE X.kx z co F E (.isis a' ts)) := by
  have st := S.star _ _ h
  have pt : PE X (.Tuple es j p1) _ := pe_tup (pa_tys O ht)
  have pa : PA X [a, .Tuple es j p1] _ := pa_cons (S.e _ _ h) (pa_cons pt pa_nil) (star_of st)
  refine pe_imp (pe_callB (call_isTD ts) (gl_of g) (O.blt _ (by decide +kernel)) (by decide +kernel) pa (by decide +kernel) (by decide +kernel) (star_of st) rfl) fun σ H Q ⟨ν, G, R, q⟩ => ?_
  simp only [evE] at q
  refine tE.then R q.toR fun d v G1 H1 _ s hv R1 q1 => ⟨by rw [List.length_map]; exact Nat.le_trans hl (by decide), fun tp hp => ?_⟩
  obtain ⟨r, e, k⟩ := q1.ofO
  obtain ⟨ho, rfl⟩ := anyTO_some e
  exact ⟨G1, v, d, tp, rfl, s.s.trans (same_upd hp), hv, ho, upd_same, k _ G1 _ (s.trans (Nx.hid s.s hp)) (.bl _)⟩

/-! ### join -/
theorem snd_join (O : Ok1 X T F z co E) (S : Snd X T F z co E f) {a : Expr} {y : Str} {a' : Ex} {j : Nat} {p ap cp : Pos} (hl : (ap.endLine == cp.line) = true) (h : f a = some a') :
    PE X (.Call (.Attribute (.Constant (.str y) j p) "join" ap) [a] [] cp) (tE X.kx z co F E (.join (.cst (.str y)) a')) := by
  have st := star_of (es := []) (env := X.env) (S.star _ _ h)
  have pa : PA X [a] (tCons (tE X.kx z co F E a') tNil) := pa_cons (S.e _ _ h) pa_nil st
  refine pe_imp (pe_bm PySem.F.plainAttrs_str PySem.F.slot_str_join PySem.F.type_str_join mt_joinD pe_str pa rfl (by rw [st]; rfl) hl st rfl) fun σ H Q ⟨ν, G, R, q⟩ => ?_
  simp only [evE, Res.bind_ok] at q
  refine ⟨rfl, tE.then R q.toR fun d v G1 H1 _ s hv R1 q1 => ?_⟩
  obtain ⟨r, e, k⟩ := q1.ofO
  exact ⟨G1, _, d, v, r, rfl, s.s, .str y, hv, e, fun v3 G3 H3 u hv3 => k v3 G3 H3 (s.trans u) hv3⟩

/-! ### what a for walks -/
theorem walk_at {K : Fg} {J : It} {xs : List V} {ds : List D} {G : Hp} {P : Hp → Prop} (w : Walk J xs.length P (YAt xs)) (hP : ∀ H, Same G H → P H) (a : DqAll K G xs ds) : WalkD K J ds G := by
  refine ⟨YAt xs, ?_, ?_⟩
  · rw [← dpa_len a]
    exact w.mono hP fun i H x H' _ _ y => y
  · rintro i d G1 H1 H2 v hd s1 s2 ⟨rfl, hv⟩
    obtain ⟨v', e, r⟩ := dpa_get a hd
    rw [hv] at e
    cases e
    exact ⟨G1, Nx.refl s2, dp_same s1 _ _ r⟩
theorem walk_fn {K : Fg} {J : It} {ds : List D} {g : Nat → V} {G : Hp} (w : Walk J ds.length (fun _ => True) (YFn g)) (h : ∀ i d, ds[i]? = some d → ∀ G, Dq K G (g i) d) : WalkD K J ds G := by
  refine ⟨YFn g, w.mono (fun _ _ => trivial) fun i H x H' _ _ y => y, ?_⟩
  rintro i d G1 H1 H2 v hd s1 s2 ⟨rfl, rfl⟩
  exact ⟨G1, Nx.refl s2, h i d hd G1⟩
theorem walk_pr {K : Fg} {J : It} {ds : List D} {g1 g2 : Nat → Option V} {G : Hp} {P : Hp → Prop} (w : Walk J ds.length P (YPair g1 g2)) (hP : ∀ H, Same G H → P H)
    (h : ∀ i d, ds[i]? = some d → ∃ x y, d = .tuple [x, y] ∧ (∀ v, g1 i = some v → Dq K G v x) ∧ ∀ v, g2 i = some v → Dq K G v y) : WalkD K J ds G := by
  refine ⟨YPair g1 g2, w.mono hP fun i H x H' _ _ y => y, ?_⟩
  rintro i d G1 H1 H2 v hd s1 s2 ⟨p, v1, v2, rfl, hp, rfl, e1, e2⟩
  obtain ⟨x, y, rfl, r1, r2⟩ := h i d hd
  have a : DqAll K G1 [v1, v2] [x, y] := .cons (dp_same s1 _ _ (r1 v1 e1)) (.cons (dp_same s1 _ _ (r2 v2 e2)) .nil)
  exact ⟨upd G1 p (.tup [v1, v2]), Nx.new s2 hp, dp_newT a s2 hp⟩
theorem pi_seq (S : Snd X T F z co E f) {tg e : Expr} {x : Ex} (h : f e = some x) : PI X tg e (tI X.kx z co F E (.seq x)) := by
  refine ⟨fun pins s σ H R I q => ?_⟩
  obtain ⟨ν, G, Rp, q⟩ := q
  simp only [evE] at q
  cases ev : evE F ν x with
  | err e' =>
    rw [ev] at q
    refine (pi_list (S.e _ _ h)).run pins s σ H R I ⟨ν, G, Rp, ?_⟩
    rw [ev]
    exact q
  | no => rw [ev] at q; exact q.elim
  | ok d =>
    rw [ev] at q
    cases d with
    | list ds =>
      refine (pi_list (S.e _ _ h)).run pins s σ H R I ⟨ν, G, Rp, ?_⟩
      rw [ev]
      intro v G1 H1 s hv
      cases hv with
      | lst h1 a => exact ⟨_, rfl, ⟨_, (ls_same s.s h1).sq⟩, q _ G1 H1 s (walk_at walk_list (fun H2 s => (ls_same s h1).sq) a)⟩
    | tuple ds =>
      refine (pi_tup (S.e _ _ h)).run pins s σ H R I ⟨ν, G, Rp, ?_⟩
      rw [ev]
      intro v G1 H1 s hv
      cases hv with
      | tup h1 a => exact ⟨_, rfl, ⟨_, seqT_same s.s h1⟩, q _ G1 H1 s (walk_at walk_tup (fun H2 s => seqT_same s h1) a)⟩
    | str z =>
      refine (pi_str (S.e _ _ h)).run pins s σ H R I ⟨ν, G, Rp, ?_⟩
      rw [ev]
      intro v G1 H1 s hv
      cases hv with
      | str =>
        refine ⟨z, rfl, q _ G1 H1 s ⟨fun i H v H' => H' = H ∧ ∃ c, z.cps[i]? = some c ∧ v = .str ⟨#[c]⟩, ?_, ?_⟩⟩
        · have e : (signs z).length = z.cps.size := by simp [signs]
          rw [e]
          exact walk_str.mono (fun _ _ => trivial) fun i H x H' _ _ y => y
        · rintro i d G1 H1 H2 v hd s1 s2 ⟨rfl, c, hc, rfl⟩
          refine ⟨G1, Nx.refl s2, ?_⟩
          simp only [signs, List.getElem?_map, Array.getElem?_toList, hc, Option.map_some, Option.some.injEq] at hd
          subst hd
          exact .str _
    | _ => exact q.elim
theorem near_of {i : Int} (h : near i = true) : -(2 ^ 62) ≤ i ∧ i < 2 ^ 62 := by
  have := of_decide_eq_true h
  omega
theorem rangeL_len (i j : Int) : (rangeL i j).length = (j - i).toNat := by simp [rangeL]
theorem walk_rng {K : Fg} {G : Hp} (i j : Int) : WalkD K (Itr i (j - i).toNat) (rangeL i j) G := by
  refine walk_fn (g := fun k => .int (i + (k : Nat))) (by rw [rangeL_len]; exact walk_range) fun k d h G => ?_
  unfold rangeL at h
  rw [List.getElem?_map] at h
  cases e : (List.range (j - i).toNat)[k]? with
  | none => rw [e] at h; cases h
  | some m =>
    rw [e] at h
    cases h
    rw [List.getElem?_range] at e
    · cases e; exact .int _
    · obtain ⟨hk, _⟩ := List.getElem?_eq_some_iff.mp e
      simpa using hk
theorem pi_rng2 (O : Ok1 X T F z co E) {W : It → List D → Hp → Prop} (hW : ∀ i j G, W (Itr i (j - i).toNat) (rangeL i j) G) (S : Snd X T F z co E f) {tg a b : Expr} {a' b' : Ex} {p pos : Pos} (g : glB X.env.scope.names "range" = true) (h1 : f a = some a') (h2 : f b = some b') : PI X tg (.Call (.Name "range" p) [a, b] [] pos) (tIg W X.kx z co F E (.rng a' b')) := by
  have st1 := S.star _ _ h1
  have st2 := S.star _ _ h2
  have pa : PA X [a, b] (tCons (tE X.kx z co F E a') (tCons (tE X.kx z co F E b') tNil)) := pa_cons (S.e _ _ h1) (pa_cons (S.e _ _ h2) pa_nil (star_of st2)) (star_of st1)
  refine ⟨fun pins s σ H R I q => (pi_range2 (gl_of g) (O.blt _ (by decide +kernel)) pa (by rw [star_of st1, star_of st2]; rfl) (by rw [star_of st2]; rfl)).run pins s σ H R I ?_⟩
  obtain ⟨ν, G, Rp, q⟩ := q
  simp only [evE] at q
  have q' : PsR X.kx co (E σ) ((evE F ν a').bind fun x => (evE F ν b').bind fun y => match x, y with
    | .int i, .int j => if near i = true ∧ near j = true then .ok (rangeL i j) else .no
    | _, _ => .no) G H fun ds => ∀ J G' H', Nx G H G' H' → W J ds G' → R J H' := by
    revert q
    cases evE F ν a' with
    | ok x =>
      cases evE F ν b' with
      | ok y =>
        cases x <;> cases y <;> first
          | exact id
          | (simp only [Res.bind_ok]; split <;> exact id)
      | err _ => exact id
      | no => exact id
    | err _ => exact id
    | no => exact id
  refine tE.then Rp q' fun d v G1 H1 _ s hv R1 q1 => tE.then R1 q1 fun d2 v2 G2 H2 _ t hv2 R2 q2 => ?_
  have hv' := dp_same t.g _ _ hv
  cases hv' with
  | int i =>
    cases hv2 with
    | int j =>
      have q3 : PsR X.kx co (E σ) (if near i = true ∧ near j = true then .ok (rangeL i j) else .no) G2 H2 _ := q2
      by_cases hn : near i = true ∧ near j = true
      · rw [if_pos hn] at q3
        have n1 := near_of hn.1
        have n2 := near_of hn.2
        exact ⟨i, j, rfl, ⟨n1.1, n1.2, n2.1, n2.2⟩, q3 _ G2 H2 (s.trans t) (hW i j _)⟩
      · rw [if_neg hn] at q3; exact q3.elim
    | _ => exact q2.elim
  | _ => exact q2.elim
theorem pi_rng1 (O : Ok1 X T F z co E) {W : It → List D → Hp → Prop} (hW : ∀ i j G, W (Itr i (j - i).toNat) (rangeL i j) G) (S : Snd X T F z co E f) {tg b : Expr} {b' : Ex} {p pos : Pos} (g : glB X.env.scope.names "range" = true) (h2 : f b = some b') : PI X tg (.Call (.Name "range" p) [b] [] pos) (tIg W X.kx z co F E (.rng (.cst (.int 0)) b')) := by
  have st2 := S.star _ _ h2
  have pa : PA X [b] (tCons (tE X.kx z co F E b') tNil) := pa_cons (S.e _ _ h2) pa_nil (star_of st2)
  refine ⟨fun pins s σ H R I q => (pi_range1 (gl_of g) (O.blt _ (by decide +kernel)) pa (by rw [star_of st2]; rfl)).run pins s σ H R I ?_⟩
  obtain ⟨ν, G, Rp, q⟩ := q
  simp only [evE, Res.bind_ok] at q
  have q' : PsR X.kx co (E σ) ((evE F ν b').bind fun y => match y with
    | .int j => if near j = true then .ok (rangeL 0 j) else .no
    | _ => .no) G H fun ds => ∀ J G' H', Nx G H G' H' → W J ds G' → R J H' := by
    revert q
    cases evE F ν b' with
    | ok y =>
      cases y with
      | int j =>
        simp only [Res.bind_ok]
        by_cases hn : near j = true
        · rw [if_pos hn, if_pos ⟨by decide, hn⟩]; exact id
        · rw [if_neg hn, if_neg (fun z => hn z.2)]; exact id
      | _ => exact id
    | err _ => exact id
    | no => exact id
  refine tE.then Rp q' fun d2 v2 G2 H2 _ t hv2 R2 q2 => ?_
  cases hv2 with
  | int j =>
    have q3 : PsR X.kx co (E σ) (if near j = true then .ok (rangeL 0 j) else .no) G2 H2 _ := q2
    by_cases hn : near j = true
    · rw [if_pos hn] at q3
      have n2 := near_of hn
      have w := hW 0 j G2
      rw [show j - 0 = j by omega] at w
      exact ⟨j, rfl, n2.1, n2.2, q3 _ G2 H2 t w⟩
    · rw [if_neg hn] at q3; exact q3.elim
  | _ => exact q2.elim
theorem pairs_len : ∀ xs ys : List D, (pairs xs ys).length = min xs.length ys.length
  | [], _ => by simp [pairs]
  | _ :: _, [] => by simp [pairs]
  | x :: xs, y :: ys => by
    simp only [pairs, List.length_cons, pairs_len xs ys]
    omega
theorem pairs_at : ∀ {xs ys : List D} {i : Nat} {d : D}, (pairs xs ys)[i]? = some d → ∃ x y, xs[i]? = some x ∧ ys[i]? = some y ∧ d = .tuple [x, y]
  | [], _, _, _, h => by simp [pairs] at h
  | _ :: _, [], _, _, h => by simp [pairs] at h
  | x :: xs, y :: ys, 0, d, h => by
    simp only [pairs, List.getElem?_cons_zero, Option.some.injEq] at h
    exact ⟨x, y, rfl, rfl, h.symm⟩
  | x :: xs, y :: ys, i + 1, d, h => by
    simp only [pairs, List.getElem?_cons_succ] at h
    simpa using pairs_at h
theorem walk_pairs {K : Fg} {J : It} {G : Hp} {us ws : List V} {xs ys : List D} {P : Hp → Prop} (w : Walk J (pairs xs ys).length P (YPair (fun i => us[i]?) (fun i => ws[i]?))) (hP : ∀ H, Same G H → P H) (a : DqAll K G us xs) (b : DqAll K G ws ys) : WalkD K J (pairs xs ys) G := by
  refine walk_pr w hP fun i d h => ?_
  obtain ⟨x, y, h1, h2, rfl⟩ := pairs_at h
  refine ⟨x, y, rfl, fun v e => ?_, fun v e => ?_⟩
  · obtain ⟨v', e', r⟩ := dpa_get a h1
    have e : us[i]? = some v := e
    rw [e] at e'
    cases e'
    exact r
  · obtain ⟨v', e', r⟩ := dpa_get b h2
    have e : ws[i]? = some v := e
    rw [e] at e'
    cases e'
    exact r
theorem walk_zipT {K : PySem.W.Frag} {a b : Addr} {xs ys : List V} {n : Nat} (hn : n = min xs.length ys.length) : Walk (RZ.ItzT K a b) n (fun H => SqT K H a xs ∧ SqT K H b ys) (YPair (fun i => xs[i]?) (fun i => ys[i]?)) := by
  subst hn
  constructor
  · intro i H hi q
    exact ⟨xs, ys, xs[i]'(by omega), ys[i]'(by omega), q.1, q.2, List.getElem?_eq_getElem _, List.getElem?_eq_getElem _⟩
  · intro H q
    exact ⟨xs, ys, q.1, q.2, by omega⟩
  · rintro i H v H' _ q ⟨p, x, z, h1, h2, h3, h4, h5⟩
    exact ⟨p, x, z, h1, h2, h3, h4 xs q.1, h5 ys q.2⟩
theorem pi_zipD (O : Ok1 X T F z co E) (S : Snd X T F z co E f) {tg a b : Expr} {a' b' : Ex} {p pos : Pos} (ht : isTupE tg = true) (g : glB X.env.scope.names "zip" = true) (h1 : f a = some a') (h2 : f b = some b') : PI X tg (.Call (.Name "zip" p) [a, b] [] pos) (tI X.kx z co F E (.zip a' b')) := by
  have st1 := S.star _ _ h1
  have st2 := S.star _ _ h2
  have pa : PA X [a, b] (tCons (tE X.kx z co F E a') (tCons (tE X.kx z co F E b') tNil)) := pa_cons (S.e _ _ h1) (pa_cons (S.e _ _ h2) pa_nil (star_of st2)) (star_of st1)
  cases tg with
  | Tuple elts kk tpos =>
    refine ⟨fun pins s σ H R I q => (RZ.pi_zipA (gl_of g) (O.blt _ (by decide +kernel)) pa (star_of st1) (by rw [star_of st2]; rfl)).run pins s σ H R I ?_⟩
    obtain ⟨ν, G, Rp, q⟩ := q
    simp only [evE] at q
    have q' : PsR X.kx co (E σ) ((evE F ν a').bind fun x => (evE F ν b').bind fun y => match x, y with
      | .list xs, .list ys => .ok (pairs xs ys)
      | .tuple xs, .tuple ys => .ok (pairs xs ys)
      | _, _ => .no) G H fun ds => ∀ J G' H', Nx G H G' H' → WalkD X.kx J ds G' → R J H' := by
      revert q
      cases evE F ν a' with
      | ok x =>
        cases evE F ν b' with
        | ok y => cases x <;> cases y <;> exact id
        | err _ => exact id
        | no => exact id
      | err _ => exact id
      | no => exact id
    refine tE.then Rp q' fun d v G1 H1 _ s hv R1 q1 => tE.then R1 q1 fun d2 v2 G2 H2 _ t hv2 R2 q2 => ?_
    have hv' := dp_same t.g _ _ hv
    cases hv' with
    | lst l1 a1 =>
      cases hv2 with
      | lst l2 a2 =>
        refine ⟨_, _, _, _, rfl, .inl ⟨(ls_same t.s l1).sq, (ls_same t.s l2).sq, q2 _ G2 H2 (s.trans t) (walk_pairs (walk_zip ?_) (fun H s => ⟨(ls_same s l1).sq, (ls_same s l2).sq⟩) a1 a2)⟩⟩
        rw [pairs_len, dpa_len a1, dpa_len a2]
      | _ => exact q2.elim
    | tup l1 a1 =>
      cases hv2 with
      | tup l2 a2 =>
        refine ⟨_, _, _, _, rfl, .inr ⟨seqT_same t.s l1, seqT_same t.s l2, q2 _ G2 H2 (s.trans t) (walk_pairs (walk_zipT (K := X.K) ?_) (fun H s => ⟨seqT_same s l1, seqT_same s l2⟩) a1 a2)⟩⟩
        rw [pairs_len, dpa_len a1, dpa_len a2]
      | _ => exact q2.elim
    | _ => exact q2.elim
  | _ => cases ht
theorem countL_len : ∀ (xs : List D) (k : Nat), (countL k xs).length = xs.length
  | [], _ => rfl
  | x :: xs, k => congrArg (· + 1) (countL_len xs (k + 1))
theorem countL_at : ∀ {xs : List D} {k i : Nat} {d : D}, (countL k xs)[i]? = some d → ∃ x, xs[i]? = some x ∧ d = .tuple [.int ((k + i : Nat)), x]
  | [], _, _, _, h => by simp [countL] at h
  | x :: xs, k, 0, d, h => by
    simp only [countL, List.getElem?_cons_zero, Option.some.injEq] at h
    exact ⟨x, rfl, h.symm⟩
  | x :: xs, k, i + 1, d, h => by
    simp only [countL, List.getElem?_cons_succ] at h
    obtain ⟨y, h1, h2⟩ := countL_at h
    exact ⟨y, by simpa using h1, by rw [h2]; congr 3; omega⟩
theorem pi_enuD (O : Ok1 X T F z co E) (S : Snd X T F z co E f) {tg a : Expr} {a' : Ex} {p pos : Pos} (ht : isTupE tg = true) (g : glB X.env.scope.names "enumerate" = true) (h1 : f a = some a') : PI X tg (.Call (.Name "enumerate" p) [a] [] pos) (tI X.kx z co F E (.enu a')) := by
  have st1 := S.star _ _ h1
  have pa : PA X [a] (tCons (tE X.kx z co F E a') tNil) := pa_cons (S.e _ _ h1) pa_nil (star_of st1)
  cases tg with
  | Tuple elts kk tpos =>
    refine ⟨fun pins s σ H R I q => (pi_enum (gl_of g) (O.blt _ (by decide +kernel)) pa (by rw [star_of st1]; rfl)).run pins s σ H R I ?_⟩
    obtain ⟨ν, G, Rp, q⟩ := q
    simp only [evE] at q
    have q' : PsR X.kx co (E σ) ((evE F ν a').bind fun x => listR x fun xs => .ok (countL 0 xs)) G H fun ds => ∀ J G' H', Nx G H G' H' → WalkD X.kx J ds G' → R J H' := by
      revert q
      cases evE F ν a' with
      | ok x => cases x <;> exact id
      | err _ => exact id
      | no => exact id
    refine tE.then Rp q' fun d v G1 H1 _ s hv R1 q1 => ?_
    cases hv with
    | lst l1 a1 =>
      rename_i aa vs es _
      refine ⟨_, _, rfl, (ls_same s.s l1).sq, q1 _ G1 H1 s (walk_pr (g1 := fun i => some (.int (i : Nat))) (g2 := fun i => vs[i]?) ?_ (fun H s => (ls_same s l1).sq) fun i d h => ?_)⟩
      · rw [countL_len, ← dpa_len a1]; exact walk_enum
      · obtain ⟨x, h2, rfl⟩ := countL_at h
        refine ⟨_, x, rfl, fun v e => ?_, fun v e => ?_⟩
        · cases e
          rw [Nat.zero_add]
          exact .int _
        · obtain ⟨v', e', r⟩ := dpa_get a1 h2
          have e : vs[i]? = some v := e
          rw [e] at e'
          cases e'
          exact r
    | _ => exact q1.elim
  | _ => cases ht
end
end Pe

set_option Elab.async false
set_option linter.all false
set_option maxRecDepth 100000
set_option maxHeartbeats 4000000
/-! Pe9: targets, list comprehensions, all expressions. -/
namespace Pe
open PySem L2
section
variable {X : Cx} {T : Tbl} {F : Str → List D → Res D} {z : Zx} {co : Co} {E : St → XK} {f : Expr → Option Ex}

/-! ### targets -/
abbrev EN : St → XK := fun _ => E0
def gNames : List Nat → TGs
  | [] => gNil
  | i :: is => gCons (gName i) (gNames is)
def tG (K : Fg) : Sum Nat (List Nat) → TG
  | .inl i => gName i
  | .inr is => gTup K is.length (gNames is)
/-- the names that may be stored to -/
def Sto (X : Cx) (nm : List (Str × NameKind)) : Prop := ∀ x, locB nm x = true → L2.Loc X.env.scope x ∧ (X.fn x = true ∨ X.env.scope.names.lookup x = some .local)
theorem pg_one (nd : X.N.Nodup) {nm : List (Str × NameKind)} (st : Sto X nm) {x : Str} {i : Nat} {p : Pos} (h1 : locB nm x = true) (h2 : ixOf x X.N 0 = some i) : PG X (.Name x p) (gName i) :=
  pg_name nd (ixOf_get h2) (st x h1).1 (st x h1).2
theorem tgs_ok (nd : X.N.Nodup) {nm : List (Str × NameKind)} (st : Sto X nm) : ∀ {es : List Expr} {is : List Nat}, cTgs X.N nm es = some is →
    PGs X es (gNames is) ∧ (assignEach es X.env).length = is.length ∧ (assignEach es X.env).findIdx? (·.1) = none
  | [], is, h => by cases h; exact ⟨pgs_nil, rfl, rfl⟩
  | .Name y p :: es, is, h => by
    unfold cTgs at h
    by_cases g : locB nm y = true
    · rw [if_pos g] at h
      cases e1 : ixOf y X.N 0 with
      | none => rw [e1] at h; cases h
      | some i =>
        cases e2 : cTgs X.N nm es with
        | none => rw [e1, e2] at h; cases h
        | some r =>
          rw [e1, e2] at h
          cases h
          obtain ⟨h1, h2, h3⟩ := tgs_ok nd st e2
          refine ⟨pgs_cons (pg_one nd st g e1) h1 rfl, congrArg (· + 1) h2, ?_⟩
          show List.findIdx? _ ((false, assign (.Name y p) X.env) :: assignEach es X.env) = none
          rw [List.findIdx?_cons]
          simp [h3]
    · rw [if_neg g] at h; cases h
theorem tg_ok (nd : X.N.Nodup) (calm : X.calm = true) {nm : List (Str × NameKind)} (st : Sto X nm) {tg : Expr} {t : Sum Nat (List Nat)} (h : cTg X.N nm tg = some t) : PG X tg (tG X.kx t) := by
  unfold cTg at h
  split at h
  · rename_i x p
    by_cases g : locB nm x = true
    · rw [if_pos g] at h
      cases e : ixOf x X.N 0 with
      | none => rw [e] at h; cases h
      | some i =>
        rw [e] at h
        cases h
        exact pg_one nd st g e
    · rw [if_neg g] at h; cases h
  · rename_i es j p
    cases e : cTgs X.N nm es with
    | none => rw [e] at h; cases h
    | some is =>
      rw [e] at h
      cases h
      obtain ⟨h1, h2, h3⟩ := tgs_ok nd st e
      exact pg_tup calm h1 h2 h3
  · cases h

theorem repV_set {K : Fg} {σ : St} {ν : List (Option D)} {G H : Hp} (R : RepV K z σ ν G H) (i : Nat) {v : V} {d : D} (r : Dq K G v d) : RepV K z (σ.set i (some v)) (ν.set i (some d)) G H := by
  refine ⟨R.same, by rw [List.length_set, List.length_set]; exact R.len, fun j e he => ?_, fun q hq => ⟨fun he => ?_, (R.x q hq).2⟩⟩
  · by_cases hij : i = j
    · subst hij
      have hi : i < ν.length := by
        have := (List.getElem?_eq_some_iff.mp he).1
        rwa [List.length_set] at this
      rw [List.getElem?_set_self hi] at he
      cases he
      exact ⟨v, List.getElem?_set_self (by rw [← R.len]; exact hi), r⟩
    · rw [List.getElem?_set_ne hij] at he ⊢
      exact R.get j e he
  · by_cases hij : i = q.i
    · have hi : q.i < ν.length := by
        have := (List.getElem?_eq_some_iff.mp he).1
        rwa [List.length_set] at this
      rw [hij, List.getElem?_set_self hi] at he
      cases he
    · rw [List.getElem?_set_ne hij] at he ⊢
      exact (R.x q hq).1 he
theorem wipe_set : ∀ {own : List Nat} {σ : St} {i : Nat} {v : Option V}, i ∈ own → wipe (σ.set i v) own = wipe σ own
  | [], _, _, _, h => by cases h
  | o :: own, σ, i, v, h => by
    unfold wipe
    rcases List.mem_cons.mp h with rfl | h
    · by_cases hm : i ∈ own
      · rw [wipe_set hm]
      · have e : ∀ (own : List Nat) (σ : St), i ∉ own → wipe (σ.set i v) own = (wipe σ own).set i v := by
          intro own
          induction own with
          | nil => intro σ _; rfl
          | cons o own ih =>
            intro σ hn
            unfold wipe
            rw [ih σ (fun z => hn (List.mem_cons_of_mem _ z)), List.set_comm]
            intro z
            subst z
            exact hn List.mem_cons_self
        rw [e own σ hm, List.set_set]
    · rw [wipe_set h]
theorem gNames_go {K : Fg} {G H : Hp} {Q : St → Hp → Prop} : ∀ {is : List Nat} {ds : List D} {vs : List V} {σ : St} {ν ν' : List (Option D)}, RepV K z σ ν G H → DqAll K G vs ds → setAll ν is ds = some ν' →
    (∀ σ', RepV K z σ' ν' G H → (∀ own : List Nat, (is.all fun i => own.contains i) = true → wipe σ' own = wipe σ own) → Q σ' H) → gNames is vs σ H Q
  | [], ds, vs, σ, ν, ν', R, a, h, k => by
    cases a with
    | nil => cases h; exact ⟨rfl, k σ R fun _ _ => rfl⟩
    | cons _ _ => cases h
  | i :: is, ds, vs, σ, ν, ν', R, a, h, k => by
    cases a with
    | nil => cases h
    | cons r t =>
      refine ⟨_, _, rfl, gNames_go (repV_set R i r) t h fun σ' R' w => k σ' R' fun own ho => ?_⟩
      rw [List.all_cons, Bool.and_eq_true] at ho
      rw [w own ho.2, wipe_set (by simpa using ho.1)]
theorem setAll_len : ∀ {is : List Nat} {ds : List D} {ν ν' : List (Option D)}, setAll ν is ds = some ν' → ds.length = is.length
  | [], [], _, _, _ => rfl
  | [], _ :: _, _, _, h => by cases h
  | _ :: _, [], _, _, h => by cases h
  | _ :: is, _ :: ds, _, _, h => congrArg (· + 1) (setAll_len (is := is) (ds := ds) h)
theorem tG_go {K : Fg} {G H : Hp} {Q : St → Hp → Prop} {t : Sum Nat (List Nat)} {d : D} {v : V} {σ : St} {ν ν' : List (Option D)} (R : RepV K z σ ν G H) (r : Dq K G v d) (h : setTg ν t d = some ν')
    (k : ∀ σ', RepV K z σ' ν' G H → (∀ own, tgIn own t = true → wipe σ' own = wipe σ own) → Q σ' H) : tG K t v σ H Q := by
  cases t with
  | inl i =>
    cases h
    exact k _ (repV_set R i r) fun own ho => wipe_set (by simpa [tgIn] using ho)
  | inr is =>
    cases r with
    | tup hs a =>
      have h' : setAll ν is _ = some ν' := h
      exact ⟨_, _, rfl, seqT_same R.same hs, by rw [dpa_len a, setAll_len h'], gNames_go R a h' fun σ' R' w => k σ' R' w⟩
    | _ => cases h

/-! ### what is walked -/
/-- a range, walked by its numbers -/
def WalkR (J : It) (ds : List D) (_ : Hp) : Prop := ∃ i j, J = Itr i (j - i).toNat ∧ ds = rangeL i j
theorem iter_rng (O : Ok1 X T F z co E) (S : Snd X T F z co E f) {tg e : Expr} {a' b' : Ex} (h : cIter X.env.scope.names T f tg e = some (.rng a' b')) : PI X tg e (tIg WalkR X.kx z co F E (.rng a' b')) := by
  have hW : ∀ i j G, WalkR (Itr i (j - i).toNat) (rangeL i j) G := fun i j _ => ⟨i, j, rfl, rfl⟩
  unfold cIter at h
  split at h
  · rename_i y p as pos
    by_cases c : y = "range"
    · rw [if_pos c] at h
      subst c
      by_cases g : glB X.env.scope.names "range" = true
      · rw [if_pos g] at h
        split at h
        · rename_i a
          cases e1 : f a with
          | none => rw [e1] at h; cases h
          | some a1 => rw [e1] at h; cases h; exact pi_rng1 O hW S g e1
        · rename_i a b
          cases e1 : f a with
          | none => rw [e1] at h; cases h
          | some a1 =>
            cases e2 : f b with
            | none => rw [e1, e2] at h; cases h
            | some b1 => rw [e1, e2] at h; cases h; exact pi_rng2 O hW S g e1 e2
        · cases h
      · rw [if_neg g] at h; cases h
    rw [if_neg c] at h
    have no : ∀ {g : Option Ex} {k : Ex → Ex}, (∀ y, k y ≠ .rng a' b') → g.map k ≠ some (.rng a' b') := fun {g k} hk q => by
      cases g with
      | none => cases q
      | some y => exact hk y (Option.some.inj q)
    by_cases c1 : y = "zip"
    · rw [if_pos c1] at h
      by_cases g : glB X.env.scope.names y = true ∧ isTupE tg = true
      · rw [if_pos g] at h
        split at h
        · split at h
          · cases h
          · cases h
        · cases h
      · rw [if_neg g] at h; cases h
    rw [if_neg c1] at h
    by_cases c2 : y = "enumerate"
    · rw [if_pos c2] at h
      by_cases g : glB X.env.scope.names y = true ∧ isTupE tg = true
      · rw [if_pos g] at h
        split at h
        · exact absurd h (no fun y q => by cases q)
        · cases h
      · rw [if_neg g] at h; cases h
    rw [if_neg c2] at h
    exact absurd h (no fun y q => by cases q)
  · by_cases c : notSet e = true
    · rw [if_pos c] at h
      cases e1 : f e with
      | none => rw [e1] at h; cases h
      | some y => rw [e1] at h; cases h
    · rw [if_neg c] at h; cases h
theorem iter_ok (O : Ok1 X T F z co E) (S : Snd X T F z co E f) {tg e : Expr} {x : Ex} (h : cIter X.env.scope.names T f tg e = some x) : PI X tg e (tI X.kx z co F E x) := by
  unfold cIter at h
  split at h
  · rename_i y p as pos
    by_cases c : y = "range"
    · rw [if_pos c] at h
      subst c
      by_cases g : glB X.env.scope.names "range" = true
      · rw [if_pos g] at h
        split at h
        · rename_i a
          cases e1 : f a with
          | none => rw [e1] at h; cases h
          | some a' => rw [e1] at h; cases h; exact pi_rng1 O (fun i j _ => walk_rng i j) S g e1
        · rename_i a b
          cases e1 : f a with
          | none => rw [e1] at h; cases h
          | some a' =>
            cases e2 : f b with
            | none => rw [e1, e2] at h; cases h
            | some b' => rw [e1, e2] at h; cases h; exact pi_rng2 O (fun i j _ => walk_rng i j) S g e1 e2
        · cases h
      · rw [if_neg g] at h; cases h
    rw [if_neg c] at h
    clear c
    by_cases c : y = "zip"
    · rw [if_pos c] at h
      subst c
      by_cases g : glB X.env.scope.names "zip" = true ∧ isTupE tg = true
      · rw [if_pos g] at h
        split at h
        · rename_i a b
          cases e1 : f a with
          | none => rw [e1] at h; cases h
          | some a' =>
            cases e2 : f b with
            | none => rw [e1, e2] at h; cases h
            | some b' => rw [e1, e2] at h; cases h; exact pi_zipD O S g.2 g.1 e1 e2
        · cases h
      · rw [if_neg g] at h; cases h
    rw [if_neg c] at h
    clear c
    by_cases c : y = "enumerate"
    · rw [if_pos c] at h
      subst c
      by_cases g : glB X.env.scope.names "enumerate" = true ∧ isTupE tg = true
      · rw [if_pos g] at h
        split at h
        · rename_i a
          cases e1 : f a with
          | none => rw [e1] at h; cases h
          | some a' => rw [e1] at h; cases h; exact pi_enuD O S g.2 g.1 e1
        · cases h
      · rw [if_neg g] at h; cases h
    rw [if_neg c] at h
    cases e1 : f (.Call (.Name y p) as [] pos) with
    | none => rw [e1] at h; cases h
    | some a' => rw [e1] at h; cases h; exact pi_seq S e1
  · by_cases g : notSet e = true
    · rw [if_pos g] at h
      cases e1 : f e with
      | none => rw [e1] at h; cases h
      | some a' => rw [e1] at h; cases h; exact pi_seq S e1
    · rw [if_neg g] at h; cases h

/-! ### comprehensions -/
theorem wipe_len : ∀ (own : List Nat) (ν : List (Option D)), (wipeD ν own).length = ν.length
  | [], _ => rfl
  | o :: own, ν => by
    unfold wipeD
    rw [List.length_set, wipe_len own ν]
theorem repV_wipe {K : Fg} {σ : St} {ν : List (Option D)} {G H : Hp} (R : RepV K none σ ν G H) : ∀ own, RepV K none (wipe σ own) (wipeD ν own) G H
  | [] => R
  | o :: own => by
    have ih := repV_wipe R own
    refine ⟨R.same, by rw [wipe_len, wipe_length, R.len], fun j d e => ?_, fun q e => by cases e⟩
    unfold wipeD at e
    unfold wipe
    by_cases hj : o = j
    · subst hj
      have hl : o < (wipeD ν own).length := by
        have := (List.getElem?_eq_some_iff.mp e).1
        rwa [List.length_set] at this
      rw [List.getElem?_set_self hl] at e
      cases e
    · rw [List.getElem?_set_ne hj] at e ⊢
      exact ih.get j d e
/-- one item -/
def itemR (F : Str → List D → Res D) (ν : List (Option D)) (elt cond : Ex) (tg : Sum Nat (List Nat)) (own : List Nat) (d : D) : Res (Option D) := match setTg (wipeD ν own) tg d with
  | some ν' => (evE F ν' cond).noErr.bind fun c => (Res.ofO (truD c)).bind fun k => if k = true then (evE F ν' elt).noErr.bind fun x => .ok (some x) else .ok none
  | none => .no
theorem compL_cons {g : D → Res (Option D)} {d : D} {ds : List D} {r : List D} (h : compL g (d :: ds) = .ok r) : ∃ o r', g d = .ok o ∧ compL g ds = .ok r' ∧ r = (match o with
    | some x => x :: r'
    | none => r') := by
  unfold compL at h
  cases e1 : g d with
  | ok o =>
    rw [e1] at h
    cases e2 : compL g ds with
    | ok r' =>
      rw [e2] at h
      cases h
      exact ⟨o, r', rfl, rfl, rfl⟩
    | err _ => rw [e2] at h; cases h
    | no => rw [e2] at h; cases h
  | err _ => rw [e1] at h; cases h
  | no => rw [e1] at h; cases h
theorem noErr_ok' {α β : Type} {r : Res α} {g : α → Res β} {b : β} (h : r.noErr.bind g = .ok b) : ∃ a, r = .ok a ∧ g a = .ok b := by
  cases r with
  | ok a => exact ⟨a, rfl, h⟩
  | err _ => cases h
  | no => cases h
theorem ofO_bind {α β : Type} {r : Option α} {g : α → Res β} {b : β} (h : (Res.ofO r).bind g = .ok b) : ∃ a, r = some a ∧ g a = .ok b := by
  cases r with
  | some a => exact ⟨a, rfl, h⟩
  | none => cases h
theorem itemR_ok {ν : List (Option D)} {elt cond : Ex} {tg : Sum Nat (List Nat)} {own : List Nat} {d : D} {o : Option D} (h : itemR F ν elt cond tg own d = .ok o) :
    ∃ ν' c k, setTg (wipeD ν own) tg d = some ν' ∧ evE F ν' cond = .ok c ∧ truD c = some k ∧ ((k = true ∧ ∃ x, evE F ν' elt = .ok x ∧ o = some x) ∨ (k = false ∧ o = none)) := by
  unfold itemR at h
  cases e : setTg (wipeD ν own) tg d with
  | none => rw [e] at h; cases h
  | some ν' =>
    rw [e] at h
    obtain ⟨c, h1, h⟩ := noErr_ok' h
    obtain ⟨k, h2, h⟩ := ofO_bind h
    refine ⟨ν', c, k, rfl, h1, h2, ?_⟩
    cases k with
    | true =>
      rw [if_pos rfl] at h
      obtain ⟨x, h3, h⟩ := noErr_ok' h
      cases h
      exact .inl ⟨rfl, x, h3, rfl⟩
    | false =>
      rw [if_neg Bool.false_ne_true] at h
      cases h
      exact .inr ⟨rfl, rfl⟩
theorem wipe_wipe (o : List Nat) (s : St) : wipe (wipe s o) o = wipe s o := by
  have key : ∀ (p q : List Nat), (∀ j ∈ p, j ∈ q) → wipe (wipe s q) p = wipe s q := by
    intro p
    induction p with
    | nil => intro q _; rfl
    | cons j p ih =>
      intro q hq
      show (wipe (wipe s q) p).set j none = wipe s q
      rw [ih q fun a ha => hq a (List.mem_cons_of_mem _ ha)]
      have hj := hq j List.mem_cons_self
      clear ih hq
      induction q with
      | nil => cases hj
      | cons t q ih2 =>
        show ((wipe s q).set t none).set j none = (wipe s q).set t none
        by_cases hjt : j = t
        · subst hjt
          rw [List.set_set]
        · rw [List.set_comm _ _ (fun z => hjt z.symm)]
          rcases List.mem_cons.mp hj with z | z
          · exact absurd z hjt
          · rw [ih2 z]
  exact key o o fun _ h => h
/-- the walk of a comprehension: the new list stands apart -/
theorem comp_go {K : Fg} {J : It} {σ : St} {ν : List (Option D)} {G1 H1 : Hp} {ds r : List D} {elt cond : Ex} {tg : Sum Nat (List Nat)} {own : List Nat} {tt : TT} {te : TE} {L : Addr} {Qd : Hp → Prop}
    (R : RepV K z σ ν G1 H1) (w : WalkD K J ds G1) (hz : ds.length ≤ sizeLine) (hL : H1 L = none) (hr : compL (itemR F ν elt cond tg own) ds = .ok r) (htg : tgIn own tg = true)
    (htt : ∀ σ H Q, tT K none co F EN cond σ H Q → tt σ H Q) (hte : ∀ σ H Q, tE K none co F EN elt σ H Q → te σ H Q)
    (hd : ∀ (acc : List V) (G H : Hp), Nx G1 H1 G H → G L = none → H L = some (.lst acc) → DqAll K G acc r → Qd H) :
    ∃ W : Nat → Nat → Hp → Prop, (∃ m, W 0 m (upd H1 L (.lst []))) ∧ ∀ i m H, W i m H →
      (J.stop i H ∧ Qd H) ∨ (J.go i H ∧ ∃ N : Hp → Prop, (∀ H', N H' → ∃ m', m' < m ∧ W (i + 1) m' H') ∧ ∀ x H', J.yld i H x H' → tG K tg x (wipe σ own) H' fun σ2 H2 => wipe σ2 own = wipe σ own ∧ tt σ2 H2 fun b H3 =>
        if b = true then te σ2 H3 fun y H4 => ∃ acc, H4 L = some (.lst acc) ∧ acc.length < sizeLine ∧ N (upd H4 L (.lst (acc ++ [y]))) else N H3) := by
  obtain ⟨Y, wk, wy⟩ := w
  have kept : ∀ {G H : Hp} {o u : HO} {xs : List V}, H L = some (.lst xs) → Same G H → G L = none → Same G (upd H L u) := fun {G H o u xs} e s n b z hb => by
    rw [upd_ne (ne_of_none hb n)]
    exact s b z hb
  refine lc_it wk (fun i H => ∃ (acc : List V) (ad rest : List D) (G : Hp), Nx G1 H1 G H ∧ G L = none ∧ H L = some (.lst acc) ∧ DqAll K G acc ad ∧ compL (itemR F ν elt cond tg own) (ds.drop i) = .ok rest ∧ r = ad ++ rest ∧ acc.length ≤ i)
    ⟨[], [], r, G1, Nx.hid R.same hL, R.same.free hL, upd_same, .nil, by simpa using hr, rfl, Nat.zero_le _⟩ (fun i H _ ⟨acc, ad, rest, G, nx, _⟩ => nx.g.trans nx.s) ?_ ?_
  · rintro i x H H' hi ⟨acc, ad, rest, G, nx, gL, hLs, ha, hc, er, hlen⟩ y
    have hd' : ds.drop i = ds[i] :: ds.drop (i + 1) := List.drop_eq_getElem_cons hi
    rw [hd'] at hc
    obtain ⟨o, rest', ho, hc', er'⟩ := compL_cons hc
    obtain ⟨ν', c, k, e1, e2, e3, e4⟩ := itemR_ok ho
    obtain ⟨G2, nx2, hv⟩ := wy i ds[i] G H H' x (List.getElem?_eq_getElem hi) nx.g nx.s y
    have g2 : G2 L = none := nx2.n L gL (by rw [hLs]; simp)
    have R2 := repV_wipe (R.mono (nx.trans nx2)).drop own
    refine tG_go R2 hv e1 fun σ' R' wp => ⟨wp own htg ▸ ?_, ?_⟩
    · have z : ∀ (o : List Nat) (s : St), wipe (wipe s o) o = wipe s o := by
        intro o s
        have key : ∀ (p q : List Nat), (∀ j ∈ p, j ∈ q) → wipe (wipe s q) p = wipe s q := by
          intro p
          induction p with
          | nil => intro q _; rfl
          | cons j p ih =>
            intro q hq
            show (wipe (wipe s q) p).set j none = wipe s q
            rw [ih q fun a ha => hq a (List.mem_cons_of_mem _ ha)]
            have hj := hq j List.mem_cons_self
            clear ih hq
            induction q with
            | nil => cases hj
            | cons t q ih2 =>
              show ((wipe s q).set t none).set j none = (wipe s q).set t none
              by_cases hjt : j = t
              · subst hjt
                rw [List.set_set]
              · rw [List.set_comm _ _ (fun z => hjt z.symm)]
                rcases List.mem_cons.mp hj with z | z
                · exact absurd z hjt
                · rw [ih2 z]
        exact key o o fun _ h => h
      exact z own σ
    · refine htt _ _ _ ⟨ν', G2, R', ?_⟩
      rw [e2]
      show PsR K co E0 (Res.ofO (truD c)) G2 H' _
      rw [e3]
      intro G3 H3 nx3
      have g3 : G3 L = none := nx3.n L g2 (by rw [nx2.h _ _ hLs]; simp)
      have h3 : H3 L = some (.lst acc) := nx3.h _ _ (nx2.h _ _ hLs)
      rcases e4 with ⟨rfl, x0, e5, rfl⟩ | ⟨rfl, rfl⟩
      · refine iteT (hte _ _ _ ⟨ν', G3, R'.mono nx3, ?_⟩)
        rw [e5]
        intro v G4 H4 nx4 hv4
        have g4 : G4 L = none := nx4.n L g3 (by rw [h3]; simp)
        have h4 : H4 L = some (.lst acc) := nx4.h _ _ h3
        have all4 := nx2.trans (nx3.trans nx4)
        refine ⟨acc, h4, Nat.lt_of_lt_of_le (Nat.lt_of_le_of_lt hlen hi) hz, acc ++ [v], ad ++ [x0], rest', G4, ?_, g4, upd_same, dpa_append (dpa_same all4.g _ _ ha) (.cons hv4 .nil), hc', ?_, ?_⟩
        · have big := nx.trans all4
          refine ⟨big.g, kept (o := .lst acc) h4 big.s g4, fun b u hb => ?_, big.n⟩
          have hb1 : b ≠ L := fun z => by rw [z, hL] at hb; cases hb
          rw [upd_ne hb1]
          exact big.h b u hb
        · rw [er, er']
          simp
        · rw [List.length_append, List.length_singleton]
          omega
      · refine iteF ⟨acc, ad, rest', G3, nx.trans (nx2.trans nx3), g3, h3, dpa_same (nx2.trans nx3).g _ _ ha, hc', ?_, by omega⟩
        rw [er, er']
  · rintro H ⟨acc, ad, rest, G, nx, gL, hLs, ha, hc, er, _⟩
    rw [List.drop_length] at hc
    cases hc
    rw [List.append_nil] at er
    subst er
    exact hd acc G H nx gL hLs ha
/-- the block of a comprehension -/
theorem Ok1.blk (O : Ok1 X T F z co E) (cool : T.hot = false) (s : Shared) (H : Hp) (scope : Scope) (cenv : Env) (fp : List Addr) : Ok1 (X.blk s H scope cenv fp) T F none co EN :=
  ⟨O.nd, O.calm, O.gd, O.hu, O.blt, fun c f n h => ⟨(O.call c f n h).fr, (O.call c f n h).ex⟩, O.gl, O.dct, O.ftb, fun _ σ pins H s e s' I c => passL pins σ H s e s' I c, O.cool, fun e x h => (by rw [xq_cool (O.cool cool)] at h; cases h), fun c n oc h => ⟨let ⟨C, c1, c2, c3, c4⟩ := (O.obj c n oc h).ex; ⟨C, c1, c2, c3, fun m g k h1 h2 => ⟨(c4 m g k h1 h2).ex⟩⟩⟩⟩
theorem sto_blk {s : Shared} {H : Hp} {scope : Scope} {C : Addr} {cl : List (Str × Addr)} {fp : List Addr} : Sto (X.blk s H scope (compEnvC scope cl C X.env) fp) scope.names := by
  intro x h
  have h' : scope.names.lookup x = some .local ∨ scope.names.lookup x = some .cell := by
    unfold locB at h
    cases q : scope.names.lookup x with
    | none => rw [q] at h; cases h
    | some k => cases k <;> simp_all
  rcases h' with e | e
  · have e2 : (relS scope X.env.scope).names.lookup x = some .local := lookup_relS_keep (by decide) e
    exact ⟨.inl e2, .inr e2⟩
  · have e2 : (relS scope X.env.scope).names.lookup x = some .cell := lookup_relS_keep (by decide) e
    refine ⟨.inr e2, .inl ?_⟩
    show (scope.names.lookup x == some .cell) = true
    rw [e]
    rfl
theorem ixOf_ge {x : Str} {N : List Str} {i : Nat} (h : ixOf x N 0 = some i) : i < N.length := (List.getElem?_eq_some_iff.mp (ixOf_get h)).1
theorem item_noErr {ν : List (Option D)} {el cd : Ex} {t : Sum Nat (List Nat)} {own : List Nat} : ∀ (ds : List D) (e : Err), compL (itemR F ν el cd t own) ds ≠ .err e := by
  intro ds
  induction ds with
  | nil => intro e z; cases z
  | cons d ds ih =>
    intro e z
    unfold compL at z
    cases e1 : itemR F ν el cd t own d with
    | ok o =>
      rw [e1] at z
      cases e2 : compL (itemR F ν el cd t own) ds with
      | ok _ => rw [e2] at z; cases z
      | err e' => exact ih e' e2
      | no => rw [e2] at z; cases z
    | err _ =>
      unfold itemR at e1
      split at e1
      · rename_i ν' _
        cases c1 : evE F ν' cd with
        | ok c =>
          rw [c1] at e1
          cases c2 : truD c with
          | some k =>
            simp only [Res.noErr_ok, Res.bind_ok, c2, Res.ofO_some] at e1
            cases k with
            | true =>
              rw [if_pos rfl] at e1
              cases c3 : evE F ν' el with
              | ok _ => rw [c3] at e1; cases e1
              | err _ => rw [c3] at e1; cases e1
              | no => rw [c3] at e1; cases e1
            | false => rw [if_neg Bool.false_ne_true] at e1; cases e1
          | none => simp only [Res.noErr_ok, Res.bind_ok, c2, Res.ofO_none, Res.bind_no] at e1; cases e1
        | err _ => rw [c1] at e1; cases e1
        | no => rw [c1] at e1; cases e1
      · cases e1
    | no => rw [e1] at z; cases z
def tF (K : Fg) (z : Zx) (co : Co) (F : Str → List D → Res D) (E : St → XK) (x : Ex) : TE := fun σ H Q => ∃ ν G, RepV K z σ ν G H ∧ PsR K co (E σ) ((evE F ν x).bind fun y => listR y .ok) G H (FrL K G H Q)
theorem FrL.now {K : Fg} {G H : Hp} {Q : VK} {r : List D} (h : ∀ v G' H', Nx G H G' H' → Dq K G' v (.list r) → Q v H') : FrL K G H Q r := fun L acc G' H' nx g hL hl ha => by
  refine h (.ref L) (upd G' L (.lst acc)) H' ⟨nx.g.trans (same_upd g), fun b u hb => ?_, nx.h, fun a ga ha' => ?_⟩ (.lst (.inl (Rd.of upd_same)) (dpa_same (same_upd g) _ _ ha))
  · by_cases hb' : b = L
    · subst hb'
      rw [upd_same] at hb
      cases hb
      exact hl
    · rw [upd_ne hb'] at hb
      exact nx.s b u hb
  · have ne : a ≠ L := fun z => by rw [z] at ha'; exact ha' hL
    rw [upd_ne ne]
    exact nx.n a ga ha'
theorem tF_of {K : Fg} {x : Ex} {σ : St} {H : Hp} {Q : VK} (hl : ∀ ν d, evE F ν x = .ok d → ∃ r, d = .list r) (h : tE K z co F E x σ H Q) : tF K z co F E x σ H Q := by
  obtain ⟨ν, G, R, q⟩ := h
  refine ⟨ν, G, R, ?_⟩
  cases ev : evE F ν x with
  | ok d =>
    obtain ⟨r, rfl⟩ := hl ν d ev
    rw [ev] at q
    exact FrL.now q
  | err _ => rw [ev] at q; exact q
  | no => rw [ev] at q; exact q
theorem comp_list {ν : List (Option D)} {el it cd : Ex} {t : Sum Nat (List Nat)} {own : List Nat} {d : D} (h : evE F ν (.comp el it cd t own) = .ok d) : ∃ r, d = .list r := by
  simp only [evE] at h
  cases e1 : evE F ν it with
  | ok y =>
    rw [e1] at h
    cases y with
    | list ds =>
      have h' : (if ds.length ≤ sizeLine then (compL (itemR F ν el cd t own) ds).bind (fun r => Res.ok (PyData.list r)) else Res.no) = .ok d := h
      by_cases hz : ds.length ≤ sizeLine
      · rw [if_pos hz] at h'
        cases e2 : compL (itemR F ν el cd t own) ds with
        | ok r => rw [e2] at h'; cases h'; exact ⟨r, rfl⟩
        | err _ => rw [e2] at h'; cases h'
        | no => rw [e2] at h'; cases h'
      · rw [if_neg hz] at h'; cases h'
    | _ => cases h
  | err _ => rw [e1] at h; cases h
  | no => rw [e1] at h; cases h
/-! ### a dict's keys -/
theorem keyD_dq {K : Fg} {G : Hp} (k : Key) : Dq K G (kV k) (keyD k) := by
  cases k <;> constructor
theorem dkv_keys {K : Fg} {G : Hp} : ∀ {kvs : List (Key × V)} {ds : List (D × D)}, DqKv K G kvs ds → ds.map Prod.fst = kvs.map fun kv => keyD kv.1
  | _, _, .nil => rfl
  | _, _, .cons _ t => by rw [List.map_cons, List.map_cons, dkv_keys t]
theorem walk_keysD {K : Fg} {G : Hp} {a : Addr} {o : Obj} {kvs : List (Key × V)} (h : G a = some (.frz o (.dK kvs))) : WalkD K (Itk a o kvs) (kvs.map fun kv => keyD kv.1) G := by
  refine ⟨_, by rw [List.length_map]; exact walk_keys.mono (fun H s => s a _ h) (fun i H x H' _ _ y => y), ?_⟩
  rintro i d G1 H1 H2 v hd s1 s2 ⟨rfl, k, v', hk, rfl⟩
  rw [List.getElem?_map, hk] at hd
  cases hd
  exact ⟨G1, Nx.refl s2, keyD_dq k⟩
theorem keys_go {K : Fg} {σ : St} {ν : List (Option D)} {G H : Hp} {Q : VK} {i : Nat} {a : Addr} {o : Obj} {kvs : List (Key × V)} {r : List D} {el cd : Ex} {t : Sum Nat (List Nat)} {own : List Nat} {tt : TT}
    (R : RepV K none σ ν G H) (hs : σ[i]? = some (some (.ref a))) (hG : G a = some (.frz o (.dK kvs))) (hz : kvs.length ≤ sizeLine) (er : compL (itemR F ν el cd t own) (kvs.map fun kv => keyD kv.1) = .ok r) (hin : tgIn own t = true)
    (himp : ∀ σ H Q, tT K none co F EN cd σ H Q → tt σ H Q) (q : FrL K G H Q r) : tLc (iKeys (tVar i)) (tG K t) tt (tE K none co F EN el) own σ H Q :=
  ⟨_, hs, a, o, rfl, .inl ⟨kvs, R.same a _ hG, fun L hL => comp_go R (walk_keysD hG) (by rw [List.length_map]; exact hz) hL er hin himp (fun _ _ _ z => z) fun acc G2 H2 nx g2 h2 ha => q L acc G2 H2 nx g2 hL h2 ha⟩⟩
theorem upd_back {G : Hp} {a : Addr} {u : HO} {G' : Hp} (h : G a = some u) (o : Obj) (s : Same (upd G a (.frz o u)) G') : Same G (upd G' a u) := fun b z e => by
  by_cases hb : b = a
  · subst hb
    rw [h] at e
    rw [upd_same]
    exact e
  · rw [upd_ne hb]
    exact s b z (by rw [upd_ne hb]; exact e)
theorem same_lock {G H : Hp} {a : Addr} {u' : HO} (s : Same G H) : Same (upd G a u') (upd H a u') := fun b z e => by
  by_cases hb : b = a
  · subst hb
    rw [upd_same] at e ⊢
    exact e
  · rw [upd_ne hb] at e ⊢
    exact s b z e
theorem dq_map2 {K : Fg} {H H' : Hp} (hl : ∀ a xs, LsQ K H a xs → LsQ K H' a xs) (ht : ∀ a xs, SqT K H a xs → SqT K H' a xs) (hd : ∀ a kvs, Rd H a (.dK kvs) → Rd H' a (.dK kvs)) (he : ∀ a φ, Rd H a (.ext φ) → Rd H' a (.ext φ)) (hi : ∀ a C dx fs, H a = some (.ins C dx fs) → H' a = some (.ins C dx fs)) : ∀ (d : D) (v : V), Dq K H v d → Dq K H' v d := fun d v h =>
  Dq.rec (K := K) (H := H) (motive_1 := fun v d _ => Dq K H' v d) (motive_2 := fun vs ds _ => DqFs K H' vs ds) (motive_3 := fun vs ds _ => DqAll K H' vs ds) (motive_4 := fun vs ds _ => DqKv K H' vs ds) (motive_5 := fun vs ds _ => DqTv K H' vs ds)
    .non (fun b => .bl b) (fun i => .int i) (fun x => .str x) (fun h1 _ a => .lst (hl _ _ h1) a) (fun h1 _ a => .tup (ht _ _ h1) a) (fun h1 _ a => .dctK (hd _ _ h1) a) (fun h1 _ ne a => .dctT (he _ _ h1) a ne) (fun h1 h2 _ a => .obj (hi _ _ _ _ h1) h2 a)
    .nil (fun _ _ a b => .cons a b) .nil (fun _ _ a b => .cons a b) .nil (fun _ _ a b => .cons a b) .nil (fun h1 _ _ a b => .cons (ht _ _ h1) a b) h
theorem dqa_map2 {K : Fg} {H H' : Hp} (f : ∀ (d : D) (v : V), Dq K H v d → Dq K H' v d) : ∀ {ds : List D} {vs : List V}, DqAll K H vs ds → DqAll K H' vs ds
  | _, _, .nil => .nil
  | _, _, .cons a b => .cons (f _ _ a) (dqa_map2 f b)
/-- a lock lets all be read -/
theorem dq_lock {K : Fg} {G : Hp} {a : Addr} {o : Obj} {kvs : List (Key × V)} (h : G a = some (.dK kvs)) : ∀ (d : D) (v : V), Dq K G v d → Dq K (upd G a (.frz o (.dK kvs))) v d := by
  have rd : ∀ b u, Rd G b u → Rd (upd G a (.frz o (.dK kvs))) b u := fun b u r => by
    by_cases hb : b = a
    · subst hb
      rcases r with r | ⟨o', r⟩
      · rw [h] at r; cases r; exact .inr ⟨o, upd_same⟩
      · rw [h] at r; cases r
    · rcases r with r | ⟨o', r⟩
      · exact .inl (by rw [upd_ne hb]; exact r)
      · exact .inr ⟨o', by rw [upd_ne hb]; exact r⟩
  refine dq_map (fun b xs r => ?_) (fun b xs r => ?_) (fun b u _ r => rd b u r) fun b C dx fs r => by rw [upd_ne (fun z => by rw [z, h] at r; cases r)]; exact r
  · rcases r with r | r
    · exact .inl (rd b _ r)
    · exact .inr r
  · rcases r with r | r
    · exact .inl (rd b _ r)
    · exact .inr r
theorem dq_unlock {K : Fg} {G : Hp} {a : Addr} {o : Obj} {kvs : List (Key × V)} (h : G a = some (.frz o (.dK kvs))) : ∀ (d : D) (v : V), Dq K G v d → Dq K (upd G a (.dK kvs)) v d := by
  have rd : ∀ b u, Rd G b u → u = .frz o (.dK kvs) ∨ Rd (upd G a (.dK kvs)) b u := fun b u r => by
    by_cases hb : b = a
    · subst hb
      rcases r with r | ⟨o', r⟩
      · rw [h] at r; cases r; exact .inl rfl
      · rw [h] at r; cases r; exact .inr (.inl upd_same)
    · rcases r with r | ⟨o', r⟩
      · exact .inr (.inl (by rw [upd_ne hb]; exact r))
      · exact .inr (.inr ⟨o', by rw [upd_ne hb]; exact r⟩)
  have rd2 : ∀ b u, u ≠ .frz o (.dK kvs) → Rd G b u → Rd (upd G a (.dK kvs)) b u := fun b u n r => (rd b u r).resolve_left n
  refine dq_map2 (fun b xs r => ?_) (fun b xs r => ?_) (fun b u r => rd2 b _ (fun z => by cases z) r) (fun b u r => rd2 b _ (fun z => by cases z) r) fun b C dx fs r => by rw [upd_ne (fun z => by rw [z, h] at r; cases r)]; exact r
  · rcases r with r | r
    · exact .inl (rd2 b _ (fun z => by cases z) r)
    · exact .inr r
  · rcases r with r | r
    · exact .inl (rd2 b _ (fun z => by cases z) r)
    · exact .inr r
theorem lock_go {K : Fg} {σ : St} {ν : List (Option D)} {G H : Hp} {Q : VK} {i : Nat} {a : Addr} {kvs : List (Key × V)} {r : List D} {el cd : Ex} {t : Sum Nat (List Nat)} {own : List Nat} {tt : TT}
    (R : RepV K none σ ν G H) (hs : σ[i]? = some (some (.ref a))) (hG : G a = some (.dK kvs)) (hz : kvs.length ≤ sizeLine) (er : compL (itemR F ν el cd t own) (kvs.map fun kv => keyD kv.1) = .ok r) (hin : tgIn own t = true)
    (himp : ∀ σ H Q, tT K none co F EN cd σ H Q → tt σ H Q) (q : FrL K G H Q r) : tLockE (tLc (iKeys (tVar i)) (tG K t) tt (tE K none co F EN el) own) σ H Q := by
  refine ⟨a, .dK kvs, R.same a _ hG, trivial, fun o => ?_⟩
  have R2 : RepV K none σ ν (upd G a (.frz o (.dK kvs))) (upd H a (.frz o (.dK kvs))) := ⟨same_lock R.same, R.len, fun j d e => let ⟨v, h1, h2⟩ := R.get j d e; ⟨v, h1, dq_lock hG d v h2⟩, fun q e => by cases e⟩
  refine keys_go R2 hs upd_same hz er hin himp fun L acc G' H' nx g hL hl ha => ?_
  have ga : G' a = some (.frz o (.dK kvs)) := nx.g a _ upd_same
  have ne : L ≠ a := fun z => by subst z; rw [g] at ga; cases ga
  refine ⟨nx.s a _ ga, q L acc (upd G' a (.dK kvs)) (upd H' a (.dK kvs)) ⟨upd_back hG o nx.g, same_lock nx.s, upd_back (R.same a _ hG) o nx.h, fun b e n => ?_⟩ (by rw [upd_ne ne]; exact g) ?_ (by rw [upd_ne ne]; exact hl) (dqa_map2 (dq_unlock ga) ha)⟩
  · by_cases hb : b = a
    · subst hb; rw [hG] at e; cases e
    · rw [upd_ne hb]
      exact nx.n b (by rw [upd_ne hb]; exact e) (by rw [upd_ne hb]; exact n)
  · rw [upd_ne ne] at hL
    exact hL
theorem pe_or {X : Cx} {e : Expr} {t1 t2 : TE} (h1 : PE X e t1) (h2 : PE X e t2) : PE X e (fun σ H Q => t1 σ H Q ∨ t2 σ H Q) := ⟨fun pins s σ H Q I h => h.elim (h1.run pins s σ H Q I) (h2.run pins s σ H Q I)⟩
theorem ps_or {X : Cx} {st : Stmt} {t1 t2 : TS} (h1 : PS X st t1) (h2 : PS X st t2) : PS X st (fun D σ H => t1 D σ H ∨ t2 D σ H) := ⟨fun pins s σ H D I h => h.elim (h1.run pins s σ H D I) (h2.run pins s σ H D I)⟩
/-- a comprehension: its reading, as a value and as a new list; as a statement's value -/
theorem snd_comp (O : Ok1 X T F z co E) (S : Snd X T F z co E f) {scope : Scope} {g : Expr → Option Ex} (B : ∀ (s : Shared) (H : Hp) (C : Addr) (cl : List (Str × Addr)) (fp : List Addr), Snd (X.blk s H scope (compEnvC scope cl C X.env) fp) T F none co EN g)
    {elt tg iter : Expr} {ifs : List Expr} {p : Pos} {it el cd : Ex} {t : Sum Nat (List Nat)} (ns : notSet iter = true) (ok : blkC X.N X.env.scope scope (ownOf X.N scope.names) = true) (cool : T.hot = false) (h1 : cIter X.env.scope.names T f tg iter = some it)
    (h2 : cTg X.N scope.names tg = some t) (h3 : g elt = some el) (hin : tgIn ((ownOf X.N scope.names).map (·.2)) t = true)
    (hc : (ifs = [] ∧ cd = .cst (.bool true)) ∨ ∃ c, ifs = [c] ∧ testOk c = true ∧ g c = some cd) :
    ∃ te : TE, PE X (.ListComp elt [⟨tg, iter, ifs, 0⟩] scope p) te ∧
      (∀ (y : Str) (i : Nat) (q sp : Pos), X.N[i]? = some y → X.env.scope.names.lookup y = some .local → swapsWith (.ListComp elt [⟨tg, iter, ifs, 0⟩] scope p) (some (.Name y q)) sp.line X.env = pure true →
        PS X (.Assign [.Name y q] (.ListComp elt [⟨tg, iter, ifs, 0⟩] scope p) sp) (tAsg te (gName i))) ∧
      ∀ σ H Q, tF X.kx z co F E (.comp el it cd t ((ownOf X.N scope.names).map (·.2))) σ H Q → te σ H Q := by
  have folded : ∀ x, foldedSetIterable iter X.env x = pure x := fun x => by
    cases iter with
    | Set _ _ _ => cases ns
    | _ => rfl
  have base : ∃ tt : TT, (∀ (s : Shared) (H : Hp) (C : Addr) (cl : List (Str × Addr)) (fp : List Addr), PTs (X.blk s H scope (compEnvC scope cl C X.env) fp) ifs tt) ∧ ∀ σ H Q, tT X.kx none co F EN cd σ H Q → tt σ H Q := by
    rcases hc with ⟨rfl, rfl⟩ | ⟨c, rfl, ht, hg⟩
    · refine ⟨tYes, fun _ _ _ _ _ => pts_nil, fun σ H Q ⟨ν, G, R, q⟩ => ?_⟩
      simp only [evE] at q
      exact q G H (Nx.refl R.same)
    · exact ⟨tT X.kx none co F EN cd, fun s H C cl fp => pts_one ((B s H C cl fp).t _ _ hg ht), fun _ _ _ z => z⟩
  obtain ⟨tt, htt, himp⟩ := base
  have hpg : ∀ (s : Shared) (H : Hp) (C : Addr) (cl : List (Str × Addr)) (fp : List Addr), PG (X.blk s H scope (compEnvC scope cl C X.env) fp) tg (tG X.kx t) :=
    fun s H C cl fp => tg_ok (X := X.blk s H scope (compEnvC scope cl C X.env) fp) O.nd (O.calm cool) sto_blk h2
  have hpe : ∀ (s : Shared) (H : Hp) (C : Addr) (cl : List (Str × Addr)) (fp : List Addr), PE (X.blk s H scope (compEnvC scope cl C X.env) fp) elt (tE X.kx none co F EN el) := fun s H C cl fp => (B s H C cl fp).e _ _ h3
  refine ⟨tLc (tI X.kx z co F E it) (tG X.kx t) tt (tE X.kx none co F EN el) ((ownOf X.N scope.names).map (·.2)), pe_lc (own := ownOf X.N scope.names) (O.calm cool) O.nd (iter_ok O S h1) (blkOk_by ok) hpg htt hpe folded,
    fun y i q sp e1 e2 e3 => ps_setLc (own := ownOf X.N scope.names) (O.calm cool) O.nd e1 e2 e3 (iter_ok O S h1) (blkOk_by ok) hpg htt hpe folded, fun σ H Q ⟨ν, G, R, q⟩ => ?_⟩
  simp only [evE] at q
  refine ⟨ν, G, R, ?_⟩
  cases ev : evE F ν it with
  | err e => rw [ev] at q; exact q
  | no => rw [ev] at q; exact q
  | ok y =>
    rw [ev] at q
    cases y with
    | list ds =>
      intro J G1 H1 nx w L hL
      have q3 : PsR X.kx co (E σ) ((if ds.length ≤ sizeLine then (compL (itemR F ν el cd t ((ownOf X.N scope.names).map (·.2))) ds).bind (fun r => Res.ok (PyData.list r)) else Res.no).bind fun y => listR y .ok) G H (FrL X.kx G H Q) := q
      by_cases hz : ds.length ≤ sizeLine
      · rw [if_pos hz] at q3
        cases er : compL (itemR F ν el cd t ((ownOf X.N scope.names).map (·.2))) ds with
        | ok r =>
          rw [er] at q3
          exact comp_go (R.mono nx) w hz hL er hin himp (fun _ _ _ z => z) fun acc G2 H2 nx2 g2 h2 ha => q3 L acc G2 H2 (nx.trans nx2) g2 (nx.h.free hL) h2 ha
        | err e => exact absurd er (item_noErr ds e)
        | no => rw [er] at q3; exact q3.elim
      · rw [if_neg hz] at q3
        exact q3.elim
    | _ => exact q
/-- .. over a name's thing, that may be a dict -/
theorem snd_compC (O : Ok1 X T F z co E) (S : Snd X T F z co E f) {scope : Scope} {g : Expr → Option Ex} (B : ∀ (s : Shared) (H : Hp) (C : Addr) (cl : List (Str × Addr)) (fp : List Addr), Snd (X.blk s H scope (compEnvC scope cl C X.env) fp) T F none co EN g)
    {elt tg iter : Expr} {ifs : List Expr} {p : Pos} {it el cd : Ex} {t : Sum Nat (List Nat)} (ns : notSet iter = true) (ok : blkC X.N X.env.scope scope (ownOf X.N scope.names) = true) (cool : T.hot = false) (h1 : (cIter X.env.scope.names T f tg iter).map (seqC iter) = some it)
    (hv : ∀ x q i, f (.Name x q) = some (.var i) → PE X (.Name x q) (tVar i))
    (h2 : cTg X.N scope.names tg = some t) (h3 : g elt = some el) (hin : tgIn ((ownOf X.N scope.names).map (·.2)) t = true)
    (hc : (ifs = [] ∧ cd = .cst (.bool true)) ∨ ∃ c, ifs = [c] ∧ testOk c = true ∧ g c = some cd) :
    ∃ te : TE, PE X (.ListComp elt [⟨tg, iter, ifs, 0⟩] scope p) te ∧
      (∀ (y : Str) (i : Nat) (q sp : Pos), X.N[i]? = some y → X.env.scope.names.lookup y = some .local → swapsWith (.ListComp elt [⟨tg, iter, ifs, 0⟩] scope p) (some (.Name y q)) sp.line X.env = pure true →
        PS X (.Assign [.Name y q] (.ListComp elt [⟨tg, iter, ifs, 0⟩] scope p) sp) (tAsg te (gName i))) ∧
      ∀ σ H Q, tF X.kx z co F E (.comp el it cd t ((ownOf X.N scope.names).map (·.2))) σ H Q → te σ H Q := by
  cases e1 : cIter X.env.scope.names T f tg iter with
  | none => rw [e1] at h1; cases h1
  | some it0 =>
  rw [e1] at h1
  obtain ⟨te, k1, k2, k3⟩ := snd_comp (p := p) O S B ns ok cool e1 h2 h3 hin hc
  by_cases isd : ∃ x q i, iter = .Name x q ∧ it0 = .seq (.var i)
  rotate_left
  · have e2 : it = it0 := by
      have h1' : some (seqC iter it0) = some it := h1
      cases h1'
      unfold seqC
      split
      · exact absurd ⟨_, _, _, rfl, rfl⟩ isd
      · rfl
    subst e2
    exact ⟨te, k1, k2, k3⟩
  obtain ⟨x, q0, i, rfl, rfl⟩ := isd
  have h1' : it = .seqD i := by cases h1; rfl
  subst h1'
  have hfx : f (.Name x q0) = some (.var i) := by
    have h' : (if notSet (.Name x q0) = true then (f (.Name x q0)).map Ex.seq else none) = some (.seq (.var i)) := e1
    rw [if_pos ns] at h'
    cases e : f (.Name x q0) with
    | none => rw [e] at h'; cases h'
    | some v => rw [e] at h'; cases h'; rfl
  have folded : ∀ x', foldedSetIterable (.Name x q0) X.env x' = pure x' := fun _ => rfl
  have base : ∃ tt : TT, (∀ (s : Shared) (H : Hp) (C : Addr) (cl : List (Str × Addr)) (fp : List Addr), PTs (X.blk s H scope (compEnvC scope cl C X.env) fp) ifs tt) ∧ ∀ σ H Q, tT X.kx none co F EN cd σ H Q → tt σ H Q := by
    rcases hc with ⟨rfl, rfl⟩ | ⟨c, rfl, ht, hg⟩
    · refine ⟨tYes, fun _ _ _ _ _ => pts_nil, fun σ H Q ⟨ν, G, R, q⟩ => ?_⟩
      simp only [evE] at q
      exact q G H (Nx.refl R.same)
    · exact ⟨tT X.kx none co F EN cd, fun s H C cl fp => pts_one ((B s H C cl fp).t _ _ hg ht), fun _ _ _ z => z⟩
  obtain ⟨tt, htt, himp⟩ := base
  have hpg : ∀ (s : Shared) (H : Hp) (C : Addr) (cl : List (Str × Addr)) (fp : List Addr), PG (X.blk s H scope (compEnvC scope cl C X.env) fp) tg (tG X.kx t) :=
    fun s H C cl fp => tg_ok (X := X.blk s H scope (compEnvC scope cl C X.env) fp) O.nd (O.calm cool) sto_blk h2
  have hpe : ∀ (s : Shared) (H : Hp) (C : Addr) (cl : List (Str × Addr)) (fp : List Addr), PE (X.blk s H scope (compEnvC scope cl C X.env) fp) elt (tE X.kx none co F EN el) := fun s H C cl fp => (B s H C cl fp).e _ _ h3
  have pk := pi_keys (tg := tg) (hv x q0 i hfx)
  have m1 := pe_lc (pos := p) (own := ownOf X.N scope.names) (O.calm cool) O.nd pk (blkOk_by ok) hpg htt hpe folded
  have m2 := fun (y : Str) (i' : Nat) (q sp : Pos) e1 e2 e3 => ps_setLc (pos := p) (y := y) (i := i') (py := q) (spos := sp) (own := ownOf X.N scope.names) (O.calm cool) O.nd e1 e2 e3 pk (blkOk_by ok) hpg htt hpe folded
  refine ⟨fun σ H Q => te σ H Q ∨ tLockE (tLc (iKeys (tVar i)) (tG X.kx t) tt (tE X.kx none co F EN el) ((ownOf X.N scope.names).map (·.2))) σ H Q ∨ tLc (iKeys (tVar i)) (tG X.kx t) tt (tE X.kx none co F EN el) ((ownOf X.N scope.names).map (·.2)) σ H Q,
    pe_or k1 (pe_or (pe_lock m1) m1), fun y i' q sp e1 e2 e3 => ?_, fun σ H Q ⟨ν, G, R, q⟩ => ?_⟩
  · refine ps_imp (ps_or (k2 y i' q sp e1 e2 e3) (ps_or (ps_lock (m2 y i' q sp e1 e2 e3)) (m2 y i' q sp e1 e2 e3))) fun D σ H w => ?_
    rcases w with w | w | w
    · exact .inl w
    · obtain ⟨d, u, hd, mu, w⟩ := w
      exact .inr (.inl ⟨d, u, hd, mu, w⟩)
    · exact .inr (.inr w)
  · have old : (∀ kvs, ν[i]? ≠ some (some (.dict kvs))) → evE F ν (.seqD i) = evE F ν (.seq (.var i)) := fun nd => by
      simp only [evE]
      cases e : ν[i]? with
      | none => rfl
      | some o => cases o with
        | none => rfl
        | some d => cases d with
          | dict kvs => exact absurd e (nd kvs)
          | _ => rfl
    by_cases hd : ∃ kvs, ν[i]? = some (some (.dict kvs))
    rotate_left
    · refine .inl (k3 σ H Q ⟨ν, G, R, ?_⟩)
      have e := old fun kvs h => hd ⟨kvs, h⟩
      simp only [evE] at q e ⊢
      rw [e] at q
      exact q
    · obtain ⟨kvs, hk⟩ := hd
      refine .inr ?_
      simp only [evE, hk] at q
      by_cases sc : scKeys kvs = true ∧ kvs.length ≤ sizeLine
      rotate_left
      · rw [if_neg sc] at q; exact q.elim
      rw [if_pos sc] at q
      have q3 : PsR X.kx co (E σ) ((if (kvs.map Prod.fst).length ≤ sizeLine then (compL (itemR F ν el cd t ((ownOf X.N scope.names).map (·.2))) (kvs.map Prod.fst)).bind (fun r => Res.ok (PyData.list r)) else Res.no).bind fun y => listR y .ok) G H (FrL X.kx G H Q) := q
      rw [if_pos (by rw [List.length_map]; exact sc.2)] at q3
      obtain ⟨v, hs, hq⟩ := R.get i _ hk
      cases er : compL (itemR F ν el cd t ((ownOf X.N scope.names).map (·.2))) (kvs.map Prod.fst) with
      | err e => exact absurd er (item_noErr _ e)
      | no => rw [er] at q3; exact q3.elim
      | ok r =>
        rw [er] at q3
        have q4 : FrL X.kx G H Q r := q3
        cases hq with
        | dctK h1 a1 =>
          rw [dkv_keys a1] at er
          have hz := sc.2
          rw [← dkv_len a1] at hz
          rcases h1 with h1 | ⟨o, h1⟩
          · exact .inl (lock_go R.drop hs h1 hz er hin himp q4)
          · exact .inr (keys_go R.drop hs h1 hz er hin himp q4)
        | dctT h1 a1 ne =>
          cases a1 with
          | nil => exact absurd rfl ne
          | cons _ _ _ => exact absurd sc.1 (by simp [scKeys, ksD, isTupK])
        | obj _ _ _ => exact absurd sc.1 (by simp [scKeys, isL])
end
end Pe

set_option Elab.async false
set_option linter.all false
set_option maxRecDepth 100000
set_option maxHeartbeats 8000000
/-! Ob: objects: their fields read, their methods called. -/
namespace Pe
open PySem L2
theorem fldL_map {f : Str} : ∀ {ds : List (Str × D)}, fldL (ds.map fldD) f = ds.lookup f
  | [] => rfl
  | (g, d) :: ds => by
    have ih := fldL_map (f := f) (ds := ds)
    unfold fldL at ih ⊢
    rw [List.map_cons]
    by_cases e : g = f
    · subst e
      rw [List.find?_cons_of_pos (by simp [fldD])]
      simp [fldD, List.lookup]
    · rw [List.find?_cons_of_neg (by simp [fldD, e]), ih]
      have : (f == g) = false := beq_eq_false_iff_ne.mpr fun z => e z.symm
      simp [List.lookup, this]
section
variable {K : Fg} {H : Hp}
theorem dfs_look {f : Str} : ∀ {fs : List (Str × V)} {ds : List (Str × D)}, DqFs K H fs ds → (∀ d, ds.lookup f = some d → ∃ v, fs.lookup f = some v ∧ Dq K H v d) ∧ (ds.lookup f = none → fs.lookup f = none)
  | _, _, .nil => ⟨fun d e => (by cases e), fun _ => rfl⟩
  | (g, v) :: fs, (_, d) :: ds, .cons h t => by
    obtain ⟨i1, i2⟩ := dfs_look (f := f) t
    by_cases e : f = g
    · subst e
      refine ⟨fun d' q => ?_, fun q => ?_⟩
      · simp [List.lookup] at q ⊢
        subst q
        exact h
      · simp [List.lookup] at q
    · have b : (f == g) = false := beq_eq_false_iff_ne.mpr e
      refine ⟨fun d' q => ?_, fun q => ?_⟩
      · simp only [List.lookup, b] at q ⊢
        exact i1 d' q
      · simp only [List.lookup, b] at q ⊢
        exact i2 q
/-- what is told as an object is one -/
theorem dq_obj {v : V} {c : Str} {r : List (D × D)} (h : Dq K H v (.dict ((.list [], .str c) :: r))) : ∃ (a C dx : Addr) (fs : List (Str × V)) (ds : List (Str × D)), v = .ref a ∧ H a = some (.ins C dx fs) ∧ cnOf K.K c = some C ∧ DqFs K H fs ds ∧ r = ds.map fldD := by
  generalize hx : (PyData.list [], PyData.str c) :: r = kvs at h
  cases h with
  | dctK h1 h2 =>
    cases h2 with
    | nil => cases hx
    | cons _ _ => rename_i k _ _ _ _ _ _; cases k <;> cases hx
  | dctT h1 h2 _ =>
    cases h2 with
    | nil => cases hx
    | cons _ _ _ => cases hx
  | obj h1 h2 h3 =>
    cases hx
    exact ⟨_, _, _, _, _, rfl, h1, h2, h3, rfl⟩
end
theorem clsWith_in {T : Tbl} {f c : Str} (h : (clsWith T f).contains c = true) : ∃ oc, (c, oc) ∈ T.ocls ∧ f ∈ oc.flds := by
  unfold clsWith at h
  rw [List.contains_iff_mem] at h
  obtain ⟨p, hp, rfl⟩ := List.mem_map.mp h
  obtain ⟨h1, h2⟩ := List.mem_filter.mp hp
  exact ⟨p.2, h1, List.contains_iff_mem.mp h2⟩
theorem look_mem {α : Type} {c : Str} {a : α} : ∀ {xs : List (Str × α)}, xs.lookup c = some a → (c, a) ∈ xs
  | [], h => by cases h
  | (g, b) :: xs, h => by
    by_cases e : c = g
    · subst e
      simp [List.lookup] at h
      subst h
      exact List.mem_cons_self
    · have : (c == g) = false := beq_eq_false_iff_ne.mpr e
      simp only [List.lookup, this] at h
      exact List.mem_cons_of_mem _ (look_mem h)
theorem methsOf_in {T : Tbl} {m c g : Str} {n : Nat} (h : (methsOf T m n).lookup c = some g) : ∃ oc, (c, oc) ∈ T.ocls ∧ oc.ms.lookup m = some g ∧ T.mfns.lookup g = some n := by
  have h' := look_mem h
  unfold methsOf at h'
  obtain ⟨p, hp, e⟩ := List.mem_filterMap.mp h'
  cases e1 : p.2.ms.lookup m with
  | none => rw [e1] at e; cases e
  | some g' =>
    rw [e1] at e
    replace e : (if T.mfns.lookup g' = some n then some (p.1, g') else none) = some (c, g) := e
    by_cases c2 : T.mfns.lookup g' = some n
    · rw [if_pos c2] at e
      cases e
      exact ⟨p.2, hp, e1, c2⟩
    · rw [if_neg c2] at e
      cases e
section
variable {X : Cx} {T : Tbl} {F : Str → List D → Res D} {z : Zx} {co : Co} {E : St → XK} {f : Expr → Option Ex}
theorem atb_of {o : Expr} {m : Str} (h : attO o = true) : attributeBase o m X.env (eval o X.env) = eval o X.env := by
  cases o <;> first | rfl | cases h
theorem atrD_is {cs : List Str} {f : Str} {x d : D} (h : atrD cs f x = some d) : ∃ c r, x = .dict ((.list [], .str c) :: r) ∧ cs.contains c = true ∧ fldL r f = some d := by
  unfold atrD at h
  split at h
  · rename_i c r
    by_cases q : cs.contains c = true
    · rw [if_pos q] at h
      exact ⟨c, r, rfl, q, h⟩
    · rw [if_neg q] at h; cases h
  · cases h
theorem methD_is {tb : List (Str × Str)} {m g : Str} {x : D} (h : methD tb m x = some g) : ∃ c r, x = .dict ((.list [], .str c) :: r) ∧ fldL r m = none ∧ tb.lookup c = some g := by
  unfold methD at h
  split at h
  · rename_i c r
    by_cases q : (fldL r m).isSome = true
    · rw [if_pos q] at h; cases h
    · rw [if_neg q] at h
      refine ⟨c, r, rfl, ?_, h⟩
      cases e : fldL r m with
      | none => rfl
      | some _ => rw [e] at q; exact absurd rfl q
  · cases h
theorem snd_atr (O : Ok1 X T F z co E) (S : Snd X T F z co E f) {o : Expr} {m : Str} {p : Pos} {a : Ex} (cool : T.hot = false) (ho : attO o = true) (h : f o = some a) : PE X (.Attribute o m p) (tE X.kx z co F E (.atr a m (clsWith T m))) := by
  refine pe_imp (pe_fld (S.e _ _ h) (atb_of ho)) fun σ H Q ⟨ν, G, R, q⟩ => ?_
  simp only [evE] at q
  refine tE.then R q.toR fun d v G1 H1 _ s hv R1 q1 => ?_
  obtain ⟨r, e, k⟩ := q1.ofO
  obtain ⟨c, r', rfl, hc, hl⟩ := atrD_is e
  obtain ⟨ad, C, dx, fs, ds, rfl, h1, h2, h3, rfl⟩ := dq_obj hv
  rw [fldL_map] at hl
  obtain ⟨oc, hm, hf⟩ := clsWith_in hc
  obtain ⟨C', c1, c2, c3, _⟩ := (O.obj cool c oc hm).ex
  have eC : C' = C := by
    have : cnOf X.K c = some C := h2
    rw [c1] at this
    exact Option.some.inj this
  subst eC
  obtain ⟨v', l1, l2⟩ := (dfs_look (f := m) h3).1 r hl
  exact ⟨ad, C', dx, fs, v', rfl, R1.same _ _ h1, c2, c3 m hf, l1, k _ G1 H1 s l2⟩
theorem form_of {es : List Expr} {pos : Pos} (hs : ∀ a ∈ es, ∀ b p, a ≠ .Starred b p) (hl : es.length ≤ 20) : methodCallForm (es.length + ([] : List Keyword).length) (backTo pos (starEach es X.env)) (backToKw pos (keywordEach [] X.env)) = true := by
  have h := noStars (env := X.env) (pos := pos) hs
  have h1 : (backTo pos (starEach es X.env)).all (fun x => !x.1) = true := by
    rw [List.all_eq_true]
    intro x hx
    rw [List.any_eq_false] at h
    have := h x hx
    cases e : x.1 with
    | false => rfl
    | true => exact absurd e this
  unfold methodCallForm
  rw [h1]
  show (true && true && decide (es.length + 0 + 0 < 30)) = true
  rw [decide_eq_true (by omega)]
  rfl
theorem meth_run {o : Expr} {m : Str} {apos pos : Pos} {es : List Expr} {ta : TE} {pins : List (Addr × Obj)} {s : Shared} {σ : St} {H : Hp} {Q : VK} {K0 : V → Hp → Prop} (he : PE X o ta) (hs : ∀ a ∈ es, ∀ b p, a ≠ .Starred b p) (hl : es.length ≤ 20) (hb : attributeBase o m X.env (eval o X.env) = eval o X.env) (hline : (apos.endLine == pos.line) = true) (I : Inv X pins σ H s) (h : ta σ H K0)
    (k : ∀ (x : V) (u : Value) (H1 : Hp) (s1 : Shared), Inv X pins σ H1 s1 → RelV x u → K0 x H1 → ∃ (a C dx g : Addr) (fs : List (Str × V)), x = .ref a ∧ H1 a = some (.ins C dx fs) ∧ Cls X.K C ∧ Meth X.K C m g ∧ fs.lookup m = none ∧ wpAny (model X.prog X.w) X.A (callWith pos (.ref g) [.ref a] (backTo pos (starEach es X.env)) (backToKw pos (keywordEach [] X.env))) (EP X pins σ Q) X.xe s1) :
    wpAny (model X.prog X.w) X.A (eval (.Call (.Attribute o m apos) es [] pos) X.env) (EP X pins σ Q) X.xe s := by
  rw [arm_eval_Call, hb]
  refine wpAny_bind (thn (he.run pins s σ H _ I h) fun u s1 ⟨x, H1, I1, rx, q⟩ => ?_)
  obtain ⟨a, C, dx, g, fs, rfl, ea, c, hm, l, q⟩ := k x u H1 s1 I1 rx q
  obtain rfl : u = Value.ref a := rx
  refine wpAny_bind (wpAny_standAt ?_)
  have hform := form_of (X := X) (es := es) (pos := pos) hs hl
  have hpos : methodCallPos true o X.env apos pos = pure pos := by unfold methodCallPos; simp [hline]
  unfold methodCall
  rw [hform]
  refine wpAny_bind (wpAny_holding ?_)
  show wpAny (model X.prog X.w) X.A (getMethod (.ref a) m _) _ _ _
  refine getmeth_ok I1 ea c hm l ?_
  exact wpAny_bind (wpAny_of_eq hpos q)
theorem pe_methG {o : Expr} {m : Str} {apos pos : Pos} {e : Expr} {es : List Expr} {ta : TE} {t : TA} (gd : X.A.guards = some []) (pas : ∀ σ, PassesAt (L2.CX X.prog X.w) X σ (E σ)) (he : PE X o ta) (ha : PA X (e :: es) t) (hs : ∀ a ∈ e :: es, ∀ b p, a ≠ .Starred b p) (hl : (e :: es).length ≤ 20) (hb : attributeBase o m X.env (eval o X.env) = eval o X.env) (hline : (apos.endLine == pos.line) = true) :
    PE X (.Call (.Attribute o m apos) (e :: es) [] pos) (fun σ H Q => ta σ H fun x H1 => ∃ (a C dx g : Addr) (fs : List (Str × V)) (fd : FuncData) (ps : List Str) (k : Nat) (sp : Sp), x = .ref a ∧ H1 a = some (.ins C dx fs) ∧ Cls X.K C ∧ Meth X.K C m g ∧ fs.lookup m = none ∧ FnG X.prog X.w X.kx X.mg X.base k g fd ps sp ∧ Room k X.A ∧ Binds X.kx fd ps [] ∧ t σ H1 fun vs H2 => sp (.ref a :: vs) H2 Q (E σ)) := by
  refine ⟨fun pins s σ H Q I h => meth_run he hs hl hb hline I h fun x u H1 s1 I1 rx ⟨a, C, dx, g, fs, fd, ps, k, sp, ex, ea, c, hm, l, P, room, b, q⟩ => ⟨a, C, dx, g, fs, ex, ea, c, hm, l, ?_⟩⟩
  refine PySem.W.callWith_K (first := [.ref a]) (h₀ := X.base) I.ok.mod.kin hm.kp (thn (ha.run pos pins s1 σ H1 _ I1 q) fun us s2 ⟨vs, H2, I2, r, q2⟩ => ⟨I2.kIn, ?_⟩) (star_of (hs e List.mem_cons_self)) (noStars fun a ha => hs a (List.mem_cons_of_mem _ ha))
  exact run_G (us := .ref a :: us) (vs := .ref a :: vs) P room gd b (pas σ) I2 (.cons rfl r) q2
theorem pe_methG0 {o : Expr} {m : Str} {apos pos : Pos} {ta : TE} (gd : X.A.guards = some []) (pas : ∀ σ, PassesAt (L2.CX X.prog X.w) X σ (E σ)) (he : PE X o ta) (hb : attributeBase o m X.env (eval o X.env) = eval o X.env) (hline : (apos.endLine == pos.line) = true) :
    PE X (.Call (.Attribute o m apos) [] [] pos) (fun σ H Q => ta σ H fun x H1 => ∃ (a C dx g : Addr) (fs : List (Str × V)) (fd : FuncData) (ps : List Str) (k : Nat) (sp : Sp), x = .ref a ∧ H1 a = some (.ins C dx fs) ∧ Cls X.K C ∧ Meth X.K C m g ∧ fs.lookup m = none ∧ FnG X.prog X.w X.kx X.mg X.base k g fd ps sp ∧ Room k X.A ∧ Binds X.kx fd ps [] ∧ sp [.ref a] H1 Q (E σ)) := by
  refine ⟨fun pins s σ H Q I h => meth_run he (fun a ha => by cases ha) (Nat.zero_le _) hb hline I h fun x u H1 s1 I1 rx ⟨a, C, dx, g, fs, fd, ps, k, sp, ex, ea, c, hm, l, P, room, b, q⟩ => ⟨a, C, dx, g, fs, ex, ea, c, hm, l, ?_⟩⟩
  exact PySem.W.callWith_K0 (first := [.ref a]) I1.kIn hm.kp (run_G (us := [.ref a]) (vs := [.ref a]) P room gd b (pas σ) I1 (.cons rfl .nil) q)
theorem snd_methO (O : Ok1 X T F z co E) (S : Snd X T F z co E f) {o : Expr} {m : Str} {as : List Expr} {ap cp : Pos} {a x : Ex} (cool : T.hot = false) (ho : attO o = true) (hline : (ap.endLine == cp.line) = true) (hz : as.length ≤ 20) (h1 : f o = some a) (h2 : cArgs f as = some x) : PE X (.Call (.Attribute o m ap) as [] cp) (tE X.kx z co F E (.meth a m (methsOf T m (as.length + 1)) x)) := by
  have key : ∀ {g : Str} {v : V} {G1 H1 : Hp} {d : D}, methD (methsOf T m (as.length + 1)) m d = some g → Same G1 H1 → Dq X.kx G1 v d → ∃ (ad C dx ga : Addr) (fs : List (Str × V)) (fd : FuncData) (ps : List Str) (k : Nat), v = .ref ad ∧ H1 ad = some (.ins C dx fs) ∧ Cls X.K C ∧ Meth X.K C m ga ∧ fs.lookup m = none ∧ FnG X.prog X.w X.kx X.mg X.base k ga fd ps (spD X.kx co (as.length + 1) (F g)) ∧ Room k X.A ∧ Binds X.kx fd ps [] := by
    intro g v G1 H1 d hm sm hv
    obtain ⟨c, r, rfl, hn, hl⟩ := methD_is hm
    obtain ⟨ad, C, dx, fs, ds, rfl, k1, k2, k3, rfl⟩ := dq_obj hv
    rw [fldL_map] at hn
    obtain ⟨oc, i1, i2, i3⟩ := methsOf_in hl
    obtain ⟨C', c1, c2, c3, c4⟩ := (O.obj cool c oc i1).ex
    have eC : C' = C := by
      have : cnOf X.K c = some C := k2
      rw [c1] at this
      exact Option.some.inj this
    subst eC
    obtain ⟨ga, fd, ps, k, P, room, mt, b⟩ := (c4 m g _ i2 i3).ex
    exact ⟨ad, C', dx, ga, fs, fd, ps, k, rfl, sm _ _ k1, c2, mt, (dfs_look k3).2 hn, P, room, b⟩
  cases as with
  | nil =>
    cases h2
    refine pe_imp (pe_methG0 O.gd (O.pas cool) (S.e _ _ h1) (atb_of ho) hline) fun σ H Q ⟨ν, G, R, q⟩ => ?_
    simp only [evE] at q
    refine tE.then R q.toR fun d v G1 H1 _ s hv R1 q1 => ?_
    cases em : methD (methsOf T m ([].length + 1)) m d with
    | none => rw [em] at q1; exact q1.elim
    | some g =>
      rw [em] at q1
      obtain ⟨ad, C, dx, ga, fs, fd, ps, k, rfl, k1, k2, k3, k4, P, room, b⟩ := key em R1.same hv
      exact ⟨ad, C, dx, ga, fs, fd, ps, k, _, rfl, k1, k2, k3, k4, P, room, b, G1, [d], R1.same, .cons hv .nil, rfl, (show Pst X.kx co (E σ) (F g [d]) G1 H1 Q from PsR.toP (PsR.mono q1 (Nx.refl R1.same) fun x _ h => fun v G' H' nx => h v G' H' (s.trans nx)))⟩
  | cons e es =>
    have st := args_star S h2
    refine pe_imp (pe_methG O.gd (O.pas cool) (S.e _ _ h1) (snd_args S h2) st hz (atb_of ho) hline) fun σ H Q ⟨ν, G, R, q⟩ => ?_
    simp only [evE] at q
    refine tE.then R q.toR fun d v G1 H1 _ s hv R1 q1 => ?_
    cases em : methD (methsOf T m ((e :: es).length + 1)) m d with
    | none => rw [em] at q1; exact q1.elim
    | some g =>
      rw [em] at q1
      obtain ⟨ad, C, dx, ga, fs, fd, ps, k, rfl, k1, k2, k3, k4, P, room, b⟩ := key em R1.same hv
      refine ⟨ad, C, dx, ga, fs, fd, ps, k, _, rfl, k1, k2, k3, k4, P, room, b, ν, G1, R1, ?_⟩
      replace q1 : PsR X.kx co (E σ) ((evE F ν x).bind fun y => listR y fun ds => F g (d :: ds)) G1 H1 fun r => ∀ v G' H', Nx G H G' H' → Dq X.kx G' v r → Q v H' := q1
      cases ev : evE F ν x with
      | ok dd =>
        rw [ev] at q1
        cases dd with
        | list ds => exact fun vs G2 H2 s2 ha => ⟨G2, d :: ds, s2.s, .cons (dp_same s2.g _ _ hv) ha, by rw [List.length_cons, args_len h2 ev], PsR.toP (PsR.mono (r := F g (d :: ds)) q1 s2 fun r _ h => fun v G' H' nx => h v G' H' (s.trans (s2.trans nx)))⟩
        | _ => exact q1
      | err _ => rw [ev] at q1; exact EW.mono q1 (Nx.refl R1.same)
      | no => rw [ev] at q1; exact q1
end
end Pe

set_option Elab.async false
set_option linter.all false
set_option maxRecDepth 100000
set_option maxHeartbeats 8000000
/-! Dc: dict comprehensions. -/
namespace Pe
open PySem L2
section
variable {K : Fg} {G : Hp}
theorem dkv_any (k : Key) : ∀ {kvs : List (Key × V)} {ds : List (D × D)}, DqKv K G kvs ds → (kvs.any fun kv => decide (kv.1 = k)) = ds.any fun kv => PyData.eqv kv.1 (keyD k)
  | _, _, .nil => rfl
  | _, _, .cons (k := j) _ t => by
    rw [List.any_cons, List.any_cons, dkv_any k t, eqv_key]
theorem dkv_map (k : Key) {v : V} {d : D} (r : Dq K G v d) : ∀ {kvs : List (Key × V)} {ds : List (D × D)}, DqKv K G kvs ds → DqKv K G (kvs.map fun kv => if kv.1 = k then (kv.1, v) else kv) (ds.map fun kv => if PyData.eqv kv.1 (keyD k) = true then (kv.1, d) else kv)
  | _, _, .nil => .nil
  | _, _, .cons (k := j) (v := v') q t => by
    rw [List.map_cons, List.map_cons]
    by_cases e : j = k
    · subst e
      rw [if_pos rfl, if_pos (by rw [eqv_key]; simp)]
      exact .cons r (dkv_map j r t)
    · rw [if_neg e, if_neg (by rw [eqv_key]; simp [e])]
      exact .cons q (dkv_map k r t)
theorem dkv_snoc {k : Key} {v : V} {d : D} (r : Dq K G v d) : ∀ {kvs : List (Key × V)} {ds : List (D × D)}, DqKv K G kvs ds → DqKv K G (kvs ++ [(k, v)]) (ds ++ [(keyD k, d)])
  | _, _, .nil => .cons r .nil
  | _, _, .cons q t => .cons q (dkv_snoc r t)
theorem dkv_put {k : Key} {v : V} {d : D} {kvs : List (Key × V)} {ds : List (D × D)} (q : DqKv K G kvs ds) (r : Dq K G v d) : DqKv K G (putK kvs k v) (dput ds (keyD k) d) := by
  unfold putK dput
  rw [dkv_any k q]
  split
  · exact dkv_map k r q
  · exact dkv_snoc r q
theorem putK_len {kvs : List (Key × V)} {k : Key} {v : V} : (putK kvs k v).length ≤ kvs.length + 1 := by
  unfold putK
  split
  · rw [List.length_map]; omega
  · rw [List.length_append, List.length_singleton]; omega
theorem nx_add {G1 H1 G H : Hp} {L : Addr} {u : HO} (x : Nx G1 H1 G H) (g : G L = none) (n : H1 L = none) (h : H L = some u) : Nx G1 H1 (upd G L u) H := by
  refine ⟨x.g.trans (same_upd g), fun b z hb => ?_, x.h, fun a ga ha => ?_⟩
  · by_cases e : b = L
    · subst e
      rw [upd_same] at hb
      cases hb
      exact h
    · rw [upd_ne e] at hb
      exact x.s b z hb
  · have ne : a ≠ L := fun z => ha (by rw [z]; exact n)
    rw [upd_ne ne]
    exact x.n a ga ha
end
section
variable {X : Cx} {T : Tbl} {F : Str → List D → Res D} {z : Zx} {co : Co} {E : St → XK} {f : Expr → Option Ex}
/-- one item -/
def itemK (F : Str → List D → Res D) (ν : List (Option D)) (kx vx cond : Ex) (tg : Sum Nat (List Nat)) (own : List Nat) (d : D) : Res (Option (D × D)) := match setTg (wipeD ν own) tg d with
  | some ν' => (evE F ν' cond).noErr.bind fun c => (Res.ofO (truD c)).bind fun k => if k = true then (evE F ν' kx).noErr.bind fun x => (evE F ν' vx).noErr.bind fun y => .ok (some (x, y)) else .ok none
  | none => .no
theorem itemK_ok {ν : List (Option D)} {kx vx cond : Ex} {tg : Sum Nat (List Nat)} {own : List Nat} {d : D} {o : Option (D × D)} (h : itemK F ν kx vx cond tg own d = .ok o) :
    ∃ ν' c k, setTg (wipeD ν own) tg d = some ν' ∧ evE F ν' cond = .ok c ∧ truD c = some k ∧ ((k = true ∧ ∃ x y, evE F ν' kx = .ok x ∧ evE F ν' vx = .ok y ∧ o = some (x, y)) ∨ (k = false ∧ o = none)) := by
  unfold itemK at h
  cases e : setTg (wipeD ν own) tg d with
  | none => rw [e] at h; cases h
  | some ν' =>
    rw [e] at h
    obtain ⟨c, h1, h⟩ := noErr_ok' h
    obtain ⟨k, h2, h⟩ := ofO_bind h
    refine ⟨ν', c, k, rfl, h1, h2, ?_⟩
    cases k with
    | true =>
      rw [if_pos rfl] at h
      obtain ⟨x, h3, h⟩ := noErr_ok' h
      obtain ⟨y, h4, h⟩ := noErr_ok' h
      cases h
      exact .inl ⟨rfl, x, y, h3, h4, rfl⟩
    | false =>
      rw [if_neg Bool.false_ne_true] at h
      cases h
      exact .inr ⟨rfl, rfl⟩
theorem itemK_noErr {ν : List (Option D)} {kx vx cond : Ex} {tg : Sum Nat (List Nat)} {own : List Nat} (d : D) (e : Err) : itemK F ν kx vx cond tg own d ≠ .err e := by
  intro h
  unfold itemK at h
  cases e0 : setTg (wipeD ν own) tg d with
  | none => rw [e0] at h; cases h
  | some ν' =>
    rw [e0] at h
    have ne : ∀ {α β : Type} {r : Res α} {g : α → Res β}, (∀ a, g a ≠ .err e) → r.noErr.bind g ≠ .err e := fun {α β r g} hg => by
      cases r with
      | ok a => exact hg a
      | err _ => exact fun z => by cases z
      | no => exact fun z => by cases z
    refine ne (fun c => ?_) h
    cases truD c with
    | none => exact fun z => by cases z
    | some k =>
      show (if k = true then _ else _) ≠ _
      split
      · exact ne fun x => ne fun y => fun z => by cases z
      · exact fun z => by cases z
theorem dcL_noErr {ν : List (Option D)} {kx vx cond : Ex} {tg : Sum Nat (List Nat)} {own : List Nat} (e : Err) : ∀ (ds : List D) (acc : List (D × D)), dcL (itemK F ν kx vx cond tg own) ds acc ≠ .err e
  | [], acc => fun z => by cases z
  | d :: ds, acc => fun z => by
    unfold dcL at z
    cases e1 : itemK F ν kx vx cond tg own d with
    | ok o =>
      rw [e1] at z
      cases o with
      | none => exact dcL_noErr e ds acc z
      | some kv =>
        have z' : (if scK kv.1 = true then dcL (itemK F ν kx vx cond tg own) ds (dput acc kv.1 kv.2) else .no) = .err e := z
        split at z'
        · exact dcL_noErr e ds _ z'
        · cases z'
    | err e2 => exact itemK_noErr d e2 e1
    | no => rw [e1] at z; cases z
theorem dcL_cons {g : D → Res (Option (D × D))} {d : D} {ds : List D} {acc r : List (D × D)} (h : dcL g (d :: ds) acc = .ok r) : (∃ x y, g d = .ok (some (x, y)) ∧ scK x = true ∧ dcL g ds (dput acc x y) = .ok r) ∨ (g d = .ok none ∧ dcL g ds acc = .ok r) := by
  unfold dcL at h
  cases e1 : g d with
  | ok o =>
    rw [e1] at h
    cases o with
    | none => exact .inr ⟨rfl, h⟩
    | some kv =>
      have h' : (if scK kv.1 = true then dcL g ds (dput acc kv.1 kv.2) else .no) = .ok r := h
      split at h'
      · rename_i c; exact .inl ⟨kv.1, kv.2, rfl, c, h'⟩
      · cases h'
  | err _ => rw [e1] at h; cases h
  | no => rw [e1] at h; cases h
/-- the walk: the new dict stands apart -/
theorem dc_go {K : Fg} {J : It} {σ : St} {ν : List (Option D)} {G1 H1 : Hp} {ds : List D} {r : List (D × D)} {kx vx cond : Ex} {tg : Sum Nat (List Nat)} {own : List Nat} {tt : TT} {tk tv : TE} {L : Addr} {Qd : Hp → Prop}
    (R : RepV K z σ ν G1 H1) (w : WalkD K J ds G1) (hz : ds.length ≤ sizeLine) (hL : H1 L = none) (hr : dcL (itemK F ν kx vx cond tg own) ds [] = .ok r) (htg : tgIn own tg = true)
    (htt : ∀ σ H Q, tT K none co F EN cond σ H Q → tt σ H Q) (htk : ∀ σ H Q, tE K none co F EN kx σ H Q → tk σ H Q) (htv : ∀ σ H Q, tE K none co F EN vx σ H Q → tv σ H Q)
    (hd : ∀ (kvs : List (Key × V)) (G H : Hp), Nx G1 H1 G H → G L = none → H L = some (.dK kvs) → DqKv K G kvs r → Qd H) :
    ∃ W : Nat → Nat → Hp → Prop, (∃ m, W 0 m (upd H1 L (.dK []))) ∧ ∀ i m H, W i m H → (J.stop i H ∧ Qd H) ∨ (J.go i H ∧ ∃ N : Hp → Prop, (∀ H', N H' → ∃ m', m' < m ∧ W (i + 1) m' H') ∧
      ∀ x H', J.yld i H x H' → tG K tg x (wipe σ own) H' fun σ2 H2 => wipe σ2 own = wipe σ own ∧ tt σ2 H2 fun b H3 => if b = true then tk σ2 H3 fun y H4 => tv σ2 H4 fun z H5 => ∃ kvs k, y = kV k ∧ H5 L = some (.dK kvs) ∧ kvs.length < sizeLine ∧ N (upd H5 L (.dK (putK kvs k z))) else N H3) := by
  obtain ⟨Y, wk, wy⟩ := w
  let Pv : Nat → Hp → Prop := fun i H => ∃ (kvs : List (Key × V)) (ad : List (D × D)) (G : Hp), Nx G1 H1 G H ∧ G L = none ∧ H L = some (.dK kvs) ∧ DqKv K G kvs ad ∧ dcL (itemK F ν kx vx cond tg own) (ds.drop i) ad = .ok r ∧ kvs.length ≤ i
  have kept : ∀ {G H : Hp} {u : HO}, Same G H → G L = none → Same G (upd H L u) := fun {G H u} s n b z hb => by
    rw [upd_ne (ne_of_none hb n)]
    exact s b z hb
  refine ⟨fun i m H => m = ds.length - i ∧ i ≤ ds.length ∧ Pv i H, ⟨_, rfl, Nat.zero_le _, [], [], G1, Nx.hid R.same hL, R.same.free hL, upd_same, .nil, by simpa using hr, Nat.le_refl _⟩, ?_⟩
  rintro i m H ⟨rfl, hi, kvs, ad, G, nx, gL, hLs, ha, hc, hlen⟩
  have sG : Same G1 H := nx.g.trans nx.s
  by_cases hlt : i < ds.length
  rotate_left
  · have e : i = ds.length := by omega
    subst e
    rw [List.drop_length] at hc
    cases hc
    exact .inl ⟨wk.stops H sG, hd kvs G H nx gL hLs ha⟩
  refine .inr ⟨wk.goes i H hlt sG, Pv (i + 1), fun H' p => ⟨ds.length - (i + 1), by omega, rfl, hlt, p⟩, fun x H' yl => ?_⟩
  have y := wk.yields i H x H' hlt sG yl
  have hd' : ds.drop i = ds[i] :: ds.drop (i + 1) := List.drop_eq_getElem_cons hlt
  rw [hd'] at hc
  obtain ⟨G2, nx2, hv⟩ := wy i ds[i] G H H' x (List.getElem?_eq_getElem hlt) nx.g nx.s y
  have g2 : G2 L = none := nx2.n L gL (by rw [hLs]; simp)
  have R2 := repV_wipe (R.mono (nx.trans nx2)).drop own
  have hcc := dcL_cons hc
  have hok : ∃ o, itemK F ν kx vx cond tg own ds[i] = .ok o := by
    rcases hcc with ⟨_, _, h, _⟩ | ⟨h, _⟩ <;> exact ⟨_, h⟩
  obtain ⟨o, ho⟩ := hok
  obtain ⟨ν', c, k, e1, e2, e3, e4⟩ := itemK_ok ho
  refine tG_go R2 hv e1 fun σ' R' wp => ⟨wp own htg ▸ wipe_wipe own σ, ?_⟩
  refine htt _ _ _ ⟨ν', G2, R', ?_⟩
  rw [e2]
  show PsR K co E0 (Res.ofO (truD c)) G2 H' _
  rw [e3]
  intro G3 H3 nx3
  have g3 : G3 L = none := nx3.n L g2 (by rw [nx2.h _ _ hLs]; simp)
  have h3 : H3 L = some (.dK kvs) := nx3.h _ _ (nx2.h _ _ hLs)
  rcases e4 with ⟨rfl, x0, y0, e5, e6, rfl⟩ | ⟨rfl, rfl⟩
  · obtain ⟨hs, hc'⟩ : scK x0 = true ∧ dcL (itemK F ν kx vx cond tg own) (ds.drop (i + 1)) (dput ad x0 y0) = .ok r := by
      rcases hcc with ⟨a, b, h, h1, h2⟩ | ⟨h, _⟩
      · rw [ho] at h; cases h; exact ⟨h1, h2⟩
      · rw [ho] at h; cases h
    obtain ⟨key, rfl⟩ := scK_key hs
    refine iteT (htk _ _ _ ⟨ν', G3, R'.mono nx3, ?_⟩)
    rw [e5]
    intro v G4 H4 nx4 hv4
    obtain rfl := dq_key hv4
    refine htv _ _ _ ⟨ν', G4, R'.mono (nx3.trans nx4), ?_⟩
    rw [e6]
    intro v5 G5 H5 nx5 hv5
    have g4 : G4 L = none := nx4.n L g3 (by rw [h3]; simp)
    have h4 : H4 L = some (.dK kvs) := nx4.h _ _ h3
    have g5 : G5 L = none := nx5.n L g4 (by rw [h4]; simp)
    have h5 : H5 L = some (.dK kvs) := nx5.h _ _ h4
    have all5 := nx2.trans (nx3.trans (nx4.trans nx5))
    refine ⟨kvs, key, rfl, h5, Nat.lt_of_lt_of_le (Nat.lt_of_le_of_lt hlen hlt) hz, putK kvs key v5, dput ad (keyD key) y0, G5, ?_, g5, upd_same, dkv_put (dkv_same all5.g ha) hv5, hc', Nat.le_trans putK_len (by omega)⟩
    have big := nx.trans all5
    refine ⟨big.g, kept big.s g5, fun b u hb => ?_, big.n⟩
    have hb1 : b ≠ L := fun z => by rw [z, hL] at hb; cases hb
    rw [upd_ne hb1]
    exact big.h b u hb
  · have hc' : dcL (itemK F ν kx vx cond tg own) (ds.drop (i + 1)) ad = .ok r := by
      rcases hcc with ⟨a, b, h, _, _⟩ | ⟨_, h⟩
      · rw [ho] at h; cases h
      · exact h
    exact iteF ⟨kvs, ad, G3, nx.trans (nx2.trans nx3), g3, h3, dkv_same (nx2.trans nx3).g ha, hc', by omega⟩
end
end Pe

set_option Elab.async false
set_option linter.all false
set_option maxRecDepth 100000
set_option maxHeartbeats 8000000
/-! Dc2: dict comprehensions, read. -/
namespace Pe
open PySem L2
section
variable {X : Cx} {T : Tbl} {F : Str → List D → Res D} {z : Zx} {co : Co} {E : St → XK} {f : Expr → Option Ex}
/-- name = {..}, where the model hands the dict over at once -/
theorem ps_setDc {j : Nat} {y : Str} {q : Pos} {kx vx tg iter : Expr} {ifs : List Expr} {scope : Scope} {own : List (Str × Nat)} {p sp : Pos} {wi : TI} {g : TG} {tt : TT} {tk tv : TE} (calm : X.calm = true) (nd : X.N.Nodup) (at_ : X.N[j]? = some y)
    (loc : X.env.scope.names.lookup y = some .local) (sw : swapsWith (.DictComp kx vx [⟨tg, iter, ifs, 0⟩] scope p) (some (.Name y q)) sp.line X.env = pure true) (pi : PI X tg iter wi) (blk : BlkOk X.N X.env.scope scope own)
    (pg : ∀ (s : Shared) (H : Hp) (C : Addr) (cl : List (Str × Addr)) (fp : List Addr), PG (X.blk s H scope (compEnvC scope cl C X.env) fp) tg g)
    (pt : ∀ (s : Shared) (H : Hp) (C : Addr) (cl : List (Str × Addr)) (fp : List Addr), PTs (X.blk s H scope (compEnvC scope cl C X.env) fp) ifs tt)
    (pk : ∀ (s : Shared) (H : Hp) (C : Addr) (cl : List (Str × Addr)) (fp : List Addr), PE (X.blk s H scope (compEnvC scope cl C X.env) fp) kx tk)
    (pv : ∀ (s : Shared) (H : Hp) (C : Addr) (cl : List (Str × Addr)) (fp : List Addr), PE (X.blk s H scope (compEnvC scope cl C X.env) fp) vx tv) (fold : ∀ x, foldedSetIterable iter X.env x = pure x) :
    PS X (.Assign [.Name y q] (.DictComp kx vx [⟨tg, iter, ifs, 0⟩] scope p) sp) (tAsg (tDc wi g tt tk tv (own.map (·.2))) (gName j)) := by
  constructor
  intro pins s σ H D I want
  rw [exec_Assign_Name_used _ _ _ _ sw]
  refine wpAny_bind (wpAny_standAt (wpAny_bind ?_))
  show wpAny _ X.A (comprehension _ scope X.env (firstIterPos [⟨tg, iter, ifs, 0⟩] p) newDict false (eval iter X.env) (some (assign (.Name y q) X.env)) >>= fun _ => pure ()) _ _ s
  have want2 : tDc wi g tt tk tv (own.map (·.2)) σ H (fun v H1 => gName j v σ H1 D.nx) := want
  refine wpAny_bind (thn (dc_core (Qf := fun _ t => SP X pins D .next t) calm nd I pi blk pg pt pk pv fold want2 fun L C t m H' J qq hn fp => ?_) fun _ t hq => wpAny_pure (wpAny_pure hq))
  show wpAny _ _ (assign (.Name y q) X.env (.ref L)) _ _ _
  refine wpAny_assign_Name (store_ok2 (v := V.ref L) J nd at_ (.inl loc) rfl (fun t2 J2 r => ?_) (.inr loc))
  obtain ⟨a, sb, ha⟩ := r
  obtain ⟨g0, g1, g2, g3, g4, g5⟩ := fp
  have ne : C ≠ a := by
    rcases ha with e | e
    · subst e; exact g1
    · exact fun e2 => g4 y a e e2.symm
  exact ⟨m, hn.sameBut sb ne, fun t3 sb3 => ⟨_, H', J2.turned (t' := t2.toks) (fun b o hb e => (sb3.2 b hb).trans e) g0 g1 g3 g4 g5, qq⟩⟩
theorem dc_fin {K : Fg} {J : It} {σ : St} {ν : List (Option D)} {G1 H1 : Hp} {ds : List D} {r : List (D × D)} {kx vx cond : Ex} {tg : Sum Nat (List Nat)} {own : List Nat} {tt : TT} {Q : VK}
    (R : RepV K z σ ν G1 H1) (w : WalkD K J ds G1) (hz : ds.length ≤ sizeLine) (hr : dcL (itemK F ν kx vx cond tg own) ds [] = .ok r) (htg : tgIn own tg = true) (htt : ∀ σ H Q, tT K none co F EN cond σ H Q → tt σ H Q)
    (qq : ∀ v G' H', Nx G1 H1 G' H' → Dq K G' v (.dict r) → Q v H') : ∀ L, H1 L = none → ∃ W : Nat → Nat → Hp → Prop, (∃ m, W 0 m (upd H1 L (.dK []))) ∧ ∀ i m H, W i m H → (J.stop i H ∧ Q (.ref L) H) ∨ (J.go i H ∧ ∃ N : Hp → Prop, (∀ H', N H' → ∃ m', m' < m ∧ W (i + 1) m' H') ∧
      ∀ x H', J.yld i H x H' → tG K tg x (wipe σ own) H' fun σ2 H2 => wipe σ2 own = wipe σ own ∧ tt σ2 H2 fun b H3 => if b = true then tE K none co F EN kx σ2 H3 fun y H4 => tE K none co F EN vx σ2 H4 fun z H5 => ∃ kvs k, y = kV k ∧ H5 L = some (.dK kvs) ∧ kvs.length < sizeLine ∧ N (upd H5 L (.dK (putK kvs k z))) else N H3) :=
  fun L hL => dc_go (Qd := fun H => Q (.ref L) H) R w hz hL hr htg htt (fun _ _ _ z => z) (fun _ _ _ z => z) fun kvs G H nx g h a => qq _ (upd G L (.dK kvs)) H (nx_add nx g hL h) (.dctK (Rd.of upd_same) (dkv_same (same_upd g) a))
/-- what a dict comprehension gives, its parts read -/
theorem dcE {ν : List (Option D)} {G H : Hp} {K : Fg} {k v it cd : Ex} {t : Sum Nat (List Nat)} {own : List Nat} {Ek : XK} {Q : VK} {ds : List D} (ev : evE F ν it = .ok (.list ds)) (q : Pst K co Ek (evE F ν (.dcomp k v it cd t own)) G H Q) :
    ds.length ≤ sizeLine ∧ ∃ r, dcL (itemK F ν k v cd t own) ds [] = .ok r ∧ ∀ u G' H', Nx G H G' H' → Dq K G' u (.dict r) → Q u H' := by
  simp only [evE, ev] at q
  have q3 : Pst K co Ek (if ds.length ≤ sizeLine then (dcL (itemK F ν k v cd t own) ds []).bind (fun r => Res.ok (PyData.dict r)) else Res.no) G H Q := q
  by_cases hz : ds.length ≤ sizeLine
  · rw [if_pos hz] at q3
    cases er : dcL (itemK F ν k v cd t own) ds [] with
    | ok r => rw [er] at q3; exact ⟨hz, r, rfl, q3⟩
    | err e => exact absurd er (dcL_noErr e _ _)
    | no => rw [er] at q3; exact q3.elim
  · rw [if_neg hz] at q3
    exact q3.elim
theorem dcE_no {ν : List (Option D)} {G H : Hp} {K : Fg} {k v it cd : Ex} {t : Sum Nat (List Nat)} {own : List Nat} {Ek : XK} {Q : VK} (q : Pst K co Ek (evE F ν (.dcomp k v it cd t own)) G H Q) :
    (∃ ds, evE F ν it = .ok (.list ds)) ∨ ∃ e, evE F ν it = .err e ∧ EW K co Ek e G H := by
  simp only [evE] at q
  cases ev : evE F ν it with
  | ok d => cases d with
    | list ds => exact .inl ⟨ds, rfl⟩
    | _ => rw [ev] at q; exact q.elim
  | err e => rw [ev] at q; exact .inr ⟨e, rfl, q⟩
  | no => rw [ev] at q; exact q.elim
theorem snd_dc (O : Ok1 X T F z co E) (S : Snd X T F z co E f) {scope : Scope} {g : Expr → Option Ex} (B : ∀ (s : Shared) (H : Hp) (C : Addr) (cl : List (Str × Addr)) (fp : List Addr), Snd (X.blk s H scope (compEnvC scope cl C X.env) fp) T F none co EN g)
    {kx vx tg iter : Expr} {ifs : List Expr} {p : Pos} {it k v cd : Ex} {t : Sum Nat (List Nat)} (ns : notSet iter = true) (ok : blkC X.N X.env.scope scope (ownOf X.N scope.names) = true) (cool : T.hot = false) (h1 : (cIter X.env.scope.names T f tg iter).map (seqC iter) = some it)
    (hv : ∀ x q i, f (.Name x q) = some (.var i) → PE X (.Name x q) (tVar i))
    (h2 : cTg X.N scope.names tg = some t) (h3 : g kx = some k) (h4 : g vx = some v) (hin : tgIn ((ownOf X.N scope.names).map (·.2)) t = true)
    (hc : (ifs = [] ∧ cd = .cst (.bool true)) ∨ ∃ c, ifs = [c] ∧ testOk c = true ∧ g c = some cd) :
    ∃ te : TE, PE X (.DictComp kx vx [⟨tg, iter, ifs, 0⟩] scope p) te ∧
      (∀ (y : Str) (i : Nat) (q sp : Pos), X.N[i]? = some y → X.env.scope.names.lookup y = some .local → swapsWith (.DictComp kx vx [⟨tg, iter, ifs, 0⟩] scope p) (some (.Name y q)) sp.line X.env = pure true →
        PS X (.Assign [.Name y q] (.DictComp kx vx [⟨tg, iter, ifs, 0⟩] scope p) sp) (tAsg te (gName i))) ∧
      ∀ σ H Q, tE X.kx z co F E (.dcomp k v it cd t ((ownOf X.N scope.names).map (·.2))) σ H Q → te σ H Q := by
  have folded : ∀ x, foldedSetIterable iter X.env x = pure x := fun x => by
    cases iter with
    | Set _ _ _ => cases ns
    | _ => rfl
  have base : ∃ tt : TT, (∀ (s : Shared) (H : Hp) (C : Addr) (cl : List (Str × Addr)) (fp : List Addr), PTs (X.blk s H scope (compEnvC scope cl C X.env) fp) ifs tt) ∧ ∀ σ H Q, tT X.kx none co F EN cd σ H Q → tt σ H Q := by
    rcases hc with ⟨rfl, rfl⟩ | ⟨c, rfl, ht, hg⟩
    · refine ⟨tYes, fun _ _ _ _ _ => pts_nil, fun σ H Q ⟨ν, G, R, q⟩ => ?_⟩
      simp only [evE] at q
      exact q G H (Nx.refl R.same)
    · exact ⟨tT X.kx none co F EN cd, fun s H C cl fp => pts_one ((B s H C cl fp).t _ _ hg ht), fun _ _ _ z => z⟩
  obtain ⟨tt, htt, himp⟩ := base
  have hpg : ∀ (s : Shared) (H : Hp) (C : Addr) (cl : List (Str × Addr)) (fp : List Addr), PG (X.blk s H scope (compEnvC scope cl C X.env) fp) tg (tG X.kx t) :=
    fun s H C cl fp => tg_ok (X := X.blk s H scope (compEnvC scope cl C X.env) fp) O.nd (O.calm cool) sto_blk h2
  have hpk : ∀ (s : Shared) (H : Hp) (C : Addr) (cl : List (Str × Addr)) (fp : List Addr), PE (X.blk s H scope (compEnvC scope cl C X.env) fp) kx (tE X.kx none co F EN k) := fun s H C cl fp => (B s H C cl fp).e _ _ h3
  have hpv : ∀ (s : Shared) (H : Hp) (C : Addr) (cl : List (Str × Addr)) (fp : List Addr), PE (X.blk s H scope (compEnvC scope cl C X.env) fp) vx (tE X.kx none co F EN v) := fun s H C cl fp => (B s H C cl fp).e _ _ h4
  cases e1 : cIter X.env.scope.names T f tg iter with
  | none => rw [e1] at h1; cases h1
  | some it0 =>
  rw [e1] at h1
  have m1 := pe_dc (pos := p) (own := ownOf X.N scope.names) (O.calm cool) O.nd (iter_ok O S e1) (blkOk_by ok) hpg htt hpk hpv folded
  have m2 := fun (y : Str) (i : Nat) (q sp : Pos) a b c => ps_setDc (p := p) (y := y) (j := i) (q := q) (sp := sp) (own := ownOf X.N scope.names) (O.calm cool) O.nd a b c (iter_ok O S e1) (blkOk_by ok) hpg htt hpk hpv folded
  have plain : ∀ σ H Q ν G, RepV X.kx z σ ν G H → Pst X.kx co (E σ) (evE F ν (.dcomp k v it0 cd t ((ownOf X.N scope.names).map (·.2)))) G H Q → tDc (tI X.kx z co F E it0) (tG X.kx t) tt (tE X.kx none co F EN k) (tE X.kx none co F EN v) ((ownOf X.N scope.names).map (·.2)) σ H Q := fun σ H Q ν G R q => by
    refine ⟨ν, G, R, ?_⟩
    rcases dcE_no q with ⟨ds, ev⟩ | ⟨e, ev, w⟩
    · obtain ⟨hz, r, er, qq⟩ := dcE ev q
      rw [ev]
      intro J G1 H1 nx w
      exact dc_fin (R.mono nx) w hz er hin himp fun u G' H' nx2 hu => qq u G' H' (nx.trans nx2) hu
    · rw [ev]
      exact w
  by_cases isd : ∃ x q i, iter = .Name x q ∧ it0 = .seq (.var i)
  rotate_left
  · have e2 : it = it0 := by
      have h1' : some (seqC iter it0) = some it := h1
      cases h1'
      unfold seqC
      split
      · exact absurd ⟨_, _, _, rfl, rfl⟩ isd
      · rfl
    subst e2
    exact ⟨_, m1, m2, fun σ H Q ⟨ν, G, R, q⟩ => plain σ H Q ν G R q⟩
  obtain ⟨x, q0, i, rfl, rfl⟩ := isd
  have h1' : it = .seqD i := by cases h1; rfl
  subst h1'
  have hfx : f (.Name x q0) = some (.var i) := by
    have h' : (if notSet (.Name x q0) = true then (f (.Name x q0)).map Ex.seq else none) = some (.seq (.var i)) := e1
    rw [if_pos ns] at h'
    cases e : f (.Name x q0) with
    | none => rw [e] at h'; cases h'
    | some v => rw [e] at h'; cases h'; rfl
  have pk := pi_keys (tg := tg) (hv x q0 i hfx)
  have n1 := pe_dc (pos := p) (own := ownOf X.N scope.names) (O.calm cool) O.nd pk (blkOk_by ok) hpg htt hpk hpv folded
  have n2 := fun (y : Str) (i : Nat) (q sp : Pos) a b c => ps_setDc (p := p) (y := y) (j := i) (q := q) (sp := sp) (own := ownOf X.N scope.names) (O.calm cool) O.nd a b c pk (blkOk_by ok) hpg htt hpk hpv folded
  refine ⟨_, pe_or m1 (pe_or (pe_lock n1) n1), fun y i' q sp a b c => ?_, fun σ H Q ⟨ν, G, R, q⟩ => ?_⟩
  · refine ps_imp (ps_or (m2 y i' q sp a b c) (ps_or (ps_lock (n2 y i' q sp a b c)) (n2 y i' q sp a b c))) fun D σ H w => ?_
    rcases w with w | w | w
    · exact .inl w
    · obtain ⟨d, u, hd, mu, w⟩ := w
      exact .inr (.inl ⟨d, u, hd, mu, w⟩)
    · exact .inr (.inr w)
  · by_cases hd : ∃ kvs, ν[i]? = some (some (.dict kvs))
    rotate_left
    · refine .inl (plain σ H Q ν G R ?_)
      have e : evE F ν (.seqD i) = evE F ν (.seq (.var i)) := by
        simp only [evE]
        cases e : ν[i]? with
        | none => rfl
        | some o => cases o with
          | none => rfl
          | some d => cases d with
            | dict kvs => exact absurd ⟨kvs, e⟩ hd
            | _ => rfl
      have e2 : evE F ν (.dcomp k v (.seqD i) cd t ((ownOf X.N scope.names).map (·.2))) = evE F ν (.dcomp k v (.seq (.var i)) cd t ((ownOf X.N scope.names).map (·.2))) := by
        simp only [evE] at e ⊢
        rw [e]
      rw [← e2]
      exact q
    · obtain ⟨kvs, hk⟩ := hd
      refine .inr ?_
      have sc : scKeys kvs = true ∧ kvs.length ≤ sizeLine := by
        by_cases sc : scKeys kvs = true ∧ kvs.length ≤ sizeLine
        · exact sc
        · rcases dcE_no q with ⟨ds, ev⟩ | ⟨e, ev, _⟩ <;> simp only [evE, hk] at ev <;> rw [if_neg sc] at ev <;> cases ev
      have ev : evE F ν (.seqD i) = .ok (.list (kvs.map Prod.fst)) := by
        simp only [evE, hk]
        rw [if_pos sc]
      obtain ⟨hz, r, er, qq⟩ := dcE ev q
      obtain ⟨v0, hs, hq⟩ := R.get i _ hk
      cases hq with
      | dctK b1 a1 =>
        rename_i a kvs0
        rw [dkv_keys a1] at er hz
        have go : ∀ {G H : Hp} {o : Obj} {Q : VK}, RepV X.kx none σ ν G H → G a = some (.frz o (.dK kvs0)) → (∀ u G' H', Nx G H G' H' → Dq X.kx G' u (.dict r) → Q u H') → tDc (iKeys (tVar i)) (tG X.kx t) tt (tE X.kx none co F EN k) (tE X.kx none co F EN v) ((ownOf X.N scope.names).map (·.2)) σ H Q := fun R hG qq =>
          ⟨_, hs, a, _, rfl, .inl ⟨kvs0, R.same a _ hG, dc_fin R (walk_keysD hG) hz er hin himp qq⟩⟩
        rcases b1 with b1 | ⟨o, b1⟩
        · refine .inl ⟨a, .dK kvs0, R.same a _ b1, trivial, fun o => ?_⟩
          have R2 : RepV X.kx none σ ν (upd G a (.frz o (.dK kvs0))) (upd H a (.frz o (.dK kvs0))) := ⟨same_lock R.same, R.len, fun j d e => let ⟨v, h1, h2⟩ := R.get j d e; ⟨v, h1, dq_lock b1 d v h2⟩, fun q e => by cases e⟩
          refine go R2 upd_same fun u G' H' nx hu => ?_
          have ga : G' a = some (.frz o (.dK kvs0)) := nx.g a _ upd_same
          refine ⟨nx.s a _ ga, qq u (upd G' a (.dK kvs0)) (upd H' a (.dK kvs0)) ⟨upd_back b1 o nx.g, same_lock nx.s, upd_back (R.same a _ b1) o nx.h, fun b e n => ?_⟩ (dq_unlock ga _ _ hu)⟩
          by_cases hb : b = a
          · subst hb; rw [b1] at e; cases e
          · rw [upd_ne hb]
            exact nx.n b (by rw [upd_ne hb]; exact e) (by rw [upd_ne hb]; exact n)
        · exact .inr (go R.drop b1 qq)
      | dctT b1 a1 ne =>
        cases a1 with
        | nil => exact absurd rfl ne
        | cons _ _ _ => exact absurd sc.1 (by simp [scKeys, ksD, isTupK])
      | obj _ _ _ => exact absurd sc.1 (by simp [scKeys, isL])
end
end Pe

set_option Elab.async false
set_option linter.all false
set_option maxRecDepth 100000
set_option maxHeartbeats 8000000
/-! Ds: dict displays. -/
namespace Pe
open PySem L2
section
variable {X : Cx} {T : Tbl} {F : Str → List D → Res D} {z : Zx} {co : Co} {E : St → XK} {f : Expr → Option Ex}
/-- keys and values -/
inductive PrD (K : Fg) (G : Hp) : List (V × V) → List D → Prop
  | nil : PrD K G [] []
  | cons {k v : V} {ps : List (V × V)} {x y : D} {ds : List D} : Dq K G k x → Dq K G v y → PrD K G ps ds → PrD K G ((k, v) :: ps) (x :: y :: ds)
theorem prd_keys {K : Fg} {G : Hp} : ∀ {ps : List (V × V)} {ds : List D} {acc r : List (D × D)} {kvs : List (Key × V)}, PrD K G ps ds → dspD ds acc = some r → DqKv K G kvs acc → ∃ more : List (Key × V), ps = more.map (fun kv => (kV kv.1, kv.2)) ∧ DqKv K G (mergeK kvs more) r
  | _, _, acc, r, kvs, .nil, h, a => by
    have h' : some acc = some r := h
    cases h'
    exact ⟨[], rfl, a⟩
  | _, _, acc, r, kvs, .cons (k := k) (v := v) (x := x) (y := y) (ds := ds) hk hv t, h, a => by
    have h' : (if scK x = true then dspD ds (dput acc x y) else none) = some r := h
    by_cases c : scK x = true
    · rw [if_pos c] at h'
      obtain ⟨key, rfl⟩ := scK_key c
      obtain rfl := dq_key hk
      obtain ⟨more, e, m⟩ := prd_keys t h' (dkv_put a hv)
      exact ⟨(key, v) :: more, by rw [e]; rfl, m⟩
    · rw [if_neg c] at h'; cases h'
def trsOf (K : Fg) (z : Zx) (co : Co) (F : Str → List D → Res D) (E : St → XK) (f : Expr → Option Ex) : List (Option Expr) → List Expr → List (TE × TE)
  | some k :: ks, v :: vs => (tE K z co F E ((f k).getD .nopart), tE K z co F E ((f v).getD .nopart)) :: trsOf K z co F E f ks vs
  | _, _ => []
theorem pps_of (S : Snd X T F z co E f) {p : Pos} : ∀ {ks : List (Option Expr)} {vs : List Expr} {a : Ex}, cDsp f ks vs = some a → PPs X p ks vs (trsOf X.kx z co F E f ks vs)
  | [], [], _, _ => pps_nil
  | some k :: ks, v :: vs, a, h => by
    unfold cDsp at h
    split at h
    · rename_i k' v' r h1 h2 h3
      refine pps_cons ?_ ?_ (pps_of S h3)
      · rw [h1]; exact S.e _ _ h1
      · rw [h2]; exact S.e _ _ h2
    · cases h
  | [], _ :: _, _, h => by cases h
  | none :: _, _, _, h => by cases h
  | some _ :: _, [], _, h => by cases h
theorem pairs_go {σ : St} {ν : List (Option D)} : ∀ {ks : List (Option Expr)} {vs : List Expr} {a : Ex} {G H : Hp} {Q : List (V × V) → Hp → Prop}, cDsp f ks vs = some a → RepV X.kx z σ ν G H → PsR X.kx co (E σ) ((evE F ν a).bind fun y => listR y .ok) G H (fun ds => ∀ ps G' H', Nx G H G' H' → PrD X.kx G' ps ds → Q ps H') →
    tPairs (trsOf X.kx z co F E f ks vs) σ H Q
  | [], [], a, G, H, Q, h, R, q => by
    cases h
    simp only [evE] at q
    exact q [] G H (Nx.refl R.same) .nil
  | some k :: ks, v :: vs, a, G, H, Q, h, R, q => by
    unfold cDsp at h
    split at h
    · rename_i k' v' r h1 h2 h3
      cases h
      simp only [evE] at q
      show tE X.kx z co F E ((f k).getD .nopart) σ H _
      rw [h1]
      have q' : PsR X.kx co (E σ) ((evE F ν k').bind fun x => (evE F ν v').bind fun y => (evE F ν r).bind fun w => listR w fun ds => Res.ok (x :: y :: ds)) G H (fun ds => ∀ ps G' H', Nx G H G' H' → PrD X.kx G' ps ds → Q ps H') := by
        revert q
        cases evE F ν k' with
        | ok x => cases evE F ν v' with
          | ok y => cases evE F ν r with
            | ok w => cases w <;> exact id
            | err _ => exact id
            | no => exact id
          | err _ => exact id
          | no => exact id
        | err _ => exact id
        | no => exact id
      refine tE.then R q' fun d u G1 H1 _ s hu R1 q1 => ?_
      show tE X.kx z co F E ((f v).getD .nopart) σ H1 _
      rw [h2]
      refine tE.then R1 q1 fun d2 u2 G2 H2 _ s2 hu2 R2 q2 => ?_
      refine pairs_go h3 R2 ?_
      have q3 : PsR X.kx co (E σ) (((evE F ν r).bind fun y => listR y .ok).bind fun ds => Res.ok (d :: d2 :: ds)) G2 H2 (fun ds => ∀ ps G' H', Nx G H G' H' → PrD X.kx G' ps ds → Q ps H') := by
        revert q2
        cases evE F ν r with
        | ok w => cases w <;> exact id
        | err _ => exact id
        | no => exact id
      cases e : (evE F ν r).bind fun y => listR y .ok with
      | ok ds => rw [e] at q3; exact fun ps G' H' nx hp => q3 ((u, u2) :: ps) G' H' (s.trans (s2.trans nx)) (.cons (dp_same (s2.g.trans nx.g) _ _ hu) (dp_same nx.g _ _ hu2) hp)
      | err _ => rw [e] at q3; exact q3
      | no => rw [e] at q3; exact q3.elim
    · cases h
  | [], _ :: _, _, _, _, _, h, _, _ => by cases h
  | none :: _, _, _, _, _, _, h, _, _ => by cases h
  | some _ :: _, [], _, _, _, _, h, _, _ => by cases h
theorem dsp_shape : ∀ {ks : List (Option Expr)} {vs : List Expr} {a : Ex}, cDsp f ks vs = some a → ks.all (·.isSome) = true ∧ ks.length = vs.length
  | [], [], _, _ => ⟨rfl, rfl⟩
  | some k :: ks, v :: vs, a, h => by
    unfold cDsp at h
    split at h
    · rename_i h3
      obtain ⟨a1, a2⟩ := dsp_shape h3
      exact ⟨by rw [List.all_cons, a1]; rfl, by rw [List.length_cons, List.length_cons, a2]⟩
    · cases h
  | [], _ :: _, _, h => by cases h
  | none :: _, _, _, h => by cases h
  | some _ :: _, [], _, h => by cases h
theorem prd_len {K : Fg} {G : Hp} : ∀ {ps : List (V × V)} {ds : List D}, PrD K G ps ds → ds.length = 2 * ps.length
  | _, _, .nil => rfl
  | _, _, .cons _ _ t => by rw [List.length_cons, List.length_cons, List.length_cons, prd_len t]; omega
theorem dsp_len {ν : List (Option D)} : ∀ {ks : List (Option Expr)} {vs : List Expr} {a : Ex} {ds : List D}, cDsp f ks vs = some a → evE F ν a = .ok (.list ds) → ds.length = 2 * ks.length
  | [], [], _, ds, h, e => by
    cases h
    simp only [evE] at e
    cases e
    rfl
  | some k :: ks, v :: vs, a, ds, h, e => by
    unfold cDsp at h
    split at h
    · rename_i k' v' r h1 h2 h3
      cases h
      simp only [evE] at e
      cases e1 : evE F ν k' with
      | ok x =>
        rw [e1] at e
        cases e2 : evE F ν v' with
        | ok y =>
          rw [e2] at e
          cases e3 : evE F ν r with
          | ok w =>
            rw [e3] at e
            cases w with
            | list zs =>
              cases e
              have := dsp_len h3 e3
              simp only [List.length_cons]
              omega
            | _ => cases e
          | err _ => rw [e3] at e; cases e
          | no => rw [e3] at e; cases e
        | err _ => rw [e2] at e; cases e
        | no => rw [e2] at e; cases e
      | err _ => rw [e1] at e; cases e
      | no => rw [e1] at e; cases e
    · cases h
  | [], _ :: _, _, _, h, _ => by cases h
  | none :: _, _, _, _, h, _ => by cases h
  | some _ :: _, [], _, _, h, _ => by cases h
theorem snd_dsp (O : Ok1 X T F z co E) (S : Snd X T F z co E f) {k : Option Expr} {ks : List (Option Expr)} {vs : List Expr} {a : Ex} {p : Pos} (hl : ks.length ≤ 14) (h : cDsp f (k :: ks) vs = some a) : PE X (.Dict (k :: ks) vs p) (tE X.kx z co F E (.dsp a)) := by
  obtain ⟨h1, h2⟩ := dsp_shape h
  refine pe_imp (pe_disp (pps_of S (p := p) h) h1 h2 (by simp) (by rw [List.length_cons]; omega)) fun σ H Q ⟨ν, G, R, q⟩ => ?_
  intro pL hp
  simp only [evE] at q
  have R1 := R.mono (Nx.hid (o := .dK []) R.same hp)
  refine pairs_go h R1 ?_
  have q2 : PsR X.kx co (E σ) (((evE F ν a).bind fun y => listR y .ok).bind fun ds => (Res.ofO (dspD ds [])).bind fun r => Res.ok (PyData.dict r)) G H (fun d => ∀ v G' H', Nx G H G' H' → Dq X.kx G' v d → Q v H') := by
    have q1 := q.toR
    revert q1
    cases evE F ν a with
    | ok w => cases w <;> exact id
    | err _ => exact id
    | no => exact id
  cases ev : evE F ν a with
  | err e => rw [ev] at q2; exact EW.mono q2 (Nx.hid R.same hp)
  | no => rw [ev] at q2; exact q2.elim
  | ok w =>
    rw [ev] at q2
    cases w with
    | list ds =>
      have q3 : PsR X.kx co (E σ) ((Res.ofO (dspD ds [])).bind fun r => Res.ok (PyData.dict r)) G H (fun d => ∀ v G' H', Nx G H G' H' → Dq X.kx G' v d → Q v H') := q2
      cases er : dspD ds [] with
      | none => rw [er] at q3; exact q3.elim
      | some r =>
        rw [er] at q3
        have q4 : ∀ v G' H', Nx G H G' H' → Dq X.kx G' v (.dict r) → Q v H' := q3
        intro ps G' H' nx hpr
        have hL : H' pL = some (.dK []) := nx.h _ _ upd_same
        have gL : G' pL = none := nx.n pL (R.same.free hp) (by rw [upd_same]; simp)
        obtain ⟨more, e, m⟩ := prd_keys hpr er .nil
        refine ⟨hL, more, e, ?_, q4 _ (upd G' pL (.dK (mergeK [] more))) _ ⟨nx.g.trans (same_upd gL), same_lock nx.s, fun b u hb => ?_, fun b gb hb => ?_⟩ (.dctK (Rd.of upd_same) (dkv_same (same_upd gL) m))⟩
        · have l1 := dsp_len h ev
          have l2 := prd_len hpr
          rw [e, List.length_map] at l2
          rw [List.length_cons] at l1
          omega
        · have ne : b ≠ pL := fun z => by rw [z, hp] at hb; cases hb
          rw [upd_ne ne]
          exact nx.h b u (by rw [upd_ne ne]; exact hb)
        · have ne : b ≠ pL := fun z => hb (by rw [z]; exact hp)
          rw [upd_ne ne]
          exact nx.n b gb (by rw [upd_ne ne]; exact hb)
    | _ => exact q2.elim
end
end Pe

set_option Elab.async false
set_option linter.all false
set_option maxRecDepth 100000
set_option maxHeartbeats 8000000
/-! C2: comprehensions with two walks. -/
namespace Pe
open PySem L2
section
variable {X : Cx} {T : Tbl} {F : Str → List D → Res D} {z : Zx} {co : Co} {E : St → XK} {f : Expr → Option Ex}
def itemP (F : Str → List D → Res D) (ν : List (Option D)) (elt : Ex) (tg : Sum Nat (List Nat)) (own : List Nat) (d : D) : Res (Option D) := match setTg (wipeD ν own) tg d with
  | some ν' => (evE F ν' elt).noErr.bind fun x => .ok (some x)
  | none => .no
def item2 (F : Str → List D → Res D) (ν : List (Option D)) (elt it1 : Ex) (tg : Sum Nat (List Nat)) (own : List Nat) (tg1 : Sum Nat (List Nat)) (own1 : List Nat) (d : D) : Res (List D) := match setTg (wipeD ν own) tg d with
  | some ν' => (evE F ν' it1).noErr.bind fun y => listR y fun ds1 => compL (itemP F ν' elt tg1 own1) ds1
  | none => .no
theorem itemP_ok {ν : List (Option D)} {elt : Ex} {tg : Sum Nat (List Nat)} {own : List Nat} {d : D} {o : Option D} (h : itemP F ν elt tg own d = .ok o) : ∃ ν' x, setTg (wipeD ν own) tg d = some ν' ∧ evE F ν' elt = .ok x ∧ o = some x := by
  unfold itemP at h
  cases e : setTg (wipeD ν own) tg d with
  | none => rw [e] at h; cases h
  | some ν' =>
    rw [e] at h
    obtain ⟨x, h1, h2⟩ := noErr_ok' h
    cases h2
    exact ⟨ν', x, rfl, h1, rfl⟩
theorem item2_ok {ν : List (Option D)} {elt it1 : Ex} {tg tg1 : Sum Nat (List Nat)} {own own1 : List Nat} {d : D} {r : List D} (h : item2 F ν elt it1 tg own tg1 own1 d = .ok r) :
    ∃ ν' ds1, setTg (wipeD ν own) tg d = some ν' ∧ evE F ν' it1 = .ok (.list ds1) ∧ compL (itemP F ν' elt tg1 own1) ds1 = .ok r := by
  unfold item2 at h
  cases e : setTg (wipeD ν own) tg d with
  | none => rw [e] at h; cases h
  | some ν' =>
    rw [e] at h
    obtain ⟨y, h1, h2⟩ := noErr_ok' h
    cases y with
    | list ds1 => exact ⟨ν', ds1, rfl, h1, h2⟩
    | _ => cases h2
theorem flatL_cons {g : D → Res (List D)} {d : D} {ds r : List D} (h : flatL g (d :: ds) = .ok r) : ∃ a b, g d = .ok a ∧ flatL g ds = .ok b ∧ r = a ++ b := by
  unfold flatL at h
  cases e1 : g d with
  | ok a =>
    rw [e1] at h
    cases e2 : flatL g ds with
    | ok b => rw [e2] at h; cases h; exact ⟨a, b, rfl, rfl, rfl⟩
    | err _ => rw [e2] at h; cases h
    | no => rw [e2] at h; cases h
  | err _ => rw [e1] at h; cases h
  | no => rw [e1] at h; cases h
theorem compP_noErr {g : D → Res (Option D)} (hg : ∀ d e, g d ≠ .err e) : ∀ (ds : List D) (e : Err), compL g ds ≠ .err e
  | [], e => fun z => by cases z
  | d :: ds, e => fun z => by
    unfold compL at z
    cases e1 : g d with
    | ok o =>
      rw [e1] at z
      cases e2 : compL g ds with
      | ok r => rw [e2] at z; cases z
      | err e' => exact compP_noErr hg ds e' e2
      | no => rw [e2] at z; cases z
    | err e' => exact hg d e' e1
    | no => rw [e1] at z; cases z
theorem flat_noErr {g : D → Res (List D)} (hg : ∀ d e, g d ≠ .err e) : ∀ (ds : List D) (e : Err), flatL g ds ≠ .err e
  | [], e => fun z => by cases z
  | d :: ds, e => fun z => by
    unfold flatL at z
    cases e1 : g d with
    | ok o =>
      rw [e1] at z
      cases e2 : flatL g ds with
      | ok r => rw [e2] at z; cases z
      | err e' => exact flat_noErr hg ds e' e2
      | no => rw [e2] at z; cases z
    | err e' => exact hg d e' e1
    | no => rw [e1] at z; cases z
theorem nE_bind {α β : Type} {r : Res α} {g : α → Res β} {e : Err} (hg : ∀ a, g a ≠ .err e) : r.noErr.bind g ≠ .err e := by
  cases r with
  | ok a => exact hg a
  | err _ => exact fun z => by cases z
  | no => exact fun z => by cases z
theorem item2_noErr {ν : List (Option D)} {elt it1 : Ex} {tg tg1 : Sum Nat (List Nat)} {own own1 : List Nat} (d : D) (e : Err) : item2 F ν elt it1 tg own tg1 own1 d ≠ .err e := by
  unfold item2
  split
  · refine nE_bind fun y => ?_
    cases y with
    | list ds1 =>
      refine compP_noErr (fun d e => ?_) ds1 e
      unfold itemP
      split
      · exact nE_bind fun x z => by cases z
      · exact fun z => by cases z
    | _ => exact fun z => by cases z
  · exact fun z => by cases z
theorem RepV.at_ {K : Fg} {σ : St} {ν : List (Option D)} {G2 H2 G H : Hp} (R : RepV K none σ ν G2 H2) (s : Same G2 G) (t : Same G H) : RepV K none σ ν G H :=
  ⟨t, R.len, fun i d e => let ⟨v, h1, h2⟩ := R.get i d e; ⟨v, h1, dp_same s _ _ h2⟩, fun q e => by cases e⟩
theorem tgSl_in (t : Sum Nat (List Nat)) : tgIn (tgSl t) t = true := by
  cases t with
  | inl i => simp [tgIn, tgSl]
  | inr is => simp [tgIn, tgSl]
theorem comp2_go {K : Fg} {J : It} {σ : St} {ν : List (Option D)} {G1 H1 : Hp} {ds r : List D} {el it1 : Ex} {tg tg1 : Sum Nat (List Nat)} {own own1 : List Nat} {L : Addr} {Qd : Hp → Prop}
    (R : RepV K z σ ν G1 H1) (w : WalkD K J ds G1) (hL : H1 L = none) (hr : flatL (item2 F ν el it1 tg own tg1 own1) ds = .ok r) (hz : r.length ≤ sizeLine) (htg : tgIn own tg = true) (htg1 : tgIn own1 tg1 = true)
    (hd : ∀ (acc : List V) (G H : Hp), Nx G1 H1 G H → G L = none → H L = some (.lst acc) → DqAll K G acc r → Qd H) :
    ∃ W : Nat → Nat → Hp → Prop, (∃ m, W 0 m (upd H1 L (.lst []))) ∧ ∀ i m H, W i m H → (J.stop i H ∧ Qd H) ∨ (J.go i H ∧ ∃ N : Hp → Prop, (∀ H', N H' → ∃ m', m' < m ∧ W (i + 1) m' H') ∧
      ∀ x H', J.yld i H x H' → tG K tg x (wipe σ own) H' fun σ2 H2 => wipe σ2 own = wipe σ own ∧ tYes σ2 H2 fun b H3 => if b = true then tI K none co F EN it1 σ2 H3 fun J1 H4 => ∃ W1 : Nat → Nat → Hp → Prop, (∃ m, W1 0 m H4) ∧ ∀ j k H, W1 j k H →
        (J1.stop j H ∧ N H) ∨ (J1.go j H ∧ ∃ N1 : Hp → Prop, (∀ H', N1 H' → ∃ k', k' < k ∧ W1 (j + 1) k' H') ∧ ∀ x H', J1.yld j H x H' → tG K tg1 x (wipe σ2 own1) H' fun σ3 H5 => wipe σ3 own1 = wipe σ2 own1 ∧ tYes σ3 H5 fun b H6 =>
          if b = true then tE K none co F EN el σ3 H6 fun y H7 => ∃ acc, H7 L = some (.lst acc) ∧ acc.length < sizeLine ∧ N1 (upd H7 L (.lst (acc ++ [y]))) else N1 H6) else N H3) := by
  obtain ⟨Y, wk, wy⟩ := w
  let Pv : Nat → Hp → Prop := fun i H => ∃ (acc : List V) (ad rest : List D) (G : Hp), Nx G1 H1 G H ∧ G L = none ∧ H L = some (.lst acc) ∧ DqAll K G acc ad ∧ flatL (item2 F ν el it1 tg own tg1 own1) (ds.drop i) = .ok rest ∧ r = ad ++ rest
  refine ⟨fun i m H => m = ds.length - i ∧ i ≤ ds.length ∧ Pv i H, ⟨_, rfl, Nat.zero_le _, [], [], r, G1, Nx.hid R.same hL, R.same.free hL, upd_same, .nil, by simpa using hr, rfl⟩, ?_⟩
  rintro i m H ⟨rfl, hi, acc, ad, rest, G, nx, gL, hLs, ha, hc, er⟩
  have sG : Same G1 H := nx.g.trans nx.s
  by_cases hlt : i < ds.length
  rotate_left
  · have e : i = ds.length := by omega
    subst e
    rw [List.drop_length] at hc
    cases hc
    rw [List.append_nil] at er
    subst er
    exact .inl ⟨wk.stops H sG, hd acc G H nx gL hLs ha⟩
  refine .inr ⟨wk.goes i H hlt sG, Pv (i + 1), fun H' p => ⟨ds.length - (i + 1), by omega, rfl, hlt, p⟩, fun x H' yl => ?_⟩
  have y := wk.yields i H x H' hlt sG yl
  have hd' : ds.drop i = ds[i] :: ds.drop (i + 1) := List.drop_eq_getElem_cons hlt
  rw [hd'] at hc
  obtain ⟨r1, rest', ho, hc', er'⟩ := flatL_cons hc
  obtain ⟨ν', ds1, e1, e2, e3⟩ := item2_ok ho
  obtain ⟨G2, nx2, hv⟩ := wy i ds[i] G H H' x (List.getElem?_eq_getElem hlt) nx.g nx.s y
  have g2 : G2 L = none := nx2.n L gL (by rw [hLs]; simp)
  have R2 := repV_wipe (R.mono (nx.trans nx2)).drop own
  refine tG_go R2 hv e1 fun σ2 R' wp => ⟨wp own htg ▸ wipe_wipe own σ, ?_⟩
  show tI K none co F EN it1 σ2 H' _
  refine ⟨ν', G2, R', ?_⟩
  rw [e2]
  intro J1 G3 H3 nx3 w1
  have g3 : G3 L = none := nx3.n L g2 (by rw [nx2.h _ _ hLs]; simp)
  have h3 : H3 L = some (.lst acc) := nx3.h _ _ (nx2.h _ _ hLs)
  obtain ⟨Y1, wk1, wy1⟩ := w1
  let Pw : Nat → Hp → Prop := fun j H => ∃ (acc : List V) (ad rest1 : List D) (G : Hp), Nx G1 H1 G H ∧ Same G3 G ∧ G L = none ∧ H L = some (.lst acc) ∧ DqAll K G acc ad ∧ compL (itemP F ν' el tg1 own1) (ds1.drop j) = .ok rest1 ∧ r = ad ++ (rest1 ++ rest')
  refine ⟨fun j k H => k = ds1.length - j ∧ j ≤ ds1.length ∧ Pw j H, ⟨_, rfl, Nat.zero_le _, acc, ad, r1, G3, nx.trans (nx2.trans nx3), Same.refl G3, g3, h3, dpa_same (nx2.trans nx3).g _ _ ha, by simpa using e3, by rw [er, er']⟩, ?_⟩
  rintro j k Hj ⟨rfl, hj, acc2, ad2, rest1, Gj, nxj, sj, gj, hjL, haj, hcj, erj⟩
  have sj3 : Same G3 Hj := sj.trans nxj.s
  by_cases hlj : j < ds1.length
  rotate_left
  · have e : j = ds1.length := by omega
    subst e
    rw [List.drop_length] at hcj
    cases hcj
    exact .inl ⟨wk1.stops Hj sj3, acc2, ad2, rest', Gj, nxj, gj, hjL, haj, hc', by simpa using erj⟩
  refine .inr ⟨wk1.goes j Hj hlj sj3, Pw (j + 1), fun H' p => ⟨ds1.length - (j + 1), by omega, rfl, hlj, p⟩, fun x1 H1' yl1 => ?_⟩
  have y1 := wk1.yields j Hj x1 H1' hlj sj3 yl1
  have hd1 : ds1.drop j = ds1[j] :: ds1.drop (j + 1) := List.drop_eq_getElem_cons hlj
  rw [hd1] at hcj
  obtain ⟨o, rest1', ho1, hcj', erj'⟩ := compL_cons hcj
  obtain ⟨ν2, x0, f1, f2, rfl⟩ := itemP_ok ho1
  obtain ⟨G5, nx5, hv5⟩ := wy1 j ds1[j] Gj Hj H1' x1 (List.getElem?_eq_getElem hlj) sj nxj.s y1
  have g5 : G5 L = none := nx5.n L gj (by rw [hjL]; simp)
  have h5 : H1' L = some (.lst acc2) := nx5.h _ _ hjL
  have R5 := repV_wipe (R'.at_ (nx3.g.trans (sj.trans nx5.g)) nx5.s) own1
  refine tG_go R5 hv5 f1 fun σ3 R6 wp1 => ⟨wp1 own1 htg1 ▸ wipe_wipe own1 σ2, ?_⟩
  show tE K none co F EN el σ3 H1' _
  refine ⟨ν2, G5, R6, ?_⟩
  rw [f2]
  intro v G7 H7 nx7 hv7
  have g7 : G7 L = none := nx7.n L g5 (by rw [h5]; simp)
  have h7 : H7 L = some (.lst acc2) := nx7.h _ _ h5
  have all7 := nx5.trans nx7
  have big := nxj.trans all7
  have hl : acc2.length < sizeLine := by
    have z1 := dpa_len haj
    have z2 := congrArg List.length erj
    rw [erj'] at z2
    simp only [List.length_append, List.length_cons] at z2
    omega
  refine ⟨acc2, h7, hl, acc2 ++ [v], ad2 ++ [x0], rest1', G7, ⟨big.g, fun b u hb => ?_, fun b u hb => ?_, big.n⟩, sj.trans all7.g, g7, upd_same, dpa_append (dpa_same all7.g _ _ haj) (.cons hv7 .nil), hcj', by rw [erj, erj']; simp⟩
  · rw [upd_ne (ne_of_none hb g7)]
    exact big.s b u hb
  · have ne : b ≠ L := fun q => by rw [q, hL] at hb; cases hb
    rw [upd_ne ne]
    exact big.h b u hb
/-- such a comprehension, read -/
theorem snd_comp2 (O : Ok1 X T F z co E) (S : Snd X T F z co E f) {scope : Scope} {g : Expr → Option Ex} (B : ∀ (s : Shared) (H : Hp) (C : Addr) (cl : List (Str × Addr)) (fp : List Addr), Snd (X.blk s H scope (compEnvC scope cl C X.env) fp) T F none co EN g)
    {elt tg iter tg1 iter1 : Expr} {p : Pos} {it it1 el : Ex} {t t1 : Sum Nat (List Nat)} (ns : notSet iter = true) (ns1 : notSet iter1 = true) (ok : blkC X.N X.env.scope scope (ownOf X.N scope.names) = true) (cool : T.hot = false) (h1 : cIter X.env.scope.names T f tg iter = some it)
    (h2 : cTg X.N scope.names tg = some t) (h3 : g elt = some el) (h4 : cIter (relS scope X.env.scope).names T g tg1 iter1 = some it1) (h5 : cTg X.N scope.names tg1 = some t1) (hin : tgIn ((ownOf X.N scope.names).map (·.2)) t = true)
    (hin1 : (tgSl t1).all (fun i => ((ownOf X.N scope.names).map (·.2)).contains i) = true) :
    ∃ te : TE, PE X (.ListComp elt [⟨tg, iter, [], 0⟩, ⟨tg1, iter1, [], 0⟩] scope p) te ∧
      (∀ (y : Str) (i : Nat) (q sp : Pos), X.N[i]? = some y → X.env.scope.names.lookup y = some .local → swapsWith (.ListComp elt [⟨tg, iter, [], 0⟩, ⟨tg1, iter1, [], 0⟩] scope p) (some (.Name y q)) sp.line X.env = pure true →
        PS X (.Assign [.Name y q] (.ListComp elt [⟨tg, iter, [], 0⟩, ⟨tg1, iter1, [], 0⟩] scope p) sp) (tAsg te (gName i))) ∧
      ∀ σ H Q, tE X.kx z co F E (.comp2 el it it1 t ((ownOf X.N scope.names).map (·.2)) t1 (tgSl t1)) σ H Q → te σ H Q := by
  have folded : ∀ x, foldedSetIterable iter X.env x = pure x := fun x => by
    cases iter with
    | Set _ _ _ => cases ns
    | _ => rfl
  have folded1 : ∀ env x, foldedSetIterable iter1 env x = pure x := fun env x => by
    cases iter1 with
    | Set _ _ _ => cases ns1
    | _ => rfl
  have hpg : ∀ {tg : Expr} {t : Sum Nat (List Nat)}, cTg X.N scope.names tg = some t → ∀ (s : Shared) (H : Hp) (C : Addr) (cl : List (Str × Addr)) (fp : List Addr), PG (X.blk s H scope (compEnvC scope cl C X.env) fp) tg (tG X.kx t) :=
    fun h2 s H C cl fp => tg_ok (X := X.blk s H scope (compEnvC scope cl C X.env) fp) O.nd (O.calm cool) sto_blk h2
  have hpe : ∀ (s : Shared) (H : Hp) (C : Addr) (cl : List (Str × Addr)) (fp : List Addr), PE (X.blk s H scope (compEnvC scope cl C X.env) fp) elt (tE X.kx none co F EN el) := fun s H C cl fp => (B s H C cl fp).e _ _ h3
  have hpi : ∀ (s : Shared) (H : Hp) (C : Addr) (cl : List (Str × Addr)) (fp : List Addr), PI (X.blk s H scope (compEnvC scope cl C X.env) fp) tg1 iter1 (tI X.kx none co F EN it1) := fun s H C cl fp => iter_ok (O.blk cool s H scope (compEnvC scope cl C X.env) fp) (B s H C cl fp) h4
  have hsl : ∀ i ∈ tgSl t1, i ∈ (ownOf X.N scope.names).map (·.2) := fun i hi => by
    have := List.all_eq_true.mp hin1 i hi
    simpa using this
  have no : ∀ (s : Shared) (H : Hp) (C : Addr) (cl : List (Str × Addr)) (fp : List Addr), PTs (X.blk s H scope (compEnvC scope cl C X.env) fp) [] tYes := fun _ _ _ _ _ => pts_nil
  refine ⟨_, pe_lc2 (own := ownOf X.N scope.names) (vs1 := tgSl t1) (O.calm cool) O.nd (iter_ok O S h1) (blkOk_by ok) hsl (hpg h2) no hpi (hpg h5) no hpe folded folded1,
    fun y i q sp a b c => ps_setLc2 (own := ownOf X.N scope.names) (vs1 := tgSl t1) (O.calm cool) O.nd a b c (iter_ok O S h1) (blkOk_by ok) hsl (hpg h2) no hpi (hpg h5) no hpe folded folded1, fun σ H Q ⟨ν, G, R, q⟩ => ?_⟩
  simp only [evE] at q
  refine ⟨ν, G, R, ?_⟩
  cases ev : evE F ν it with
  | err e => rw [ev] at q; exact q
  | no => rw [ev] at q; exact q.elim
  | ok y =>
    rw [ev] at q
    cases y with
    | list ds =>
      intro J G1 H1 nx w L hL
      have q3 : Pst X.kx co (E σ) ((flatL (item2 F ν el it1 t ((ownOf X.N scope.names).map (·.2)) t1 (tgSl t1)) ds).bind fun r => if r.length ≤ sizeLine then Res.ok (PyData.list r) else Res.no) G H Q := q
      cases er : flatL (item2 F ν el it1 t ((ownOf X.N scope.names).map (·.2)) t1 (tgSl t1)) ds with
      | err e => exact absurd er (flat_noErr item2_noErr ds e)
      | no => rw [er] at q3; exact q3.elim
      | ok r =>
        rw [er] at q3
        have q4 : Pst X.kx co (E σ) (if r.length ≤ sizeLine then Res.ok (PyData.list r) else Res.no) G H Q := q3
        by_cases hz : r.length ≤ sizeLine
        · rw [if_pos hz] at q4
          refine comp2_go (Qd := fun H => Q (.ref L) H) (R.mono nx) w hL er hz hin (tgSl_in t1) fun acc G2 H2 nx2 g2 h2 ha => ?_
          exact q4 _ (upd G2 L (.lst acc)) H2 (nx_add (nx.trans nx2) g2 (nx.h.free hL) h2) (.lst (.inl (Rd.of upd_same)) (dpa_same (same_upd g2) _ _ ha))
        · rw [if_neg hz] at q4
          exact q4.elim
    | _ => exact q.elim
end
end Pe

set_option Elab.async false
set_option linter.all false
set_option maxRecDepth 100000
set_option maxHeartbeats 8000000
/-! Pe10: every expression that is read off is what the machine does. -/
namespace Pe
open PySem L2
section
variable {X : Cx} {T : Tbl} {F : Str → List D → Res D} {z : Zx} {co : Co} {E : St → XK} {f : Expr → Option Ex}
/-! ### tests -/
/-- a name's slot -/
theorem pe_slot {n : Nat} {x : Str} {q : Pos} {i : Nat} (h : cE X.N T n X.env.scope (.Name x q) = some (.var i)) : PE X (.Name x q) (tVar i) := by
  cases n with
  | zero => simp [cE] at h
  | succ n =>
    have h' : cName X.N X.env.scope.names T x = some (.var i) := h
    unfold cName at h'
    by_cases c : visB X.env.scope.names x = true
    · rw [if_pos c] at h'
      by_cases d : x = "__debug__" ∨ x = "__classdict__"
      · rw [if_pos d] at h'; cases h'
      · rw [if_neg d] at h'
        cases e : ixOf x X.N 0 with
        | none => rw [e] at h'; cases h'
        | some j =>
          rw [e] at h'
          cases h'
          exact pe_var (ixOf_get e) (vis_of rfl c) (ne_beq fun z => d (.inl z)) (ne_beq fun z => d (.inr z))
    · rw [if_neg c] at h'
      by_cases d : glB X.env.scope.names x = true ∧ x ≠ "__debug__"
      · rw [if_pos d] at h'
        cases e : T.cons.lookup x <;> rw [e] at h' <;> cases h'
      · rw [if_neg d] at h'; cases h'
theorem tst_plain {a : Expr} {x : Ex} (h : PE X a (tE X.kx z co F E x)) (hp : plainT a = true) : PT X a (tT X.kx z co F E x) := by
  refine pt_imp (pt_truth h ?_) fun σ H Q ⟨ν, G, R, q⟩ => ?_
  · intro whole
    cases a with
    | BoolOp _ _ _ => cases hp
    | IfExp _ _ _ _ => cases hp
    | Compare _ _ _ _ => cases hp
    | UnaryOp op a p => cases op <;> first | rfl | cases hp
    | _ => rfl
  · refine tE.then R q fun d v G1 H1 _ s hv R1 q1 => ?_
    obtain ⟨k, e, k1⟩ := q1.ofO
    exact ⟨k, tru_of hv s.s e, k1 G1 H1 s⟩
theorem tst_not {a : Expr} {x : Ex} {p : Pos} (h : PT X a (tT X.kx z co F E x)) : PT X (.UnaryOp .Not a p) (tT X.kx z co F E (.not x)) := by
  refine pt_imp (pt_not h) fun σ H Q ⟨ν, G, R, q⟩ => ?_
  simp only [evE] at q
  have q' : PsR X.kx co (E σ) ((evE F ν x).bind fun d => (Res.ofO (truD d)).bind fun k => .ok (!k)) G H fun b => ∀ G' H', Nx G H G' H' → Q b H' := by
    revert q
    cases evE F ν x with
    | ok d => cases e : truD d <;> simp only [Res.bind_ok, e, Res.ofO_none, Res.ofO_some, Res.bind_no] <;> exact id
    | err _ => exact id
    | no => exact id
  exact tT.then R q' fun k G1 H1 s R1 q1 => q1 G1 H1 s
theorem tst_cmp (O : Ok1 X T F z co E) (S : Snd X T F z co E f) {op : CmpOp} {a b : Expr} {p : Pos} {a' b' : Ex} (hm : behindInMarks op b = false) (h1 : f a = some a') (h2 : f b = some b') : PT X (.Compare a [op] [b] p) (tT X.kx z co F E (.cmp op a' b')) := by
  refine pt_imp (pt_cmpR (op_cmpD O.hu op) (S.e _ _ h1) (S.e _ _ h2) hm) fun σ H Q ⟨ν, G, R, q⟩ => ?_
  simp only [evE] at q
  have q' : PsR X.kx co (E σ) ((evE F ν a').bind fun x => (evE F ν b').bind fun y => (Res.ofO (cmpD op x y)).bind fun d => Res.ofO (truD d)) G H fun b => ∀ G' H', Nx G H G' H' → Q b H' := by
    revert q
    cases evE F ν a' with
    | ok d =>
      cases evE F ν b' with
      | ok e => exact id
      | err _ => exact id
      | no => exact id
    | err _ => exact id
    | no => exact id
  show tOp _ _ _ σ H _
  refine tE.then R q' fun d v G1 H1 _ s hv R1 q1 => tE.then R1 q1 fun d2 v2 G2 H2 _ t hv2 R2 q2 => ?_
  cases e : cmpD op d d2 with
  | none => rw [e] at q2; exact q2.elim
  | some r =>
    rw [e] at q2
    obtain ⟨k, rfl⟩ := cmp_bool e
    refine ⟨G2, d, d2, .bool k, t.s, dp_same t.g _ _ hv, hv2, e, fun v3 G3 H3 u hv3 => ?_⟩
    cases hv3
    exact ⟨k, rfl, q2 G3 H3 (s.trans (t.trans u))⟩
theorem tst_chn (O : Ok1 X T F z co E) (S : Snd X T F z co E f) {op op' : CmpOp} {a b c : Expr} {p : Pos} {a' b' c' : Ex} (hm : lastMarks [op, op'] [b, c] = false) (h1 : f a = some a') (h2 : f b = some b') (h3 : f c = some c') :
    PT X (.Compare a [op, op'] [b, c] p) (tT X.kx z co F E (.chn op op' a' b' c')) := by
  refine pt_imp (pt_chain (op_cmpD O.hu op) (op_cmpD O.hu op') (S.e _ _ h1) (S.e _ _ h2) (S.e _ _ h3) hm) fun σ H Q ⟨ν, G, R, q⟩ => ?_
  show tChain _ _ _ _ _ σ H _
  refine chn_go O S h1 h2 h3 R ?_
  cases ev : evE F ν (.chn op op' a' b' c') with
  | err e => rw [ev] at q; exact q
  | no => rw [ev] at q; exact q
  | ok d =>
    rw [ev] at q
    intro v G' H' nx hv
    have isB : ∃ k, d = .bool k := by
      clear q
      simp only [evE] at ev
      cases e1 : evE F ν a' with
      | ok x =>
        rw [e1] at ev
        cases e2 : evE F ν b' with
        | ok y =>
          simp only [e2, Res.bind_ok] at ev
          cases e3 : cmpD op x y with
          | none => rw [e3] at ev; cases ev
          | some r =>
            obtain ⟨k, rfl⟩ := cmp_bool e3
            rw [e3] at ev
            cases k with
            | false => cases ev; exact ⟨_, rfl⟩
            | true =>
              have ev' : ((evE F ν c').bind fun z => Res.ofO (cmpD op' y z)) = .ok d := ev
              cases e4 : evE F ν c' with
              | ok z =>
                rw [e4] at ev'
                cases e5 : cmpD op' y z with
                | none => simp only [Res.bind_ok, e5] at ev'; cases ev'
                | some r =>
                  simp only [Res.bind_ok, e5] at ev'
                  cases ev'
                  exact cmp_bool e5
              | err _ => rw [e4] at ev'; cases ev'
              | no => rw [e4] at ev'; cases ev'
        | err _ => simp only [e2, Res.bind_ok] at ev; cases ev
        | no => simp only [e2, Res.bind_ok] at ev; cases ev
      | err _ => rw [e1] at ev; cases ev
      | no => rw [e1] at ev; cases ev
    obtain ⟨k, rfl⟩ := isB
    cases hv
    exact ⟨k, rfl, q G' H' nx⟩
theorem tst_bool (O : Ok1 X T F z co E) (S : Snd X T F z co E f) {op : BoolOp} {p : Pos} : ∀ {vs : List Expr} {x : Ex}, (∀ v ∈ vs, testOk v = true) → cBool f op vs = some x → PW X (.BoolOp op vs p) (tT X.kx z co F E x)
  | [], _, _, h => by cases h
  | [a], x, ht, h => by
    cases op with
    | And => exact pw_and1 (S.t _ _ h (ht a List.mem_cons_self))
    | Or => exact pw_or1 (S.t _ _ h (ht a List.mem_cons_self))
  | a :: b :: es, x, ht, h => by
    unfold cBool at h
    cases e1 : f a with
    | none => rw [e1] at h; cases h
    | some a' =>
      cases e2 : cBool f op (b :: es) with
      | none => rw [e1, e2] at h; cases h
      | some r =>
        rw [e1, e2] at h
        have ih := tst_bool O S (p := p) (fun v hv => ht v (List.mem_cons_of_mem _ hv)) e2
        have ha := S.t _ _ e1 (ht a List.mem_cons_self)
        cases op with
        | And =>
          cases h
          refine ⟨fun wh pins s σ H Q I q => (pw_and ha ih).run wh pins s σ H Q I ?_⟩
          obtain ⟨ν, G, R, q⟩ := q
          simp only [evE] at q
          have q' : PsR X.kx co (E σ) ((evE F ν a').bind fun d => (Res.ofO (truD d)).bind fun k => if k = true then (evE F ν r).bind fun d => Res.ofO (truD d) else .ok false) G H fun b => ∀ G' H', Nx G H G' H' → Q b H' := by
            revert q
            cases evE F ν a' with
            | ok d =>
              cases d with
              | bool c => cases c <;> exact id
              | _ => exact fun z => z.elim
            | err _ => exact id
            | no => exact id
          refine tT.then R q' fun k G1 H1 s R1 q1 => ?_
          cases k with
          | true => exact iteT ⟨ν, G1, R1, PsR.mono q1 (Nx.refl R1.same) fun _ _ z G' H' a => z G' H' (s.trans a)⟩
          | false => exact iteF (q1 G1 H1 s)
        | Or =>
          cases h
          refine ⟨fun wh pins s σ H Q I q => (pw_or ha ih).run wh pins s σ H Q I ?_⟩
          obtain ⟨ν, G, R, q⟩ := q
          simp only [evE] at q
          have q' : PsR X.kx co (E σ) ((evE F ν a').bind fun d => (Res.ofO (truD d)).bind fun k => if k = true then .ok true else (evE F ν r).bind fun d => Res.ofO (truD d)) G H fun b => ∀ G' H', Nx G H G' H' → Q b H' := by
            revert q
            cases evE F ν a' with
            | ok d =>
              cases d with
              | bool c => cases c <;> exact id
              | _ => exact fun z => z.elim
            | err _ => exact id
            | no => exact id
          refine tT.then R q' fun k G1 H1 s R1 q1 => ?_
          cases k with
          | true => exact iteT (q1 G1 H1 s)
          | false => exact iteF ⟨ν, G1, R1, PsR.mono q1 (Nx.refl R1.same) fun _ _ z G' H' a => z G' H' (s.trans a)⟩
end
theorem snd_call {X : Cx} {T : Tbl} {F : Str → List D → Res D} {z : Zx} {co : Co} {E : St → XK} {f : Expr → Option Ex} (O : Ok1 X T F z co E) (S : Snd X T F z co E f) {y : Str} {as : List Expr} {x : Ex} {p pos : Pos} (h : cCall X.N X.env.scope.names T f y as = some x) :
    PE X (.Call (.Name y p) as [] pos) (tE X.kx z co F E x) := by
  unfold cCall at h
  by_cases g : glB X.env.scope.names y = true ∧ y ≠ "__debug__" ∧ y ≠ "__name__"
  · rw [if_pos g] at h
    split at h
    · rename_i n hn
      by_cases c : as.length = n ∧ T.hot = false
      · rw [if_pos c] at h
        cases e : cArgs f as with
        | none => rw [e] at h; cases h
        | some z => rw [e] at h; cases h; exact snd_own O S g.1 g.2.1 hn c.1 c.2 e
      · rw [if_neg c] at h; cases h
    · by_cases c : y = "isinstance"
      · rw [if_pos c] at h
        subst c
        split at h
        · rename_i a ty p1
          by_cases gt : glB X.env.scope.names ty = true
          · rw [if_pos gt] at h
            split at h
            · rename_i a' t' e1 e2
              cases h
              exact snd_isi O S g.1 gt e1 e2
            · cases h
          · rw [if_neg gt] at h; cases h
        · rename_i a ts j p1
          split at h
          · rename_i a' ts' e1 e2
            by_cases hl : ts'.length ≤ 1000
            · rw [if_pos hl] at h
              cases h
              exact snd_isis O S g.1 e1 e2 hl
            · rw [if_neg hl] at h; cases h
          · cases h
        · cases h
      · rw [if_neg c] at h
        split at h
        · rename_i b hb
          by_cases hc : b.cold = true ∧ T.hot = true
          · rw [if_pos hc] at h; cases h
          · rw [if_neg hc] at h
            cases e : cArgs f as with
            | none => rw [e] at h; cases h
            | some z => rw [e] at h; cases h; exact snd_bf O S g.1 hb hc e
        · cases h
  · rw [if_neg g] at h; cases h
theorem snd_meth {X : Cx} {T : Tbl} {F : Str → List D → Res D} {z : Zx} {co : Co} {E : St → XK} {f : Expr → Option Ex} (O : Ok1 X T F z co E) (S : Snd X T F z co E f) {o : Expr} {m : Str} {as : List Expr} {x : Ex} {ap pos : Pos} (h : cMeth f o m as (ap.endLine == pos.line) = some x) :
    PE X (.Call (.Attribute o m ap) as [] pos) (tE X.kx z co F E x) := by
  unfold cMeth at h
  split at h
  · rename_i y j p a
    by_cases c : m = "join" ∧ (ap.endLine == pos.line) = true
    · rw [if_pos c] at h
      obtain ⟨rfl, hl⟩ := c
      cases e : f a with
      | none => rw [e] at h; cases h
      | some z => rw [e] at h; cases h; exact snd_join O S hl e
    · rw [if_neg c] at h; cases h
  · cases h
/-- ALL EXPRESSIONS -/
theorem snd (n : Nat) : ∀ {X : Cx} {T : Tbl} {F : Str → List D → Res D} {z : Zx} {co : Co} {E : St → XK}, Ok1 X T F z co E → Snd X T F z co E (cE X.N T n X.env.scope) := by
  induction n with
  | zero =>
    intro X T F z co E O
    exact ⟨fun a x h => by simp [cE] at h, fun a x h _ => by simp [cE] at h, fun a x h => by simp [cE] at h⟩
  | succ n ih =>
    intro X T F z co E O
    have S := ih O
    have sE : ∀ a x, cE X.N T (n + 1) X.env.scope a = some x → PE X a (tE X.kx z co F E x) := by
      intro a x h
      unfold cE at h
      split at h
      · exact snd_const h
      · exact snd_name O h
      · split at h
        · rename_i h1 h2; cases h; exact snd_bin S h1 h2
        · cases h
      · rename_i a p
        cases e : cE X.N T n X.env.scope a with
        | none => rw [e] at h; cases h
        | some z => rw [e] at h; cases h; exact snd_neg S e
      · rename_i a p
        by_cases c : testOk a = true
        · rw [if_pos c] at h
          cases e : cE X.N T n X.env.scope a with
          | none => rw [e] at h; cases h
          | some z => rw [e] at h; cases h; exact snd_not S e
        · rw [if_neg c] at h; cases h
      · rename_i op vs p
        by_cases c : vs.all testOk = true ∧ 2 ≤ vs.length
        · rw [if_pos c] at h; exact snd_bool S h
        · rw [if_neg c] at h; cases h
      · rename_i a op b p
        split at h
        · rename_i es he
          cases op with
          | In =>
            cases e : cE X.N T n X.env.scope a with
            | none => rw [e] at h; cases h
            | some z => rw [e] at h; cases h; exact snd_inT O S he e
          | NotIn =>
            cases e : cE X.N T n X.env.scope a with
            | none => rw [e] at h; cases h
            | some z => rw [e] at h; cases h; exact snd_ninT O S he e
          | _ => cases h
        by_cases c : behindInMarks op b = false
        · rw [if_pos c] at h
          split at h
          · rename_i h1 h2; cases h; exact snd_cmp O S c h1 h2
          · cases h
        · rw [if_neg c] at h; cases h
      · rename_i a op op' b c p
        by_cases hm : lastMarks [op, op'] [b, c] = false
        · rw [if_pos hm] at h
          split at h
          · rename_i h1 h2 h3; cases h; exact snd_chn O S hm h1 h2 h3
          · cases h
        · rw [if_neg hm] at h; cases h
      · rename_i c a b p
        by_cases ht : testOk c = true
        · rw [if_pos ht] at h
          split at h
          · rename_i h1 h2 h3; cases h; exact snd_ite S ht h1 h2 h3
          · cases h
        · rw [if_neg ht] at h; cases h
      · rename_i es j p
        cases e : cArgs (cE X.N T n X.env.scope) es with
        | none => rw [e] at h; cases h
        | some z => rw [e] at h; cases h; exact snd_tup S e
      · rename_i es p
        cases e : cArgs (cE X.N T n X.env.scope) es with
        | none => rw [e] at h; cases h
        | some z => rw [e] at h; cases h; exact snd_lst S e
      · rename_i a k p1 p2 p3 p
        cases e : cE X.N T n X.env.scope a with
        | none => rw [e] at h; cases h
        | some z => rw [e] at h; cases h; exact snd_rev S e
      · split at h
        · rename_i h1 h2 h3; cases h; exact snd_slc S h1 h2 h3
        · cases h
      · rename_i a b p _ _
        split at h
        · rename_i es he
          by_cases c : notSlice b = true
          · rw [if_pos c] at h
            cases e : cE X.N T n X.env.scope b with
            | none => rw [e] at h; cases h
            | some z => rw [e] at h; cases h; exact snd_atT O S he c e
          · rw [if_neg c] at h; cases h
        by_cases c : notSlice b = true
        · rw [if_pos c] at h
          split at h
          · rename_i h1 h2; cases h; exact snd_idx O S c h1 h2
          · cases h
        · rw [if_neg c] at h; cases h
      · split at h
        · rename_i h1; cases h; exact O.xq _ _ h1
        · exact snd_call O S h
      · split at h
        · rename_i h1; cases h; exact O.xq _ _ h1
        · rename_i o m p _ _
          by_cases c : T.hot = false ∧ attO o = true
          · rw [if_pos c] at h
            cases e : cE X.N T n X.env.scope o with
            | none => rw [e] at h; cases h
            | some z => rw [e] at h; cases h; exact snd_atr O S c.1 c.2 e
          · rw [if_neg c] at h; cases h
      · rename_i o m ap as cp
        split at h
        · rename_i h1; cases h; exact snd_meth O S h1
        · by_cases c : T.hot = false ∧ attO o = true ∧ (ap.endLine == cp.line) = true ∧ as.length ≤ 20 ∧ (methsOf T m (as.length + 1)).isEmpty = false
          · rw [if_pos c] at h
            split at h
            · rename_i h1 h2; cases h; exact snd_methO O S c.1 c.2.1 c.2.2.1 c.2.2.2.1 h1 h2
            · cases h
          · rw [if_neg c] at h; cases h
      · rename_i elt tg iter ifs scope p
        by_cases c : notSet iter = true ∧ blkC X.N X.env.scope scope (ownOf X.N scope.names) = true ∧ T.hot = false
        · rw [if_pos c] at h
          split at h
          · rename_i it' tg' el' h1 h2 h3
            by_cases hin : tgIn ((ownOf X.N scope.names).map (·.2)) tg' = true
            · rw [if_pos hin] at h
              have B : ∀ (s : Shared) (H : Hp) (C : Addr) (cl : List (Str × Addr)) (fp : List Addr), Snd (X.blk s H scope (compEnvC scope cl C X.env) fp) T F none co EN (cE X.N T n (relS scope X.env.scope)) :=
                fun s H C cl fp => ih (O.blk c.2.2 s H scope (compEnvC scope cl C X.env) fp)
              split at h
              · cases h
                obtain ⟨te, k1, _, k3⟩ := snd_compC (p := p) O S B c.1 c.2.1 c.2.2 h1 (fun x q i hx => pe_slot hx) h2 h3 hin (.inl ⟨rfl, rfl⟩)
                exact pe_imp k1 fun σ H Q z => k3 σ H Q (tF_of (fun _ _ => comp_list) z)
              · rename_i c1
                by_cases ht : testOk c1 = true
                · rw [if_pos ht] at h
                  cases e : cE X.N T n (relS scope X.env.scope) c1 with
                  | none => rw [e] at h; cases h
                  | some z =>
                    rw [e] at h
                    cases h
                    obtain ⟨te, k1, _, k3⟩ := snd_compC (p := p) O S B c.1 c.2.1 c.2.2 h1 (fun x q i hx => pe_slot hx) h2 h3 hin (.inr ⟨c1, rfl, ht, e⟩)
                    exact pe_imp k1 fun σ H Q z => k3 σ H Q (tF_of (fun _ _ => comp_list) z)
                · rw [if_neg ht] at h; cases h
              · cases h
            · rw [if_neg hin] at h; cases h
          · cases h
        · rw [if_neg c] at h; cases h
      · rename_i elt tg iter tg1 iter1 scope p
        by_cases c : notSet iter = true ∧ notSet iter1 = true ∧ blkC X.N X.env.scope scope (ownOf X.N scope.names) = true ∧ T.hot = false
        · rw [if_pos c] at h
          split at h
          · rename_i it' tg' el' it1' tg1' h1 h2 h3 h4 h5
            by_cases hin : tgIn ((ownOf X.N scope.names).map (·.2)) tg' = true ∧ (tgSl tg1').all (fun i => ((ownOf X.N scope.names).map (·.2)).contains i) = true
            · rw [if_pos hin] at h
              cases h
              have B : ∀ (s : Shared) (H : Hp) (C : Addr) (cl : List (Str × Addr)) (fp : List Addr), Snd (X.blk s H scope (compEnvC scope cl C X.env) fp) T F none co EN (cE X.N T n (relS scope X.env.scope)) :=
                fun s H C cl fp => ih (O.blk c.2.2.2 s H scope (compEnvC scope cl C X.env) fp)
              obtain ⟨te, k1, _, k3⟩ := snd_comp2 (p := p) O S B c.1 c.2.1 c.2.2.1 c.2.2.2 h1 h2 h3 h4 h5 hin.1 hin.2
              exact pe_imp k1 k3
            · rw [if_neg hin] at h; cases h
          · cases h
        · rw [if_neg c] at h; cases h
      · rename_i k ks vs p
        by_cases c : ks.length ≤ 14
        · rw [if_pos c] at h
          cases e : cDsp (cE X.N T n X.env.scope) (k :: ks) vs with
          | none => rw [e] at h; cases h
          | some z => rw [e] at h; cases h; exact snd_dsp O S c e
        · rw [if_neg c] at h; cases h
      · rename_i kx vx tg iter ifs scope p
        by_cases c : notSet iter = true ∧ blkC X.N X.env.scope scope (ownOf X.N scope.names) = true ∧ T.hot = false
        · rw [if_pos c] at h
          split at h
          · rename_i it' tg' kx' vx' h1 h2 h3 h4
            by_cases hin : tgIn ((ownOf X.N scope.names).map (·.2)) tg' = true
            · rw [if_pos hin] at h
              have B : ∀ (s : Shared) (H : Hp) (C : Addr) (cl : List (Str × Addr)) (fp : List Addr), Snd (X.blk s H scope (compEnvC scope cl C X.env) fp) T F none co EN (cE X.N T n (relS scope X.env.scope)) :=
                fun s H C cl fp => ih (O.blk c.2.2 s H scope (compEnvC scope cl C X.env) fp)
              split at h
              · cases h
                obtain ⟨te, k1, _, k3⟩ := snd_dc (p := p) O S B c.1 c.2.1 c.2.2 h1 (fun x q i hx => pe_slot hx) h2 h3 h4 hin (.inl ⟨rfl, rfl⟩)
                exact pe_imp k1 k3
              · rename_i c1
                by_cases ht : testOk c1 = true
                · rw [if_pos ht] at h
                  cases e : cE X.N T n (relS scope X.env.scope) c1 with
                  | none => rw [e] at h; cases h
                  | some z =>
                    rw [e] at h
                    cases h
                    obtain ⟨te, k1, _, k3⟩ := snd_dc (p := p) O S B c.1 c.2.1 c.2.2 h1 (fun x q i hx => pe_slot hx) h2 h3 h4 hin (.inr ⟨c1, rfl, ht, e⟩)
                    exact pe_imp k1 k3
                · rw [if_neg ht] at h; cases h
              · cases h
            · rw [if_neg hin] at h; cases h
          · cases h
        · rw [if_neg c] at h; cases h
      · cases h
    refine ⟨sE, fun a x h ht => ?_, fun a x h => cE_star h⟩
    by_cases hp : plainT a = true
    · exact tst_plain (sE a x h) hp
    · cases a with
      | BoolOp op vs p =>
        have h' : (if vs.all testOk = true ∧ 2 ≤ vs.length then cBool (cE X.N T n X.env.scope) op vs else none) = some x := h
        by_cases c : vs.all testOk = true ∧ 2 ≤ vs.length
        · rw [if_pos c] at h'
          exact (tst_bool O S (fun v hv => List.all_eq_true.mp c.1 v hv) h').pt
        · rw [if_neg c] at h'; cases h'
      | UnaryOp op a p =>
        cases op with
        | Not =>
          unfold cE at h
          have h' : (if testOk a = true then (cE X.N T n X.env.scope a).map Ex.not else none) = some x := h
          by_cases c : testOk a = true
          · rw [if_pos c] at h'
            cases e : cE X.N T n X.env.scope a with
            | none => rw [e] at h'; cases h'
            | some z => rw [e] at h'; cases h'; exact tst_not (S.t _ _ e c)
          · rw [if_neg c] at h'; cases h'
        | _ => exact absurd rfl hp
      | IfExp _ _ _ _ => cases ht
      | Compare a ops cs p =>
        match ops, cs, h with
        | [op], [b], h =>
          have h' : (match (generalizing := false) inOf X.env.scope.names T b with
            | some es => (match (generalizing := false) op with
              | .In => (cE X.N T n X.env.scope a).map fun a' => Ex.inT a' es
              | .NotIn => (cE X.N T n X.env.scope a).map fun a' => Ex.not (.inT a' es)
              | _ => none)
            | none => if behindInMarks op b = false then (match cE X.N T n X.env.scope a, cE X.N T n X.env.scope b with
              | some a', some b' => some (Ex.cmp op a' b')
              | _, _ => none) else none) = some x := h
          split at h'
          · rename_i es he
            cases op with
            | In =>
              cases e : cE X.N T n X.env.scope a with
              | none => rw [e] at h'; cases h'
              | some z => rw [e] at h'; cases h'; exact tst_inT O S he e
            | NotIn =>
              cases e : cE X.N T n X.env.scope a with
              | none => rw [e] at h'; cases h'
              | some z => rw [e] at h'; cases h'; exact tst_ninT O S he e
            | _ => cases h'
          by_cases c : behindInMarks op b = false
          · rw [if_pos c] at h'
            split at h'
            · rename_i h1 h2; cases h'; exact tst_cmp O S c h1 h2
            · cases h'
          · rw [if_neg c] at h'; cases h'
        | [op, op'], [b, c], h =>
          have h' : (if lastMarks [op, op'] [b, c] = false then (match cE X.N T n X.env.scope a, cE X.N T n X.env.scope b, cE X.N T n X.env.scope c with
            | some a', some b', some c' => some (Ex.chn op op' a' b' c')
            | _, _, _ => none) else none) = some x := h
          by_cases hm : lastMarks [op, op'] [b, c] = false
          · rw [if_pos hm] at h'
            split at h'
            · rename_i h1 h2 h3; cases h'; exact tst_chn O S hm h1 h2 h3
            · cases h'
          · rw [if_neg hm] at h'; cases h'
        | [], _, h => cases h
        | [_], [], h => cases h
        | [_], _ :: _ :: _, h => cases h
        | [_, _], [], h => cases h
        | [_, _], [_], h => cases h
        | [_, _], _ :: _ :: _ :: _, h => cases h
        | _ :: _ :: _ :: _, _, h => cases h
      | _ => exact absurd rfl hp
end Pe

set_option Elab.async false
set_option linter.all false
set_option maxRecDepth 100000
set_option maxHeartbeats 8000000
/-! Fr: lists that are made new by an expression. -/
namespace Pe
open PySem L2
section
variable {X : Cx} {T : Tbl} {F : Str → List D → Res D} {z : Zx} {co : Co} {E : St → XK} {f : Expr → Option Ex}
theorem FrL.toL {K : Fg} {G H : Hp} {Q : VK} {ds : List D} (h : FrL K G H Q ds) (s : Same G H) : PsL K ds G H Q := fun p vs hp a =>
  h p vs G _ (Nx.hid s hp) (s.free hp) hp upd_same a
/-- a value, or a new list -/
def PsF (K : Fg) (d : D) (G H : Hp) (Q : VK) : Prop := PsO K d G H Q ∨ ∃ ds, d = .list ds ∧ FrL K G H Q ds
def rD2F (K : Fg) (f : D → D → Option D) : R2 := fun x y H Q => ∃ G dx dy d, Same G H ∧ Dq K G x dx ∧ Dq K G y dy ∧ f dx dy = some d ∧ PsF K d G H Q
def rDcF (K : Fg) (f : List D → Option D) : List V → Hp → VK → Prop := fun xs H Q => ∃ G ds d, Same G H ∧ DqAll K G xs ds ∧ f ds = some d ∧ PsF K d G H Q
theorem op_addF : OpR X (binaryOp .Add) (rD2F X.kx addD) := by
  rintro pins s σ H x y v u Q I rx ry ⟨G, dx, dy, d, sm, hx, hy, hf, q⟩
  rcases q with q | ⟨ds, rfl, q⟩
  · exact op_addD pins s σ H x y v u Q I rx ry ⟨G, dx, dy, d, sm, hx, hy, hf, q⟩
  · cases hx with
    | int i => cases hy <;> cases hf
    | str i =>
      cases hy with
      | str j =>
        obtain ⟨_, e⟩ := of_ite_some hf
        cases e
      | _ => cases hf
    | lst h1 a1 =>
      cases hy with
      | lst h2 a2 =>
        obtain ⟨hz, e⟩ := of_ite_some hf
        cases e
        exact op_catD pins s σ H _ _ v u Q I rx ry ⟨_, _, _, _, rfl, rfl, ls_same sm h1, ls_same sm h2, by rw [dpa_len a1, dpa_len a2]; exact hz, fun p hp => q.toL sm p _ hp (dpa_append a1 a2)⟩
      | _ => cases hf
    | tup h1 a1 =>
      cases hy with
      | tup h2 a2 =>
        obtain ⟨_, e⟩ := of_ite_some hf
        cases e
      | _ => cases hf
    | _ => cases hf
theorem op_mulF : OpR X (binaryOp .Mult) (rD2F X.kx mulD) := by
  rintro pins s σ H x y v u Q I rx ry ⟨G, dx, dy, d, sm, hx, hy, hf, q⟩
  rcases q with q | ⟨ds, rfl, q⟩
  · exact op_mulD pins s σ H x y v u Q I rx ry ⟨G, dx, dy, d, sm, hx, hy, hf, q⟩
  · cases hx with
    | int i =>
      cases hy with
      | int j =>
        obtain ⟨_, e⟩ := of_ite_some hf
        cases e
      | _ => cases hf
    | lst h1 a1 =>
      cases hy with
      | int k =>
        obtain ⟨⟨k1, k2, hz⟩, e⟩ := of_ite_some hf
        cases e
        refine op_repD pins s σ H _ _ v u Q I rx ry ⟨_, k, _, rfl, rfl, ls_same sm h1, by omega, by omega, by rw [dpa_len a1]; exact hz, fun p hp => q.toL sm p _ hp ?_⟩
        generalize k.toNat = n
        induction n with
        | zero => exact .nil
        | succ n ih =>
          simp only [List.replicate_succ, List.flatten_cons]
          exact dpa_append a1 ih
      | _ => cases hf
    | _ => cases hf
theorem call_listF (hg : X.A.guards = some []) (hu : X.A.units + 65 < cLine) : CallR X (.type "list") (rDcF X.kx (bfD .list)) := by
  rintro pins s σ H xs us Q I r ⟨G, ds, d, sm, a, hf, q⟩
  rcases q with q | ⟨es, rfl, q⟩
  · exact call_bfD .list (fun z => by cases z) hg hu pins s σ H xs us Q I r ⟨G, ds, d, sm, a, hf, q⟩
  · match ds, hf with
    | [.list es], hf =>
      cases hf
      obtain ⟨x, rfl, hx⟩ := dq1 a
      cases hx with
      | lst h1 a1 => exact call_list_of pins s σ H _ us Q I r ⟨_, _, rfl, .inl (ls_same sm h1).sq, fun p hp => q.toL sm p _ hp a1⟩
    | [.tuple es], hf =>
      cases hf
      obtain ⟨x, rfl, hx⟩ := dq1 a
      cases hx with
      | tup h1 a1 => exact call_list_of pins s σ H _ us Q I r ⟨_, _, rfl, .inr (seqT_same sm h1), fun p hp => q.toL sm p _ hp a1⟩
theorem call_sortF (hu : X.A.units + 65 < cLine) : CallR X (.builtin "sorted") (rDcF X.kx (bfD .sorted)) := by
  rintro pins s σ H xs us Q I r ⟨G, ds, d, sm, a, hf, q⟩
  rcases q with q | ⟨es, rfl, q⟩
  · exact call_sortD hu pins s σ H xs us Q I r ⟨G, ds, d, sm, a, hf, q⟩
  · match ds, hf with
    | [.list zs], hf =>
      obtain ⟨ok, e⟩ := of_ite_some hf
      cases e
      obtain ⟨x, rfl, hx⟩ := dq1 a
      exact call_sortR hu pins s σ H _ us Q I r ⟨G, zs, x, rfl, sm, hx, ok, q.toL sm⟩
/-- a reading for both -/
structure Both (X : Cx) (z : Zx) (co : Co) (F : Str → List D → Res D) (E : St → XK) (x : Ex) (te : TE) : Prop where
  e : ∀ σ H Q, tE X.kx z co F E x σ H Q → te σ H Q
  f : ∀ σ H Q, tF X.kx z co F E x σ H Q → te σ H Q
theorem fr_bin (S : Snd X T F z co E f) {op : Operator} (hop : OpR X (binaryOp op) (rD2F X.kx (binD op))) {a b : Expr} {p : Pos} {a' b' : Ex} (h1 : f a = some a') (h2 : f b = some b') : ∃ te, PE X (.BinOp a op b p) te ∧ Both X z co F E (.bin op a' b') te := by
  refine ⟨_, pe_op hop (S.e _ _ h1) (S.e _ _ h2), ⟨fun σ H Q ⟨ν, G, R, q⟩ => ?_, fun σ H Q ⟨ν, G, R, q⟩ => ?_⟩⟩
  · simp only [evE] at q
    refine tE.then R q.toR fun d v G1 H1 _ s hv R1 q1 => tE.then R1 q1 fun d2 v2 G2 H2 _ t hv2 R2 q2 => ?_
    obtain ⟨r, e, k⟩ := q2.ofO
    exact ⟨G2, d, d2, r, t.s, dp_same t.g _ _ hv, hv2, e, .inl fun v3 G3 H3 u hv3 => k v3 G3 H3 (s.trans (t.trans u)) hv3⟩
  · simp only [evE] at q
    have q' : PsR X.kx co (E σ) ((evE F ν a').bind fun x => (evE F ν b').bind fun y => (Res.ofO (binD op x y)).bind fun y => listR y .ok) G H (FrL X.kx G H Q) := by
      revert q
      cases evE F ν a' with
      | ok d => cases evE F ν b' <;> exact id
      | err _ => exact id
      | no => exact id
    refine tE.then R q' fun d v G1 H1 _ s hv R1 q1 => tE.then R1 q1 fun d2 v2 G2 H2 _ t hv2 R2 q2 => ?_
    cases e : binD op d d2 with
    | none => rw [e] at q2; exact q2.elim
    | some r =>
      rw [e] at q2
      cases r with
      | list ds => exact ⟨G2, d, d2, .list ds, t.s, dp_same t.g _ _ hv, hv2, e, .inr ⟨ds, rfl, fun L acc G3 H3 u g3 h3 k3 a3 => q2 L acc G3 H3 (s.trans (t.trans u)) g3 ((s.trans t).h.free h3) k3 a3⟩⟩
      | _ => exact q2.elim
theorem fr_call (O : Ok1 X T F z co E) (S : Snd X T F z co E f) {b : Bf} {y : Str} {a : Expr} {p pos : Pos} {a' : Ex} (g : glB X.env.scope.names y = true) (hb : (b = .list ∧ y = "list") ∨ (b = .sorted ∧ y = "sorted")) (h : cArgs f [a] = some a') :
    ∃ te, PE X (.Call (.Name y p) [a] [] pos) te ∧ Both X z co F E (.bf b a') te := by
  have st := args_star S h
  have key : ∀ {fv : Value}, CallR X fv (rDcF X.kx (bfD b)) → ∀ σ H Q, (tE X.kx z co F E (.bf b a') σ H Q → tCB (rDcF X.kx (bfD b)) (tA X.kx z co F E a') σ H Q) ∧ (tF X.kx z co F E (.bf b a') σ H Q → tCB (rDcF X.kx (bfD b)) (tA X.kx z co F E a') σ H Q) := fun _ σ H Q => by
    refine ⟨fun ⟨ν, G, R, q⟩ => ?_, fun ⟨ν, G, R, q⟩ => ?_⟩
    · simp only [evE] at q
      refine tA.then R q.toR fun ds vs G1 H1 s ha R1 q1 => ?_
      obtain ⟨r, er, k⟩ := q1.ofO
      exact ⟨G1, ds, r, s.s, ha, er, .inl fun v3 G3 H3 u hv3 => k v3 G3 H3 (s.trans u) hv3⟩
    · simp only [evE] at q
      have q' : PsR X.kx co (E σ) ((evE F ν a').bind fun d => listR d fun ds => (Res.ofO (bfD b ds)).bind fun y => listR y .ok) G H (FrL X.kx G H Q) := by
        revert q
        cases evE F ν a' with
        | ok d => cases d <;> exact id
        | err _ => exact id
        | no => exact id
      refine tA.then R q' fun ds vs G1 H1 s ha R1 q1 => ?_
      cases e : bfD b ds with
      | none => rw [e] at q1; exact q1.elim
      | some r =>
        rw [e] at q1
        cases r with
        | list es => exact ⟨G1, ds, .list es, s.s, ha, e, .inr ⟨es, rfl, fun L acc G3 H3 u g3 h3 k3 a3 => q1 L acc G3 H3 (s.trans u) g3 (s.h.free h3) k3 a3⟩⟩
        | _ => exact q1.elim
  rcases hb with ⟨rfl, rfl⟩ | ⟨rfl, rfl⟩
  · have c := call_listF (X := X) O.gd O.hu
    exact ⟨_, pe_callTy c (gl_of g) (O.blt _ (by decide +kernel)) (by decide +kernel) (snd_args S h) (by decide +kernel) (by decide +kernel) (star_of (st a List.mem_cons_self)) rfl, ⟨fun σ H Q => (key c σ H Q).1, fun σ H Q => (key c σ H Q).2⟩⟩
  · have c := call_sortF (X := X) O.hu
    exact ⟨_, pe_callB c (gl_of g) (O.blt _ (by decide +kernel)) (by decide +kernel) (snd_args S h) (by decide +kernel) (by decide +kernel) (star_of (st a List.mem_cons_self)) rfl, ⟨fun σ H Q => (key c σ H Q).1, fun σ H Q => (key c σ H Q).2⟩⟩
end
end Pe

set_option Elab.async false
set_option linter.all false
set_option maxRecDepth 100000
set_option maxHeartbeats 4000000
/-! Xc: what may be asked of an exception that a suite holds. -/
namespace Pe
open PySem PySem.Spec PySem.Calls PyProof.Rows PySem.W
section
variable {prog : Program} {w : World} {A : Around} {E : Value → Shared → Prop} {s : Shared} {K : Frag} {x D : Addr} {ox : Obj} {od : Option Obj}
theorem bind_of {C : Addr} {name : Str} {a g : Value} (hc : (clsIn K C).isSome = true) (ha : findIn K (.ref C) name = some (some a)) (hg : specialIn K a "__get__" = some (some g)) (ht : takesIn K a = some true) : findObj K C od name = some (.bind g a) := by
  obtain ⟨cd, hc⟩ := Option.isSome_iff_exists.mp hc
  unfold findObj
  rw [hc, Option.bind_some, ha, Option.bind_some]
  simp [hg, ht]
/-- what __class__ of an exception gives, whether it has a dict or not -/
theorem its_class {Q : Option Value → Shared → Prop} (C : L2.ExcC K D) (kin : K.In s.heap) (I : InstAt s.heap x ox D od) (h : Q (some (.ref D)) { s with toks := s.toks + 1 }) : wpAny (model prog w) A (getAttr? (.ref x) "__class__") Q E s := by
  have found : findObj K D od "__class__" = some (.bind (.builtin "getset_descriptor.__get__") (.builtin "object.__class__")) := bind_of (by obtain ⟨cd, hc, _⟩ := any_some C.hd; rw [hc]; rfl) C.ha C.hn C.ht
  obtain ⟨hp, g, d, t, os⟩ := s
  have K0 := I.type (M := model prog w)
  have K1 := looks_findIn (M := model prog w) kin C.hg
  have K2 := looks_findIn (M := model prog w) kin C.hk
  have K3 := looks_find (M := model prog w) kin I found
  have under : Looks (model prog w) hp (isInstance (.ref x) (.type "BaseException")) true := K0.andThen (looks_subIn kin C.hs)
  have z0 : (false && onTheHeap (Value.builtin "BaseException.__getattribute__")) = false := rfl
  have z2 : (Value.builtin "BaseException.__getattribute__" == Value.builtin "object.__getattribute__") = false := by decide +kernel
  have z1 : (onTheHeap (Value.ref D) && Value.builtin "BaseException.__getattribute__" == Value.builtin "object.__getattribute__") = false := by rw [z2]; rfl
  unfold getAttr? getAttrBy? getAttrBy
  refine wpAny_bind (wpAny_mkText (wpAny_bind (wpAny_attempt (wpAny_holding (wpAny_bind (K0.at (wpAny_bind (K1.at ?_))))))))
  show wpAny _ _ (if (onTheHeap (Value.ref D) && Value.builtin "BaseException.__getattribute__" == Value.builtin "object.__getattribute__") = true then _ else _) _ _ _
  rw [z1, if_neg Bool.false_ne_true]
  unfold getAttrByItsOwn hookBefore
  refine wpAny_bind ?_
  rw [if_pos (show onTheHeap (Value.ref D) = true from rfl)]
  refine K2.at ?_
  refine wpAny_bind (wpAny_attempt (wpAny_holding ?_))
  unfold callGetattribute
  rw [z0, if_neg Bool.false_ne_true]
  unfold boundAndCalled
  rw [PySem.F.excAttr_ValueError.ga.bind (.ref x)]
  refine wpAny_bind (wpAny_pure ?_)
  show wpAny _ _ (call (.builtin "BaseException.__getattribute__") [.ref x, .str "__class__" t]) _ _ _
  refine wpAny_call (codeAny_call_builtin PySem.F.excAttr_ValueError.ga.plain PySem.F.entry_bexc_ga ?_)
  refine @check_slot (model prog w) _ _ ⟨hp, g, d, t + 1, os⟩ "BaseException.__getattribute__" "BaseException" "__getattribute__" (.ref x) [.str "__class__" t] [] _ (by decide +kernel) (by decide +kernel) under (PySem.F.args_bexc_ga (.ref x) (.str "__class__" t)) ?_
  unfold Builtin.«object.__getattribute__»
  refine wpAny_bind (wpAny_of_eq (a := ((Value.ref x : Value), [Value.str "__class__" t])) (by first | rfl | (simp only [slotArgs]; rfl)) ?_)
  refine wpAny_bind (wpAny_pure (wpAny_bind (K0.at (wpAny_bind (K3.at ?_)))))
  show wpAny _ _ (holding [Value.builtin "object.__class__"] (call (.builtin "getset_descriptor.__get__") [.builtin "object.__class__", .ref x, .ref D]) >>= ret) _ _ _
  refine wpAny_bind (wpAny_holding (wpAny_call (class_get (s := ⟨hp, g, d, t + 1, os⟩) (ox := ox) (od := od) kin I C.hm ?_)))
  refine wpAny_pure ?_
  show wpAny _ _ (handedOut (.ref D)) _ _ _
  rw [handedOut_of (v := .ref D) rfl]
  first
    | exact wpAny_pure (wpAny_pure h)
    | exact wpAny_pure h
    | exact wpAny_pure (wpAny_bind (wpAny_pure (wpAny_pure h)))
theorem its_kit (C : L2.ExcC K D) : KitX K (.ref x) (.ref D) (fun h => InstAt h x ox D od) where
  ty := fun _ _ _ I => I.type
  it := fun _ _ X _ => by
    obtain ⟨cdD, hcD, _⟩ := any_some C.hd
    unfold clsIn at hcD
    split at hcD
    · rename_i c' d' cd' sl' ho
      intro A' Q' E' s' k q
      unfold isType loadHead
      exact wpAny_bind (wpAny_loadPart (k _ _ (X _ _ ho)) (wpAny_pure q))
    · cases hcD
  ne := fun h tp dd its n sl X htp => by
    obtain ⟨cdD, hcD, _⟩ := any_some C.hd
    refine Bool.eq_false_iff.mpr fun q => ?_
    have e : D = tp := Value.ref.inj (beq_iff_eq.mp q)
    subst e
    unfold clsIn at hcD
    split at hcD
    · rename_i c' d' cd' sl' ho
      have z := (X _ _ ho).symm.trans htp
      cases z
    · cases hcD
  ca := fun X I k => its_class C X I k
end
end Pe
namespace Pe
open PySem PySem.Spec PyProof.Rows L2
/-- a class by its name -/
structure ClsN (mg : Str → Option Value) (c : Str) (u : Value) : Prop where
  is : (mg c = some u ∧ ∃ C, u = .ref C) ∨ (mg c = none ∧ bootBuiltins c = some u ∧ c ≠ "__name__" ∧ ∃ n, u = .type n)
  nd : c ≠ "__debug__"
/-- what the written part says of an error's class -/
structure ErC (K : PySem.W.Frag) (cn : Str → Value) (cls : List Str) (C : Addr) (fs ups : List Str) : Prop where
  ex : ExcC K C
  xf : XfC K C
  nf : ∀ f ∈ fs, PySem.W.findIn K (.ref C) f = some none
  exm : ∀ c ∈ cls, PySem.W.exmOne K (.ref C) (cn c) = some (ups.contains c)
  kit : ∀ c ∈ cls, PySem.W.kitOne K (.ref C) (cn c) = some (ups.contains c)
section
variable {X : Cx} {a C dd : Addr} {oe : Obj} {pn : List (Addr × Obj)}
/-- the exception as an instance -/
theorem inst_of {pins : List (Addr × Obj)} {σ : L2.St} {H : Hp} {s : Shared} {ps : List (Str × V)} (hz : Zc (.ref C) (some dd) oe) (hf : ∃ vs, oe.data = .fields vs) (I : Inv (X.suite a ((a, oe) :: pn)) pins σ H s) (hd : H dd = some (.xd ps)) :
    ∃ od, PySem.W.InstAt s.heap a oe C (some od) := by
  obtain ⟨ha, _⟩ := I.pin (a, oe) (List.mem_append_left _ List.mem_cons_self)
  obtain ⟨vs, hv⟩ := hf
  have hx : ObjOk X.prog X.w H s.heap dd (.xd ps) := I.hok dd _ hd
  obtain ⟨mA, hns, hr⟩ := hx
  obtain ⟨od, ho, hl⟩ := lookIn_ns hns
  exact ⟨od, ha, hz.1, by unfold PySem.W.notCls; rw [hv] <;> rfl, by rw [hz.2]; exact ho⟩
theorem call_xis (T : ExcC X.K C) (hz : Zc (.ref C) (some dd) oe) (hf : ∃ vs, oe.data = .fields vs) :
    CallR (X.suite a ((a, oe) :: pn)) (.builtin "isinstance") (fun xs H Q => ∃ c u b ps, xs = [.ref a, c] ∧ ClsV c u ∧ PySem.W.kitOne X.K (.ref C) u = some b ∧ H dd = some (.xd ps) ∧ Q (.bl b) H) := by
  rintro pins s σ H xs us Q I r ⟨c, u, b, ps, rfl, k, e, hd, q⟩
  obtain ⟨u1, u2, rfl, r1, r2⟩ := vals2 r
  cases r1
  have e2 := k.eq r2
  subst e2
  obtain ⟨od, J⟩ := inst_of hz hf I hd
  exact PySem.W.kia_one (its_kit T) I.kIn J e (fun z => nomatch z) fun tk => ⟨.bl b, H, I.kept (t' := tk) fun _ _ z => z, rfl, q⟩
theorem call_xisT (T : ExcC X.K C) (hz : Zc (.ref C) (some dd) oe) (hf : ∃ vs, oe.data = .fields vs) :
    CallR (X.suite a ((a, oe) :: pn)) (.builtin "isinstance") (fun xs H Q => ∃ tp cs ws b ps, xs = [.ref a, .ref tp] ∧ H tp = some (.tup cs) ∧ Paired ClsV cs ws ∧ PySem.W.kitAny X.K (.ref C) ws = some b ∧ H dd = some (.xd ps) ∧ Q (.bl b) H) := by
  rintro pins s σ H xs us Q I r ⟨tp, cs, ws, b, ps, rfl, hT, k, e, hd, q⟩
  obtain ⟨u1, u2, rfl, r1, r2⟩ := vals2 r
  cases r1
  cases (show u2 = Value.ref tp from r2)
  obtain ⟨od, J⟩ := inst_of hz hf I hd
  obtain ⟨_, its, rv, o, h1, h2, n, h3⟩ := (show ObjOk X.prog X.w H s.heap tp (.tup cs) from I.hok tp _ hT)
  have e3 := ClsV.all k rv
  subst e3
  obtain ⟨oc, od', dt, sl⟩ := o
  simp only at h2 h3
  subst h2 h3
  exact PySem.W.kia_tup (its_kit T) I.kIn J h1 e (fun z => nomatch z) fun tk => ⟨.bl b, H, I.kept (t' := tk) fun _ _ z => z, rfl, q⟩
end
end Pe

set_option Elab.async false
set_option linter.all false
set_option maxRecDepth 100000
set_option maxHeartbeats 8000000
/-! Pe11: slots between statements: values, and lists of a def's own that still grow. -/
namespace Pe
open PySem L2
inductive Sl where
  | un
  | val (d : D)
  | own (d : D)
def Sl.all : Sl → Option D
  | .un => none
  | .val d => some d
  | .own d => some d
def Sl.fix : Sl → Option D
  | .val d => some d
  | _ => none
/-- the slots as data, the own lists too; without these -/
def vw (ρ : List Sl) : List (Option D) := ρ.map Sl.all
def vwN (ρ : List Sl) : List (Option D) := ρ.map Sl.fix
def Sl.frz : Sl → Sl
  | .own d => .val d
  | s => s
/-- own lists that grow no more -/
def frz : List Nat → List Sl → List Sl
  | [], ρ => ρ
  | i :: is, ρ => match ρ[i]? with
    | some (.own d) => frz is (ρ.set i (.val d))
    | _ => frz is ρ

/-- what stands at the place of an own thing -/
inductive OwnO (K : Fg) (G : Hp) (p : Addr) : HO → D → Prop
  | lst {vs : List V} {xs : List D} : DqAll K G vs xs → OwnO K G p (.lst vs) (.list xs)
  | dK {kvs : List (Key × V)} {ds : List (D × D)} : DqKv K G kvs ds → OwnO K G p (.dK kvs) (.dict ds)
  | dT {ent : List (List Key × Addr × V)} {ds : List (D × D)} : DqTv K G ent ds → ds ≠ [] → OwnO K G p (dtO K p ent) (.dict ds)
theorem OwnO.mono {K : Fg} {G G' : Hp} {p : Addr} {o : HO} {d : D} (s : Same G G') : OwnO K G p o d → OwnO K G' p o d
  | .lst a => .lst (dpa_same s _ _ a)
  | .dK a => .dK (dkv_same s a)
  | .dT a ne => .dT (dtv_same s a) ne
theorem OwnO.mut {K : Fg} {G : Hp} {p : Addr} {o : HO} {d : D} : OwnO K G p o d → Mut (some o)
  | .lst _ => trivial
  | .dK _ => trivial
  | .dT _ _ => trivial
theorem OwnO.dq {K : Fg} {G' : Hp} {p : Addr} {o : HO} {d : D} (h : G' p = some o) : OwnO K G' p o d → Dq K G' (.ref p) d
  | .lst a => .lst (.inl (Rd.of h)) a
  | .dK a => .dctK (Rd.of h) a
  | .dT a ne => .dctT (Rd.of h) a ne
structure RepS (K : Fg) (z : Zx) (G0 H0 : Hp) (σ : St) (ρ : List Sl) (G H : Hp) : Prop where
  nx : Nx G0 H0 G H
  len : ρ.length = σ.length
  val : ∀ (i : Nat) (d : D), ρ[i]? = some (.val d) → ∃ v, σ[i]? = some (some v) ∧ Dq K G v d
  own : ∀ (i : Nat) (xs : D), ρ[i]? = some (.own xs) → ∃ p o, σ[i]? = some (some (.ref p)) ∧ H p = some o ∧ G p = none ∧ H0 p = none ∧ OwnO K G p o xs
  x : ∀ q, z = some q → (ρ[q.i]? = some .un → σ[q.i]? = some (some (.ref q.a))) ∧ (∀ xs, ρ[q.i]? ≠ some (.own xs)) ∧ XdQ K G q
  apart : ∀ (i j : Nat) (xs ys : D) (p : Addr), ρ[i]? = some (.own xs) → ρ[j]? = some (.own ys) → σ[i]? = some (some (.ref p)) → σ[j]? = some (some (.ref p)) → i = j
/-- the address of an own list -/
def Own (σ : St) (ρ : List Sl) (a : Addr) : Prop := ∃ (i : Nat) (xs : D), ρ[i]? = some (.own xs) ∧ σ[i]? = some (some (.ref a))
open Classical in
/-- what is told, and the own lists -/
noncomputable def gP (σ : St) (ρ : List Sl) (G H : Hp) : Hp := fun a => if Own σ ρ a then H a else G a
open Classical in
/-- without the own lists -/
noncomputable def gM (σ : St) (ρ : List Sl) (G : Hp) : Hp := fun a => if Own σ ρ a then none else G a
section
variable {K : Fg} {z : Zx} {G0 H0 G H : Hp} {σ : St} {ρ : List Sl}
theorem gP_own {a : Addr} (h : Own σ ρ a) : gP σ ρ G H a = H a := if_pos h
theorem gP_not {a : Addr} (h : ¬ Own σ ρ a) : gP σ ρ G H a = G a := if_neg h
theorem gM_own {a : Addr} (h : Own σ ρ a) : gM σ ρ G a = none := if_pos h
theorem gM_not {a : Addr} (h : ¬ Own σ ρ a) : gM σ ρ G a = G a := if_neg h
theorem RepS.own_at (R : RepS K z G0 H0 σ ρ G H) {a : Addr} (h : Own σ ρ a) : (∃ o, H a = some o ∧ Mut (some o)) ∧ G a = none ∧ H0 a = none := by
  obtain ⟨i, xs, h1, h2⟩ := h
  obtain ⟨p, o, e1, e2, e3, e4, e5⟩ := R.own i xs h1
  rw [h2] at e1
  cases e1
  exact ⟨⟨o, e2, e5.mut⟩, e3, e4⟩
theorem RepS.same_gP (R : RepS K z G0 H0 σ ρ G H) : Same G (gP σ ρ G H) := fun a o e => by
  by_cases h : Own σ ρ a
  · rw [(R.own_at h).2.1] at e; cases e
  · rw [gP_not h]; exact e
theorem RepS.gP_same (R : RepS K z G0 H0 σ ρ G H) : Same (gP σ ρ G H) H := fun a o e => by
  by_cases h : Own σ ρ a
  · rw [gP_own h] at e; exact e
  · rw [gP_not h] at e; exact R.nx.s a o e
theorem RepS.nxP (R : RepS K z G0 H0 σ ρ G H) : Nx G0 H0 (gP σ ρ G H) H :=
  ⟨R.nx.g.trans R.same_gP, R.gP_same, R.nx.h, fun a e n => by
    by_cases h : Own σ ρ a
    · exact absurd (R.own_at h).2.2 n
    · rw [gP_not h]; exact R.nx.n a e n⟩
/-- all may be looked at -/
theorem RepS.view (R : RepS K z G0 H0 σ ρ G H) : RepV K z σ (vw ρ) (gP σ ρ G H) H := by
  refine ⟨R.gP_same, by unfold vw; rw [List.length_map]; exact R.len, fun i d e => ?_, fun q hq => ⟨fun e => (R.x q hq).1 ?_, (R.x q hq).2.2.mono R.same_gP⟩⟩
  case refine_2 =>
    unfold vw at e
    rw [List.getElem?_map] at e
    cases k : ρ[q.i]? with
    | none => rw [k] at e; cases e
    | some s => rw [k] at e; cases s <;> first | rfl | cases e
  unfold vw at e
  rw [List.getElem?_map] at e
  cases q : ρ[i]? with
  | none => rw [q] at e; cases e
  | some s =>
    rw [q] at e
    cases s with
    | un => cases e
    | val d' =>
      cases e
      obtain ⟨v, h1, h2⟩ := R.val i _ q
      exact ⟨v, h1, dp_same R.same_gP _ _ h2⟩
    | own xs =>
      cases e
      obtain ⟨p, vs, h1, h2, h3, h4, h5⟩ := R.own i _ q
      refine ⟨.ref p, h1, OwnO.dq ?_ (h5.mono R.same_gP)⟩
      rw [gP_own ⟨i, _, q, h1⟩]
      exact h2
/-- .. but the own lists -/
theorem RepS.viewN (R : RepS K z G0 H0 σ ρ G H) : RepV K z σ (vwN ρ) G H := by
  refine ⟨R.nx.s, by unfold vwN; rw [List.length_map]; exact R.len, fun i d e => ?_, fun q hq => ⟨fun e => (R.x q hq).1 ?_, (R.x q hq).2.2⟩⟩
  case refine_2 =>
    unfold vwN at e
    rw [List.getElem?_map] at e
    cases k : ρ[q.i]? with
    | none => rw [k] at e; cases e
    | some s => rw [k] at e; cases s <;> first | rfl | (exact absurd k ((R.x q hq).2.1 _)) | cases e
  unfold vwN at e
  rw [List.getElem?_map] at e
  cases q : ρ[i]? with
  | none => rw [q] at e; cases e
  | some s =>
    rw [q] at e
    cases s with
    | un => cases e
    | own _ => cases e
    | val d' => cases e; exact R.val i _ q
/-- behind an expression that looked at all -/
theorem RepS.backP (R : RepS K z G0 H0 σ ρ G H) {G' H' : Hp} (x : Nx (gP σ ρ G H) H G' H') : RepS K z G0 H0 σ ρ (gM σ ρ G') H' := by
  have sG : Same G (gM σ ρ G') := fun a o e => by
    have n : ¬ Own σ ρ a := fun h => by rw [(R.own_at h).2.1] at e; cases e
    rw [gM_not n]
    exact x.g a o (by rw [gP_not n]; exact e)
  refine ⟨⟨R.nx.g.trans sG, fun a o e => ?_, R.nx.h.trans x.h, fun a e n => ?_⟩, R.len, fun i d e => ?_, fun i xs e => ?_, fun q hq => ⟨(R.x q hq).1, (R.x q hq).2.1, (R.x q hq).2.2.mono sG⟩, R.apart⟩
  · by_cases h : Own σ ρ a
    · rw [gM_own h] at e; cases e
    · rw [gM_not h] at e; exact x.s a o e
  · by_cases h : Own σ ρ a
    · exact gM_own h
    · rw [gM_not h]
      refine x.n a ?_ fun z => n (R.nx.h.free z)
      rw [gP_not h]
      exact R.nx.n a e n
  · obtain ⟨v, h1, h2⟩ := R.val i d e
    exact ⟨v, h1, dp_same sG _ _ h2⟩
  · obtain ⟨p, vs, h1, h2, h3, h4, h5⟩ := R.own i xs e
    exact ⟨p, vs, h1, x.h _ _ h2, gM_own ⟨i, xs, e, h1⟩, h4, h5.mono sG⟩
theorem RepS.backD (R : RepS K z G0 H0 σ ρ G H) {G' H' : Hp} (x : Nx (gP σ ρ G H) H G' H') {v : V} {d : D} (n : noL d = true) (h : Dq K G' v d) : Dq K (gM σ ρ G') v d := by
  refine dp_drop (fun a o e => ?_) d v n h
  by_cases q : Own σ ρ a
  · obtain ⟨⟨vs, hv, mu⟩, _⟩ := R.own_at q
    have := x.g a _ (by rw [gP_own q]; exact hv)
    rw [this] at e
    cases e
    exact .inl mu
  · exact .inr (by rw [gM_not q]; exact e)
/-- behind one that did not -/
theorem RepS.back (R : RepS K z G0 H0 σ ρ G H) {G' H' : Hp} (x : Nx G H G' H') : RepS K z G0 H0 σ ρ G' H' := by
  refine ⟨R.nx.trans x, R.len, fun i d e => ?_, fun i xs e => ?_, fun q hq => ⟨(R.x q hq).1, (R.x q hq).2.1, (R.x q hq).2.2.mono x.g⟩, R.apart⟩
  · obtain ⟨v, h1, h2⟩ := R.val i d e
    exact ⟨v, h1, dp_same x.g _ _ h2⟩
  · obtain ⟨p, vs, h1, h2, h3, h4, h5⟩ := R.own i xs e
    exact ⟨p, vs, h1, x.h _ _ h2, x.n p h3 (by rw [h2]; simp), h4, h5.mono x.g⟩
theorem RepS.x_other (R : RepS K z G0 H0 σ ρ G H) {i : Nat} {s : Sl} {G' : Hp} (sG : Same G G') {q : XI} (ne : q.i ≠ i) (hq : z = some q) : ((ρ.set i s)[q.i]? = some .un → σ[q.i]? = some (some (.ref q.a))) ∧ (∀ xs, (ρ.set i s)[q.i]? ≠ some (.own xs)) ∧ XdQ K G' q := by
  rw [List.getElem?_set_ne (Ne.symm ne)]
  exact ⟨(R.x q hq).1, (R.x q hq).2.1, (R.x q hq).2.2.mono sG⟩
/-- a list grows no more -/
theorem RepS.frz1 (R : RepS K z G0 H0 σ ρ G H) {i : Nat} {xs : D} (e : ρ[i]? = some (.own xs)) : ∃ G', RepS K z G0 H0 σ (ρ.set i (.val xs)) G' H := by
  obtain ⟨p, vs, h1, h2, h3, h4, h5⟩ := R.own i xs e
  have sG : Same G (upd G p vs) := same_upd h3
  have hi : i < ρ.length := (List.getElem?_eq_some_iff.mp e).1
  refine ⟨upd G p vs, ⟨R.nx.g.trans sG, fun a o q => ?_, R.nx.h, fun a q n => ?_⟩, by rw [List.length_set]; exact R.len, fun j d q => ?_, fun j ys q => ?_, fun q hq => ?_, fun j k ys zs q a b c d => ?_⟩
  rotate_left 4
  · exact R.x_other sG (fun t => (R.x q hq).2.1 xs (t ▸ e)) hq
  rotate_right 4
  · by_cases ha : a = p
    · subst ha; rw [upd_same] at q; cases q; exact h2
    · rw [upd_ne ha] at q; exact R.nx.s a o q
  · have ha : a ≠ p := fun z => by rw [z] at n; exact n h4
    rw [upd_ne ha]
    exact R.nx.n a q n
  · by_cases hj : i = j
    · subst hj
      rw [List.getElem?_set_self hi] at q
      cases q
      exact ⟨.ref p, h1, OwnO.dq upd_same (h5.mono sG)⟩
    · rw [List.getElem?_set_ne hj] at q
      obtain ⟨v, a, b⟩ := R.val j d q
      exact ⟨v, a, dp_same sG _ _ b⟩
  · by_cases hj : i = j
    · subst hj
      rw [List.getElem?_set_self hi] at q
      cases q
    · rw [List.getElem?_set_ne hj] at q
      obtain ⟨p', vs', a1, a2, a3, a4, a5⟩ := R.own j ys q
      refine ⟨p', vs', a1, a2, ?_, a4, a5.mono sG⟩
      have : p' ≠ p := fun z => by subst z; exact hj (R.apart i j xs ys p' e q h1 a1)
      rw [upd_ne this]
      exact a3
  · have hj : i ≠ j := fun z => by
      subst z
      rw [List.getElem?_set_self hi] at a
      cases a
    have hk : i ≠ k := fun z => by
      subst z
      rw [List.getElem?_set_self hi] at b
      cases b
    rw [List.getElem?_set_ne hj] at a
    rw [List.getElem?_set_ne hk] at b
    exact R.apart j k ys zs q a b c d
theorem RepS.frz : ∀ (is : List Nat) {ρ : List Sl} {G : Hp}, RepS K z G0 H0 σ ρ G H → ∃ G', RepS K z G0 H0 σ (Pe.frz is ρ) G' H
  | [], _, G, R => ⟨G, R⟩
  | i :: is, ρ, G, R => by
    unfold Pe.frz
    split
    · rename_i xs e
      obtain ⟨G', R'⟩ := R.frz1 e
      exact RepS.frz is R'
    · exact RepS.frz is R
/-- a name is given a value -/
theorem RepS.set (R : RepS K z G0 H0 σ ρ G H) (i : Nat) {v : V} {d : D} (r : Dq K G v d) : RepS K z G0 H0 (σ.set i (some v)) (ρ.set i (.val d)) G H := by
  have hx : ∀ q, z = some q → ((ρ.set i (.val d))[q.i]? = some .un → (List.set σ i (some v))[q.i]? = some (some (.ref q.a))) ∧ (∀ xs, (ρ.set i (.val d))[q.i]? ≠ some (.own xs)) ∧ XdQ K G q := fun q hq => by
    by_cases ne : q.i = i
    · have hn : ∀ s, (ρ.set i (.val d))[q.i]? = some s → s = .val d := fun s e => by
        have hi : i < ρ.length := by
          have := (List.getElem?_eq_some_iff.mp e).1
          rw [List.length_set] at this
          omega
        rw [ne, List.getElem?_set_self hi] at e
        exact (Option.some.inj e).symm
      exact ⟨(fun e => by cases hn _ e), (fun xs e => by cases hn _ e), (R.x q hq).2.2⟩
    · have h := R.x_other (s := .val d) (Same.refl G) ne hq
      exact ⟨fun e => by rw [List.getElem?_set_ne (Ne.symm ne)]; exact h.1 e, h.2⟩
  refine ⟨R.nx, by rw [List.length_set, List.length_set]; exact R.len, fun j d' e => ?_, fun j xs e => ?_, hx, fun j k xs ys p a b c d' => ?_⟩
  · by_cases hj : i = j
    · subst hj
      have hi : i < ρ.length := by
        have := (List.getElem?_eq_some_iff.mp e).1
        rwa [List.length_set] at this
      rw [List.getElem?_set_self hi] at e
      cases e
      exact ⟨v, List.getElem?_set_self (by rw [← R.len]; exact hi), r⟩
    · rw [List.getElem?_set_ne hj] at e ⊢
      exact R.val j d' e
  · have hj : i ≠ j := fun z => by
      subst z
      have hi : i < ρ.length := by
        have := (List.getElem?_eq_some_iff.mp e).1
        rwa [List.length_set] at this
      rw [List.getElem?_set_self hi] at e
      cases e
    rw [List.getElem?_set_ne hj] at e ⊢
    exact R.own j xs e
  · have hn : ∀ {m : Nat} {zs : D}, (ρ.set i (.val d))[m]? = some (.own zs) → i ≠ m := fun {m zs} e z => by
      subst z
      have hi : i < ρ.length := by
        have := (List.getElem?_eq_some_iff.mp e).1
        rwa [List.length_set] at this
      rw [List.getElem?_set_self hi] at e
      cases e
    have hj := hn a
    have hk := hn b
    rw [List.getElem?_set_ne hj] at a c
    rw [List.getElem?_set_ne hk] at b d'
    exact R.apart j k xs ys p a b c d'
/-- .. a new list of its own -/
theorem RepS.new (R : RepS K z G0 H0 σ ρ G H) (i : Nat) (hz : ∀ q, z = some q → q.i ≠ i) {p : Addr} {vs : HO} {xs : D} (hn : ∀ (j : Nat) (ys : D), ρ[j]? = some (.own ys) → σ[j]? ≠ some (some (.ref p))) (h1 : H p = some vs) (h2 : G p = none) (h3 : H0 p = none) (h4 : OwnO K G p vs xs) :
    RepS K z G0 H0 (σ.set i (some (.ref p))) (ρ.set i (.own xs)) G H := by
  have hlt : ∀ {s : Sl}, (ρ.set i (.own xs))[i]? = some s → i < ρ.length := fun {s} e => by
    have := (List.getElem?_eq_some_iff.mp e).1
    rwa [List.length_set] at this
  refine ⟨R.nx, by rw [List.length_set, List.length_set]; exact R.len, fun j d' e => ?_, fun j zs e => ?_, fun q hq => ⟨fun e => by rw [List.getElem?_set_ne (Ne.symm (hz q hq))]; exact (R.x_other (Same.refl G) (hz q hq) hq).1 e, (R.x_other (Same.refl G) (hz q hq) hq).2⟩, fun j k ys zs q a b c d' => ?_⟩
  · have hj : i ≠ j := fun z => by
      subst z
      rw [List.getElem?_set_self (hlt e)] at e
      cases e
    rw [List.getElem?_set_ne hj] at e ⊢
    exact R.val j d' e
  · by_cases hj : i = j
    · subst hj
      have hi := hlt e
      rw [List.getElem?_set_self hi] at e
      cases e
      exact ⟨p, vs, List.getElem?_set_self (by rw [← R.len]; exact hi), h1, h2, h3, h4⟩
    · rw [List.getElem?_set_ne hj] at e ⊢
      exact R.own j zs e
  · by_cases hj : i = j
    · subst hj
      have hi := hlt a
      rw [List.getElem?_set_self (by rw [← R.len]; exact hi)] at c
      cases c
      by_cases hk : i = k
      · exact hk
      · rw [List.getElem?_set_ne hk] at b d'
        exact absurd d' (hn k zs b)
    · rw [List.getElem?_set_ne hj] at a c
      by_cases hk : i = k
      · subst hk
        have hi := hlt b
        rw [List.getElem?_set_self (by rw [← R.len]; exact hi)] at d'
        cases d'
        exact absurd c (hn j ys a)
      · rw [List.getElem?_set_ne hk] at b d'
        exact R.apart j k ys zs q a b c d'
/-- an own list grows (or changes) -/
theorem RepS.grow (R : RepS K z G0 H0 σ ρ G H) {i : Nat} {xs ys : D} {p : Addr} {ws : HO} (e : ρ[i]? = some (.own xs)) (hp : σ[i]? = some (some (.ref p))) (a : OwnO K G p ws ys) :
    RepS K z G0 H0 σ (ρ.set i (.own ys)) G (upd H p ws) := by
  obtain ⟨p', vs, h1, h2, h3, h4, h5⟩ := R.own i xs e
  rw [hp] at h1
  cases h1
  have hi : i < ρ.length := (List.getElem?_eq_some_iff.mp e).1
  refine ⟨⟨R.nx.g, fun b u q => ?_, fun b u q => ?_, R.nx.n⟩, by rw [List.length_set]; exact R.len, fun j d q => ?_, fun j zs q => ?_, fun q hq => R.x_other (Same.refl G) (fun t => (R.x q hq).2.1 xs (t ▸ e)) hq, fun j k zs us q c1 c2 c3 c4 => ?_⟩
  · have : b ≠ p := fun z => by rw [z, h3] at q; cases q
    rw [upd_ne this]
    exact R.nx.s b u q
  · have : b ≠ p := fun z => by rw [z, h4] at q; cases q
    rw [upd_ne this]
    exact R.nx.h b u q
  · have hj : i ≠ j := fun z => by
      subst z
      rw [List.getElem?_set_self hi] at q
      cases q
    rw [List.getElem?_set_ne hj] at q
    exact R.val j d q
  · by_cases hj : i = j
    · subst hj
      rw [List.getElem?_set_self hi] at q
      cases q
      exact ⟨p, ws, hp, upd_same, h3, h4, a⟩
    · rw [List.getElem?_set_ne hj] at q
      obtain ⟨p', vs', a1, a2, a3, a4, a5⟩ := R.own j zs q
      have : p' ≠ p := fun z => by subst z; exact hj (R.apart i j xs zs p' e q hp a1)
      exact ⟨p', vs', a1, by rw [upd_ne this]; exact a2, a3, a4, a5⟩
  · have w : ∀ {m : Nat} {ts : D}, (ρ.set i (.own ys))[m]? = some (.own ts) → ∃ ts', ρ[m]? = some (.own ts') := fun {m ts} q' => by
      by_cases hm : i = m
      · subst hm; exact ⟨xs, e⟩
      · rw [List.getElem?_set_ne hm] at q'; exact ⟨ts, q'⟩
    obtain ⟨_, c1⟩ := w c1
    obtain ⟨_, c2⟩ := w c2
    exact R.apart j k _ _ q c1 c2 c3 c4
/-- a narrower base -/
theorem RepS.base {G1 : Hp} (R : RepS K z G1 H0 σ ρ G H) {H1 : Hp} (x : Nx G0 H0 G1 H1) : RepS K z G0 H0 σ ρ G H :=
  ⟨⟨x.g.trans R.nx.g, R.nx.s, R.nx.h, fun a e n => R.nx.n a (x.n a e n) n⟩, R.len, R.val, R.own, R.x, R.apart⟩
/-- a broader one -/
theorem RepS.rebase (R : RepS K z G0 H0 σ ρ G H) : RepS K z G H0 σ ρ G H :=
  ⟨⟨Same.refl G, R.nx.s, R.nx.h, fun a e _ => e⟩, R.len, R.val, R.own, R.x, R.apart⟩
/-- a name is let go, or holds what is no data -/
theorem RepS.unset (R : RepS K z G0 H0 σ ρ G H) (i : Nat) (o : Option V) : RepS K none G0 H0 (List.set σ i o) (ρ.set i .un) G H := by
  have ot : ∀ {m : Nat} {s : Sl}, (ρ.set i .un)[m]? = some s → s ≠ .un → i ≠ m := fun {m s} e hs t => by
    subst t
    have hi : i < ρ.length := by
      have := (List.getElem?_eq_some_iff.mp e).1
      rwa [List.length_set] at this
    rw [List.getElem?_set_self hi] at e
    exact hs (Option.some.inj e).symm
  refine ⟨R.nx, by rw [List.length_set, List.length_set]; exact R.len, fun j d e => ?_, fun j xs e => ?_, (fun q hq => by cases hq), fun j k xs ys p a b c d => ?_⟩
  · have h := ot e (by simp)
    rw [List.getElem?_set_ne h] at e ⊢
    exact R.val j d e
  · have h := ot e (by simp)
    rw [List.getElem?_set_ne h] at e ⊢
    exact R.own j xs e
  · have h1 := ot a (by simp)
    have h2 := ot b (by simp)
    rw [List.getElem?_set_ne h1] at a c
    rw [List.getElem?_set_ne h2] at b d
    exact R.apart j k xs ys p a b c d
/-- more is told -/
theorem RepS.tell (R : RepS K z G0 H0 σ ρ G H) {dx : Addr} {o : HO} (h1 : H dx = some o) (h2 : G dx = none) (h3 : H0 dx = none) (h4 : ¬ Mut (some o)) : RepS K z G0 H0 σ ρ (upd G dx o) H := by
  have sG : Same G (upd G dx o) := same_upd h2
  refine ⟨⟨R.nx.g.trans sG, fun b u e => ?_, R.nx.h, fun b e n => ?_⟩, R.len, fun j d e => ?_, fun j xs e => ?_, fun q hq => ⟨(R.x q hq).1, (R.x q hq).2.1, (R.x q hq).2.2.mono sG⟩, R.apart⟩
  · by_cases hb : b = dx
    · subst hb; rw [upd_same] at e; rw [h1, e]
    · rw [upd_ne hb] at e; exact R.nx.s b u e
  · have hb : b ≠ dx := fun t => by rw [t] at n; exact n h3
    rw [upd_ne hb]
    exact R.nx.n b e n
  · obtain ⟨v, a, b⟩ := R.val j d e
    exact ⟨v, a, dp_same sG _ _ b⟩
  · obtain ⟨p, vs, a1, a2, a3, a4, a5⟩ := R.own j xs e
    have hb : p ≠ dx := fun t => by
      rw [t, h1] at a2
      exact h4 (Option.some.inj a2 ▸ a5.mut)
    exact ⟨p, vs, a1, a2, by rw [upd_ne hb]; exact a3, a4, a5.mono sG⟩
/-- a suite is entered -/
theorem RepS.enter (R : RepS K z G0 H0 σ ρ G H) {i : Nat} {a dx : Addr} {ps : List (Str × V)} {e : Err} (h1 : H dx = some (.xd ps)) (h2 : G dx = none) (h3 : H0 dx = none) (h4 : XdL K G ps e) :
    RepS K (some ⟨i, a, dx, e⟩) G0 H0 (List.set σ i (some (.ref a))) (ρ.set i .un) (upd G dx (.xd ps)) H := by
  have R2 := (R.unset i (some (.ref a))).tell h1 h2 h3 (fun t => t)
  refine ⟨R2.nx, R2.len, R2.val, R2.own, fun q hq => ?_, R2.apart⟩
  cases hq
  have lt : ∀ {s : Sl}, (ρ.set i .un)[i]? = some s → i < ρ.length := fun {s} e => by
    have := (List.getElem?_eq_some_iff.mp e).1
    rwa [List.length_set] at this
  refine ⟨fun e => ?_, fun xs e => ?_, ps, upd_same, h4.mono (same_upd h2)⟩
  · have hi := lt e
    exact List.getElem?_set_self (by rw [← R.len]; exact hi)
  · have hi := lt e
    rw [List.getElem?_set_self hi] at e
    cases e
end
end Pe

set_option Elab.async false
set_option linter.all false
set_option maxRecDepth 100000
set_option maxHeartbeats 8000000
/-! Pe12: statements as data; how they are carried out; how they are read off a text. -/
namespace Pe
open PySem L2
/-- the body of a try: one statement, or one of two -/
inductive Tb where
  | set (i : Nat) (x : Ex) (m : List Nat)
  | dro (x : Ex) (m : List Nat)
  | ret (x : Ex) (m : List Nat)
  | ife (c : Ex) (a b : Tb)
inductive Sm where
  | set (i : Nat) (x : Ex) (k : Bool) (m : List Nat)
  | new (i : Nat) (x : Ex) (k : Bool) (m : List Nat)
  | newD (i : Nat)
  | ext (i : Nat) (x : Ex) (k : Bool) (m : List Nat)
  | sto (i : Nat) (y x : Ex) (k : Bool) (m : List Nat)
  | popA (j i : Nat) (y : Ex)
  | unp (is : List Nat) (x : Ex) (k : Bool) (m : List Nat)
  | app (i : Nat) (x : Ex) (k : Bool) (m : List Nat)
  | aug (i : Nat) (op : Operator) (x : Ex)
  | dro (x : Ex)
  | ret (x : Ex) (m : List Nat)
  | retL (x : Ex) (m : List Nat)
  | retN
  | ife (c : Ex) (a b : Sm)
  | for_ (tg : Sum Nat (List Nat)) (it : Ex) (m : List Nat) (body : Sm)
  | forR (tg : Sum Nat (List Nat)) (a b : Ex) (body : Sm)
  | whl (c : Ex) (body : Sm)
  | brk
  | cnt
  | pass
  | never
  | seq (a b : Sm)
  | retT (i : Nat) (tb : List (Str × Str)) (k as : Ex) (m : List Nat)
  | rais (c : Str) (inf : ErI) (as : Ex) (m : List Nat)
  | try_ (b : Tb) (i : Nat) (c : Str) (h : Sm)
inductive Out where
  | nx (ρ : List Sl)
  | rt (d : D)
  | rtL (ds : List D)
  | bk (ρ : List Sl)
  | ct (ρ : List Sl)
/-- a value: k: the own lists may go on growing (so no list may be in it); else those of m stop -/
def evK (F : Str → List D → Res D) (ρ : List Sl) (x : Ex) (k : Bool) (m : List Nat) : Res (D × List Sl) := match k with
  | true => (evE F (vw ρ) x).bind fun d => if noL d = true then .ok (d, ρ) else .no
  | false => (evE F (vwN (frz m ρ)) x).bind fun d => .ok (d, frz m ρ)
/-- a new list of one's own -/
def evN (F : Str → List D → Res D) (ρ : List Sl) (x : Ex) (k : Bool) (m : List Nat) : Res (List D × List Sl) := match k with
  | true => (evE F (vw ρ) x).bind fun y => listR y fun r => if noLAll r = true then .ok (r, ρ) else .no
  | false => (evE F (vwN (frz m ρ)) x).bind fun y => listR y fun r => .ok (r, frz m ρ)
/-- an own thing, stored to -/
def stoO (o y d : D) : Option D := match o with
  | .list xs => (match y with
    | .int j => (ixN xs.length j).map fun n => .list (xs.set n d)
    | _ => none)
  | .dict kvs => if dkOk kvs y = true ∧ kvs.length < sizeLine then some (.dict (dput kvs y d)) else none
  | _ => none
/-- what is popped, what is left -/
def popO (o y : D) : Option (D × D) := match o, y with
  | .list xs, .int j => if near j = true then (match ixN xs.length j with
    | some n => (xs[n]?).map fun d => (d, .list (xs.eraseIdx n))
    | none => none) else none
  | _, _ => none
def setAllS (ρ : List Sl) : List Nat → List D → Option (List Sl)
  | [], [] => some ρ
  | i :: is, d :: ds => setAllS (ρ.set i (.val d)) is ds
  | _, _ => none
def setS (ρ : List Sl) (tg : Sum Nat (List Nat)) (d : D) : Option (List Sl) := match tg with
  | .inl i => some (ρ.set i (.val d))
  | .inr is => match d with
    | .tuple ds => setAllS ρ is ds
    | _ => none
def forL (g : List Sl → D → Res Out) : List Sl → List D → Res Out
  | ρ, [] => .ok (.nx ρ)
  | ρ, d :: ds => (g ρ d).bind fun o => match o with
    | .nx ρ' => forL g ρ' ds
    | .ct ρ' => forL g ρ' ds
    | .bk ρ' => .ok (.nx ρ')
    | .rt d => .ok (.rt d)
    | .rtL d => .ok (.rtL d)
def whlL (c : List Sl → Res Bool) (g : List Sl → Res Out) : Nat → List Sl → Res Out
  | 0, _ => .no
  | w + 1, ρ => (c ρ).bind fun b => if b = true then (g ρ).bind fun o => (match o with
    | .nx ρ' => whlL c g w ρ'
    | .ct ρ' => whlL c g w ρ'
    | .bk ρ' => .ok (.nx ρ')
    | .rt d => .ok (.rt d)
    | .rtL d => .ok (.rtL d)) else .ok (.nx ρ)
def tst (F : Str → List D → Res D) (ρ : List Sl) (c : Ex) : Res Bool := (evE F (vw ρ) c).bind fun d => .ofO (truD d)
def augD (op : Operator) (x y : D) : Option D := match op, x, y with
  | .Add, .int i, .int j => some (.int (i + j))
  | .Sub, .int i, .int j => some (.int (i - j))
  | .Add, .str i, .str j => if i.length + j.length ≤ sizeLine then some (.str (i ++ j)) else none
  | _, _, _ => none
/-- a try's body's end -/
inductive TR where
  | out (o : Out)
  | exc (e : Err) (ρ : List Sl)
  | no
def evT (F : Str → List D → Res D) (ρ : List Sl) : Tb → TR
  | .set i x m => match evE F (vwN (frz m ρ)) x with
    | .ok d => .out (.nx ((frz m ρ).set i (.val d)))
    | .err e => .exc e (frz m ρ)
    | .no => .no
  | .dro x m => match evE F (vwN (frz m ρ)) x with
    | .ok _ => .out (.nx (frz m ρ))
    | .err e => .exc e (frz m ρ)
    | .no => .no
  | .ret x m => match evE F (vwN (frz m ρ)) x with
    | .ok d => .out (.rt d)
    | .err e => .exc e (frz m ρ)
    | .no => .no
  | .ife c a b => match tst F ρ c with
    | .ok k => if k = true then evT F ρ a else evT F ρ b
    | _ => .no
/-- what an except suite may ask of its exception -/
def Fx (e : Err) (F : Str → List D → Res D) : Str → List D → Res D := fun g ds =>
  if g = "<is>" then .ok (.bool (ds.any fun d => match d with
    | .str c => e.ups.contains c
    | _ => false))
  else if g = "<at>" then (match ds with
    | [.str f] => .ofO ((e.fs.zip e.args).lookup f)
    | _ => .no)
  else F g ds
def Out.drop (i : Nat) : Out → Out
  | .nx ρ => .nx (ρ.set i .un)
  | .bk ρ => .bk (ρ.set i .un)
  | .ct ρ => .ct (ρ.set i .un)
  | .rt d => .rt d
  | .rtL d => .rtL d
def evS : (Str → List D → Res D) → Nat → List Sl → Sm → Res Out
  | F, w, ρ, .set i x k m => (evK F ρ x k m).bind fun a => .ok (.nx (a.2.set i (.val a.1)))
  | F, w, ρ, .new i x k m => (evN F ρ x k m).bind fun a => .ok (.nx (a.2.set i (.own (.list a.1))))
  | F, w, ρ, .newD i => .ok (.nx (ρ.set i (.own (.dict []))))
  | F, w, ρ, .unp is x k m => (evK F ρ x k m).bind fun a => (Res.ofO (setS a.2 (.inr is) a.1)).bind fun ρ' => .ok (.nx ρ')
  | F, w, ρ, .app i x k m => match ρ[i]? with
    | some (.own (.list _)) => (evK F ρ x k m).bind fun a => (match a.2[i]? with
      | some (.own (.list xs)) => if xs.length < sizeLine then .ok (.nx (a.2.set i (.own (.list (xs ++ [a.1]))))) else .no
      | _ => .no)
    | _ => .no
  | F, w, ρ, .ext i x k m => match ρ[i]? with
    | some (.own (.list _)) => (evN F ρ x k m).bind fun a => (match a.2[i]? with
      | some (.own (.list xs)) => if xs.length + a.1.length ≤ sizeLine then .ok (.nx (a.2.set i (.own (.list (xs ++ a.1))))) else .no
      | _ => .no)
    | _ => .no
  | F, w, ρ, .sto i y x k m => (evK F ρ x k m).bind fun a => (match a.2[i]? with
      | some (.own o) => (evE F (vw a.2) y).bind fun e => if noL e = true then (Res.ofO (stoO o e a.1)).bind fun r => .ok (.nx (a.2.set i (.own r))) else .no
      | _ => .no)
  | F, w, ρ, .popA j i y => (match ρ[i]? with
      | some (.own (.list xs)) => (evE F (vw ρ) y).bind fun e => (Res.ofO (popO (.list xs) e)).bind fun r => .ok (.nx ((ρ.set i (.own r.2)).set j (.val r.1)))
      | _ => .no)
  | F, w, ρ, .aug i op x => match ρ[i]? with
    | some (.val d) => (evE F (vw ρ) x).bind fun e => (Res.ofO (augD op d e)).bind fun r => .ok (.nx (ρ.set i (.val r)))
    | _ => .no
  | F, w, ρ, .dro x => (evE F (vw ρ) x).bind fun _ => .ok (.nx ρ)
  | F, w, ρ, .ret x m => (evE F (vwN (frz m ρ)) x).bind fun d => .ok (.rt d)
  | F, w, ρ, .retL x m => (evN F ρ x false m).bind fun a => .ok (.rtL a.1)
  | F, w, _, .retN => .ok (.rt .none)
  | F, w, ρ, .ife c a b => (tst F ρ c).bind fun k => if k = true then evS F w ρ a else evS F w ρ b
  | F, w, ρ, .for_ tg it m body => (evE F (vwN (frz m ρ)) it).bind fun y => listR y fun ds => forL (fun ρ d => match setS ρ tg d with
      | some ρ' => evS F w ρ' body
      | none => .no) (frz m ρ) ds
  | F, w, ρ, .forR tg a b body => (evE F (vw ρ) (.rng a b)).bind fun y => listR y fun ds => forL (fun ρ d => match setS ρ tg d with
      | some ρ' => evS F w ρ' body
      | none => .no) ρ ds
  | F, w, ρ, .whl c body => whlL (fun ρ => tst F ρ c) (fun ρ => evS F w ρ body) w ρ
  | F, w, ρ, .brk => .ok (.bk ρ)
  | F, w, ρ, .cnt => .ok (.ct ρ)
  | F, w, ρ, .pass => .ok (.nx ρ)
  | F, w, _, .never => .no
  | F, w, ρ, .seq a b => (evS F w ρ a).bind fun o => match o with
    | .nx ρ' => evS F w ρ' b
    | .rt d => .ok (.rt d)
    | .rtL d => .ok (.rtL d)
    | .bk ρ' => .ok (.bk ρ')
    | .ct ρ' => .ok (.ct ρ')
  | F, w, ρ, .retT i tb k as m => (evE F (vwN (frz m ρ)) k).bind fun d => match d with
    | .str y => (match tb.lookup y with
      | some g => if i < (frz m ρ).length then (evE F (vwN ((frz m ρ).set i .un)) as).bind fun v => listR v fun ds => (F g ds).bind fun r => .ok (.rt r) else .no
      | none => .no)
    | _ => .no
  | F, w, ρ, .rais c inf as m => (evE F (vwN (frz m ρ)) as).bind fun v => listR v fun ds => .err ⟨c, inf.fs, inf.ups, ds⟩
  | F, w, ρ, .try_ b i c h => match evT F ρ b with
    | .out o => .ok o
    | .exc e ρ' => if e.ups.contains c = true then (evS (Fx e F) w (ρ'.set i .un) h).noErr.bind fun o => .ok (o.drop i) else .err e
    | .no => .no

/-! ### from the text -/
def vars : Ex → List Nat
  | .var i => [i]
  | .bin _ a b => vars a ++ vars b
  | .neg a => vars a
  | .cmp _ a b => vars a ++ vars b
  | .chn _ _ a b c => vars a ++ vars b ++ vars c
  | .and a b => vars a ++ vars b
  | .or a b => vars a ++ vars b
  | .not a => vars a
  | .ite c a b => vars c ++ vars a ++ vars b
  | .acons a r => vars a ++ vars r
  | .tup a => vars a
  | .lst a => vars a
  | .idx a b => vars a ++ vars b
  | .slc a l h => vars a ++ vars l ++ vars h
  | .call _ a => vars a
  | .bf _ a => vars a
  | .isi a _ => vars a
  | .isis a _ => vars a
  | .join a b => vars a ++ vars b
  | .seq a => vars a
  | .rng a b => vars a ++ vars b
  | .zip a b => vars a ++ vars b
  | .enu a => vars a
  | .seqD i => [i]
  | .comp2 e i j _ _ _ _ => vars e ++ vars i ++ vars j
  | .dsp a => vars a
  | .dcomp k v i c _ _ => vars k ++ vars v ++ vars i ++ vars c
  | .comp e i c _ _ => vars e ++ vars i ++ vars c
  | .inT a _ => vars a
  | .atT a _ => vars a
  | .rev a => vars a
  | .atr a _ _ => vars a
  | .meth a _ _ as => vars a ++ vars as
  | _ => []
/-- a list that is made new -/
def isNewE : Expr → Bool
  | .List _ _ => true
  | .ListComp _ _ _ _ => true
  | .Call (.Name x _) [_] [] _ => decide (x = "list") || decide (x = "sorted")
  | _ => false
def isNewX : Ex → Bool
  | .lst _ => true
  | .comp _ _ _ _ _ => true
  | .bf .list _ => true
  | .bf .sorted _ => true
  | _ => false
def isNew2 : Expr → Bool
  | .BinOp _ .Add _ _ => true
  | .BinOp _ .Mult _ _ => true
  | _ => false
def notTup : Expr → Bool
  | .Tuple _ _ _ => false
  | _ => true
def notComp : Expr → Bool
  | .ListComp _ _ _ _ => false
  | .SetComp _ _ _ _ => false
  | .DictComp _ _ _ _ _ => false
  | _ => true
/-- what is made new -/
def freshOk (e : Expr) (x : Ex) : Bool := (isNewE e && isNewX x) || isNew2 e
/-- the names whose things a statement's body changes -/
def appsOf (N : List Str) : Nat → List Stmt → List Nat
  | 0, _ => []
  | n + 1, sts => sts.flatMap fun st => match st with
    | .Expr (.Call (.Attribute (.Name x _) _ _) _ _ _) _ => (ixOf x N 0).toList
    | .Assign [.Subscript (.Name x _) _ _] _ _ => (ixOf x N 0).toList
    | .Assign _ (.Call (.Attribute (.Name x _) m _) _ _ _) _ => if m = "pop" then (ixOf x N 0).toList else []
    | .If _ a b _ => appsOf N n a ++ appsOf N n b
    | .For _ _ b _ _ => appsOf N n b
    | .While _ b _ _ => appsOf N n b
    | .Try a hs _ _ _ => appsOf N n a ++ hs.flatMap fun h => match h with
      | .ExceptHandler _ _ b _ => appsOf N n b
    | _ => []
/-- the names that may hold a list of their own -/
def ownsOf (N : List Str) : Nat → List Stmt → List Nat
  | 0, _ => []
  | n + 1, sts => sts.flatMap fun st => match st with
    | .Assign [.Name x _] e _ => if isNewE e = true then (ixOf x N 0).toList else []
    | .If _ a b _ => ownsOf N n a ++ ownsOf N n b
    | .For _ _ b _ _ => ownsOf N n b
    | .While _ b _ _ => ownsOf N n b
    | .Try a hs _ _ _ => ownsOf N n a ++ hs.flatMap fun h => match h with
      | .ExceptHandler _ _ b _ => ownsOf N n b
    | _ => []
def inter (xs ys : List Nat) : List Nat := xs.filter fun x => ys.contains x
def cB (mu : List Stmt → List Nat) (f : List Nat → Stmt → Option Sm) (g : Stmt → Stmt → Option Sm) (la : List Nat) : List Stmt → Option Sm
  | [] => some .pass
  | [s] => f la s
  | s :: t :: ss => match (if ss.isEmpty = true then g s t else none) with
    | some S => some S
    | none => match f (mu (t :: ss) ++ la) s, cB mu f g la (t :: ss) with
      | some a, some b => some (.seq a b)
      | _, _ => none
/-- x = TABLE[k]; return x(..) -/
def cPair (N : List Str) (nm : List (Str × NameKind)) (T : Tbl) (f : Expr → Option Ex) (ap : List Nat) : Stmt → Stmt → Option Sm
  | .Assign [.Name x _] (.Subscript (.Name t _) k _) _, .Return (some (.Call (.Name x' _) as [] _)) _ =>
    if T.hot = false ∧ glB nm t = true ∧ t ≠ "__debug__" ∧ x' = x ∧ locB nm x = true ∧ visB nm x = true ∧ x ≠ "__debug__" ∧ x ≠ "__classdict__" ∧ notSlice k = true ∧ as ≠ [] then
      (match T.ftabs.lookup t, ixOf x N 0, f k, cArgs f as with
      | some tb, some i, some k', some as' => if tb.all (fun p => T.fns.lookup p.2 == some as.length) = true then some (.retT i tb k' as' (inter (vars k' ++ vars as') ap)) else none
      | _, _, _, _ => none) else none
  | _, _ => none
def isDoc : Expr → Bool
  | .Constant (.str _) _ _ => true
  | _ => false
/-- a try's body -/
def cT (N : List Str) (nm : List (Str × NameKind)) (f : Expr → Option Ex) (ap : List Nat) : Nat → List Stmt → Option Tb
  | 0, _ => none
  | k + 1, ss => match ss with
    | [.Assign [.Name y _] e _] => if locB nm y = true ∧ notComp e = true then (match ixOf y N 0, f e with
      | some i, some x => some (.set i x (inter (vars x) ap))
      | _, _ => none) else none
    | [.Expr e _] => if notComp e = true ∧ isDoc e = false then (f e).map fun x => .dro x (inter (vars x) ap) else none
    | [.Return (some e) _] => (f e).map fun x => .ret x (inter (vars x) ap)
    | [.If c a b _] => if testOk c = true then (match f c, cT N nm f ap k a, cT N nm f ap k b with
      | some c', some a', some b' => some (.ife c' a' b')
      | _, _, _ => none) else none
    | _ => none
/-- a def's new list -/
def newF (nm : List (Str × NameKind)) (fr : List Str) (e : Expr) (x : Ex) : Bool := match e, x with
  | .Call (.Name y _) (_ :: _) [] _, .call y' _ => glB nm y && decide (y = y') && decide (y ≠ "__debug__") && fr.contains y
  | _, _ => false
def newX : Ex → Ex
  | .call y x => .call "<new>" (.acons (.cst (.str y)) x)
  | x => x
def isLst : Expr → Bool
  | .List _ _ => true
  | _ => false
def cAsg (N : List Str) (nm : List (Str × NameKind)) (fr : List Str) (hot : Bool) (ap ow la : List Nat) (e : Expr) (x : Ex) (tg : Expr) : Option Sm := match tg with
  | .Name y _ => if locB nm y = true then (match ixOf y N 0 with
      | some i => if (isNewE e = true ∧ isNewX x = true ∧ (ap.contains i = true ∨ (hot = false ∧ ((inter (vars x) la).any fun _ => true) = true))) ∨ (isNew2 e = true ∧ ap.contains i = true) then some (.new i x ((inter (vars x) la).any fun _ => true) (inter (vars x) ow))
        else if newF nm fr e x = true ∧ ap.contains i = true then some (.new i (newX x) ((inter (vars x) la).any fun _ => true) (inter (vars x) ow))
        else some (.set i x ((inter (vars x) la).any fun _ => true) (inter (vars x) ow))
      | none => none) else none
  | .Tuple es _ _ => if notTup e = true ∧ hot = false then (match cTgs N nm es with
      | some is => some (.unp is x ((inter (vars x) la).any fun _ => true) (inter (vars x) ow))
      | none => none) else none
  | _ => none
def cExpr (N : List Str) (nm : List (Str × NameKind)) (f : Expr → Option Ex) (ow la : List Nat) (e : Expr) : Option Sm := match e with
  | .Call (.Attribute (.Name y _) m apos) [a] [] cp => if m = "extend" ∧ (apos.endLine == cp.line) = true ∧ visB nm y = true ∧ y ≠ "__debug__" ∧ y ≠ "__classdict__" then (match ixOf y N 0, f a with
      | some i, some x => some (.ext i x ((inter (vars x) (i :: la)).any fun _ => true) (inter (vars x) ow))
      | _, _ => none) else if m = "append" ∧ (apos.endLine == cp.line) = true ∧ visB nm y = true ∧ y ≠ "__debug__" ∧ y ≠ "__classdict__" then (match ixOf y N 0, f a with
      | some i, some x => some (.app i x ((inter (vars x) (i :: la)).any fun _ => true) (inter (vars x) ow))
      | _, _ => none) else none
  | .Constant (.str _) _ _ => some .pass
  | e => if notComp e = true then (f e).map .dro else none
def cRaise (nm : List (Str × NameKind)) (T : Tbl) (f : Expr → Option Ex) (ap : List Nat) : Expr → Option Sm
  | .Call (.Name c _) as [] _ => if glB nm c = true ∧ c ≠ "__debug__" ∧ as ≠ [] ∧ T.hot = false then (match T.ers.lookup c, cArgs f as with
    | some inf, some x => if as.length = inf.fs.length then some (.rais c inf x (inter (vars x) ap)) else none
    | _, _ => none) else none
  | _ => none
def isRng : Ex → Option (Ex × Ex)
  | .rng a b => some (a, b)
  | _ => none
/-- y = x.pop(e) -/
def cPop (N : List Str) (nm : List (Str × NameKind)) (f : Expr → Option Ex) (i : Nat) : Expr → Option Sm
  | .Call (.Attribute (.Name o _) m apos) [a] [] cp => if m = "pop" ∧ (apos.endLine == cp.line) = true ∧ visB nm o = true ∧ o ≠ "__debug__" ∧ o ≠ "__classdict__" then (match ixOf o N 0, f a with
    | some j, some y => some (.popA i j y)
    | _, _ => none) else none
  | _ => none
def cAs (N : List Str) (nm : List (Str × NameKind)) (fr : List Str) (hot : Bool) (f : Expr → Option Ex) (ap ow la : List Nat) (e tg : Expr) : Option Sm := match tg with
  | .Subscript (.Name y _) ix _ => if hot = false ∧ visB nm y = true ∧ y ≠ "__debug__" ∧ y ≠ "__classdict__" ∧ notSlice ix = true ∧ notComp e = true then (match ixOf y N 0, f ix, f e with
    | some i, some y', some x => some (.sto i y' x ((inter (vars x) (i :: la)).any fun _ => true) (inter (vars x) ow))
    | _, _, _ => none) else none
  | .Name y p => (match e with
    | .Dict [] [] _ => if locB nm y = true ∧ hot = false then (ixOf y N 0).map .newD else none
    | e => match (if locB nm y = true ∧ hot = false then (match ixOf y N 0 with
        | some i => cPop N nm f i e
        | none => none) else none) with
      | some S => some S
      | none => match f e with
        | some x => cAsg N nm fr hot ap ow la e x (.Name y p)
        | none => none)
  | tg => (match f e with
    | some x => cAsg N nm fr hot ap ow la e x tg
    | none => none)
def cS (N : List Str) (n : Nat) (sc : Scope) (ap ow : List Nat) : Nat → Tbl → List Nat → Stmt → Option Sm
  | 0, _, _, _ => none
  | k + 1, T, la, st => match st with
    | .Assign [tg] e _ => cAs N sc.names T.frs T.hot (cE N T n sc) ap ow la e tg
    | .AugAssign (.Name y _) op e _ => if locB sc.names y = true then (match ixOf y N 0, cE N T n sc e with
      | some i, some x => some (.aug i op x)
      | _, _ => none) else none
    | .Expr e _ => cExpr N sc.names (cE N T n sc) ow la e
    | .Return (some e) _ => (cE N T n sc e).bind fun x => if isLst e = true then some (.retL x (inter (vars x) ow)) else some (.ret x (inter (vars x) ow))
    | .Return none _ => some .retN
    | .If c a b _ => if testOk c = true then (match cE N T n sc c, cB (appsOf N 20) (cS N n sc ap ow k T) (cPair N sc.names T (cE N T n sc) ow) la a, cB (appsOf N 20) (cS N n sc ap ow k T) (cPair N sc.names T (cE N T n sc) ow) la b with
      | some c', some a', some b' => some (.ife c' a' b')
      | _, _, _ => none) else none
    | .For tg it body [] _ => if notSet it = true ∧ T.hot = false then (match cIter sc.names T (cE N T n sc) tg it, cTg N sc.names tg, cB (appsOf N 20) (cS N n sc ap ow k T) (cPair N sc.names T (cE N T n sc) ow) (appsOf N 20 body ++ la) body with
      | some it', some tg', some b' => some (match (if ((inter (vars it') (appsOf N 20 body ++ la)).any fun _ => true) = true then isRng it' else none) with
        | some (a, b) => .forR tg' a b b'
        | none => .for_ tg' it' (inter (vars it') ow) b')
      | _, _, _ => none) else none
    | .While c body [] _ => if testOk c = true ∧ T.hot = false then (match cE N T n sc c, cB (appsOf N 20) (cS N n sc ap ow k T) (cPair N sc.names T (cE N T n sc) ow) (appsOf N 20 body ++ la) body with
      | some c', some b' => some (.whl c' b')
      | _, _ => none) else none
    | .Pass _ => some .pass
    | .Break _ => some .brk
    | .Continue _ => some .cnt
    | .Raise (some e) none _ => (match cRaise sc.names T (cE N T n sc) ow e with
      | some S => some S
      | none => some .never)
    | .Raise _ _ _ => some .never
    | .Try body [.ExceptHandler (some (.Name c _)) (some x) (b₀ :: bs) _] [] [] _ => if T.hot = false ∧ glB sc.names c = true ∧ c ≠ "__debug__" ∧ T.cls.contains c = true ∧ sc.names.lookup x = some .local then
      (match ixOf x N 0, cT N sc.names (cE N T n sc) ow 20 body, cB (appsOf N 20) (cS N n sc ap ow k { T with hot := true, xv := some x }) (cPair N sc.names { T with hot := true, xv := some x } (cE N { T with hot := true, xv := some x } n sc) ow) la (b₀ :: bs) with
      | some i, some b', some h' => if ap.contains i = false then some (.try_ b' i c h') else none
      | _, _, _ => none) else none
    | _ => none
end Pe

set_option Elab.async false
set_option linter.all false
set_option maxRecDepth 100000
set_option maxHeartbeats 8000000
/-! Ow: own lists and dicts, written to. -/
namespace Pe
open PySem PySem.Spec PyProof.Rows L2
section
variable {K : Fg} {G : Hp}
theorem dpa_set {v : V} {d : D} (r : Dq K G v d) : ∀ {vs : List V} {ds : List D} (n : Nat), DqAll K G vs ds → DqAll K G (vs.set n v) (ds.set n d)
  | _, _, _, .nil => .nil
  | _, _, 0, .cons _ t => .cons r t
  | _, _, n + 1, .cons q t => .cons q (dpa_set r n t)
theorem dpa_erase : ∀ {vs : List V} {ds : List D} (n : Nat), DqAll K G vs ds → DqAll K G (vs.eraseIdx n) (ds.eraseIdx n)
  | _, _, _, .nil => by simpa using DqAll.nil
  | _, _, 0, .cons _ t => by simpa using t
  | _, _, n + 1, .cons q t => by simpa using DqAll.cons q (dpa_erase n t)
theorem dput_ne (ds : List (D × D)) (k d : D) : dput ds k d ≠ [] := by
  unfold dput
  split
  · rename_i h
    intro z
    rw [List.map_eq_nil_iff] at z
    subst z
    cases h
  · simp
def entPut (ent : List (List Key × Addr × V)) (ks : List Key) (b : Addr) (v : V) : List (List Key × Addr × V) := if (entV ent ks).isSome = true then ent.map fun e => if e.1 = ks then (e.1, e.2.1, v) else e else ent ++ [(ks, b, v)]
theorem dtv_any (ks : List Key) : ∀ {ent : List (List Key × Addr × V)} {ds : List (D × D)}, DqTv K G ent ds → (entV ent ks).isSome = ds.any fun kv => PyData.eqv kv.1 (ksD ks)
  | _, _, .nil => rfl
  | _, _, .cons (ks := j) (ent := ent) _ _ t => by
    have ih := dtv_any ks t
    unfold entV at ih ⊢
    rw [List.any_cons, ← ih, eqv_ks]
    by_cases e : j = ks
    · rw [List.find?_cons_of_pos (by simp [e])]; simp [e]
    · rw [List.find?_cons_of_neg (by simp [e])]; simp [e]
theorem dtv_map (ks : List Key) {v : V} {d : D} (r : Dq K G v d) : ∀ {ent : List (List Key × Addr × V)} {ds : List (D × D)}, DqTv K G ent ds → DqTv K G (ent.map fun e => if e.1 = ks then (e.1, e.2.1, v) else e) (ds.map fun kv => if PyData.eqv kv.1 (ksD ks) = true then (kv.1, d) else kv)
  | _, _, .nil => .nil
  | _, _, .cons (ks := j) (v := v') p q t => by
    rw [List.map_cons, List.map_cons]
    by_cases e : j = ks
    · subst e
      rw [if_pos rfl, if_pos (by rw [eqv_ks]; simp)]
      exact .cons p r (dtv_map j r t)
    · rw [if_neg e, if_neg (by rw [eqv_ks]; simp [e])]
      exact .cons p q (dtv_map ks r t)
theorem dtv_snoc {ks : List Key} {b : Addr} {v : V} {d : D} (p : SqT K G b (ks.map kV)) (r : Dq K G v d) : ∀ {ent : List (List Key × Addr × V)} {ds : List (D × D)}, DqTv K G ent ds → DqTv K G (ent ++ [(ks, b, v)]) (ds ++ [(ksD ks, d)])
  | _, _, .nil => .cons p r .nil
  | _, _, .cons p' q t => .cons p' q (dtv_snoc p r t)
theorem dtv_put {ks : List Key} {b : Addr} {v : V} {d : D} {ent : List (List Key × Addr × V)} {ds : List (D × D)} (q : DqTv K G ent ds) (p : SqT K G b (ks.map kV)) (r : Dq K G v d) : DqTv K G (entPut ent ks b v) (dput ds (ksD ks) d) := by
  unfold entPut dput
  rw [dtv_any ks q]
  split
  · exact dtv_map ks r q
  · exact dtv_snoc p r q
theorem entX_put {ent : List (List Key × Addr × V)} {xs : List (List Key × Addr × Value)} {ks : List Key} {b : Addr} {v : V} {u : Value} (r : EntX ent xs) (rv : RelV v u) : EntX (entPut ent ks b v) (storedH xs ks b u) := by
  have e := RelO.isSome_eq (entX_find (ks := ks) r)
  rw [Option.isSome_map] at e
  unfold entPut storedH
  rw [e]
  split
  · rename_i hh
    clear e hh
    induction r with
    | nil => exact .nil
    | @cons p q ps qs h t ih =>
      rw [List.map_cons, List.map_cons]
      refine .cons ?_ ih
      obtain ⟨h1, h2, h3⟩ := h
      unfold putAt
      by_cases e : p.1 = ks
      · rw [if_pos e, if_pos (h1.symm.trans e)]; exact ⟨h1, h2, rv⟩
      · rw [if_neg e, if_neg (fun z => e (h1.trans z))]; exact ⟨h1, h2, h3⟩
  · exact Paired.snoc r ⟨rfl, rfl, rv⟩
theorem entPut_len (ent : List (List Key × Addr × V)) (ks : List Key) (b : Addr) (v : V) : (entPut ent ks b v).length ≤ ent.length + 1 := by
  unfold entPut
  split
  · rw [List.length_map]; omega
  · rw [List.length_append, List.length_cons, List.length_nil]; omega
end
theorem DTo.stay {P : Program} {w : World} {a : Addr} {ent : List (List Key × Addr × V)} (h1 h2 : Heap) (x : DTo P w a ent h1) (k : ∀ o, h1.get? a = some o → h2.get? a = some o) : DTo P w a ent h2 := by
  obtain ⟨z, y, xs, r, o, es, ep, e, q⟩ := x
  exact ⟨z, y, xs, r, o, es, ep, k _ e, q⟩
section
variable {X : Cx} {pins : List (Addr × Obj)} {σ : L2.St} {H : Hp} {s : Shared}
theorem dt_obj {H' : Hp} {h' : Heap} {a : Addr} {ent : List (List Key × Addr × V)} {xs : List (List Key × Addr × Value)} (z : ent.length ≤ sizeLine) (y : (a == sysModules) = false) (r : EntX ent xs) (dd : h'.DictOfH (tupleKind (mixKind X.prog X.w)) a xs) : ObjOk X.prog X.w H' h' a (dtO X.kx a ent) := by
  obtain ⟨o, es, ep, h1, h2, h3, h4, _, h5⟩ := dd
  exact ⟨⟨z, y, xs, r, o, es, ep, h1, h2, h3, h4, h5⟩, ⟨o, h1⟩, fun g1 g2 x k => DTo.stay g1 g2 x k⟩
/-- a[k] = v, at a tuple -/
theorem dt_store {Q : Unit → Shared → Prop} {a b : Addr} {ent : List (List Key × Addr × V)} {xs : List (List Key × Addr × Value)} {ks : List Key} {v : V} {u : Value} (hu : X.A.units + 1 < cLine) (I : Inv X pins σ H s) (mu : Mut (H a)) (z : ent.length < sizeLine) (y : (a == sysModules) = false)
    (r : EntX ent xs) (dd : s.heap.DictOfH (tupleKind (mixKind X.prog X.w)) a xs) (sq : SqT X.kx H b (ks.map kV)) (rv : RelV v u) {E : Value → Shared → Prop} (h : ∀ s', Inv X pins σ (upd H a (dtO X.kx a (entPut ent ks b v))) s' → Q () s') :
    wpAny (model X.prog X.w) X.A (setItem (.ref a) (.ref b) u) Q E s := by
  have hz : xs.length ≤ sizeLine := by rw [← Paired.length r]; omega
  refine wpAny_setItem_heap (hsz := hz) (tupleKind_room_in1 hu) (key_sq I sq) dd fun h' dd' hs => h _ ?_
  have he : ∃ q, h'.get? a = some q := let ⟨q, _, _, hq, _⟩ := dd'; ⟨q, hq⟩
  exact d_write I mu hs he (dt_obj (by have := entPut_len ent ks b v; omega) y (entX_put r rv) dd')
theorem empty_H {a : Addr} {x : V} (I : Inv X pins σ H s) (e : H a = some (.dK [])) : (a == sysModules) = false ∧ s.heap.DictOfH (tupleKind (mixKind X.prog X.w)) a [] := by
  obtain ⟨a', xs, e1, y, dd, l1, l2⟩ := tup_look (ks := []) I (Same.refl H) (x := .ref a) (ds := []) (.dctK (Rd.of e) .nil) rfl
  cases e1
  cases xs with
  | nil => exact ⟨y, dd⟩
  | cons p r =>
    obtain ⟨z, y', vs, rr, o, es, ep, h1, h2, h3, _, h5, _⟩ := dk_rd I.hok (Rd.of e)
    cases rr
    obtain ⟨o', es', ep', g1, g2, g3, g4, _⟩ := dd
    rw [h1] at g1
    cases g1
    rw [h3] at g3
    cases g3
    rw [g4] at h5
    cases h5
/-- what is wanted of a store to an own thing -/
def tSto (K : Fg) : TSet := fun o i v H Q => ∃ G p ho d k e r, o = .ref p ∧ H p = some ho ∧ Same G H ∧ OwnO K G p ho d ∧ Dq K G i k ∧ Dq K G v e ∧ stoO d k e = some r ∧ ∀ ho', OwnO K G p ho' r → Q (upd H p ho')
theorem set_own (hu : X.A.units + 1 < cLine) : PSet X (tSto X.kx) := by
  rintro pins s σ H o i v ov iv u Q I ro ri rv ⟨G, p, ho, d, k, e, r, rfl, hp, sm, ow, hk, he, hr, q⟩
  cases ow with
  | lst a =>
    rename_i vs xs
    unfold stoO at hr
    cases hk with
    | int j =>
      have hr' : (ixN xs.length j).map (fun n => PyData.list (xs.set n e)) = some r := hr
      cases e1 : ixN xs.length j with
      | none => rw [e1] at hr'; cases hr'
      | some n =>
        rw [e1] at hr'
        cases hr'
        exact set_list pins s σ H _ _ v ov iv u Q I ro ri rv ⟨p, vs, j, n, rfl, rfl, hp, by rw [dpa_len a]; exact e1, q _ (.lst (dpa_set he n a))⟩
    | _ => cases hr
  | dK a =>
    rename_i kvs ds
    obtain ⟨⟨ok, hz⟩, rfl⟩ := of_ite_some (show (if dkOk ds k = true ∧ ds.length < sizeLine then some (PyData.dict (dput ds k e)) else none) = some r from hr)
    obtain ⟨o1, o2⟩ := dkOk_of ok
    obtain rfl : ov = Value.ref p := ro
    rcases keyOk_is o1 with ⟨key, rfl⟩ | ⟨ks, rfl⟩
    · rw [dq_key hk] at ri
      exact d_setItem hu I (DPut.k hp (by rw [dkv_len a]; exact hz)) ri rv fun s' I' => ⟨_, I', q _ (.dK (dkv_put a he))⟩
    · cases a with
      | cons _ _ =>
        have z := kind_head o2
        rw [isTupK_key, isTupK_ks] at z
        cases z
      | nil =>
        obtain ⟨b, rfl, sq⟩ := dq_ks hk
        obtain rfl : iv = Value.ref b := ri
        obtain ⟨y, dd⟩ := empty_H (x := .non) I hp
        exact dt_store (ent := []) hu I (by rw [hp]; trivial) (by rw [sizeLine_eq]; decide) y .nil dd (seqT_same sm sq) rv fun s' I' => ⟨_, I', q _ (.dT (dtv_put .nil sq he) (dput_ne _ _ _))⟩
  | dT a ne =>
    rename_i ent ds
    obtain ⟨⟨ok, hz⟩, rfl⟩ := of_ite_some (show (if dkOk ds k = true ∧ ds.length < sizeLine then some (PyData.dict (dput ds k e)) else none) = some r from hr)
    obtain ⟨o1, o2⟩ := dkOk_of ok
    obtain rfl : ov = Value.ref p := ro
    obtain ⟨z, y, xs, rx, dd⟩ := dt_ofH I (Rd.of hp) (dtv_same sm a)
    rcases keyOk_is o1 with ⟨key, rfl⟩ | ⟨ks, rfl⟩
    · cases a with
      | cons _ _ _ =>
        have z := kind_head o2
        rw [isTupK_key, isTupK_ks] at z
        cases z
      | nil => exact absurd rfl ne
    · obtain ⟨b, rfl, sq⟩ := dq_ks hk
      obtain rfl : iv = Value.ref b := ri
      exact dt_store hu I (by rw [hp]; trivial) (by rw [dtv_len a]; exact hz) y rx dd (seqT_same sm sq) rv fun s' I' => ⟨_, I', q _ (.dT (dtv_put a sq he) (dput_ne _ _ _))⟩
/-- x.extend(e), e any list that may be read -/
theorem mt_extendD : MtM X "list.extend" (fun x vs H Q => ∃ l b xs zs, x = .ref l ∧ vs = [.ref b] ∧ H l = some (.lst xs) ∧ LsQ X.K H b zs ∧ xs.length + zs.length ≤ sizeLine ∧ Q .non (upd H l (.lst (xs ++ zs)))) := by
  rintro pins s σ H x vs v us Q I rx rv ⟨l, b, xs, zs, rfl, rfl, hl, hb, hz, q⟩
  cases rx
  obtain ⟨u, rfl, ru⟩ := rv.one
  cases ru
  obtain ⟨_, as, n, ra, la, ea⟩ := I.lstM hl
  obtain ⟨bs, m, rb, lb, eb⟩ := LsQ.lstM I hb
  have sz : as.toArray.size + bs.toArray.size ≤ sizeLine := by simp only [List.size_toArray]; omega
  have nl : ¬ (!as.toArray.isEmpty && Builtin.List.listTooLong (as.toArray.size + bs.toArray.size)) = true := by
    rw [notLongL sz]
    simp
  have m1 := AutoSeq1.list_extend_list_list_0 l as.toArray n b bs.toArray m nl (by simp only [List.size_toArray]; omega) (by omega)
  refine call_meets F.slot_list_extend ⟨_, ea, rfl⟩ F.entry_list_extend (F.args_list_extend_2 _ _) m1 ⟨ea, eb, .non, _, ?_, rfl, q⟩
  exact I.lset (its' := as ++ bs) hl ea (by simp) (ra.append rb) (by rw [List.length_append]; exact hz)
end
end Pe

set_option Elab.async false
set_option linter.all false
set_option maxRecDepth 100000
set_option maxHeartbeats 4000000
/-! Xq: the queries of an except suite. -/
namespace Pe
open PySem PySem.Spec PyProof.Rows L2
def vOf : Value → V
  | .ref a => .ref a
  | .type n => .ty n
  | _ => .non
section
variable {X : Cx} {T : Tbl} {cn : Str → Value}
theorem clsN_v {mg : Str → Option Value} {c : Str} {u : Value} (n : ClsN mg c u) : ClsV (vOf u) u := by
  rcases n.is with ⟨_, C, rfl⟩ | ⟨_, _, _, t, rfl⟩
  · exact .own C
  · exact .ty t
theorem pe_clsN {c : Str} {u : Value} {p : Pos} (g : glB X.env.scope.names c = true) (n : ClsN X.mg c u) : PE X (.Name c p) (tC (vOf u)) := by
  rcases n.is with ⟨m, C, rfl⟩ | ⟨m, b, nn, t, rfl⟩
  · exact pe_glob (gl_of g) m rfl (ne_beq n.nd)
  · exact pe_bltn (gl_of g) m b rfl nn (ne_beq n.nd)
theorem pa_cls (N : ∀ c ∈ T.cls, ClsN X.mg c (cn c)) : ∀ {es : List Expr} {cs : List Str}, cClss X.env.scope.names T es = some cs → PA X es (fun _ H Q => Q (cs.map fun c => vOf (cn c)) H) ∧ (∀ c ∈ cs, c ∈ T.cls)
  | [], cs, h => by cases h; exact ⟨pa_nil, fun c hc => by cases hc⟩
  | .Name c p :: es, cs, h => by
    unfold cClss at h
    by_cases g : glB X.env.scope.names c = true ∧ T.cls.contains c = true
    · rw [if_pos g] at h
      cases e2 : cClss X.env.scope.names T es with
      | none => rw [e2] at h; cases h
      | some r =>
        rw [e2] at h
        cases h
        have hc : c ∈ T.cls := by simpa using g.2
        obtain ⟨h1, h2⟩ := pa_cls N e2
        refine ⟨pa_imp (pa_cons (pe_clsN g.1 (N c hc)) h1) fun σ H Q q => q, fun d hd => ?_⟩
        rcases List.mem_cons.mp hd with e | hd
        · rw [e]; exact hc
        · exact h2 d hd
    · rw [if_neg g] at h; cases h
theorem paired_cls (N : ∀ c ∈ T.cls, ClsN X.mg c (cn c)) : ∀ {cs : List Str}, (∀ c ∈ cs, c ∈ T.cls) → Paired ClsV (cs.map fun c => vOf (cn c)) (cs.map cn)
  | [], _ => .nil
  | c :: cs, h => .cons (clsN_v (N c (h c List.mem_cons_self))) (paired_cls N fun d hd => h d (List.mem_cons_of_mem _ hd))
theorem kit_any {K : PySem.W.Frag} {C : Addr} {fs ups : List Str} (E : ErC K cn T.cls C fs ups) : ∀ {cs : List Str}, (∀ c ∈ cs, c ∈ T.cls) → PySem.W.kitAny K (.ref C) (cs.map cn) = some (cs.any fun c => ups.contains c)
  | [], _ => rfl
  | c :: cs, h => by
    refine kitAny_cons (E.kit c (h c List.mem_cons_self)) (fun e => ?_) (fun e => ?_)
    · rw [kit_any E fun d hd => h d (List.mem_cons_of_mem _ hd)]
      simp only [List.any_cons, e, Bool.false_or]
    · simp only [List.any_cons, e, Bool.true_or]
theorem any_str {ups : List Str} : ∀ cs : List Str, ((cs.map PyData.str).any fun d => match d with
    | .str c => ups.contains c
    | _ => false) = cs.any fun c => ups.contains c
  | [] => rfl
  | c :: cs => by
    have ih := any_str (ups := ups) cs
    simp only [List.map_cons, List.any_cons, ih]
variable {F : Str → List D → Res D} {co : Co} {E : L2.St → XK} {a C dd : Addr} {oe : Obj} {pn : List (Addr × Obj)} {er : Err}
theorem zip_no {f : Str} : ∀ {fs : List Str} {ds : List D}, f ∉ fs → (fs.zip ds).lookup f = none
  | [], _, _ => by simp
  | g :: fs, [], _ => by simp
  | g :: fs, d :: ds, h => by
    have h1 : f ≠ g := fun e => h (by rw [e]; exact List.mem_cons_self)
    have h2 : (f == g) = false := by simpa using h1
    rw [List.zip_cons_cons]
    simp only [List.lookup, h2]
    exact zip_no fun q => h (List.mem_cons_of_mem _ q)
theorem pe_no {e : Expr} : PE X e (fun _ _ _ => False) := ⟨fun _ _ _ _ _ _ h => h.elim⟩
theorem is_val {σ : L2.St} {G H : Hp} {Q : VK} {ν : List (Option D)} {cs : List Str} {i : Nat} (R : RepV X.kx (some ⟨i, a, dd, er⟩) σ ν G H) (q : Pst X.kx co (E σ) (evE (Fx er F) ν (.xis i cs)) G H Q) :
    σ[i]? = some (some (.ref a)) ∧ (∃ ps, H dd = some (.xd ps)) ∧ ∀ G' H', Nx G H G' H' → Q (.bl (cs.any fun c => er.ups.contains c)) H' := by
  simp only [evE] at q
  split at q
  · rename_i en
    obtain ⟨r1, ps, r2, r3⟩ := R.x _ rfl
    refine ⟨r1 en, ⟨ps, R.same _ _ r2⟩, fun G' H' nx => ?_⟩
    have q' : Pst X.kx co (E σ) (.ok (.bool ((cs.map PyData.str).any fun d => match d with
      | .str c => er.ups.contains c
      | _ => false))) G H Q := q
    rw [any_str] at q'
    exact q' _ G' H' nx (.bl _)
  · exact q.elim
theorem suite_xq (N : ∀ c ∈ T.cls, ClsN X.mg c (cn c)) (bi : X.mg "isinstance" = none) (ec : ErC X.K cn T.cls C er.fs er.ups)
    (hz : Zc (.ref C) (some dd) oe) (hf : ∃ vs, oe.data = .fields vs) {y : Str} {i : Nat} (hy : T.xv = some y) (hi : ixOf y X.N 0 = some i) :
    ∀ e x, cXq X.N X.env.scope.names T e = some x → PE (X.suite a ((a, oe) :: pn)) e (tE X.kx (some ⟨i, a, dd, er⟩) co (Fx er F) E x) := by
  intro e x h
  unfold cXq at h
  split at h
  · rename_i g p1 y' p2 c p3
    by_cases cd : g = "isinstance" ∧ glB X.env.scope.names g = true ∧ T.xv = some y' ∧ visB X.env.scope.names y' = true ∧ y' ≠ "__debug__" ∧ y' ≠ "__classdict__"
    · rw [if_pos cd] at h
      obtain ⟨rfl, hg, hx, hv, d1, d2⟩ := cd
      rw [hy] at hx
      cases hx
      rw [hi] at h
      have nm : PE (X.suite a ((a, oe) :: pn)) (.Name y p2) (tVar i) := pe_var (X := X.suite a ((a, oe) :: pn)) (ixOf_get hi) (vis_of rfl hv) (ne_beq d1) (ne_beq d2)
      have one : ∀ {c0 : Str} {p0 : Pos}, c = .Name c0 p0 → ∀ cs, cClss X.env.scope.names T [c] = some cs → (if cs.length ≤ 1000 then some (Ex.xis i cs) else none) = some x → PE (X.suite a ((a, oe) :: pn)) (.Call (.Name "isinstance" p1) [.Name y p2, c] [] p3) (tE X.kx (some ⟨i, a, dd, er⟩) co (Fx er F) E x) := by
        intro c0 p0 ec0 cs hcs hx2
        subst ec0
        unfold cClss at hcs
        by_cases g0 : glB X.env.scope.names c0 = true ∧ T.cls.contains c0 = true
        · rw [if_pos g0] at hcs
          cases hcs
          rw [if_pos (by simp)] at hx2
          cases hx2
          have hc : c0 ∈ T.cls := by simpa using g0.2
          have pa : PA (X.suite a ((a, oe) :: pn)) [.Name y p2, .Name c0 p0] _ := pa_cons nm (pa_cons (pe_clsN (X := X.suite a ((a, oe) :: pn)) g0.1 (N c0 hc)) pa_nil)
          refine pe_imp (pe_callB (call_xis ec.ex hz hf) (gl_of (X := X.suite a ((a, oe) :: pn)) hg) bi (by decide +kernel) pa (by decide +kernel) (by decide +kernel) rfl rfl) fun σ H Q ⟨ν, G, R, q⟩ => ?_
          obtain ⟨r1, ⟨ps, hd⟩, k⟩ := is_val R q
          have k1 := k G H (Nx.refl R.same)
          simp only [List.any_cons, List.any_nil, Bool.or_false] at k1
          exact ⟨.ref a, r1, _, _, _, ps, rfl, clsN_v (N c0 hc), ec.kit c0 hc, hd, k1⟩
        · rw [if_neg g0] at hcs; cases hcs
      cases c with
      | Tuple es k p =>
        cases e1 : cClss X.env.scope.names T es with
        | none => simp only [e1] at h; cases h
        | some cs =>
          simp only [e1] at h
          by_cases sz : cs.length ≤ 1000
          · rw [if_pos sz] at h
            cases h
            obtain ⟨pa, sub⟩ := pa_cls (X := X.suite a ((a, oe) :: pn)) N e1
            have pa2 : PA (X.suite a ((a, oe) :: pn)) [.Name y p2, .Tuple es k p] _ := pa_cons nm (pa_cons (pe_tup pa) pa_nil)
            refine pe_imp (pe_callB (call_xisT ec.ex hz hf) (gl_of (X := X.suite a ((a, oe) :: pn)) hg) bi (by decide +kernel) pa2 (by decide +kernel) (by decide +kernel) rfl rfl) fun σ H Q ⟨ν, G, R, q⟩ => ?_
            obtain ⟨r1, ⟨ps, hd⟩, k⟩ := is_val R q
            refine ⟨.ref a, r1, by rw [List.length_map]; exact Nat.le_trans sz (by decide), fun tp hp => ?_⟩
            exact ⟨tp, _, _, _, ps, rfl, upd_same, paired_cls N sub, kit_any ec sub, by rw [upd_ne (ne_of_none hd hp)]; exact hd, k G _ (Nx.hid R.same hp)⟩
          · rw [if_neg sz] at h; cases h
      | Name c0 p0 =>
        cases e1 : cClss X.env.scope.names T [.Name c0 p0] with
        | none => simp only [e1] at h; cases h
        | some cs => simp only [e1] at h; exact one rfl cs e1 h
      | _ => simp only [cClss] at h; cases h
    · rw [if_neg cd] at h; cases h
  · rename_i y' p1 f p2
    by_cases cd : T.xv = some y' ∧ visB X.env.scope.names y' = true ∧ y' ≠ "__debug__" ∧ y' ≠ "__classdict__"
    · rw [if_pos cd] at h
      obtain ⟨hx, hv, d1, d2⟩ := cd
      rw [hy] at hx
      cases hx
      rw [hi] at h
      cases h
      have nm : PE (X.suite a ((a, oe) :: pn)) (.Name y p1) (tVar i) := pe_var (X := X.suite a ((a, oe) :: pn)) (ixOf_get hi) (vis_of rfl hv) (ne_beq d1) (ne_beq d2)
      by_cases hn : f ∈ er.fs
      · refine pe_imp (pe_xf ec.xf (ec.nf f hn) hz hf nm) fun σ H Q ⟨ν, G, R, q⟩ => ?_
        simp only [evE] at q
        split at q
        · rename_i en
          obtain ⟨r1, ps, r2, r3⟩ := R.x _ rfl
          have q' : Pst X.kx co (E σ) (Res.ofO ((er.fs.zip er.args).lookup f)) G H Q := q
          cases e1 : (er.fs.zip er.args).lookup f with
          | none => rw [e1] at q'; exact q'.elim
          | some d =>
            rw [e1] at q'
            obtain ⟨v, v1, v2⟩ := r3 f d e1
            exact ⟨.ref a, r1 en, rfl, rfl, dd, ps, v, rfl, R.same _ _ r2, v1, q' v G H (Nx.refl R.same) v2⟩
        · exact q.elim
      · refine pe_imp (pe_no (X := X.suite a ((a, oe) :: pn))) fun σ H Q ⟨ν, G, R, q⟩ => ?_
        simp only [evE] at q
        split at q
        · have q' : Pst X.kx co (E σ) (Res.ofO ((er.fs.zip er.args).lookup f)) G H Q := q
          rw [zip_no hn] at q'
          exact q'.elim
        · exact q.elim
    · rw [if_neg cd] at h; cases h
  · cases h
end
end Pe

set_option Elab.async false
set_option linter.all false
set_option maxRecDepth 100000
set_option maxHeartbeats 4000000
/-! Xr: own errors are made. -/
namespace Pe
open PySem PySem.Spec PyProof.Rows L2
/-- __init__ of an own error: each argument becomes a field -/
def spI (K : PySem.W.Frag) (C : Addr) (fs : List Str) : Sp := fun vs H Q E => ∃ a ys, vs = .ref a :: ys ∧ ys.length = fs.length ∧ H a = some (exo a C none) ∧
  ∀ (dx : Addr) (ps : List (Str × V)) (H2 : Hp), H dx = none → dx ≠ a → H2 a = some (exo a C (some dx)) → H2 dx = some (exd dx ps) → (∀ f, ps.lookup f = (fs.zip ys).lookup f) → (∀ b, b ≠ a → b ≠ dx → H2 b = H b) → Q .non H2
def initB : List Str → List Stmt → Bool
  | [], [] => true
  | f :: fs, .Assign [.Attribute (.Name s _) g _] (.Name v _) _ :: ss => decide (s = "self") && decide (g = f) && decide (v = f) && initB fs ss
  | _, _ => false
def tIn (K : PySem.W.Frag) : List (Str × Nat) → TS
  | [] => fun D σ H => D.nx σ H
  | (f, i) :: r => fun D σ H => tOst K f (tVar 0) (tVar i) { D with nx := fun σ' H' => tIn K r D σ' H' } σ H
theorem initB_cons {f : Str} {fs : List Str} {s : Stmt} {ss : List Stmt} (h : initB (f :: fs) (s :: ss) = true) : (∃ p1 p2 p3 p4, s = .Assign [.Attribute (.Name "self" p1) f p2] (.Name f p3) p4) ∧ initB fs ss = true := by
  unfold initB at h
  split at h
  · rename_i e _
    cases e
  · rename_i e1 e2
    cases e1
    cases e2
    simp only [Bool.and_eq_true, decide_eq_true_eq] at h
    obtain ⟨⟨⟨h1, h2⟩, h3⟩, h⟩ := h
    subst h1 h2 h3
    exact ⟨⟨_, _, _, _, rfl⟩, h⟩
  · exact absurd h (by simp)
theorem zip_no2 {g : Str} : ∀ {fs : List Str} {ys : List V}, g ∉ fs → (fs.zip ys).lookup g = none
  | [], _, _ => by simp
  | f :: fs, [], _ => by simp
  | f :: fs, y :: ys, h => by
    have e2 : (g == f) = false := by simpa using fun e : g = f => h (by rw [e]; exact List.mem_cons_self)
    rw [List.zip_cons_cons]
    simp only [List.lookup, e2]
    exact zip_no2 fun q => h (List.mem_cons_of_mem _ q)
section
variable {X : Cx}
theorem init_pss : ∀ {fs : List Str} {ss : List Stmt} {is : List Nat}, initB fs ss = true → fs.length = is.length → (∀ p ∈ fs.zip is, X.N[p.2]? = some p.1 ∧ Vis X.env.scope p.1 ∧ p.1 ≠ "__debug__" ∧ p.1 ≠ "__classdict__") → X.N[0]? = some ("self" : Str) → Vis X.env.scope "self" → PSs X ss (tIn X.K (fs.zip is))
  | [], [], _, _, _, _, _, _ => pss_imp pss_nil fun D σ H h => (by simpa [tIn] using h : D.nx σ H)
  | [], _ :: _, _, h, _, _, _, _ => by simp [initB] at h
  | _ :: _, [], _, h, _, _, _, _ => by simp [initB] at h
  | f :: fs, s :: ss, [], _, h, _, _, _ => by cases h
  | f :: fs, s :: ss, i :: is, h, hl, hv, hN, hs => by
    obtain ⟨⟨p1, p2, p3, p4, rfl⟩, h2⟩ := initB_cons h
    obtain ⟨v1, v2, v3, v4⟩ := hv (f, i) (by simp)
    have one : PS X (.Assign [.Attribute (.Name "self" p1) f p2] (.Name f p3) p4) (tOst X.K f (tVar 0) (tVar i)) := ps_ost (pe_var hN hs) (pe_var v1 v2 (ne_beq v3) (ne_beq v4))
    have more := init_pss (fs := fs) (ss := ss) (is := is) h2 (by simpa using hl) (fun p hp => hv p (by simp [hp])) hN hs
    exact pss_imp (pss_cons one more) fun D σ H q => q
theorem look_rev {g : Str} : ∀ {fs : List Str} {ys : List V} {ps : List (Str × V)}, fs.Nodup → ((fs.zip ys).reverse ++ ps).lookup g = (match (fs.zip ys).lookup g with
    | some v => some v
    | none => ps.lookup g)
  | [], ys, ps, _ => by simp
  | f :: fs, [], ps, _ => by simp
  | f :: fs, y :: ys, ps, nd => by
    obtain ⟨n1, n2⟩ := List.nodup_cons.mp nd
    rw [List.zip_cons_cons, List.reverse_cons, List.append_assoc, look_rev n2]
    by_cases e : g = f
    · subst e
      rw [zip_no2 n1]
      simp [List.lookup]
    · have e2 : (g == f) = false := by simpa using e
      simp only [List.lookup, e2]
      cases (fs.zip ys).lookup g with
      | some v => rfl
      | none => simp [List.lookup, e2]
theorem tIn_old {K : PySem.W.Frag} {C a dx : Addr} (T : OexC K C) {D : Ends} {σ : L2.St} (h0 : σ[0]? = some (some (.ref a))) (ne : dx ≠ a) : ∀ {fs : List Str} {is : List Nat} {ys : List V} {ps : List (Str × V)} {H : Hp}, fs.length = is.length → fs.length = ys.length →
    (∀ f ∈ fs, PySem.W.findIn K (.ref C) f = some none) → (∀ p ∈ is.zip ys, σ[p.1]? = some (some p.2)) → H a = some (exo a C (some dx)) → H dx = some (exd dx ps) → ps.length + fs.length ≤ 900 →
    (∀ H2, H2 a = some (exo a C (some dx)) → H2 dx = some (exd dx ((fs.zip ys).reverse ++ ps)) → (∀ b, b ≠ dx → H2 b = H b) → D.nx σ H2) → tIn K (fs.zip is) D σ H
  | [], [], ys, ps, H, _, hy, _, _, ha, hd, _, k => by
    cases ys with
    | nil => exact k H ha hd fun _ _ => rfl
    | cons _ _ => cases hy
  | f :: fs, i :: is, y :: ys, ps, H, hl, hy, hn, hσ, ha, hd, hz, k => by
    have hz' : ps.length + (fs.length + 1) ≤ 900 := hz
    refine ⟨y, hσ (i, y) (by simp), .ref a, h0, a, C, rfl, T, hn f List.mem_cons_self, .inr ⟨dx, ps, ha, hd, by omega, ?_⟩⟩
    refine tIn_old T h0 ne (by simpa using hl) (by simpa using hy) (fun g hg => hn g (List.mem_cons_of_mem _ hg)) (fun p hp => hσ p (by simp [hp])) (by rw [upd_ne (Ne.symm ne)]; exact ha) upd_same (by simp only [List.length_cons]; omega) fun H2 h1 h2 h3 => ?_
    refine k H2 h1 ?_ fun b hb => by rw [h3 b hb, upd_ne hb]
    rw [h2, List.zip_cons_cons, List.reverse_cons, List.append_assoc]
    rfl
  | [], _ :: _, _, _, _, hl, _, _, _, _, _, _, _ => by cases hl
  | _ :: _, [], _, _, _, hl, _, _, _, _, _, _, _ => by cases hl
  | _ :: _, _ :: _, [], _, _, _, hy, _, _, _, _, _, _ => by cases hy
theorem tIn_new {K : PySem.W.Frag} {C a : Addr} (T : OexC K C) {D : Ends} {σ : L2.St} (h0 : σ[0]? = some (some (.ref a))) {f : Str} {fs : List Str} {i : Nat} {is : List Nat} {y : V} {ys : List V} {H : Hp} (nd : (f :: fs).Nodup) (hl : fs.length = is.length) (hy : fs.length = ys.length)
    (hn : ∀ g ∈ f :: fs, PySem.W.findIn K (.ref C) g = some none) (hσ : ∀ p ∈ (i :: is).zip (y :: ys), σ[p.1]? = some (some p.2)) (ha : H a = some (exo a C none)) (hz : fs.length ≤ 800)
    (k : ∀ (dx : Addr) (ps : List (Str × V)) (H2 : Hp), H dx = none → dx ≠ a → H2 a = some (exo a C (some dx)) → H2 dx = some (exd dx ps) → (∀ g, ps.lookup g = ((f :: fs).zip (y :: ys)).lookup g) → (∀ b, b ≠ a → b ≠ dx → H2 b = H b) → D.nx σ H2) : tIn K ((f :: fs).zip (i :: is)) D σ H := by
  refine ⟨y, hσ (i, y) (by simp), .ref a, h0, a, C, rfl, T, hn f List.mem_cons_self, .inl ⟨ha, fun dx hdx ne => ?_⟩⟩
  refine tIn_old (dx := dx) T h0 ne hl hy (fun g hg => hn g (List.mem_cons_of_mem _ hg)) (fun p hp => hσ p (by simp [hp])) upd_same (by rw [upd_ne ne, upd_same]) (by simp only [List.length_cons, List.length_nil]; omega) fun H2 h1 h2 h3 => ?_
  refine k dx _ H2 hdx ne h1 h2 (fun g => ?_) fun b hb1 hb2 => by rw [h3 b hb2, upd_ne hb1, upd_ne hb2]
  obtain ⟨n1, n2⟩ := List.nodup_cons.mp nd
  rw [look_rev n2, List.zip_cons_cons]
  by_cases e : g = f
  · subst e
    rw [zip_no2 n1]
    simp [List.lookup]
  · have e2 : (g == f) = false := by simpa using e
    simp only [List.lookup, e2]
    cases (fs.zip ys).lookup g <;> rfl
/-- __init__ keeps it -/
theorem init_fn {P : Program} {w : World} {K : PySem.W.Frag} {mg : Str → Option Value} {base : Heap} {k : Nat} {qual : Str} {st : Stmt} {fI C : Addr} {fd : FuncData} {f : Str} {fs : List Str} (D : Fun K "__init__" qual st fI fd) (S : FnScope (("self" : Str) :: f :: fs) (("self" : Str) :: f :: fs) (defScope st)) (T : OexC K C)
    (hb : initB (f :: fs) (defBody st) = true) (nd : (f :: fs).Nodup) (hn : ∀ g ∈ f :: fs, PySem.W.findIn K (.ref C) g = some none) (hd : ∀ g ∈ ("self" : Str) :: f :: fs, g ≠ "__debug__" ∧ g ≠ "__classdict__") (hz : fs.length ≤ 800) :
    FnOk P w K mg base (L2.CX P w) (k + 1) fI fd (("self" : Str) :: f :: fs) (spI K C (f :: fs)) := by
  refine Fun.okX D S (fun vs H Q E ⟨a, ys, h1, h2, _⟩ => by rw [h1, List.length_cons, h2]; rfl) fun cdv A outer s H vs Q E room ⟨a, ys, h1, h2, h3, h4⟩ => ?_
  generalize hX : cxOf (L2.CX P w) P w K mg base (("self" : Str) :: f :: fs) qual (defScope st) fI cdv A outer s H E = X
  have hN : X.N = ("self" : Str) :: f :: fs := by rw [← hX]; rfl
  have hsc : X.env.scope = defScope st := by rw [← hX]; rfl
  have hK : X.K = K := by rw [← hX]; rfl
  have vis : ∀ g ∈ ("self" : Str) :: f :: fs, Vis X.env.scope g := fun g hg => by
    rw [hsc]
    rcases S.par g hg with q | q
    · exact .inl q
    · exact .inr (.inl q)
  have ps := init_pss (X := X) (fs := f :: fs) (ss := defBody st) (is := List.range' 1 (fs.length + 1)) hb (by simp) (fun p hp => by
      obtain ⟨j, hj⟩ := List.mem_iff_getElem?.mp hp
      rw [List.getElem?_zip_eq_some] at hj
      obtain ⟨j1, j2⟩ := hj
      have e2 : p.2 = 1 + j := by
        rw [List.getElem?_range' (by have := (List.getElem?_eq_some_iff.mp j2).1; simpa using this)] at j2
        have := Option.some.inj j2
        omega
      have m : p.1 ∈ f :: fs := List.mem_of_getElem? j1
      refine ⟨by rw [hN, e2, Nat.add_comm, List.getElem?_cons_succ]; exact j1, vis _ (List.mem_cons_of_mem _ m), (hd _ (List.mem_cons_of_mem _ m)).1, (hd _ (List.mem_cons_of_mem _ m)).2⟩) (by rw [hN]; rfl) (vis _ List.mem_cons_self)
  refine ⟨_, ps, ?_⟩
  cases ys with
  | nil => cases h2
  | cons y ys =>
    rw [hK, h1]
    rw [show List.range' 1 (fs.length + 1) = 1 :: List.range' 2 fs.length from rfl]
    have e : L2.start (("self" : Str) :: f :: fs) (V.ref a :: y :: ys) = (V.ref a :: y :: ys).map some := by
      unfold L2.start
      have : (("self" : Str) :: f :: fs).length - (V.ref a :: y :: ys).length = 0 := by simp only [List.length_cons] at h2 ⊢; omega
      rw [this]
      simp
    refine tIn_new T (by rw [e]; rfl) nd (by simp) (by simpa using h2.symm) hn (fun p hp => ?_) h3 hz fun dx ps H2 a1 a2 a3 a4 a5 a6 => h4 dx ps H2 a1 a2 a3 a4 a5 a6
    rw [e]
    obtain ⟨j, hj⟩ := List.mem_iff_getElem?.mp hp
    rw [List.getElem?_zip_eq_some] at hj
    obtain ⟨j1, j2⟩ := hj
    have e2 : p.1 = 1 + j := by
      have j1' : (List.range' 1 (fs.length + 1))[j]? = some p.1 := j1
      rw [List.getElem?_range' (by have := (List.getElem?_eq_some_iff.mp j1').1; simpa using this)] at j1'
      have := Option.some.inj j1'
      omega
    rw [e2, Nat.add_comm, List.map_cons, List.getElem?_cons_succ, List.getElem?_map, j2]
    rfl
end
end Pe

set_option Elab.async false
set_option linter.all false
set_option maxRecDepth 100000
set_option maxHeartbeats 8000000
/-! Pe13: statements that are read off are what the machine does. -/
namespace Pe
open PySem L2
def PostO (K : Fg) (z : Zx) (G0 H0 : Hp) (D : Ends) : Out → Prop
  | .nx ρ => ∀ σ G H, RepS K z G0 H0 σ ρ G H → D.nx σ H
  | .rt d => ∀ v G H, Nx G0 H0 G H → Dq K G v d → D.rt v H
  | .rtL ds => FrL K G0 H0 D.rt ds
  | .bk ρ => ∀ σ G H, RepS K z G0 H0 σ ρ G H → D.bk σ H
  | .ct ρ => ∀ σ G H, RepS K z G0 H0 σ ρ G H → D.ct σ H
def tS (K : Fg) (z : Zx) (co : Co) (F : Str → List D → Res D) (E : XK) (w : Nat) (S : Sm) : TS := fun D σ H => ∃ G0 H0 Gb Hb ρ G, Nx G0 H0 Gb Hb ∧ RepS K z Gb H0 σ ρ G H ∧ PsR K co E (evS F w ρ S) G0 H0 (PostO K z Gb H0 D)
/-- an own error, made -/
structure ErM (X : Cx) (co : Co) (c : Str) (inf : ErI) : Prop where
  ex : ∃ (C fI : Addr) (fd : FuncData) (ps : List Str) (k : Nat), X.mg c = some (.ref C) ∧ co c inf.fs inf.ups = some C ∧ OexC X.kx C ∧ PySem.W.findIn X.kx (.ref C) "__init__" = some (some (.ref fI)) ∧ PySem.W.typeIn X.kx (.ref fI) = some (.type "function") ∧
    FnOk X.prog X.w X.kx X.mg X.base (L2.CX X.prog X.w) k fI fd ps (spI X.kx C inf.fs) ∧ inf.fs.length ≤ 1000 ∧ Room (k + 1) X.A ∧ Binds X.kx fd ps []
/-- the context of a def's body -/
structure Ok2 (X : Cx) (T : Tbl) (F : Str → List D → Res D) (z : Zx) (co : Co) (E : XK) : Prop where
  o : Ok1 X T F z co (fun _ => E)
  po : T.hot = false → PassesOwn (model X.prog X.w) X.A X.env X.xe
  fn : ∀ x, X.fn x = true
  zc : T.hot = false → z = none
  st : X.stack = X.env :: X.outer
  fr : X.env.frame = some X.env.locals
  tk : T.hot = false → Takes X (fun cls d _ H => E cls d H)
  ers : T.hot = false → ∀ c inf, T.ers.lookup c = some inf → ErM X co c inf
  cls : ∃ cn : Str → Value, (∀ c ∈ T.cls, ClsN X.mg c (cn c)) ∧ ∀ c fs ups C, co c fs ups = some C → ErC X.K cn T.cls C fs ups
section
variable {K : Fg} {z : Zx} {co : Co} {E : XK} {F : Str → List D → Res D} {G0 H0 Gb Hb G H : Hp} {σ : St} {ρ : List Sl}
theorem PsR.bind {α β : Type} {r : Res α} {f : α → Res β} {k : β → Prop} (h : PsR K co E (r.bind f) G H k) : PsR K co E r G H fun a => PsR K co E (f a) G H k := by
  cases r <;> exact h
theorem PsR.imp {α : Type} {r : Res α} {k k' : α → Prop} (h : PsR K co E r G H k) (i : ∀ a, r = .ok a → k a → k' a) : PsR K co E r G H k' := by
  cases r with
  | ok a => exact i a rfl h
  | err _ => exact h
  | no => exact h
/-- from a def's entry to an expression -/
theorem PsR.at {α : Type} {r : Res α} {k k' : α → Prop} {G1 H1 : Hp} (h : PsR K co E r G0 H0 k) (x : Nx G0 H0 G1 H1) (i : ∀ a, r = .ok a → k a → k' a) : PsR K co E r G1 H1 k' := PsR.mono h x i
/-- a value by its way -/
theorem evK_go {x : Ex} {k : Bool} {m : List Nat} {Q : VK} (xb : Nx G0 H0 Gb Hb) (R : RepS K z Gb H0 σ ρ G H) (h : PsR K co E (evK F ρ x k m) G0 H0 fun a => ∀ v G' H', RepS K z Gb H0 σ a.2 G' H' → Dq K G' v a.1 → Same H H' → Q v H') : tE K z co F (fun _ => E) x σ H Q := by
  cases k with
  | true =>
    have h := PsR.bind (h : PsR K co E ((evE F (vw ρ) x).bind fun d => if noL d = true then .ok (d, ρ) else .no) G0 H0 _)
    refine ⟨vw ρ, _, R.view, PsR.toP (h.at (R.base xb).nxP fun d _ q v G' H' nx hv => ?_)⟩
    by_cases n : noL d = true
    · rw [if_pos n] at q
      exact q v _ H' (R.backP nx) (R.backD nx n hv) nx.h
    · rw [if_neg n] at q
      exact q.elim
  | false =>
    obtain ⟨G1, R1⟩ := R.frz m
    have h := PsR.bind (h : PsR K co E ((evE F (vwN (frz m ρ)) x).bind fun d => .ok (d, frz m ρ)) G0 H0 _)
    exact ⟨_, _, R1.viewN, PsR.toP (h.at (R1.base xb).nx fun d _ q v G' H' nx hv => q v G' H' (R1.back nx) hv nx.h)⟩
/-- a test -/
theorem tst_go {c : Ex} {Q : Bool → Hp → Prop} (xb : Nx G0 H0 Gb Hb) (R : RepS K z Gb H0 σ ρ G H) (h : PsR K co E (tst F ρ c) G0 H0 fun b => ∀ G' H', RepS K z Gb H0 σ ρ G' H' → Q b H') : tT K z co F (fun _ => E) c σ H Q :=
  ⟨vw ρ, _, R.view, h.at (R.base xb).nxP fun b _ q G' H' nx => q _ H' (R.backP nx)⟩
/-- what is returned, what is walked -/
theorem evN_go {x : Ex} {m : List Nat} {Q : VK} (xb : Nx G0 H0 Gb Hb) (R : RepS K z Gb H0 σ ρ G H) (h : PsR K co E (evE F (vwN (frz m ρ)) x) G0 H0 fun d => ∀ v G' H', RepS K z Gb H0 σ (frz m ρ) G' H' → Dq K G' v d → Q v H') : tE K z co F (fun _ => E) x σ H Q := by
  obtain ⟨G1, R1⟩ := R.frz m
  exact ⟨_, _, R1.viewN, PsR.toP (h.at (R1.base xb).nx fun d _ q v G' H' nx hv => q v G' H' (R1.back nx) hv)⟩
theorem setS_go {tg : Sum Nat (List Nat)} {d : D} {v : V} {ρ' : List Sl} {Q : St → Hp → Prop} (R : RepS K z G0 H0 σ ρ G H) (r : Dq K G v d) (h : setS ρ tg d = some ρ') (k : ∀ σ', RepS K z G0 H0 σ' ρ' G H → Q σ' H) : tG K tg v σ H Q := by
  cases tg with
  | inl i =>
    cases h
    exact k _ (R.set i r)
  | inr is =>
    cases r with
    | tup hs a =>
      rename_i p vs ds
      have h' : setAllS ρ is ds = some ρ' := h
      have hl : ∀ {is : List Nat} {ds : List D} {ρ ρ' : List Sl}, setAllS ρ is ds = some ρ' → ds.length = is.length := by
        intro is
        induction is with
        | nil => intro ds ρ ρ' h; cases ds with
          | nil => rfl
          | cons _ _ => cases h
        | cons i is ih => intro ds ρ ρ' h; cases ds with
          | nil => cases h
          | cons d ds => exact congrArg (· + 1) (ih (ds := ds) h)
      refine ⟨p, vs, rfl, seqT_same R.nx.s hs, by rw [dpa_len a, hl h'], ?_⟩
      clear h hs hl
      induction is generalizing ds vs σ ρ with
      | nil =>
        cases a with
        | nil => cases h'; exact ⟨rfl, k σ R⟩
        | cons _ _ => cases h'
      | cons i is ih =>
        cases a with
        | nil => cases h'
        | cons r t => exact ⟨_, _, rfl, ih (R.set i r) t h'⟩
    | _ => cases h
end

section
variable {X : Cx} {T : Tbl} {F : Str → List D → Res D} {z : Zx} {co : Co} {E : XK} {w : Nat}
theorem sto_def (O : Ok2 X T F z co E) : Sto X X.env.scope.names := fun x h => ⟨loc_of h, .inl (O.fn x)⟩
theorem swaps_no {e : Expr} {tg : Option Expr} {l : Nat} (h : notComp e = true) : swapsWith e tg l X.env = pure false := by
  cases e with
  | ListComp _ _ _ _ => cases h
  | SetComp _ _ _ _ => cases h
  | DictComp _ _ _ _ _ => cases h
  | _ => rfl
theorem swaps_comp {elt : Expr} {gs : List Comprehension} {scope : Scope} {p q : Pos} {y : Str} {l : Nat} : ∃ b : Bool, swapsWith (.ListComp elt gs scope p) (some (.Name y q)) l X.env = pure b ∧ (b = true → X.env.scope.names.lookup y = some .local) := by
  refine ⟨_, rfl, fun h => ?_⟩
  simp only [Bool.and_eq_true] at h
  have h2 : (X.env.scope.names.lookup y == some NameKind.local) = true := h.1.1.2
  exact eq_of_beq h2
theorem lst_key {X : Cx} {F : Str → List D → Res D} {z : Zx} {co : Co} {E : XK} {lz : Ex} : ∀ σ H Q, tF X.kx z co F (fun _ => E) (.lst lz) σ H Q → tLst (tA X.kx z co F (fun _ => E) lz) σ H Q := fun σ H Q ⟨ν, G, R, k⟩ => by
  simp only [evE] at k
  have k' : PsR X.kx co E ((evE F ν lz).bind fun y => listR y fun ds => if ds.length ≤ sizeLine then .ok ds else .no) G H (FrL X.kx G H Q) := by
    revert k
    cases evE F ν lz with
    | ok d => cases d with
      | list ds =>
        show PsR X.kx co E ((if ds.length ≤ sizeLine then Res.ok (PyData.list ds) else Res.no).bind fun y => listR y .ok) G H (FrL X.kx G H Q) → PsR X.kx co E (if ds.length ≤ sizeLine then .ok ds else .no) G H (FrL X.kx G H Q)
        by_cases hz : ds.length ≤ sizeLine
        · rw [if_pos hz, if_pos hz]; exact id
        · rw [if_neg hz, if_neg hz]; exact id
      | _ => exact id
    | err _ => exact id
    | no => exact id
  refine tA.then R k' fun ds vs G1 H1 s ha R1 k1 => ?_
  by_cases hz : ds.length ≤ sizeLine
  · rw [if_pos hz] at k1
    exact ⟨by rw [dpa_len ha]; exact hz, fun L hL => k1 L vs G1 _ (s.trans (Nx.hid s.s hL)) (s.s.free hL) (s.h.free hL) upd_same ha⟩
  · rw [if_neg hz] at k1; exact k1.elim
theorem swaps_dcomp {kx vx : Expr} {gs : List Comprehension} {scope : Scope} {p q : Pos} {y : Str} {l : Nat} : ∃ b : Bool, swapsWith (.DictComp kx vx gs scope p) (some (.Name y q)) l X.env = pure b ∧ (b = true → X.env.scope.names.lookup y = some .local) := by
  refine ⟨_, rfl, fun h => ?_⟩
  simp only [Bool.and_eq_true] at h
  have h2 : (X.env.scope.names.lookup y == some NameKind.local) = true := h.1.1.2
  exact eq_of_beq h2
/-- name = value, by the value's form -/
theorem asg_ok (O : Ok2 X T F z co E) {n : Nat} {y : Str} {i : Nat} {e : Expr} {x : Ex} {p q : Pos} (g : locB X.env.scope.names y = true) (hi : ixOf y X.N 0 = some i) (h : cE X.N T n X.env.scope e = some x) :
    ∃ te : TE, PS X (.Assign [.Name y q] e p) (tAsg te (gName i)) ∧ (∀ σ H Q, tE X.kx z co F (fun _ => E) x σ H Q → te σ H Q) ∧ (freshOk e x = true → ∀ σ H Q, tF X.kx z co F (fun _ => E) x σ H Q → te σ H Q) := by
  have S := snd n O.o
  by_cases nc : notComp e = true
  · by_cases nw : isNewE e = true
    · -- a display
      cases n with
      | zero => simp [cE] at h
      | succ n =>
        have S' := snd n O.o
        cases e with
        | List es p' =>
          have h : (cArgs (cE X.N T n X.env.scope) es).map Ex.lst = some x := h
          cases e1 : cArgs (cE X.N T n X.env.scope) es with
          | none => rw [e1] at h; cases h
          | some lz =>
            rw [e1] at h
            cases h
            have base := pe_lst (pos := p') (snd_args S' e1)
            have key := lst_key (z := z) (co := co) (F := F) (E := E) (X := X) (lz := lz)
            refine ⟨_, ps_set O.o.nd (ixOf_get hi) (loc_of g) base rfl (.inl (O.fn y)), fun σ H Q t => ?_, fun _ => key⟩
            refine key σ H Q (tF_of (fun ν d ev => ?_) t)
            simp only [evE] at ev
            cases e2 : evE F ν lz with
            | ok d => cases d with
              | list ds =>
                rw [e2] at ev
                have ev' : (if ds.length ≤ sizeLine then Res.ok (PyData.list ds) else Res.no) = .ok _ := ev
                by_cases hz : ds.length ≤ sizeLine
                · rw [if_pos hz] at ev'; cases ev'; exact ⟨_, rfl⟩
                · rw [if_neg hz] at ev'; cases ev'
              | _ => rw [e2] at ev; cases ev
            | err _ => rw [e2] at ev; cases ev
            | no => rw [e2] at ev; cases ev
        | ListComp _ _ _ _ => cases nc
        | Call fn as ks p' =>
          by_cases fx : isNewX x = true
          · unfold isNewE at nw
            split at nw
            · rename_i e1; cases e1
            · rename_i e1; cases e1
            · rename_i y1 p1 a1 p2 e1
              cases e1
              have hy : y1 = "list" ∨ y1 = "sorted" := by
                rw [Bool.or_eq_true, decide_eq_true_eq, decide_eq_true_eq] at nw
                exact nw
              have h' : (match cXq X.N X.env.scope.names T (.Call (.Name y1 p1) [a1] [] p') with
                | some y => some y
                | none => cCall X.N X.env.scope.names T (cE X.N T n X.env.scope) y1 [a1]) = some x := h
              have hq : cXq X.N X.env.scope.names T (.Call (.Name y1 p1) [a1] [] p') = none := by cases a1 <;> rfl
              rw [hq] at h'
              have h2 : cCall X.N X.env.scope.names T (cE X.N T n X.env.scope) y1 [a1] = some x := h'
              unfold cCall at h2
              by_cases gg : glB X.env.scope.names y1 = true ∧ y1 ≠ "__debug__" ∧ y1 ≠ "__name__"
              · rw [if_pos gg] at h2
                split at h2
                · split at h2
                  · cases e3 : cArgs (cE X.N T n X.env.scope) [a1] with
                    | none => rw [e3] at h2; cases h2
                    | some z3 => rw [e3] at h2; cases h2; cases fx
                  · cases h2
                · have ni : ¬ y1 = "isinstance" := by rcases hy with rfl | rfl <;> decide +kernel
                  rw [if_neg ni] at h2
                  have hb : ∃ b, bfOf y1 1 = some b ∧ ((b = .list ∧ y1 = "list") ∨ (b = .sorted ∧ y1 = "sorted")) := by
                    rcases hy with rfl | rfl
                    · exact ⟨.list, by decide +kernel, .inl ⟨rfl, rfl⟩⟩
                    · exact ⟨.sorted, by decide +kernel, .inr ⟨rfl, rfl⟩⟩
                  obtain ⟨b, eb, hb⟩ := hb
                  have eb' : bfOf y1 [a1].length = some b := eb
                  rw [eb'] at h2
                  have h3 : (if b.cold = true ∧ T.hot = true then none else (cArgs (cE X.N T n X.env.scope) [a1]).map (.bf b)) = some x := h2
                  split at h3
                  · cases h3
                  · cases e3 : cArgs (cE X.N T n X.env.scope) [a1] with
                    | none => rw [e3] at h3; cases h3
                    | some z3 =>
                      rw [e3] at h3
                      cases h3
                      obtain ⟨te, k1, k2⟩ := fr_call (p := p1) (pos := p') O.o S' gg.1 hb e3
                      exact ⟨te, ps_set O.o.nd (ixOf_get hi) (loc_of g) k1 (swaps_no nc) (.inl (O.fn y)), k2.e, fun _ => k2.f⟩
              · rw [if_neg gg] at h2; cases h2
            · cases nw
          · refine ⟨_, ps_set O.o.nd (ixOf_get hi) (loc_of g) (S.e _ _ h) (swaps_no nc) (.inl (O.fn y)), fun _ _ _ z => z, fun z => ?_⟩
            unfold freshOk at z
            rw [Bool.or_eq_true, Bool.and_eq_true] at z
            rcases z with z | z
            · exact absurd z.2 fx
            · cases z
        | _ => cases nw
    · by_cases n2 : isNew2 e = true
      · cases n with
        | zero => simp [cE] at h
        | succ n =>
          have S' := snd n O.o
          unfold isNew2 at n2
          split at n2
          · rename_i a1 b1 p1
            have h' : (match cE X.N T n X.env.scope a1, cE X.N T n X.env.scope b1 with
              | some a', some b' => some (Ex.bin .Add a' b')
              | _, _ => none) = some x := h
            cases e1 : cE X.N T n X.env.scope a1 with
            | none => rw [e1] at h'; cases h'
            | some a' =>
              cases e2 : cE X.N T n X.env.scope b1 with
              | none => rw [e1, e2] at h'; cases h'
              | some b' =>
                rw [e1, e2] at h'
                cases h'
                obtain ⟨te, k1, k2⟩ := fr_bin (p := p1) S' (op := .Add) op_addF e1 e2
                exact ⟨te, ps_set O.o.nd (ixOf_get hi) (loc_of g) k1 (swaps_no nc) (.inl (O.fn y)), k2.e, fun _ => k2.f⟩
          · rename_i a1 b1 p1
            have h' : (match cE X.N T n X.env.scope a1, cE X.N T n X.env.scope b1 with
              | some a', some b' => some (Ex.bin .Mult a' b')
              | _, _ => none) = some x := h
            cases e1 : cE X.N T n X.env.scope a1 with
            | none => rw [e1] at h'; cases h'
            | some a' =>
              cases e2 : cE X.N T n X.env.scope b1 with
              | none => rw [e1, e2] at h'; cases h'
              | some b' =>
                rw [e1, e2] at h'
                cases h'
                obtain ⟨te, k1, k2⟩ := fr_bin (p := p1) S' (op := .Mult) op_mulF e1 e2
                exact ⟨te, ps_set O.o.nd (ixOf_get hi) (loc_of g) k1 (swaps_no nc) (.inl (O.fn y)), k2.e, fun _ => k2.f⟩
          · cases n2
      · refine ⟨_, ps_set O.o.nd (ixOf_get hi) (loc_of g) (S.e _ _ h) (swaps_no nc) (.inl (O.fn y)), fun _ _ _ z => z, fun z => ?_⟩
        unfold freshOk at z
        rw [Bool.or_eq_true, Bool.and_eq_true] at z
        rcases z with z | z
        · exact absurd z.1 nw
        · exact absurd z n2
  · -- a comprehension
    cases n with
    | zero => simp [cE] at h
    | succ n =>
      have S' := snd n O.o
      cases e with
      | ListComp elt gens scope p' =>
        unfold cE at h
        split at h
        all_goals try contradiction
        · rename_i elt1 tg iter ifs scope1 p1 hee
          cases hee
          by_cases c : notSet iter = true ∧ blkC X.N X.env.scope scope (ownOf X.N scope.names) = true ∧ T.hot = false
          · rw [if_pos c] at h
            split at h
            · rename_i it' tg' el' h1 h2 h3
              by_cases hin : tgIn ((ownOf X.N scope.names).map (·.2)) tg' = true
              · rw [if_pos hin] at h
                have B : ∀ (s : Shared) (H : Hp) (C : Addr) (cl : List (Str × Addr)) (fp : List Addr), Snd (X.blk s H scope (compEnvC scope cl C X.env) fp) T F none co EN (cE X.N T n (relS scope X.env.scope)) :=
                  fun s H C cl fp => snd n (O.o.blk c.2.2 s H scope (compEnvC scope cl C X.env) fp)
                have fin : ∀ {cd : Ex}, ((ifs = [] ∧ cd = .cst (.bool true)) ∨ ∃ c, ifs = [c] ∧ testOk c = true ∧ cE X.N T n (relS scope X.env.scope) c = some cd) →
                    ∃ te : TE, PS X (.Assign [.Name y q] (.ListComp elt [⟨tg, iter, ifs, 0⟩] scope p') p) (tAsg te (gName i)) ∧ (∀ σ H Q, tE X.kx z co F (fun _ => E) (.comp el' it' cd tg' ((ownOf X.N scope.names).map (·.2))) σ H Q → te σ H Q) ∧
                      (freshOk (.ListComp elt [⟨tg, iter, ifs, 0⟩] scope p') (.comp el' it' cd tg' ((ownOf X.N scope.names).map (·.2))) = true → ∀ σ H Q, tF X.kx z co F (fun _ => E) (.comp el' it' cd tg' ((ownOf X.N scope.names).map (·.2))) σ H Q → te σ H Q) := fun {cd} hc => by
                  obtain ⟨te, k1, k2, k3⟩ := snd_compC (p := p') O.o S' B c.1 c.2.1 c.2.2 h1 (fun x q i hx => pe_slot hx) h2 h3 hin hc
                  obtain ⟨b, e1, e2⟩ := swaps_comp (X := X) (elt := elt) (gs := [⟨tg, iter, ifs, 0⟩]) (scope := scope) (p := p') (q := q) (y := y) (l := p.line)
                  refine ⟨te, ?_, fun σ H Q z => k3 σ H Q (tF_of (fun _ _ => comp_list) z), fun _ => k3⟩
                  cases b with
                  | true => exact k2 y i q p (ixOf_get hi) (e2 rfl) e1
                  | false => exact ps_set O.o.nd (ixOf_get hi) (loc_of g) k1 e1 (.inl (O.fn y))
                split at h
                · cases h
                  exact fin (.inl ⟨rfl, rfl⟩)
                · rename_i c1
                  by_cases ht : testOk c1 = true
                  · rw [if_pos ht] at h
                    cases e : cE X.N T n (relS scope X.env.scope) c1 with
                    | none => rw [e] at h; cases h
                    | some z =>
                      rw [e] at h
                      cases h
                      exact fin (.inr ⟨c1, rfl, ht, e⟩)
                  · rw [if_neg ht] at h; cases h
                · cases h
              · rw [if_neg hin] at h; cases h
            · cases h
          · rw [if_neg c] at h; cases h
        · rename_i elt1 tg iter tg1 iter1 scope1 p1 hee
          cases hee
          by_cases c : notSet iter = true ∧ notSet iter1 = true ∧ blkC X.N X.env.scope scope (ownOf X.N scope.names) = true ∧ T.hot = false
          · rw [if_pos c] at h
            split at h
            · rename_i it' tg' el' it1' tg1' h1 h2 h3 h4 h5
              by_cases hin : tgIn ((ownOf X.N scope.names).map (·.2)) tg' = true ∧ (tgSl tg1').all (fun i => ((ownOf X.N scope.names).map (·.2)).contains i) = true
              · rw [if_pos hin] at h
                cases h
                have B : ∀ (s : Shared) (H : Hp) (C : Addr) (cl : List (Str × Addr)) (fp : List Addr), Snd (X.blk s H scope (compEnvC scope cl C X.env) fp) T F none co EN (cE X.N T n (relS scope X.env.scope)) :=
                  fun s H C cl fp => snd n (O.o.blk c.2.2.2 s H scope (compEnvC scope cl C X.env) fp)
                obtain ⟨te, k1, k2, k3⟩ := snd_comp2 (p := p') O.o S' B c.1 c.2.1 c.2.2.1 c.2.2.2 h1 h2 h3 h4 h5 hin.1 hin.2
                obtain ⟨b, e1, e2⟩ := swaps_comp (X := X) (elt := elt) (gs := [⟨tg, iter, [], 0⟩, ⟨tg1, iter1, [], 0⟩]) (scope := scope) (p := p') (q := q) (y := y) (l := p.line)
                refine ⟨te, ?_, k3, fun z => by cases z⟩
                cases b with
                | true => exact k2 y i q p (ixOf_get hi) (e2 rfl) e1
                | false => exact ps_set O.o.nd (ixOf_get hi) (loc_of g) k1 e1 (.inl (O.fn y))
              · rw [if_neg hin] at h; cases h
            · cases h
          · rw [if_neg c] at h; cases h
      | SetComp _ _ _ _ => cases h
      | DictComp kx vx gens scope p' =>
        unfold cE at h
        split at h
        all_goals try contradiction
        · rename_i kx1 vx1 tg iter ifs scope1 p1 hee
          cases hee
          by_cases c : notSet iter = true ∧ blkC X.N X.env.scope scope (ownOf X.N scope.names) = true ∧ T.hot = false
          · rw [if_pos c] at h
            split at h
            · rename_i it' tg' kx' vx' h1 h2 h3 h4
              by_cases hin : tgIn ((ownOf X.N scope.names).map (·.2)) tg' = true
              · rw [if_pos hin] at h
                have B : ∀ (s : Shared) (H : Hp) (C : Addr) (cl : List (Str × Addr)) (fp : List Addr), Snd (X.blk s H scope (compEnvC scope cl C X.env) fp) T F none co EN (cE X.N T n (relS scope X.env.scope)) :=
                  fun s H C cl fp => snd n (O.o.blk c.2.2 s H scope (compEnvC scope cl C X.env) fp)
                have fin : ∀ {cd : Ex}, ((ifs = [] ∧ cd = .cst (.bool true)) ∨ ∃ c, ifs = [c] ∧ testOk c = true ∧ cE X.N T n (relS scope X.env.scope) c = some cd) →
                    ∃ te : TE, PS X (.Assign [.Name y q] (.DictComp kx vx [⟨tg, iter, ifs, 0⟩] scope p') p) (tAsg te (gName i)) ∧ (∀ σ H Q, tE X.kx z co F (fun _ => E) (.dcomp kx' vx' it' cd tg' ((ownOf X.N scope.names).map (·.2))) σ H Q → te σ H Q) ∧
                      (freshOk (.DictComp kx vx [⟨tg, iter, ifs, 0⟩] scope p') (.dcomp kx' vx' it' cd tg' ((ownOf X.N scope.names).map (·.2))) = true → ∀ σ H Q, tF X.kx z co F (fun _ => E) (.dcomp kx' vx' it' cd tg' ((ownOf X.N scope.names).map (·.2))) σ H Q → te σ H Q) := fun {cd} hc => by
                  obtain ⟨te, k1, k2, k3⟩ := snd_dc (p := p') O.o S' B c.1 c.2.1 c.2.2 h1 (fun x q i hx => pe_slot hx) h2 h3 h4 hin hc
                  obtain ⟨b, e1, e2⟩ := swaps_dcomp (X := X) (kx := kx) (vx := vx) (gs := [⟨tg, iter, ifs, 0⟩]) (scope := scope) (p := p') (q := q) (y := y) (l := p.line)
                  refine ⟨te, ?_, k3, fun z => by cases z⟩
                  cases b with
                  | true => exact k2 y i q p (ixOf_get hi) (e2 rfl) e1
                  | false => exact ps_set O.o.nd (ixOf_get hi) (loc_of g) k1 e1 (.inl (O.fn y))
                split at h
                · cases h
                  exact fin (.inl ⟨rfl, rfl⟩)
                · rename_i c1
                  by_cases ht : testOk c1 = true
                  · rw [if_pos ht] at h
                    cases e : cE X.N T n (relS scope X.env.scope) c1 with
                    | none => rw [e] at h; cases h
                    | some z =>
                      rw [e] at h
                      cases h
                      exact fin (.inr ⟨c1, rfl, ht, e⟩)
                  · rw [if_neg ht] at h; cases h
                · cases h
              · rw [if_neg hin] at h; cases h
            · cases h
          · rw [if_neg c] at h; cases h
      | _ => exact absurd rfl nc
end
end Pe

set_option Elab.async false
set_option linter.all false
set_option maxRecDepth 100000
set_option maxHeartbeats 8000000
/-! Pe14: all statements. -/
namespace Pe
open PySem L2
section
variable {X : Cx} {T : Tbl} {F : Str → List D → Res D} {z : Zx} {co : Co} {E : XK} {w : Nat}

theorem stm_set (O : Ok2 X T F z co E) {n : Nat} {y : Str} {i : Nat} {e : Expr} {x : Ex} {p q : Pos} {k : Bool} {m : List Nat} (g : locB X.env.scope.names y = true) (hi : ixOf y X.N 0 = some i) (h : cE X.N T n X.env.scope e = some x) :
    PS X (.Assign [.Name y q] e p) (tS X.kx z co F E w (.set i x k m)) := by
  obtain ⟨te, h1, h2, _⟩ := asg_ok (p := p) (q := q) O g hi h
  refine ps_imp h1 fun D σ H ⟨G0, H0, Gb, Hb, ρ, G, xb, R, r⟩ => h2 σ H _ (evK_go (k := k) (m := m) xb R ?_)
  have r' := PsR.bind (show PsR X.kx co E ((evK F ρ x k m).bind fun a => .ok (Out.nx (a.2.set i (.val a.1)))) G0 H0 (PostO X.kx z Gb H0 D) by simpa only [evS] using r)
  exact r'.imp fun a _ z v G' H' R' hv _ => z _ G' H' (R'.set i hv)
theorem PsR.lsts {β : Type} {K : Fg} {G H : Hp} {r : Res PyData} {f : List PyData → Res β} {k : β → Prop} (h : PsR K co E (r.bind fun y => listR y f) G H k) : PsR K co E (r.bind fun y => listR y .ok) G H fun ds => PsR K co E (f ds) G H k := by
  revert h
  cases r with
  | ok d => cases d <;> exact id
  | err _ => exact id
  | no => exact id
theorem evN_fr {K : Fg} {Gb H0 G H : Hp} {σ : St} {ρ : List Sl} {x : Ex} {kk : Bool} {m : List Nat} {Q : VK} {G0 Hb : Hp} (xb : Nx G0 H0 Gb Hb) (R : RepS K z Gb H0 σ ρ G H)
    (h : PsR K co E (evN F ρ x kk m) G0 H0 fun a => ∀ L acc G' H', RepS K z Gb H0 σ a.2 G' H' → G' L = none → H L = none → H' L = some (.lst acc) → DqAll K G' acc a.1 → (∀ (j : Nat) (ys : D), a.2[j]? = some (.own ys) → σ[j]? ≠ some (some (.ref L))) → Q (.ref L) H') : tF K z co F (fun _ => E) x σ H Q := by
  cases kk with
  | true =>
    refine ⟨vw ρ, _, R.view, ?_⟩
    have h2 := PsR.lsts (show PsR K co E ((evE F (vw ρ) x).bind fun y => listR y fun r => if noLAll r = true then .ok (r, ρ) else .no) G0 H0 _ from h)
    refine h2.at (R.base xb).nxP fun r _ q L acc G' H' nx gL hL hl ha => ?_
    by_cases n : noLAll r = true
    · rw [if_pos n] at q
      have hno : ∀ (j : Nat) (ys : D), ρ[j]? = some (.own ys) → σ[j]? ≠ some (some (.ref L)) := fun j ys e1 e2 => by
        obtain ⟨p', vs, a1, a2, _⟩ := R.own j ys e1
        rw [e2] at a1
        cases a1
        rw [hL] at a2
        cases a2
      have ng : gM σ ρ G' L = none := by
        rw [gM_not (fun ⟨j, ys, e1, e2⟩ => hno j ys e1 e2)]
        exact gL
      have back : ∀ {acc : List V} {r : List D}, noLAll r = true → DqAll K G' acc r → DqAll K (gM σ ρ G') acc r := by
        intro acc r hn ha
        induction r generalizing acc with
        | nil => cases ha; exact .nil
        | cons d ds ih =>
          have hn' : (noL d && noLAll ds) = true := hn
          rw [Bool.and_eq_true] at hn'
          cases ha with
          | cons h1 h2 => exact .cons (R.backD nx hn'.1 h1) (ih hn'.2 h2)
      exact q L acc _ H' (R.backP nx) ng hL hl (back n ha) hno
    · rw [if_neg n] at q
      exact q.elim
  | false =>
    have h2 := PsR.lsts (show PsR K co E ((evE F (vwN (frz m ρ)) x).bind fun y => listR y fun r => .ok (r, frz m ρ)) G0 H0 _ from h)
    obtain ⟨G1, R1⟩ := R.frz m
    refine ⟨_, _, R1.viewN, ?_⟩
    refine h2.at (R1.base xb).nx fun r _ q L acc G' H' nx gL hL hl ha => q L acc _ H' (R1.back nx) gL hL hl ha fun j ys e1 e2 => ?_
    obtain ⟨p', vs, a1, a2, _⟩ := R1.own j ys e1
    rw [e2] at a1
    cases a1
    rw [hL] at a2
    cases a2
theorem stm_new (O : Ok2 X T F z co E) {n : Nat} {y : Str} {i : Nat} {e : Expr} {x : Ex} {p q : Pos} {kk : Bool} {m : List Nat} (g : locB X.env.scope.names y = true) (hi : ixOf y X.N 0 = some i) (nw : freshOk e x = true) (hz : ∀ q, z = some q → q.i ≠ i) (h : cE X.N T n X.env.scope e = some x) :
    PS X (.Assign [.Name y q] e p) (tS X.kx z co F E w (.new i x kk m)) := by
  obtain ⟨te, h1, _, h2⟩ := asg_ok (p := p) (q := q) O g hi h
  refine ps_imp h1 fun D σ H ⟨G0, H0, Gb, Hb, ρ, G, xb, R, r⟩ => h2 nw σ H _ (evN_fr (kk := kk) (m := m) xb R ?_)
  have r' := PsR.bind (show PsR X.kx co E ((evN F ρ x kk m).bind fun a => .ok (Out.nx (a.2.set i (.own (.list a.1))))) G0 H0 (PostO X.kx z Gb H0 D) by simpa only [evS] using r)
  exact r'.imp fun a _ z L acc G' H' R' gL hL hl ha hno => z _ G' H' (R'.new i hz hno hl gL (R.nx.h.free hL) (.lst ha))
theorem xq_call {N : List Str} {nm : List (Str × NameKind)} {T : Tbl} {e : Expr} {y : Str} {a : Ex} : cXq N nm T e ≠ some (.call y a) := by
  unfold cXq
  split
  · split
    · split
      · split <;> intro h <;> cases h
      · intro h; cases h
    · intro h; cases h
  · split
    · intro h
      rename_i y1 _ _ _ _
      cases e : ixOf y1 N 0 <;> rw [e] at h <;> cases h
    · intro h; cases h
  · intro h; cases h
theorem call_is {N : List Str} {nm : List (Str × NameKind)} {T : Tbl} {f : Expr → Option Ex} {y : Str} {as : List Expr} {a : Ex} (h : cCall N nm T f y as = some (.call y a)) : ∃ n, T.fns.lookup y = some n ∧ as.length = n ∧ T.hot = false ∧ cArgs f as = some a := by
  unfold cCall at h
  split at h
  · split at h
    · rename_i n hn
      split at h
      · rename_i c
        cases e : cArgs f as with
        | none => rw [e] at h; cases h
        | some v => rw [e] at h; cases h; exact ⟨n, hn, c.1, c.2, rfl⟩
      · cases h
    · split at h
      · split at h
        · split at h
          · split at h
            · cases h
            · cases h
          · cases h
        · split at h
          · split at h
            · cases h
            · cases h
          · cases h
        · cases h
      · split at h
        · split at h
          · cases h
          · cases e : cArgs f as <;> rw [e] at h <;> cases h
        · cases h
  · cases h
theorem fr_own (O : Ok2 X T F z co E) {n : Nat} {e : Expr} {x : Ex} (c : newF X.env.scope.names T.frs e x = true) (h : cE X.N T n X.env.scope e = some x) : ∃ te, PE X e te ∧ notComp e = true ∧ ∀ σ H Q, tF X.kx z co F (fun _ => E) (newX x) σ H Q → te σ H Q := by
  unfold newF at c
  split at c
  · rename_i y p e es p2 y' a'
    generalize hes : e :: es = as at h
    rw [Bool.and_eq_true, Bool.and_eq_true, Bool.and_eq_true, decide_eq_true_eq, decide_eq_true_eq] at c
    obtain ⟨⟨⟨g, rfl⟩, hd⟩, _⟩ := c
    cases n with
    | zero => simp [cE] at h
    | succ n =>
      have S := snd n O.o
      have h' : (match cXq X.N X.env.scope.names T (.Call (.Name y p) as [] p2) with
        | some y => some y
        | none => cCall X.N X.env.scope.names T (cE X.N T n X.env.scope) y as) = some (.call y a') := h
      cases hq : cXq X.N X.env.scope.names T (.Call (.Name y p) as [] p2) with
      | some v =>
        rw [hq] at h'
        cases h'
        exact absurd hq xq_call
      | none =>
        rw [hq] at h'
        obtain ⟨n0, hf, hl, cool, e1⟩ := call_is h'
        obtain ⟨a, fd, ps, k, P, room, m, kp, b⟩ := (O.o.call cool y n0 hf).fr
        cases as with
        | nil => cases hes
        | cons e es =>
          cases hes
          have st := args_star S e1
          refine ⟨_, pe_callG (p := p) (pos := p2) P room O.o.gd (gl_of g) m kp b (O.o.pas cool) (snd_args S e1) (ne_beq hd) (star_of (st e List.mem_cons_self)) (noStars fun a ha => st a (List.mem_cons_of_mem _ ha)), rfl, fun σ H Q ⟨ν, G, R, q⟩ => ?_⟩
          have q : PsR X.kx co E ((evE F ν (.call "<new>" (.acons (.cst (.str y)) a'))).bind fun y => listR y .ok) G H (FrL X.kx G H Q) := q
          simp only [evE] at q
          refine ⟨ν, G, R, ?_⟩
          cases ev : evE F ν a' with
          | ok d =>
            rw [ev] at q
            cases d with
            | list ds => exact fun vs G1 H1 s ha => ⟨G1, ds, s.s, ha, (args_len e1 ev).trans hl, PsR.mono (r := (F "<new>" (.str y :: ds)).bind fun y => listR y .ok) q s fun r _ z L acc G' H' nx g hL hl ha => z L acc G' H' (s.trans nx) g (s.h.free hL) hl ha⟩
            | _ => exact q
          | err _ => rw [ev] at q; exact q
          | no => rw [ev] at q; exact q
  · cases c
theorem stm_newF (O : Ok2 X T F z co E) {n : Nat} {y : Str} {i : Nat} {e : Expr} {x : Ex} {p q : Pos} {kk : Bool} {m : List Nat} (g : locB X.env.scope.names y = true) (hi : ixOf y X.N 0 = some i) (nw : newF X.env.scope.names T.frs e x = true) (hz : ∀ q, z = some q → q.i ≠ i) (h : cE X.N T n X.env.scope e = some x) :
    PS X (.Assign [.Name y q] e p) (tS X.kx z co F E w (.new i (newX x) kk m)) := by
  obtain ⟨te, k1, nc, k2⟩ := fr_own O nw h
  refine ps_imp (ps_set O.o.nd (ixOf_get hi) (loc_of g) k1 (swaps_no nc) (.inl (O.fn y))) fun D σ H ⟨G0, H0, Gb, Hb, ρ, G, xb, R, r⟩ => k2 σ H _ (evN_fr (kk := kk) (m := m) xb R ?_)
  have r' := PsR.bind (show PsR X.kx co E ((evN F ρ (newX x) kk m).bind fun a => .ok (Out.nx (a.2.set i (.own (.list a.1))))) G0 H0 (PostO X.kx z Gb H0 D) by simpa only [evS] using r)
  exact r'.imp fun a _ z L acc G' H' R' gL hL hl ha hno => z _ G' H' (R'.new i hz hno hl gL (R.nx.h.free hL) (.lst ha))
theorem stm_newD (O : Ok2 X T F z co E) {y : Str} {i : Nat} {p p' q : Pos} (g : locB X.env.scope.names y = true) (hi : ixOf y X.N 0 = some i) (hz : ∀ q, z = some q → q.i ≠ i) :
    PS X (.Assign [.Name y q] (.Dict [] [] p') p) (tS X.kx z co F E w (.newD i)) := by
  refine ps_imp (ps_set O.o.nd (ixOf_get hi) (loc_of g) pe_dnewK rfl (.inl (O.fn y))) fun D σ H ⟨G0, H0, Gb, Hb, ρ, G, xb, R, r⟩ L hL => ?_
  have R1 := R.back (Nx.hid (o := .dK []) R.nx.s hL)
  simp only [evS] at r
  have r' : PostO X.kx z Gb H0 D (.nx (ρ.set i (.own (.dict [])))) := r
  refine r' _ G _ (R1.new i hz (fun j ys e1 e2 => ?_) upd_same (R.nx.s.free hL) (R.nx.h.free hL) (.dK .nil))
  obtain ⟨p', vs, a1, a2, _⟩ := R.own j ys e1
  rw [e2] at a1
  cases a1
  rw [hL] at a2
  cases a2
theorem stm_unp (O : Ok2 X T F z co E) {n : Nat} {es : List Expr} {is : List Nat} {e : Expr} {x : Ex} {j : Nat} {p q : Pos} {k : Bool} {m : List Nat} (nt : notTup e = true) (cool : T.hot = false) (ht : cTgs X.N X.env.scope.names es = some is) (h : cE X.N T n X.env.scope e = some x) :
    PS X (.Assign [.Tuple es j q] e p) (tS X.kx z co F E w (.unp is x k m)) := by
  have tg : PG X (.Tuple es j q) (tG X.kx (.inr is)) := tg_ok O.o.nd (O.o.calm cool) (sto_def O) (by show (cTgs X.N X.env.scope.names es).map Sum.inr = _; rw [ht]; rfl)
  have base := ps_asg (pos := p) ((snd n O.o).e _ _ h) tg (by cases e <;> rfl) (by cases e <;> first | rfl | cases nt) rfl
  refine ps_imp base fun D σ H ⟨G0, H0, Gb, Hb, ρ, G, xb, R, r⟩ => evK_go (k := k) (m := m) xb R ?_
  have r' := PsR.bind (show PsR X.kx co E ((evK F ρ x k m).bind fun a => (Res.ofO (setS a.2 (.inr is) a.1)).bind fun ρ' => .ok (Out.nx ρ')) G0 H0 (PostO X.kx z Gb H0 D) by simpa only [evS] using r)
  refine r'.imp fun a _ z v G' H' R' hv _ => ?_
  cases e1 : setS a.2 (.inr is) a.1 with
  | none => rw [e1] at z; exact z.elim
  | some ρ' =>
    rw [e1] at z
    exact setS_go R' hv e1 fun σ' R2 => z σ' G' H' R2
theorem frz_own : ∀ {m : List Nat} {ρ : List Sl} {i : Nat} {xs : D}, (frz m ρ)[i]? = some (.own xs) → ρ[i]? = some (.own xs)
  | [], _, _, _, h => h
  | j :: m, ρ, i, xs, h => by
    unfold frz at h
    split at h
    · have h' := frz_own h
      by_cases e : j = i
      · subst e
        have hj : j < ρ.length := by
          have := (List.getElem?_eq_some_iff.mp h').1
          rwa [List.length_set] at this
        rw [List.getElem?_set_self hj] at h'
        cases h'
      · rwa [List.getElem?_set_ne e] at h'
    · exact frz_own h
theorem evK_own {ρ : List Sl} {x : Ex} {k : Bool} {m : List Nat} {a : D × List Sl} {i : Nat} {xs : D} (h : evK F ρ x k m = .ok a) (e : a.2[i]? = some (.own xs)) : ρ[i]? = some (.own xs) := by
  cases k with
  | true =>
    have h' : ((evE F (vw ρ) x).bind fun d => if noL d = true then Res.ok (d, ρ) else .no) = .ok a := h
    cases e1 : evE F (vw ρ) x with
    | ok d =>
      rw [e1] at h'
      have h2 : (if noL d = true then Res.ok (d, ρ) else .no) = .ok a := h'
      by_cases n : noL d = true
      · rw [if_pos n] at h2; cases h2; exact e
      · rw [if_neg n] at h2; cases h2
    | err _ => rw [e1] at h'; cases h'
    | no => rw [e1] at h'; cases h'
  | false =>
    have h' : ((evE F (vwN (frz m ρ)) x).bind fun d => Res.ok (d, frz m ρ)) = .ok a := h
    cases e1 : evE F (vwN (frz m ρ)) x with
    | ok d => rw [e1] at h'; cases h'; exact frz_own e
    | err _ => rw [e1] at h'; cases h'
    | no => rw [e1] at h'; cases h'
theorem stm_app (O : Ok2 X T F z co E) {n : Nat} {y : Str} {i : Nat} {a : Expr} {x : Ex} {ap cp p q : Pos} {k : Bool} {m : List Nat} (g : visB X.env.scope.names y = true) (d1 : y ≠ "__debug__") (d2 : y ≠ "__classdict__") (hl : (ap.endLine == cp.line) = true)
    (hi : ixOf y X.N 0 = some i) (h : cE X.N T n X.env.scope a = some x) : PS X (.Expr (.Call (.Attribute (.Name y q) "append" ap) [a] [] cp) p) (tS X.kx z co F E w (.app i x k m)) := by
  have S := snd n O.o
  have st := star_of (es := []) (env := X.env) (S.star _ _ h)
  have pa : PA X [a] (tCons (tE X.kx z co F (fun _ => E) x) tNil) := pa_cons (S.e _ _ h) pa_nil st
  have pn : PE X (.Name y q) (tVar i) := pe_var (ixOf_get hi) (vis_of rfl g) (ne_beq d1) (ne_beq d2)
  have base := ps_expr (pos := p) (pe_bm (cpos := cp) (apos := ap) PySem.F.plainAttrs_list PySem.F.slot_list_append PySem.F.type_list_append mt_append pn pa rfl (by rw [st]; rfl) hl st rfl) rfl
  refine ps_imp base fun D σ H ⟨G0, H0, Gb, Hb, ρ, G, xb, R, r⟩ => ?_
  simp only [evS] at r
  split at r
  · rename_i xs0 e0
    obtain ⟨l, o0, a1, a2, a3, a4, a5⟩ := R.own i _ e0
    cases a5 with
    | lst a5 =>
      refine ⟨.ref l, a1, .inl ⟨rfl, _, SqL.of a2⟩, evK_go (k := k) (m := m) xb R ((PsR.bind r).imp fun b eb zz v G' H' R' hv sm => ?_)⟩
      split at zz
      · rename_i xs e2
        obtain ⟨l', o', b1, b2, b3, b4, b5⟩ := R'.own i _ e2
        rw [a1] at b1
        cases b1
        cases b5 with
        | lst b5 =>
          by_cases hz : xs.length < sizeLine
          · rw [if_pos hz] at zz
            exact ⟨l, _, v, rfl, rfl, b2, by rw [dpa_len b5]; exact hz, zz σ G' _ (R'.grow e2 a1 (.lst (dpa_append b5 (.cons hv .nil))))⟩
          · rw [if_neg hz] at zz; exact zz.elim
      · exact zz.elim
  · exact r.elim
theorem stm_ext (O : Ok2 X T F z co E) {n : Nat} {y : Str} {i : Nat} {a : Expr} {x : Ex} {ap cp p q : Pos} {k : Bool} {m : List Nat} (g : visB X.env.scope.names y = true) (d1 : y ≠ "__debug__") (d2 : y ≠ "__classdict__") (hl : (ap.endLine == cp.line) = true)
    (hi : ixOf y X.N 0 = some i) (h : cE X.N T n X.env.scope a = some x) : PS X (.Expr (.Call (.Attribute (.Name y q) "extend" ap) [a] [] cp) p) (tS X.kx z co F E w (.ext i x k m)) := by
  have S := snd n O.o
  have st := star_of (es := []) (env := X.env) (S.star _ _ h)
  have pa : PA X [a] (tCons (tE X.kx z co F (fun _ => E) x) tNil) := pa_cons (S.e _ _ h) pa_nil st
  have pn : PE X (.Name y q) (tVar i) := pe_var (ixOf_get hi) (vis_of rfl g) (ne_beq d1) (ne_beq d2)
  have base := ps_expr (pos := p) (pe_bm (cpos := cp) (apos := ap) PySem.F.plainAttrs_list PySem.F.slot_list_extend PySem.F.type_list_extend mt_extendD pn pa rfl (by rw [st]; rfl) hl st rfl) rfl
  refine ps_imp base fun D σ H ⟨G0, H0, Gb, Hb, ρ, G, xb, R, r⟩ => ?_
  simp only [evS] at r
  split at r
  · rename_i xs0 e0
    obtain ⟨l, o0, a1, a2, a3, a4, a5⟩ := R.own i _ e0
    cases a5 with
    | lst a5 =>
      refine ⟨.ref l, a1, .inl ⟨rfl, _, SqL.of a2⟩, ?_⟩
      have fin : ∀ (v : V) (H1 : Hp) (a : List PyData × List Sl) (G' : Hp) (b : Addr) (zs : List V), PsR X.kx co E (match a.2[i]? with
          | some (.own (.list xs)) => if xs.length + a.1.length ≤ sizeLine then .ok (.nx (a.2.set i (.own (.list (xs ++ a.1))))) else .no
          | _ => .no) G0 H0 (PostO X.kx z Gb H0 D) → v = .ref b → LsQ X.K H1 b zs → RepS X.kx z Gb H0 σ a.2 G' H1 → DqAll X.kx G' zs a.1 →
          ∃ l' b' xs' zs', V.ref l = .ref l' ∧ [v] = [.ref b'] ∧ H1 l' = some (.lst xs') ∧ LsQ X.K H1 b' zs' ∧ xs'.length + zs'.length ≤ sizeLine ∧ D.nx σ (upd H1 l' (.lst (xs' ++ zs'))) := by
        rintro v H1 a G' b zs zz rfl lq R' da
        split at zz
        · rename_i xs e2
          obtain ⟨l', o', b1, b2, b3, b4, b5⟩ := R'.own i _ e2
          rw [a1] at b1
          cases b1
          cases b5 with
          | lst b5 =>
            by_cases hz : xs.length + a.1.length ≤ sizeLine
            · rw [if_pos hz] at zz
              exact ⟨l, b, _, zs, rfl, rfl, b2, lq, by rw [dpa_len b5, dpa_len da]; exact hz, zz σ G' _ (R'.grow e2 a1 (.lst (dpa_append b5 da)))⟩
            · rw [if_neg hz] at zz; exact zz.elim
        · exact zz.elim
      cases k with
      | true =>
        have r1 := PsR.bind (show PsR X.kx co E (((evE F (vw ρ) x).bind fun y => listR y fun r => if noLAll r = true then .ok (r, ρ) else .no).bind _) G0 H0 _ from r)
        have r2 := PsR.bind r1
        refine ⟨vw ρ, _, R.view, PsR.toP (r2.at (R.base xb).nxP fun d _ qq v G' H' nx hv => ?_)⟩
        cases d with
        | list ds =>
          have q3 : PsR X.kx co E (if noLAll ds = true then .ok (ds, ρ) else .no) G0 H0 _ := qq
          by_cases nl : noLAll ds = true
          · rw [if_pos nl] at q3
            cases hv with
            | lst h1 aa =>
              have back : ∀ {acc : List V} {r : List PyData}, noLAll r = true → DqAll X.kx G' acc r → DqAll X.kx (gM σ ρ G') acc r := by
                intro acc r hn ha
                induction r generalizing acc with
                | nil => cases ha; exact .nil
                | cons d ds ih =>
                  have hn' : (noL d && noLAll ds) = true := hn
                  rw [Bool.and_eq_true] at hn'
                  cases ha with
                  | cons h1 h2 => exact .cons (R.backD nx hn'.1 h1) (ih hn'.2 h2)
              exact fin _ H' (ds, ρ) _ _ _ q3 rfl (ls_same nx.s h1) (R.backP nx) (back nl aa)
          · rw [if_neg nl] at q3; exact q3.elim
        | _ => exact qq.elim
      | false =>
        have r1 := PsR.bind (show PsR X.kx co E (((evE F (vwN (frz m ρ)) x).bind fun y => listR y fun r => .ok (r, frz m ρ)).bind _) G0 H0 _ from r)
        have r2 := PsR.bind r1
        obtain ⟨G1, R1⟩ := R.frz m
        refine ⟨_, _, R1.viewN, PsR.toP (r2.at (R1.base xb).nx fun d _ qq v G' H' nx hv => ?_)⟩
        cases d with
        | list ds =>
          cases hv with
          | lst h1 aa => exact fin _ H' (ds, frz m ρ) _ _ _ qq rfl (ls_same nx.s h1) (R1.back nx) aa
        | _ => exact qq.elim
  · exact r.elim
/-- x[e] = value -/
theorem stm_sto (O : Ok2 X T F z co E) {n : Nat} {y : Str} {i : Nat} {ix e : Expr} {y' x : Ex} {p p' q : Pos} {k : Bool} {m : List Nat} (g : visB X.env.scope.names y = true) (d1 : y ≠ "__debug__") (d2 : y ≠ "__classdict__") (ns : notSlice ix = true) (nc : notComp e = true)
    (hi : ixOf y X.N 0 = some i) (h1 : cE X.N T n X.env.scope ix = some y') (h2 : cE X.N T n X.env.scope e = some x) : PS X (.Assign [.Subscript (.Name y q) ix p'] e p) (tS X.kx z co F E w (.sto i y' x k m)) := by
  have S := snd n O.o
  have pn : PE X (.Name y q) (tVar i) := pe_var (ixOf_get hi) (vis_of rfl g) (ne_beq d1) (ne_beq d2)
  have tg : PG X (.Subscript (.Name y q) ix p') (gSub (tVar i) (tE X.kx z co F (fun _ => E) y') (tSto X.kx)) := pg_sub pn (S.e _ _ h1) (set_own (by have := O.o.hu; omega)) (by
    intro v
    cases ix with
    | Slice _ _ _ _ => cases ns
    | _ => rfl)
  have base := ps_asg (pos := p) (S.e _ _ h2) tg (by cases e <;> first | rfl | cases nc) (by cases e <;> rfl) rfl
  refine ps_imp base fun D σ H ⟨G0, H0, Gb, Hb, ρ, G, xb, R, r⟩ => evK_go (k := k) (m := m) xb R ?_
  simp only [evS] at r
  refine (PsR.bind r).imp fun b eb zz v G' H' R' hv sm => ?_
  split at zz
  · rename_i o e0
    obtain ⟨l, ho, a1, a2, a3, a4, a5⟩ := R'.own i _ e0
    refine ⟨.ref l, a1, vw b.2, _, R'.view, PsR.toP ((PsR.bind zz).at (R'.base xb).nxP fun d _ qq u G2 H2 nx hu => ?_)⟩
    by_cases nl : noL d = true
    · rw [if_pos nl] at qq
      cases er : stoO o d b.1 with
      | none => rw [er] at qq; exact qq.elim
      | some r1 =>
        rw [er] at qq
        have R2 := R'.backP nx
        have sG : Same G' (gM σ b.2 G2) := fun a ob ea => by
          have n : ¬ Own σ b.2 a := fun hh => by rw [(R'.own_at hh).2.1] at ea; cases ea
          rw [gM_not n]
          exact nx.g a ob (by rw [gP_not n]; exact ea)
        obtain ⟨l2, ho2, c1, c2, c3, c4, c5⟩ := R2.own i _ e0
        rw [a1] at c1
        cases c1
        exact ⟨gM σ b.2 G2, l, ho2, o, d, b.1, r1, rfl, c2, R2.nx.s, c5, R'.backD nx nl hu, dp_same sG _ _ hv, er, fun ho' w' => qq σ _ _ (R2.grow e0 a1 w')⟩
    · rw [if_neg nl] at qq; exact qq.elim
  · exact zz.elim
/-- y = x.pop(e) -/
theorem stm_popA (O : Ok2 X T F z co E) {n : Nat} {y o : Str} {i j : Nat} {a : Expr} {y' : Ex} {ap cp p q q2 : Pos} (gl : locB X.env.scope.names y = true) (g : visB X.env.scope.names o = true) (d1 : o ≠ "__debug__") (d2 : o ≠ "__classdict__") (hl : (ap.endLine == cp.line) = true)
    (hj : ixOf y X.N 0 = some j) (hi : ixOf o X.N 0 = some i) (h : cE X.N T n X.env.scope a = some y') : PS X (.Assign [.Name y q] (.Call (.Attribute (.Name o q2) "pop" ap) [a] [] cp) p) (tS X.kx z co F E w (.popA j i y')) := by
  have S := snd n O.o
  have st := star_of (es := []) (env := X.env) (S.star _ _ h)
  have pa : PA X [a] (tCons (tE X.kx z co F (fun _ => E) y') tNil) := pa_cons (S.e _ _ h) pa_nil st
  have pn : PE X (.Name o q2) (tVar i) := pe_var (ixOf_get hi) (vis_of rfl g) (ne_beq d1) (ne_beq d2)
  have base := ps_set (pos := p) (pos' := q) O.o.nd (ixOf_get hj) (loc_of gl) (pe_bm (cpos := cp) (apos := ap) PySem.F.plainAttrs_list PySem.F.slot_list_pop PySem.F.type_list_pop mt_popAt pn pa rfl (by rw [st]; rfl) hl st rfl) rfl (.inl (O.fn y))
  refine ps_imp base fun D σ H ⟨G0, H0, Gb, Hb, ρ, G, xb, R, r⟩ => ?_
  simp only [evS] at r
  split at r
  · rename_i xs e0
    obtain ⟨l, ho, a1, a2, a3, a4, a5⟩ := R.own i _ e0
    cases a5 with
    | lst a5 =>
      refine ⟨.ref l, a1, .inl ⟨rfl, _, SqL.of a2⟩, vw ρ, _, R.view, PsR.toP ((PsR.bind r).at (R.base xb).nxP fun d _ qq u G2 H2 nx hu => ?_)⟩
      cases hu with
      | int jj =>
        have R2 := R.backP nx
        obtain ⟨l2, ho2, c1, c2, c3, c4, c5⟩ := R2.own i _ e0
        rw [a1] at c1
        cases c1
        cases c5 with
        | lst c5 =>
          rename_i vs2
          have qq' : PsR X.kx co E ((Res.ofO (if near jj = true then (match ixN xs.length jj with
            | some n => (xs[n]?).map fun d => (d, PyData.list (xs.eraseIdx n))
            | none => none) else none)).bind fun r => .ok (.nx ((ρ.set i (.own r.2)).set j (.val r.1)))) G0 H0 (PostO X.kx z Gb H0 D) := qq
          by_cases hn : near jj = true
          · rw [if_pos hn] at qq'
            have nb := near_of hn
            cases e1 : ixN xs.length jj with
            | none => rw [e1] at qq'; exact qq'.elim
            | some nn =>
              simp only [e1] at qq'
              cases e2 : xs[nn]? with
              | none => rw [e2] at qq'; exact qq'.elim
              | some d =>
                rw [e2] at qq'
                obtain ⟨v, e3, hv⟩ := dpa_get c5 e2
                obtain ⟨k1, k2, k3, k4⟩ := ixN_seq e1
                refine ⟨l, vs2, jj, nn, v, rfl, rfl, c2, by omega, by omega, by rw [dpa_len c5]; exact k1, e3, ?_⟩
                exact qq' _ _ _ ((R2.grow e0 a1 (.lst (dpa_erase nn c5))).set j hv)
          · rw [if_neg hn] at qq'; exact qq'.elim
      | _ => exact qq.elim
  · exact r.elim
/-! ### name op= value -/
theorem aug_noL {op : Operator} {x y r : D} (h : augD op x y = some r) : noL r = true := by
  unfold augD at h
  split at h
  · cases h; rfl
  · cases h; rfl
  · obtain ⟨_, rfl⟩ := of_ite_some h; rfl
  · cases h
def tiD (K : Fg) (op : Operator) : TIp := fun x y H Q => ∃ G dx dy d, Same G H ∧ Dq K G x dx ∧ Dq K G y dy ∧ augD op dx dy = some d ∧ ∀ v, Dq K G v d → Q v H
theorem ip_D (op : Operator) : PIp X op (tiD X.kx op) := by
  rintro pins s σ H x y v u Q I rx ry ⟨G, dx, dy, d, sm, hx, hy, hf, q⟩
  unfold augD at hf
  split at hf
  · cases hf; cases hx; cases hy; exact iop_add pins s σ H _ _ v u Q I rx ry ⟨_, _, rfl, rfl, q _ (.int _)⟩
  · cases hf; cases hx; cases hy; exact iop_sub pins s σ H _ _ v u Q I rx ry ⟨_, _, rfl, rfl, q _ (.int _)⟩
  · obtain ⟨hz, rfl⟩ := of_ite_some hf
    cases hx; cases hy
    exact iop_add_str pins s σ H _ _ v u Q I rx ry ⟨_, _, rfl, rfl, hz, q _ (.str _)⟩
  · cases hf
theorem stm_aug (O : Ok2 X T F z co E) {n : Nat} {y : Str} {i : Nat} {op : Operator} {e : Expr} {x : Ex} {p q : Pos} (g : locB X.env.scope.names y = true) (hi : ixOf y X.N 0 = some i) (h : cE X.N T n X.env.scope e = some x) :
    PS X (.AugAssign (.Name y q) op e p) (tS X.kx z co F E w (.aug i op x)) := by
  have base := ps_aug (pos := p) (pos' := q) O.o.nd (ixOf_get hi) (loc_of g) ((snd n O.o).e _ _ h) (ip_D op) (.inl (O.fn y))
  refine ps_imp base fun D σ H ⟨G0, H0, Gb, Hb, ρ, G, xb, R, r⟩ => ?_
  simp only [evS] at r
  cases e0 : ρ[i]? with
  | none => rw [e0] at r; exact r.elim
  | some s0 =>
    rw [e0] at r
    cases s0 with
    | val d =>
      obtain ⟨v, a1, a2⟩ := R.val i d e0
      have r' := PsR.bind r
      refine ⟨v, a1, vw ρ, _, R.view, PsR.toP (r'.at (R.base xb).nxP fun e1 _ z u G' H' nx hu => ?_)⟩
      cases e2 : augD op d e1 with
      | none => rw [e2] at z; exact z.elim
      | some r1 =>
        rw [e2] at z
        refine ⟨G', d, e1, r1, nx.s, dp_same (R.same_gP.trans nx.g) _ _ a2, hu, e2, fun v2 hv2 => ?_⟩
        exact z _ _ H' ((R.backP nx).set i (R.backD nx (aug_noL e2) hv2))
    | _ => exact r.elim

/-! ### the others -/
theorem stm_dro (O : Ok2 X T F z co E) {n : Nat} {e : Expr} {x : Ex} {p : Pos} (nc : notComp e = true) (h : cE X.N T n X.env.scope e = some x) : PS X (.Expr e p) (tS X.kx z co F E w (.dro x)) := by
  refine ps_imp (ps_expr ((snd n O.o).e _ _ h) (swaps_no nc)) fun D σ H ⟨G0, H0, Gb, Hb, ρ, G, xb, R, r⟩ => ?_
  simp only [evS] at r
  exact ⟨vw ρ, _, R.view, PsR.toP ((PsR.bind r).at (R.base xb).nxP fun _ _ z v G' H' nx _ => z σ _ H' (R.backP nx))⟩
theorem stm_ret (O : Ok2 X T F z co E) {n : Nat} {e : Expr} {x : Ex} {p : Pos} {m : List Nat} (h : cE X.N T n X.env.scope e = some x) : PS X (.Return (some e) p) (tS X.kx z co F E w (.ret x m)) := by
  refine ps_imp (ps_ret ((snd n O.o).e _ _ h)) fun D σ H ⟨G0, H0, Gb, Hb, ρ, G, xb, R, r⟩ => evN_go (m := m) xb R ?_
  simp only [evS] at r
  exact (PsR.bind r).imp fun d _ z v G' H' R' hv => z v G' H' R'.nx hv
theorem stm_retL (O : Ok2 X T F z co E) {n : Nat} {e : Expr} {x : Ex} {p : Pos} {m : List Nat} (c : isLst e = true) (h : cE X.N T n X.env.scope e = some x) : PS X (.Return (some e) p) (tS X.kx z co F E w (.retL x m)) := by
  cases n with
  | zero => simp [cE] at h
  | succ n =>
    cases e with
    | List es p' =>
      have h : (cArgs (cE X.N T n X.env.scope) es).map Ex.lst = some x := h
      cases e1 : cArgs (cE X.N T n X.env.scope) es with
      | none => rw [e1] at h; cases h
      | some lz =>
        rw [e1] at h
        cases h
        refine ps_imp (ps_ret (pe_lst (pos := p') (snd_args (snd n O.o) e1))) fun D σ H ⟨G0, H0, Gb, Hb, ρ, G, xb, R, r⟩ => lst_key σ H _ (evN_fr (kk := false) (m := m) xb R ?_)
        have r' := PsR.bind (show PsR X.kx co E ((evN F ρ (.lst lz) false m).bind fun a => .ok (Out.rtL a.1)) G0 H0 (PostO X.kx z Gb H0 D) by simpa only [evS] using r)
        exact r'.imp fun a _ z L acc G' H' R' gL hL hl ha _ => z L acc G' H' R'.nx gL (R.nx.h.free hL) hl ha
    | _ => cases c
/-- a block that is data -/
structure SndB (X : Cx) (z : Zx) (co : Co) (F : Str → List D → Res D) (E : XK) (w : Nat) (f : List Nat → Stmt → Option Sm) (g : Stmt → Stmt → Option Sm) : Prop where
  s : ∀ la st S, f la st = some S → PS X st (tS X.kx z co F E w S)
  p : ∀ s t S, g s t = some S → PSs X [s, t] (tS X.kx z co F E w S)
theorem stm_block {mu : List Stmt → List Nat} {f : List Nat → Stmt → Option Sm} {g : Stmt → Stmt → Option Sm} (B : SndB X z co F E w f g) : ∀ {ss : List Stmt} {S : Sm} {la : List Nat}, cB mu f g la ss = some S → PSs X ss (tS X.kx z co F E w S)
  | [], S, la, h => by
    cases h
    refine pss_imp pss_nil fun D σ H ⟨G0, H0, Gb, Hb, ρ, G, xb, R, r⟩ => ?_
    simp only [evS] at r
    exact r σ G H R
  | [s], S, la, h => pss_one (B.s _ _ _ h)
  | s :: t :: ss, S, la, h => by
    unfold cB at h
    split at h
    · rename_i S' e0
      cases h
      cases ss with
      | nil => exact B.p _ _ _ e0
      | cons _ _ => cases e0
    cases e1 : f (mu (t :: ss) ++ la) s with
    | none => rw [e1] at h; cases h
    | some a =>
      cases e2 : cB mu f g la (t :: ss) with
      | none => rw [e1, e2] at h; cases h
      | some b =>
        rw [e1, e2] at h
        cases h
        refine pss_imp (pss_cons (B.s _ _ _ e1) (stm_block B e2)) fun D σ H ⟨G0, H0, Gb, Hb, ρ, G, xb, R, r⟩ => ?_
        simp only [evS] at r
        refine ⟨G0, H0, Gb, Hb, ρ, G, xb, R, (PsR.bind r).imp fun o _ zz => ?_⟩
        cases o with
        | nx ρ' => exact fun σ' G' H' R' => ⟨G0, H0, Gb, Hb, ρ', G', xb, R', zz⟩
        | rt d => exact zz
        | rtL d => exact zz
        | bk ρ' => exact zz
        | ct ρ' => exact zz
theorem stm_if (O : Ok2 X T F z co E) {n : Nat} {mu : List Stmt → List Nat} {la : List Nat} {f : List Nat → Stmt → Option Sm} {gp : Stmt → Stmt → Option Sm} (B : SndB X z co F E w f gp) {c : Expr} {c' : Ex} {a b : List Stmt} {a' b' : Sm} {p : Pos} (ht : testOk c = true) (h : cE X.N T n X.env.scope c = some c') (h1 : cB mu f gp la a = some a') (h2 : cB mu f gp la b = some b') :
    PS X (.If c a b p) (tS X.kx z co F E w (.ife c' a' b')) := by
  refine ps_imp (ps_if ((snd n O.o).t _ _ h ht) (stm_block B h1) (stm_block B h2)) fun D σ H ⟨G0, H0, Gb, Hb, ρ, G, xb, R, r⟩ => tst_go xb R ?_
  simp only [evS] at r
  refine (PsR.bind r).imp fun k _ z G' H' R' => ?_
  cases k with
  | true => exact iteT ⟨G0, H0, Gb, Hb, ρ, G', xb, R', z⟩
  | false => exact iteF ⟨G0, H0, Gb, Hb, ρ, G', xb, R', z⟩
theorem PostO.rebase {K : Fg} {G0 H0 G1 H1 : Hp} {D : Ends} (x : Nx G0 H0 G1 H1) {o : Out} (h : PostO K z G0 H0 D o) : PostO K z G1 H0 D o := by
  cases o with
  | nx ρ => exact fun σ G H R => h σ G H (R.base x)
  | rt d => exact fun v G H nx hv => h v G H ⟨x.g.trans nx.g, nx.s, nx.h, fun a e n => nx.n a (x.n a e n) n⟩ hv
  | rtL d => exact fun L acc G H nx g hL hl ha => h L acc G H ⟨x.g.trans nx.g, nx.s, nx.h, fun a e n => nx.n a (x.n a e n) n⟩ g hL hl ha
  | bk ρ => exact fun σ G H R => h σ G H (R.base x)
  | ct ρ => exact fun σ G H R => h σ G H (R.base x)
theorem stm_for (O : Ok2 X T F z co E) {n : Nat} {mu : List Stmt → List Nat} {la : List Nat} {f : List Nat → Stmt → Option Sm} {gp : Stmt → Stmt → Option Sm} (B : SndB X z co F E w f gp) {tg it : Expr} {t : Sum Nat (List Nat)} {i : Ex} {m : List Nat} {body : List Stmt} {b : Sm} {p : Pos} (ns : notSet it = true) (cool : T.hot = false)
    (h1 : cIter X.env.scope.names T (cE X.N T n X.env.scope) tg it = some i) (h2 : cTg X.N X.env.scope.names tg = some t) (h3 : cB mu f gp la body = some b) : PS X (.For tg it body [] p) (tS X.kx z co F E w (.for_ t i m b)) := by
  have folded : ∀ x, foldedSetIterable it X.env x = pure x := fun x => by
    cases it with
    | Set _ _ _ => cases ns
    | _ => rfl
  refine ps_imp (ps_for (O.po cool) (O.o.calm cool) (iter_ok O.o (snd n O.o) h1) (tg_ok O.o.nd (O.o.calm cool) (sto_def O) h2) (stm_block B h3) folded) fun D σ H ⟨G0, H0, Gb, Hb, ρ, G, xb, R, r⟩ => ?_
  obtain ⟨G1, R1⟩ := R.frz m
  refine ⟨_, _, R1.viewN, ?_⟩
  have r' : PsR X.kx co E (((evE F (vwN (frz m ρ)) i).bind fun d => listR d .ok).bind fun ds => forL (fun ρ d => match setS ρ t d with
      | some ρ' => evS F w ρ' b
      | none => .no) (frz m ρ) ds) G0 H0 (PostO X.kx z Gb H0 D) := by
    simp only [evS] at r
    revert r
    cases evE F (vwN (frz m ρ)) i with
    | ok d => cases d <;> exact id
    | err _ => exact id
    | no => exact id
  refine (PsR.bind r').at (R1.base xb).nx fun ds _ zz J G2 H2 nx wk => ?_
  have R2 := R1.back nx
  obtain ⟨Y, wk, wy⟩ := wk
  have x2 : Nx G0 H0 G2 H2 := (R2.base xb).nx
  generalize hg : (fun ρ d => match setS ρ t d with
      | some ρ' => evS F w ρ' b
      | none => Res.no) = g at zz
  have gd : ∀ ρ d, g ρ d = match setS ρ t d with
      | some ρ' => evS F w ρ' b
      | none => Res.no := fun ρ d => by rw [← hg]
  refine for_it wk (fun j σ H => ∃ ρ G, RepS X.kx z G2 H0 σ ρ G H ∧ PsR X.kx co E (forL g ρ (ds.drop j)) G0 H0 (PostO X.kx z G2 H0 D)) ⟨_, G2, R2.rebase, PsR.imp (by simpa using zz) fun o _ q => PostO.rebase R2.nx q⟩ (fun j σ H _ ⟨ρ, G, R, _⟩ => R.nx.g.trans R.nx.s) ?_ ?_
  · rintro j x σ3 H3 H4 hj ⟨ρ3, G3, R3, q⟩ y
    rw [List.drop_eq_getElem_cons hj] at q
    have q1 : PsR X.kx co E (g ρ3 ds[j]) G0 H0 fun o => PsR X.kx co E (match o with
      | .nx ρ' => forL g ρ' (ds.drop (j + 1))
      | .ct ρ' => forL g ρ' (ds.drop (j + 1))
      | .bk ρ' => .ok (.nx ρ')
      | .rt d => .ok (.rt d)
      | .rtL d => .ok (.rtL d)) G0 H0 (PostO X.kx z G2 H0 D) := PsR.bind q
    rw [gd] at q1
    obtain ⟨G4, nx4, hv⟩ := wy j ds[j] G3 H3 H4 x (List.getElem?_eq_getElem hj) R3.nx.g R3.nx.s y
    have R4 := R3.back nx4
    cases e1 : setS ρ3 t ds[j] with
    | none => rw [e1] at q1; exact q1.elim
    | some ρ5 =>
      rw [e1] at q1
      refine setS_go R4 hv e1 fun σ5 R5 => ⟨G0, H0, G2, H2, ρ5, G4, x2, R5, ?_⟩
      have q2 : PsR X.kx co E (evS F w ρ5 b) G0 H0 _ := q1
      refine q2.imp fun o _ zz => ?_
      cases o with
      | nx ρ' => exact fun σ' G' H' R' => ⟨ρ', G', R', zz⟩
      | ct ρ' => exact fun σ' G' H' R' => ⟨ρ', G', R', zz⟩
      | bk ρ' => exact zz
      | rt d => exact zz
      | rtL d => exact zz
  · rintro σ3 H3 ⟨ρ3, G3, R3, q⟩
    rw [List.drop_length] at q
    exact q σ3 G3 H3 R3
theorem stm_forR (O : Ok2 X T F z co E) {n : Nat} {mu : List Stmt → List Nat} {la : List Nat} {f : List Nat → Stmt → Option Sm} {gp : Stmt → Stmt → Option Sm} (B : SndB X z co F E w f gp) {tg it : Expr} {t : Sum Nat (List Nat)} {i1 i2 : Ex} {body : List Stmt} {b : Sm} {p : Pos} (ns : notSet it = true) (cool : T.hot = false)
    (h1 : cIter X.env.scope.names T (cE X.N T n X.env.scope) tg it = some (.rng i1 i2)) (h2 : cTg X.N X.env.scope.names tg = some t) (h3 : cB mu f gp la body = some b) : PS X (.For tg it body [] p) (tS X.kx z co F E w (.forR t i1 i2 b)) := by
  have folded : ∀ x, foldedSetIterable it X.env x = pure x := fun x => by
    cases it with
    | Set _ _ _ => cases ns
    | _ => rfl
  refine ps_imp (ps_for (O.po cool) (O.o.calm cool) (iter_rng O.o (snd n O.o) h1) (tg_ok O.o.nd (O.o.calm cool) (sto_def O) h2) (stm_block B h3) folded) fun D σ H ⟨G0, H0, Gb, Hb, ρ, G, xb, R, r⟩ => ?_
  refine ⟨_, _, R.view, ?_⟩
  have r' : PsR X.kx co E (((evE F (vw ρ) (.rng i1 i2)).bind fun d => listR d .ok).bind fun ds => forL (fun ρ d => match setS ρ t d with
      | some ρ' => evS F w ρ' b
      | none => .no) ρ ds) G0 H0 (PostO X.kx z Gb H0 D) := by
    rw [evS] at r
    revert r
    cases evE F (vw ρ) (.rng i1 i2) with
    | ok d => cases d <;> exact id
    | err _ => exact id
    | no => exact id
  refine (PsR.bind r').at (R.base xb).nxP fun ds _ zz J G2 H2 nx wk => ?_
  have R2 := R.backP nx
  obtain ⟨i, j, rfl, rfl⟩ := wk
  obtain ⟨Y, wk, wy⟩ := (walk_rng i j : WalkD X.kx (Itr i (j - i).toNat) (rangeL i j) (gM σ ρ G2))
  generalize hds : rangeL i j = ds at zz wk wy
  generalize hGm : gM σ ρ G2 = Gm at R2 wk wy
  have x2 : Nx G0 H0 Gm H2 := (R2.base xb).nx
  generalize hg : (fun ρ d => match setS ρ t d with
      | some ρ' => evS F w ρ' b
      | none => Res.no) = g at zz
  have gd : ∀ ρ d, g ρ d = match setS ρ t d with
      | some ρ' => evS F w ρ' b
      | none => Res.no := fun ρ d => by rw [← hg]
  refine for_it wk (fun j σ H => ∃ ρ G, RepS X.kx z Gm H0 σ ρ G H ∧ PsR X.kx co E (forL g ρ (ds.drop j)) G0 H0 (PostO X.kx z Gm H0 D)) ⟨_, Gm, R2.rebase, PsR.imp (by simpa using zz) fun o _ q => PostO.rebase R2.nx q⟩ (fun j σ H _ ⟨ρ, G, R, _⟩ => R.nx.g.trans R.nx.s) ?_ ?_
  · rintro j x σ3 H3 H4 hj ⟨ρ3, G3, R3, q⟩ y
    rw [List.drop_eq_getElem_cons hj] at q
    have q1 : PsR X.kx co E (g ρ3 ds[j]) G0 H0 fun o => PsR X.kx co E (match o with
      | .nx ρ' => forL g ρ' (ds.drop (j + 1))
      | .ct ρ' => forL g ρ' (ds.drop (j + 1))
      | .bk ρ' => .ok (.nx ρ')
      | .rt d => .ok (.rt d)
      | .rtL d => .ok (.rtL d)) G0 H0 (PostO X.kx z Gm H0 D) := PsR.bind q
    rw [gd] at q1
    obtain ⟨G4, nx4, hv⟩ := wy j ds[j] G3 H3 H4 x (List.getElem?_eq_getElem hj) R3.nx.g R3.nx.s y
    have R4 := R3.back nx4
    cases e1 : setS ρ3 t ds[j] with
    | none => rw [e1] at q1; exact q1.elim
    | some ρ5 =>
      rw [e1] at q1
      refine setS_go R4 hv e1 fun σ5 R5 => ⟨G0, H0, Gm, H2, ρ5, G4, x2, R5, ?_⟩
      have q2 : PsR X.kx co E (evS F w ρ5 b) G0 H0 _ := q1
      refine q2.imp fun o _ zz => ?_
      cases o with
      | nx ρ' => exact fun σ' G' H' R' => ⟨ρ', G', R', zz⟩
      | ct ρ' => exact fun σ' G' H' R' => ⟨ρ', G', R', zz⟩
      | bk ρ' => exact zz
      | rt d => exact zz
      | rtL d => exact zz
  · rintro σ3 H3 ⟨ρ3, G3, R3, q⟩
    rw [List.drop_length] at q
    exact q σ3 G3 H3 R3
theorem stm_whl (O : Ok2 X T F z co E) {n : Nat} {mu : List Stmt → List Nat} {la : List Nat} {f : List Nat → Stmt → Option Sm} {gp : Stmt → Stmt → Option Sm} (B : SndB X z co F E w f gp) {c : Expr} {c' : Ex} {body : List Stmt} {b : Sm} {p : Pos} (ht : testOk c = true) (cool : T.hot = false) (h1 : cE X.N T n X.env.scope c = some c') (h3 : cB mu f gp la body = some b) :
    PS X (.While c body [] p) (tS X.kx z co F E w (.whl c' b)) := by
  refine ps_imp (ps_while (O.po cool) ((snd n O.o).t _ _ h1 ht) (stm_block B h3)) fun D σ H ⟨G0, H0, Gb, Hb, ρ, G, xb, R, r⟩ => ?_
  simp only [evS] at r
  refine ⟨fun m σ H => ∃ ρ G, RepS X.kx z Gb H0 σ ρ G H ∧ PsR X.kx co E (whlL (fun ρ => tst F ρ c') (fun ρ => evS F w ρ b) m ρ) G0 H0 (PostO X.kx z Gb H0 D), ⟨w, ρ, G, R, r⟩, ?_⟩
  rintro m σ H ⟨ρ, G, R, r⟩
  cases m with
  | zero => exact r.elim
  | succ m =>
    refine tst_go xb R ((PsR.bind r).imp fun k _ zz G' H' R' => ?_)
    cases k with
    | false => exact iteF (zz σ G' H' R')
    | true =>
      refine iteT ⟨fun σ H => ∃ ρ G, RepS X.kx z Gb H0 σ ρ G H ∧ PsR X.kx co E (whlL (fun ρ => tst F ρ c') (fun ρ => evS F w ρ b) m ρ) G0 H0 (PostO X.kx z Gb H0 D), fun σ' H' q => ⟨m, Nat.lt_succ_self _, q⟩, G0, H0, Gb, Hb, ρ, G', xb, R', ?_⟩
      have z' : PsR X.kx co E ((evS F w ρ b).bind fun o => match o with
        | .nx ρ' => whlL (fun ρ => tst F ρ c') (fun ρ => evS F w ρ b) m ρ'
        | .ct ρ' => whlL (fun ρ => tst F ρ c') (fun ρ => evS F w ρ b) m ρ'
        | .bk ρ' => .ok (.nx ρ')
        | .rt d => .ok (.rt d)
        | .rtL d => .ok (.rtL d)) G0 H0 (PostO X.kx z Gb H0 D) := zz
      refine (PsR.bind z').imp fun o _ zz => ?_
      cases o with
      | nx ρ' => exact fun σ' G' H' R' => ⟨ρ', G', R', zz⟩
      | ct ρ' => exact fun σ' G' H' R' => ⟨ρ', G', R', zz⟩
      | bk ρ' => exact zz
      | rt d => exact zz
      | rtL d => exact zz
end
end Pe

set_option Elab.async false
set_option linter.all false
set_option maxRecDepth 100000
set_option maxHeartbeats 8000000
/-! Py1: raise; a def out of a table; try. -/
namespace Pe
open PySem L2
section
variable {X : Cx} {T : Tbl} {F : Str → List D → Res D} {z : Zx} {co : Co} {E : XK} {w : Nat}
/-- arguments by their way -/
theorem argN_go {K : Fg} {G0 H0 Gb Hb G H : Hp} {σ : St} {ρ : List Sl} {as : Ex} {m : List Nat} {Q : List V → Hp → Prop} (xb : Nx G0 H0 Gb Hb) (R : RepS K z Gb H0 σ ρ G H)
    (h : PsR K co E ((evE F (vwN (frz m ρ)) as).bind fun d => listR d .ok) G0 H0 fun ds => ∀ vs G' H', RepS K z Gb H0 σ (frz m ρ) G' H' → DqAll K G' vs ds → Q vs H') : tA K z co F (fun _ => E) as σ H Q := by
  obtain ⟨G1, R1⟩ := R.frz m
  exact ⟨_, _, R1.viewN, h.at (R1.base xb).nx fun ds _ q vs G' H' nx ha => q vs G' H' (R1.back nx) ha⟩
theorem list_bind {α : Type} {r : Res D} {f : List D → Res α} : (r.bind fun d => listR d f) = (r.bind fun d => listR d .ok).bind f := by
  cases r with
  | ok d => cases d <;> rfl
  | err _ => rfl
  | no => rfl
theorem stm_raise (O : Ok2 X T F z co E) {n : Nat} {c : Str} {inf : ErI} {as : List Expr} {x : Ex} {m : List Nat} {p pos pos' : Pos} (cool : T.hot = false) (g : glB X.env.scope.names c = true) (hd : c ≠ "__debug__") (he : T.ers.lookup c = some inf) (hne : as ≠ []) (hl : as.length = inf.fs.length)
    (h : cArgs (cE X.N T n X.env.scope) as = some x) : PS X (.Raise (some (.Call (.Name c p) as [] pos)) none pos') (tS X.kx z co F E w (.rais c inf x m)) := by
  obtain ⟨C, fI, fd, ps, k, e1, e2, e3, e4, e5, e6, e7, e8, e9⟩ := (O.ers cool c inf he).ex
  have S := snd n O.o
  cases as with
  | nil => exact absurd rfl hne
  | cons e es =>
    have st := args_star S h
    have mk := pmk_oex (p := p) (pos := pos) e3 e4 e5 e6 e8 e9 (ds := []) (dvs := []) .nil passL (gl_of g) e1 (snd_args S h) (ne_beq hd) (star_of (st e List.mem_cons_self)) (noStars fun a ha => st a (List.mem_cons_of_mem _ ha))
    refine ps_imp (ps_raise (O.o.calm cool) (O.tk cool) mk) fun D σ H ⟨G0, H0, Gb, Hb, ρ, G, xb, R, r⟩ => ?_
    simp only [evS] at r
    rw [list_bind] at r
    refine argN_go (m := m) xb R ((PsR.bind r).imp fun ds hds q vs G' H1 R1 ha => ?_)
    have hlen : ds.length = inf.fs.length := by
      rw [← hl]
      cases ev : evE F (vwN (frz m ρ)) x with
      | ok d =>
        rw [ev] at hds
        cases d with
        | list ds' => cases hds; exact args_len h ev
        | _ => cases hds
      | err _ => rw [ev] at hds; cases hds
      | no => rw [ev] at hds; cases hds
    refine ⟨by rw [dpa_len ha, hlen]; exact e7, fun a hn => ⟨a, vs, by rw [List.append_nil], by rw [dpa_len ha, hlen], upd_same, fun dx ps H2 n1 n2 h1 h2 h3 h4 => ⟨rfl, dx, ps, h1, h2, by rw [upd_ne n2] at n1; exact n1, ?_⟩⟩⟩
    have n1' : H1 dx = none := by rw [upd_ne n2] at n1; exact n1
    have q' : EW X.kx co E ⟨c, inf.fs, inf.ups, ds⟩ G0 H0 := q
    have keep : ∀ b u, H1 b = some u → upd (del H2 a) dx (.xd ps) b = some u := fun b u hb => by
      have b1 : b ≠ a := fun t => by rw [t, hn] at hb; cases hb
      have b2 : b ≠ dx := fun t => by rw [t, n1'] at hb; cases hb
      rw [upd_ne b2, del_ne b1, h4 b b1 b2, upd_ne b1]
      exact hb
    have x1 := (R1.base xb).nx
    refine q' C dx ps G' _ e2 ⟨x1.g, fun b u hb => keep b u (x1.s b u hb), fun b u hb => keep b u (x1.h b u hb), x1.n⟩ (x1.s.free n1') (x1.h.free n1') upd_same fun f d hf => ?_
    rw [h3]
    exact zip_dq ha hf
where zip_dq {K : Fg} {G : Hp} {f : Str} {d : D} : ∀ {fs : List Str} {vs : List V} {ds : List D}, DqAll K G vs ds → (fs.zip ds).lookup f = some d → ∃ v, (fs.zip vs).lookup f = some v ∧ Dq K G v d
  | [], _, _, _, h => by simp at h
  | _ :: _, _, _, .nil, h => by simp at h
  | g :: fs, _, _, .cons (v := v) (d := d') r t, h => by
    rw [List.zip_cons_cons] at h ⊢
    by_cases e : f = g
    · subst e
      simp only [List.lookup, beq_self_eq_true, Option.some.injEq] at h ⊢
      subst h
      exact ⟨v, rfl, r⟩
    · have e2 : (f == g) = false := by simpa using e
      simp only [List.lookup, e2] at h ⊢
      exact zip_dq t h
end
section
variable {X : Cx} {T : Tbl} {F : Str → List D → Res D} {z : Zx} {co : Co} {E : XK} {w : Nat}
/-- a call of what a slot holds -/
theorem pe_callV {i : Nat} {x : Str} {e : Expr} {es : List Expr} {p pos : Pos} {t : TA} {Ek : St → XK} (hN : X.N[i]? = some x) (hv : Vis X.env.scope x) (gd : X.A.guards = some []) (pas : ∀ σ, PassesAt (L2.CX X.prog X.w) X σ (Ek σ))
    (args : PA X (e :: es) t) (dbg : (x == ("__debug__" : Str)) = false) (cd : (x == ("__classdict__" : Str)) = false) (st : starEach (e :: es) X.env = (false, eval e X.env) :: starEach es X.env) (pl : (backTo pos (starEach es X.env)).any (·.1) = false) :
    PE X (.Call (.Name x p) (e :: es) [] pos) (fun σ H Q => ∃ (a : Addr) (fd : FuncData) (ps : List Str) (k : Nat) (sp : Sp), σ[i]? = some (some (.ref a)) ∧ FnG X.prog X.w X.kx X.mg X.base k a fd ps sp ∧ Room k X.A ∧ PySem.W.keepIn X.kx (.ref a) = true ∧ Binds X.kx fd ps [] ∧ t σ H fun vs H1 => sp vs H1 Q (Ek σ)) := by
  constructor
  rintro pins s σ H Q I ⟨a, fd, ps, k, sp, hs, P, room, kp, b, want⟩
  refine wpAny_Call_Name_kw (thn ((pe_var (pos := p) hN hv dbg cd).run pins s σ H (fun v H1 => v = .ref a ∧ H1 = H) I ⟨.ref a, hs, rfl, rfl⟩) fun u s1 ⟨v, H1, I1, r1, q1⟩ => ?_)
  obtain ⟨rfl, rfl⟩ := q1
  cases r1
  refine PySem.W.callWith_K (h₀ := X.base) I.ok.mod.kin kp ?_ st pl
  exact thn (args.run pos pins s1 σ _ _ I1 want) fun us s2 ⟨vs, H2, I2, r, q⟩ => ⟨I2.kIn, run_G P room gd b (pas σ) I2 r q⟩
theorem ix_tabF {d : Addr} {es : List (Str × Str)} (t : TabF X.kx X.mg X.w d es) : IxR X (fun x y H Q => x = .ref d ∧ ∃ u g a, y = .str u ∧ es.lookup u = some g ∧ X.mg g = some (.ref a) ∧ Q (.ref a) H) := by
  rintro va sl pins s σ H x y v u Q I rx ry ⟨rfl, y0, g, a, rfl, hg, hm, q⟩ hs
  obtain ⟨en, n, kd⟩ := t.kd
  obtain ⟨a', h1, h2⟩ := t.get y0 g hg
  rw [h2] at hm
  cases hm
  exact ix_kdict va sl pins s σ H _ _ v u Q I rx ry ⟨d, y0, .ref a, rfl, rfl, ⟨en, n, _, kd.at_, kd.lit, h1, rfl⟩, q⟩ hs
theorem mem_look {α : Type} {y : Str} {g : α} : ∀ {tb : List (Str × α)}, tb.lookup y = some g → (y, g) ∈ tb
  | [], h => by cases h
  | (p, q) :: tb, h => by
    by_cases e : y = p
    · subst e
      simp only [List.lookup, beq_self_eq_true, Option.some.injEq] at h
      rw [h]
      exact List.mem_cons_self
    · have e2 : (y == p) = false := by simpa using e
      simp only [List.lookup, e2] at h
      exact List.mem_cons_of_mem _ (mem_look h)
theorem stm_pair (O : Ok2 X T F z co E) {n : Nat} {ap : List Nat} {s t : Stmt} {S : Sm} (h : cPair X.N X.env.scope.names T (cE X.N T n X.env.scope) ap s t = some S) : PSs X [s, t] (tS X.kx z co F E w S) := by
  unfold cPair at h
  split at h
  · rename_i x p1 tn p2 k p3 p4 x' p5 as p6 p7
    by_cases c : T.hot = false ∧ glB X.env.scope.names tn = true ∧ tn ≠ "__debug__" ∧ x' = x ∧ locB X.env.scope.names x = true ∧ visB X.env.scope.names x = true ∧ x ≠ "__debug__" ∧ x ≠ "__classdict__" ∧ notSlice k = true ∧ as ≠ []
    · rw [if_pos c] at h
      obtain ⟨cool, g, tnd, rfl, gl, gv, d1, d2, ns, ne⟩ := c
      split at h
      · rename_i tb i k' as' h1 h2 h3 h4
        by_cases al : tb.all (fun p => T.fns.lookup p.2 == some as.length) = true
        · rw [if_pos al] at h
          cases h
          generalize inter (vars k' ++ vars as') ap = m
          have zn := O.zc cool
          subst zn
          have S := snd n O.o
          obtain ⟨d, mg, tf⟩ := O.o.ftb tn tb h1
          cases as with
          | nil => exact absurd rfl ne
          | cons e es =>
            have st := args_star S h4
            have one : PS X (.Assign [.Name x' p1] (.Subscript (.Name tn p2) k p3) p4) _ := ps_set O.o.nd (ixOf_get h2) (loc_of gl) (pe_ix (ix_tabF tf) (pe_tabName g mg tnd) (S.e _ _ h3) (plainIx_of ns)) rfl (.inl (O.fn x'))
            have two : PS X (.Return (some (.Call (.Name x' p5) (e :: es) [] p6)) p7) _ := ps_ret (pe_callV (Ek := fun _ => E) (ixOf_get h2) (vis_of rfl gv) O.o.gd (O.o.pas cool) (snd_args S h4) (ne_beq d1) (ne_beq d2) (star_of (st e List.mem_cons_self)) (noStars fun a ha => st a (List.mem_cons_of_mem _ ha)))
            refine pss_imp (pss_cons one (pss_one two)) fun D σ H ⟨G0, H0, Gb, Hb, ρ, G, xb, R, r⟩ => ?_
            simp only [evS] at r
            refine evN_go (m := m) xb R ((PsR.bind r).imp fun dk _ q v G' H' R' hv => ?_)
            cases hv with
            | str y =>
              cases eg : tb.lookup y with
              | none => simp only [eg] at q; exact q.elim
              | some gn =>
                simp only [eg] at q
                have ma : T.fns.lookup gn = some (e :: es).length := eq_of_beq (List.all_eq_true.mp al _ (mem_look eg))
                obtain ⟨a, fd, ps, k0, P, room, m1, kp, b⟩ := (O.o.call cool gn _ ma).ex
                refine ⟨rfl, y, gn, a, rfl, eg, m1, ?_⟩
                have R2 := R'.unset i (some (.ref a))
                by_cases hi0 : i < (frz m ρ).length
                rotate_left
                · rw [if_neg hi0] at q; exact q.elim
                rw [if_pos hi0, list_bind] at q
                have hi : i < σ.length := by rw [← R'.len]; exact hi0
                refine ⟨a, fd, ps, k0, _, List.getElem?_set_self hi, P, room, kp, b, ?_⟩
                have q2 := PsR.bind q
                refine argN_go (m := []) xb R2 (q2.imp fun ds hds q3 vs G2 H2 R3 ha => ?_)
                have hlen : ds.length = (e :: es).length := by
                  cases ev : evE F (vwN ((frz m ρ).set i .un)) as' with
                  | ok d =>
                    rw [ev] at hds
                    cases d with
                    | list ds' => cases hds; exact args_len h4 ev
                    | _ => cases hds
                  | err _ => rw [ev] at hds; cases hds
                  | no => rw [ev] at hds; cases hds
                refine ⟨G2, ds, R3.nx.s, ha, hlen, PsR.toP ((PsR.bind q3).at (R3.base xb).nx fun rr _ q4 v G3 H3 nx hv => q4 v G3 H3 (R3.nx.trans nx) hv)⟩
            | _ => exact q.elim
        · rw [if_neg al] at h; cases h
      · cases h
    · rw [if_neg c] at h; cases h
  · cases h
end
end Pe

set_option Elab.async false
set_option linter.all false
set_option maxRecDepth 100000
set_option maxHeartbeats 8000000
/-! Py2: try; all statements. -/
namespace Pe
open PySem L2
section
variable {X : Cx} {T : Tbl} {F : Str → List D → Res D} {z : Zx} {co : Co} {E : XK} {w : Nat}
def PostT (K : Fg) (z : Zx) (co : Co) (W : WX) (G0 H0 : Hp) (D : Ends) (σ : St) : TR → Prop
  | .out o => PostO K z G0 H0 D o
  | .exc e ρ' => ∀ G1 H1, RepS K z G0 H0 σ ρ' G1 H1 → EW K co (fun cls d H => W cls d σ H) e G1 H1
  | .no => False
def tTb (K : Fg) (z : Zx) (co : Co) (F : Str → List D → Res D) (W : WX) (b : Tb) : TS := fun D σ H => ∃ G0 H0 ρ G, RepS K z G0 H0 σ ρ G H ∧ PostT K z co W G0 H0 D σ (evT F ρ b)
/-- the context of a try's body -/
theorem ok_tr (O : Ok2 X T F z co E) (cool : T.hot = false) {W : WX} {pn : List (Addr × Obj)} {xe : Value → Shared → Prop} (tk : Takes (X.tr pn xe) W) : Ok1 (X.tr pn xe) T F z co (WE W) :=
  ⟨O.o.nd, O.o.calm, O.o.gd, O.o.hu, O.o.blt, fun c f n h => ⟨(O.o.call c f n h).fr, (O.o.call c f n h).ex⟩, O.o.gl, O.o.dct, O.o.ftb, fun _ σ => passAt tk σ, O.o.cool, (fun e x h => by
    have h' : cXq X.N X.env.scope.names T e = some x := h
    rw [xq_cool (O.o.cool cool)] at h'
    cases h'), fun c n oc h => ⟨let ⟨C, c1, c2, c3, c4⟩ := (O.o.obj c n oc h).ex; ⟨C, c1, c2, c3, fun m g k h1 h2 => ⟨(c4 m g k h1 h2).ex⟩⟩⟩⟩
/-- a value of a try's body -/
theorem evB_go {K : Fg} {W : WX} {G0 H0 G H : Hp} {σ : St} {ρ : List Sl} {x : Ex} {m : List Nat} {Q : VK} {k : D → TR} {En : Ends} (R : RepS K z G0 H0 σ ρ G H) (h : PostT K z co W G0 H0 En σ (match evE F (vwN (frz m ρ)) x with
    | .ok d => k d
    | .err e => .exc e (frz m ρ)
    | .no => .no)) (kk : ∀ d, PostT K z co W G0 H0 En σ (k d) → ∀ v G' H', RepS K z G0 H0 σ (frz m ρ) G' H' → Dq K G' v d → Q v H') : tE K z co F (WE W) x σ H Q := by
  obtain ⟨G1, R1⟩ := R.frz m
  refine ⟨_, _, R1.viewN, ?_⟩
  cases ev : evE F (vwN (frz m ρ)) x with
  | ok d => rw [ev] at h; exact fun v G' H' nx hv => kk d h v G' H' (R1.back nx) hv
  | err e => rw [ev] at h; exact h G1 H R1
  | no => rw [ev] at h; exact h.elim
theorem try_body (O : Ok2 X T F z co E) (cool : T.hot = false) {W : WX} {pn : List (Addr × Obj)} {xe : Value → Shared → Prop} (tk : Takes (X.tr pn xe) W) {n : Nat} {ap : List Nat} : ∀ (k : Nat) {ss : List Stmt} {b : Tb}, cT X.N X.env.scope.names (cE X.N T n X.env.scope) ap k ss = some b → PSs (X.tr pn xe) ss (tTb X.kx z co F W b)
  | 0, ss, b, h => by cases h
  | k + 1, ss, b, h => by
    have O1 := ok_tr O cool tk
    have S := snd n O1
    unfold cT at h
    split at h
    · rename_i y p1 e p2
      by_cases c : locB X.env.scope.names y = true ∧ notComp e = true
      · rw [if_pos c] at h
        split at h
        · rename_i i x hi hx
          cases h
          refine pss_one (ps_imp (ps_set (X := X.tr pn xe) O.o.nd (ixOf_get hi) (loc_of c.1) (S.e _ _ hx) (swaps_no c.2) (.inl (O.fn y))) fun D σ H ⟨G0, H0, ρ, G, R, q⟩ => ?_)
          exact evB_go R q fun d q1 v G' H' R1 hv => q1 _ G' H' (R1.set i hv)
        · cases h
      · rw [if_neg c] at h; cases h
    · rename_i e p2
      by_cases c : notComp e = true ∧ isDoc e = false
      · rw [if_pos c] at h
        cases hx : cE X.N T n X.env.scope e with
        | none => rw [hx] at h; cases h
        | some x =>
          rw [hx] at h
          cases h
          refine pss_one (ps_imp (ps_expr (X := X.tr pn xe) (S.e _ _ hx) (swaps_no c.1)) fun D σ H ⟨G0, H0, ρ, G, R, q⟩ => ?_)
          exact evB_go R q fun d q1 v G' H' R1 hv => q1 _ G' H' R1
      · rw [if_neg c] at h; cases h
    · rename_i e p2
      cases hx : cE X.N T n X.env.scope e with
      | none => rw [hx] at h; cases h
      | some x =>
        rw [hx] at h
        cases h
        refine pss_one (ps_imp (ps_ret (X := X.tr pn xe) (S.e _ _ hx)) fun D σ H ⟨G0, H0, ρ, G, R, q⟩ => ?_)
        exact evB_go R q fun d q1 v G' H' R1 hv => q1 v G' H' R1.nx hv
    · rename_i c a b' p
      by_cases ht : testOk c = true
      · rw [if_pos ht] at h
        split at h
        · rename_i c1 a1 b1 hx ha hb
          cases h
          refine pss_one (ps_imp (ps_if (S.t _ _ hx ht) (try_body O cool tk k ha) (try_body O cool tk k hb)) fun D σ H ⟨G0, H0, ρ, G, R, q⟩ => ?_)
          have q : PostT X.kx z co W G0 H0 D σ (match tst F ρ c1 with
            | .ok k => if k = true then evT F ρ a1 else evT F ρ b1
            | _ => .no) := q
          refine ⟨vw ρ, _, R.view, ?_⟩
          show PsR X.kx co (WE W σ) (tst F ρ c1) (gP σ ρ G H) H _
          cases ev : tst F ρ c1 with
          | ok kk =>
            rw [ev] at q
            intro G' H' nx
            have R2 := R.backP nx
            cases kk with
            | true => exact iteT ⟨G0, H0, ρ, _, R2, q⟩
            | false => exact iteF ⟨G0, H0, ρ, _, R2, q⟩
          | err _ => rw [ev] at q; exact q.elim
          | no => rw [ev] at q; exact q.elim
        · cases h
      · rw [if_neg ht] at h; cases h
    · cases h
/-- the context of an except suite -/
theorem ok_suite (O : Ok2 X T F z co E) {a C dd : Addr} {oe : Obj} {pn : List (Addr × Obj)} {er : Err} {y : Str} {i : Nat} (hi : ixOf y X.N 0 = some i) (hc : co er.cls er.fs er.ups = some C) (hz : Zc (.ref C) (some dd) oe) (hf : ∃ vs, oe.data = .fields vs) :
    Ok2 (X.suite a ((a, oe) :: pn)) { T with hot := true, xv := some y } (Fx er F) (some ⟨i, a, dd, er⟩) co E0 := by
  obtain ⟨cn, hcn, hec⟩ := O.cls
  refine ⟨⟨O.o.nd, fun q => (by cases q), O.o.gd, O.o.hu, O.o.blt, fun q => (by cases q), O.o.gl, O.o.dct, O.o.ftb, fun q => (by cases q), fun q => (by cases q), ?_, fun q => (by cases q)⟩, fun q => (by cases q), O.fn, fun q => (by cases q), O.st, O.fr, fun q => (by cases q), fun q => (by cases q), ⟨cn, hcn, hec⟩⟩
  exact suite_xq (T := { T with hot := true, xv := some y }) hcn (O.o.blt _ (by decide +kernel)) (hec _ _ _ _ hc) hz hf rfl hi
theorem stm_try (O : Ok2 X T F z co E) (cool : T.hot = false) {n k : Nat} {ap : List Nat} {c y : Str} {i : Nat} {body : List Stmt} {b₀ : Stmt} {bs : List Stmt} {b : Tb} {h' : Sm} {np pos pos' : Pos} {mu : List Stmt → List Nat} {la : List Nat} {fs : List Nat → Stmt → Option Sm} {gs : Stmt → Stmt → Option Sm}
    (g : glB X.env.scope.names c = true) (hd : c ≠ "__debug__") (hc : T.cls.contains c = true) (hy : X.env.scope.names.lookup y = some .local) (hi : ixOf y X.N 0 = some i) (hb : cT X.N X.env.scope.names (cE X.N T n X.env.scope) ap k body = some b)
    (hs : cB mu fs gs la (b₀ :: bs) = some h')
    (suite : ∀ {a C dd : Addr} {oe : Obj} {pn : List (Addr × Obj)} {er : Err}, co er.cls er.fs er.ups = some C → Zc (.ref C) (some dd) oe → (∃ vs, oe.data = .fields vs) → SndB (X.suite a ((a, oe) :: pn)) (some ⟨i, a, dd, er⟩) co (Fx er F) E0 w fs gs) :
    PS X (.Try body [.ExceptHandler (some (.Name c np)) (some y) (b₀ :: bs) pos'] [] [] pos) (tS X.kx z co F E w (.try_ b i c h')) := by
  obtain ⟨cn, hcn, hec⟩ := O.cls
  have hcm : c ∈ T.cls := by simpa using hc
  have nm : Names X c (cn c) := ⟨gl_of g, ne_beq hd, by
    rcases (hcn c hcm).is with ⟨m, _⟩ | ⟨m, b, nn, _⟩
    · exact .inl m
    · exact .inr ⟨m, b, nn⟩⟩
  have zn := O.zc cool
  subst zn
  have base := ps_try_as (X := X) (x := c) (n := y) (c := cn c) (i := i) (np := np) (pos := pos) (pos' := pos') (body := body) (suite := bs) (b₀ := b₀) (tb := fun W => tTb X.kx none co F W b)
    (ts := fun a cls d => fun D σ H => ∃ C dd er, cls = .ref C ∧ d = some dd ∧ co er.cls er.fs er.ups = some C ∧ tS X.kx (some ⟨i, a, dd, er⟩) co (Fx er F) E0 w h' D σ H)
    (Wout := fun cls d _ H => E cls d H) O.st O.fr O.o.nd (ixOf_get hi) hy nm (O.tk cool) (fun W pn xe tk _ => try_body O cool tk k hb)
    (fun a oe cls d pn hz hf => ⟨fun pins s σ H D I ⟨C, dd, er, e1, e2, hco, q⟩ => by
      subst e1 e2
      exact (stm_block (suite hco hz hf) hs).run pins s σ H D I q⟩)
  refine ps_imp base fun D σ H ⟨G0, H0, Gb, Hb, ρ, G, xb, R, r⟩ => ⟨Gb, H0, ρ, G, R, ?_⟩
  simp only [evS] at r
  cases ev : evT F ρ b with
  | out o => rw [ev] at r; exact r
  | no => rw [ev] at r; exact r.elim
  | exc er ρ' =>
    rw [ev] at r
    intro G1 H1 R1 C dx ps G' H' hco nx gn hn hdx hx
    have ec := hec _ _ _ _ hco
    refine ⟨er.ups.contains c, ec.exm c hcm, fun hb1 a na => ?_, fun hb0 => ?_⟩
    · have r' : PsR X.kx co E (if er.ups.contains c = true then (evS (Fx er F) w (ρ'.set i .un) h').noErr.bind fun o => .ok (o.drop i) else .err er) G0 H0 (PostO X.kx none Gb H0 D) := r
      rw [if_pos hb1] at r'
      have R2 := (R1.back nx).enter (i := i) (a := a) hdx gn (R1.nx.h.free hn) hx
      refine ⟨C, dx, er, rfl, rfl, hco, G0, H0, Gb, Hb, ρ'.set i .un, _, xb, R2, ?_⟩
      cases ev2 : evS (Fx er F) w (ρ'.set i .un) h' with
      | err _ => rw [ev2] at r'; exact r'.elim
      | no => rw [ev2] at r'; exact r'.elim
      | ok o =>
        rw [ev2] at r'
        cases o with
        | nx ρ2 => exact fun σ2 G2 H2 R3 => r' _ G2 H2 (R3.unset i none)
        | bk ρ2 => exact fun σ2 G2 H2 R3 => r' _ G2 H2 (R3.unset i none)
        | ct ρ2 => exact fun σ2 G2 H2 R3 => r' _ G2 H2 (R3.unset i none)
        | rt d => exact r'
        | rtL d => exact r'
    · have r' : PsR X.kx co E (if er.ups.contains c = true then (evS (Fx er F) w (ρ'.set i .un) h').noErr.bind fun o => .ok (o.drop i) else .err er) G0 H0 (PostO X.kx none Gb H0 D) := r
      rw [if_neg (by rw [hb0]; exact Bool.false_ne_true)] at r'
      have x1 := (R1.base xb).nx
      exact r' C dx ps G' H' hco (x1.trans nx) gn (x1.h.free hn) hdx hx
end
/-- ALL STATEMENTS -/
theorem stm_asg (O : Ok2 X T F z co E) {w n : Nat} {ap ow la : List Nat} (hz : ∀ q, z = some q → ap.contains q.i = false) {tg e : Expr} {p : Pos} {S : Sm} {x : Ex} (e1 : cE X.N T n X.env.scope e = some x) (h' : cAsg X.N X.env.scope.names T.frs T.hot ap ow la e x tg = some S) : PS X (.Assign [tg] e p) (tS X.kx z co F E w S) := by
  unfold cAsg at h'
  split at h'
  · rename_i y q
    by_cases g : locB X.env.scope.names y = true
    · rw [if_pos g] at h'
      split at h'
      · rename_i i hi
        have hap : ap.contains i = true → ∀ q, z = some q → q.i ≠ i := fun c q hq t => by
          have := hz q hq
          rw [t, c] at this
          cases this
        split at h'
        · rename_i c
          cases h'
          rcases c with ⟨c1, c2, c3⟩ | ⟨c1, c2⟩
          · refine stm_new O g hi (by unfold freshOk; rw [c1, c2]; rfl) ?_ e1
            rcases c3 with c3 | ⟨c3, _⟩
            · exact hap c3
            · rw [O.zc c3]; exact fun q hq => by cases hq
          · exact stm_new O g hi (by unfold freshOk; rw [c1, Bool.or_true]) (hap c2) e1
        · split at h'
          · rename_i c
            cases h'
            exact stm_newF O g hi c.1 (hap c.2) e1
          · cases h'; exact stm_set O g hi e1
      · cases h'
    · rw [if_neg g] at h'; cases h'
  · rename_i es j q
    by_cases nt : notTup e = true ∧ T.hot = false
    · rw [if_pos nt] at h'
      split at h'
      · rename_i is ht; cases h'; exact stm_unp O nt.1 nt.2 ht e1
      · cases h'
    · rw [if_neg nt] at h'; cases h'
  · cases h'
theorem stm_pop (O : Ok2 X T F z co E) {w n : Nat} {y : Str} {q p : Pos} {i : Nat} {e : Expr} {S : Sm} (g : locB X.env.scope.names y = true) (hi : ixOf y X.N 0 = some i) (h : cPop X.N X.env.scope.names (cE X.N T n X.env.scope) i e = some S) : PS X (.Assign [.Name y q] e p) (tS X.kx z co F E w S) := by
  unfold cPop at h
  split at h
  · rename_i o q2 m apos a cp
    by_cases d : m = "pop" ∧ (apos.endLine == cp.line) = true ∧ visB X.env.scope.names o = true ∧ o ≠ "__debug__" ∧ o ≠ "__classdict__"
    · rw [if_pos d] at h
      obtain ⟨rfl, d1, d2, d3, d4⟩ := d
      split at h
      · rename_i hj h1; cases h; exact stm_popA O g d2 d3 d4 d1 hi hj h1
      · cases h
    · rw [if_neg d] at h; cases h
  · cases h
theorem stm_as (O : Ok2 X T F z co E) {w n : Nat} {ap ow la : List Nat} (hz : ∀ q, z = some q → ap.contains q.i = false) {tg e : Expr} {p : Pos} {S : Sm} (h : cAs X.N X.env.scope.names T.frs T.hot (cE X.N T n X.env.scope) ap ow la e tg = some S) : PS X (.Assign [tg] e p) (tS X.kx z co F E w S) := by
  unfold cAs at h
  split at h
  · rename_i y q ix p'
    by_cases c : T.hot = false ∧ visB X.env.scope.names y = true ∧ y ≠ "__debug__" ∧ y ≠ "__classdict__" ∧ notSlice ix = true ∧ notComp e = true
    · rw [if_pos c] at h
      split at h
      · rename_i hi h1 h2; cases h; exact stm_sto O c.2.1 c.2.2.1 c.2.2.2.1 c.2.2.2.2.1 c.2.2.2.2.2 hi h1 h2
      · cases h
    · rw [if_neg c] at h; cases h
  · rename_i y q
    split at h
    · rename_i p'
      by_cases c : locB X.env.scope.names y = true ∧ T.hot = false
      · rw [if_pos c] at h
        cases hi : ixOf y X.N 0 with
        | none => rw [hi] at h; cases h
        | some i =>
          rw [hi] at h
          cases h
          exact stm_newD O c.1 hi (by rw [O.zc c.2]; exact fun q hq => by cases hq)
      · rw [if_neg c] at h; cases h
    · split at h
      · rename_i S' hp
        cases h
        by_cases c : locB X.env.scope.names y = true ∧ T.hot = false
        · rw [if_pos c] at hp
          cases hi : ixOf y X.N 0 with
          | none => rw [hi] at hp; cases hp
          | some i =>
            rw [hi] at hp
            exact stm_pop O c.1 hi hp
        · rw [if_neg c] at hp; cases hp
      · cases e1 : cE X.N T n X.env.scope e with
        | none => rw [e1] at h; cases h
        | some x => rw [e1] at h; exact stm_asg O hz e1 h
  · cases e1 : cE X.N T n X.env.scope e with
    | none => rw [e1] at h; cases h
    | some x => rw [e1] at h; exact stm_asg O hz e1 h
theorem sndS {w n : Nat} {ap ow : List Nat} : ∀ (k : Nat) {X : Cx} {T : Tbl} {F : Str → List D → Res D} {z : Zx} {co : Co} {E : XK}, Ok2 X T F z co E → (∀ q, z = some q → ap.contains q.i = false) →
    SndB X z co F E w (cS X.N n X.env.scope ap ow k T) (cPair X.N X.env.scope.names T (cE X.N T n X.env.scope) ow) := by
  intro k
  induction k with
  | zero => exact fun O hz => ⟨fun la st S h => by simp [cS] at h, fun s t S h => stm_pair O h⟩
  | succ k ih =>
    intro X T F z co E O hz
    refine ⟨fun la st S h => ?_, fun s t S h => stm_pair O h⟩
    unfold cS at h
    split at h
    · rename_i tg e p
      exact stm_as O hz h
    · rename_i y q op e p
      by_cases g : locB X.env.scope.names y = true
      · rw [if_pos g] at h
        split at h
        · rename_i i x hi e1; cases h; exact stm_aug O g hi e1
        · cases h
      · rw [if_neg g] at h; cases h
    · rename_i e p
      unfold cExpr at h
      split at h
      · rename_i y q m apos a cp
        by_cases c0 : m = "extend" ∧ (apos.endLine == cp.line) = true ∧ visB X.env.scope.names y = true ∧ y ≠ "__debug__" ∧ y ≠ "__classdict__"
        · rw [if_pos c0] at h
          obtain ⟨rfl, c1, c2, c3, c4⟩ := c0
          split at h
          · rename_i i x hi e1; cases h; exact stm_ext O c2 c3 c4 c1 hi e1
          · cases h
        rw [if_neg c0] at h
        by_cases c : m = "append" ∧ (apos.endLine == cp.line) = true ∧ visB X.env.scope.names y = true ∧ y ≠ "__debug__" ∧ y ≠ "__classdict__"
        · rw [if_pos c] at h
          obtain ⟨rfl, c1, c2, c3, c4⟩ := c
          split at h
          · rename_i i x hi e1; cases h; exact stm_app O c2 c3 c4 c1 hi e1
          · cases h
        · rw [if_neg c] at h; cases h
      · cases h
        refine ps_imp ps_doc fun D σ H ⟨G0, H0, Gb, Hb, ρ, G, xb, R, r⟩ => ?_
        simp only [evS] at r
        exact r σ G H R
      · by_cases nc : notComp e = true
        · rw [if_pos nc] at h
          cases e1 : cE X.N T n X.env.scope e with
          | none => rw [e1] at h; cases h
          | some x => rw [e1] at h; cases h; exact stm_dro O nc e1
        · rw [if_neg nc] at h; cases h
    · rename_i e p
      cases e1 : cE X.N T n X.env.scope e with
      | none => rw [e1] at h; cases h
      | some x =>
        rw [e1] at h
        have h' : (if isLst e = true then some (Sm.retL x (inter (vars x) ow)) else some (.ret x (inter (vars x) ow))) = some S := h
        by_cases c : isLst e = true
        · rw [if_pos c] at h'; cases h'; exact stm_retL O c e1
        · rw [if_neg c] at h'; cases h'; exact stm_ret O e1
    · cases h
      refine ps_imp ps_retN fun D σ H ⟨G0, H0, Gb, Hb, ρ, G, xb, R, r⟩ => ?_
      simp only [evS] at r
      exact r .non G H R.nx .non
    · rename_i c a b p
      by_cases ht : testOk c = true
      · rw [if_pos ht] at h
        split at h
        · rename_i h1 h2 h3; cases h; exact stm_if O (ih O hz) ht h1 h2 h3
        · cases h
      · rw [if_neg ht] at h; cases h
    · rename_i tg it body p
      by_cases ns : notSet it = true ∧ T.hot = false
      · rw [if_pos ns] at h
        split at h
        · rename_i h1 h2 h3
          cases h
          split
          · rename_i a b hr
            split at hr
            · rename_i it' _ _ _ _
              unfold isRng at hr
              split at hr
              · cases hr; exact stm_forR O (ih O hz) ns.1 ns.2 h1 h2 h3
              · cases hr
            · cases hr
          · exact stm_for O (ih O hz) ns.1 ns.2 h1 h2 h3
        · cases h
      · rw [if_neg ns] at h; cases h
    · rename_i c body p
      by_cases ht : testOk c = true ∧ T.hot = false
      · rw [if_pos ht] at h
        split at h
        · rename_i h1 h2; cases h; exact stm_whl O (ih O hz) ht.1 ht.2 h1 h2
        · cases h
      · rw [if_neg ht] at h; cases h
    · cases h
      refine ps_imp ps_pass fun D σ H ⟨G0, H0, Gb, Hb, ρ, G, xb, R, r⟩ => ?_
      simp only [evS] at r
      exact r σ G H R
    · cases h
      refine ps_imp ps_break fun D σ H ⟨G0, H0, Gb, Hb, ρ, G, xb, R, r⟩ => ?_
      simp only [evS] at r
      exact r σ G H R
    · cases h
      refine ps_imp ps_continue fun D σ H ⟨G0, H0, Gb, Hb, ρ, G, xb, R, r⟩ => ?_
      simp only [evS] at r
      exact r σ G H R
    · rename_i e p
      split at h
      · rename_i S' hr
        cases h
        unfold cRaise at hr
        split at hr
        · rename_i c p1 as p2
          by_cases cd : glB X.env.scope.names c = true ∧ c ≠ "__debug__" ∧ as ≠ [] ∧ T.hot = false
          · rw [if_pos cd] at hr
            split at hr
            · rename_i inf x h1 h2
              by_cases hl : as.length = inf.fs.length
              · rw [if_pos hl] at hr; cases hr; exact stm_raise O cd.2.2.2 cd.1 cd.2.1 h1 cd.2.2.1 hl h2
              · rw [if_neg hl] at hr; cases hr
            · cases hr
          · rw [if_neg cd] at hr; cases hr
        · cases hr
      · cases h
        refine ps_imp ps_never fun D σ H ⟨G0, H0, Gb, Hb, ρ, G, xb, R, r⟩ => ?_
        simp only [evS] at r
        exact r.elim
    · cases h
      refine ps_imp ps_never fun D σ H ⟨G0, H0, Gb, Hb, ρ, G, xb, R, r⟩ => ?_
      simp only [evS] at r
      exact r.elim
    · rename_i body c p1 y b0 bs p2 p
      by_cases cd : T.hot = false ∧ glB X.env.scope.names c = true ∧ c ≠ "__debug__" ∧ T.cls.contains c = true ∧ X.env.scope.names.lookup y = some .local
      · rw [if_pos cd] at h
        split at h
        · rename_i i b' h' e1 e2 e3
          by_cases ha : ap.contains i = false
          · rw [if_pos ha] at h
            cases h
            exact stm_try O cd.1 cd.2.1 cd.2.2.1 cd.2.2.2.1 cd.2.2.2.2 e1 e2 e3 fun {a C dd oe pn er} hco hz' hf => ih (ok_suite (y := y) O e1 hco hz' hf) (fun q hq => by cases hq; exact ha)
          · rw [if_neg ha] at h; cases h
        · cases h
      · rw [if_neg cd] at h; cases h
    · cases h
end Pe

set_option Elab.async false
set_option linter.all false
set_option maxRecDepth 100000
set_option maxHeartbeats 8000000
/-! Pe15: defs of data; a whole table of them; the law's end. -/
namespace Pe
open PySem PySem.Spec PyProof.Rows L2
/-- a def by its body, where no repr runs around -/
theorem fn_G {P : Program} {w : World} {K : Fg} {mg : Str → Option Value} {base : Heap} {k : Nat} {x qual : Str} {st : Stmt} {f : Addr} {fd : FuncData} {N ps : List Str} {sp : Sp}
    (D : Fun K x qual st f fd) (S : FnScope N ps (defScope st)) (len : ∀ vs H Q E, sp vs H Q E → vs.length = ps.length)
    (body : ∀ (cdv : Value) (A : Around) (outer : List Env) (s : Shared) (H : Hp) (vs : List V) (Q : VK) (E : XK),
      Room k (A.deeper (envOfC qual (defScope st) s.heap.objs.size f cdv)) → A.guards = some [] → sp vs H Q E →
      ∃ t, PSs (cxOf (L2.CX P w) P w K mg base N qual (defScope st) f cdv A outer s H E) (defBody st) t ∧ t { nx := fun _ H' => Q .non H', rt := Q } (L2.start N vs) H) :
    FnG P w K mg base (k + 1) f fd ps sp := by
  obtain ⟨oc, od, kV, doc, pm, an, cdv, ct, osl, rfl, lk, hcd⟩ := D.ex
  refine ⟨len, ?_⟩
  intro A outer s H args us vs Q E room gd e0 bound r want
  have n := len _ _ _ _ want
  have kin : K.K.In s.heap := e0.mod.kin.keeps fun b o e => (e0.bs b o e).1
  have lim : s.heap.NoLimit := e0.mod.nolimit.keeps fun b o e => (e0.bs b o e).1
  have kinds : ∀ y ∈ ps.zip us, (defScope st).names.lookup y.1 = some .local ∨
      ((defScope st).names.lookup y.1 = some .cell ∧ ((cellsFrom (s.heap.objs.size + 1) (defScope st).names []).lookup y.1).isSome = true) := by
    rintro ⟨m, v⟩ hy
    rcases S.par m (List.of_mem_zip hy).1 with q | q
    · exact .inl q
    · exact .inr ⟨q, PySem.W.cellsFrom_some _ _ _ (.inl q)⟩
  apply codeAny_call_function room.depth (kin _ _ lk) rfl S.co S.gen rfl (PySem.W.codeRec_of kin hcd)
  apply bound
  refine wpAny_newFunctionEnv_cells S.kind kinds ?_
  intro fun_env he s1 laid
  subst he
  refine ⟨lim.keeps laid.toInCall.keep, codeAny_func ?_⟩
  obtain ⟨t, ht, hq⟩ := body cdv A outer s H vs Q E (room.deeper _) gd want
  have I := inv_start (CX := L2.CX P w) (E := E) S room.hd e0 n r laid
  refine wpAny_mono (ht.run [] s1 (L2.start N vs) H _ I hq) ?_ fun _ _ z => z
  intro flow s' z
  match flow, z with
  | .ret u, ⟨v, σ', H', J, rv, q⟩ => exact ⟨v, H', J.os, J.bare, J.base, J.hok, rv, q⟩
  | .next, ⟨σ', H', J, q⟩ => exact ⟨V.non, H', J.os, J.bare, J.base, J.hok, rfl, q⟩
  | .brk, ⟨_, _, _, q⟩ => exact q.elim
  | .cont, ⟨_, _, _, q⟩ => exact q.elim

/-! ### what a def's data body gives -/
def evD (F : Str → List D → Res D) (w n : Nat) (b : Sm) (ds : List D) : Res D := (evS F w (ds.map .val ++ List.replicate (n - ds.length) .un) b).bind fun o => match o with
  | .rt d => .ok d
  | .rtL ds => .ok (.list ds)
  | .nx _ => .ok .none
  | _ => .no
/-- .. as a new list -/
def evDF (F : Str → List D → Res D) (w n : Nat) (b : Sm) (ds : List D) : Res D := (evS F w (ds.map .val ++ List.replicate (n - ds.length) .un) b).bind fun o => match o with
  | .rtL ds => .ok (.list ds)
  | _ => .no
theorem dqa_some {K : Fg} {G : Hp} : ∀ {vs : List V} {ds : List D} {i : Nat} {d : D}, DqAll K G vs ds → (ds.map Sl.val)[i]? = some (.val d) → ∃ v, (vs.map some)[i]? = some (some v) ∧ Dq K G v d
  | _, _, i, d, h, e => by
    rw [List.getElem?_map] at e
    cases q : (_ : List D)[i]? with
    | none => rw [q] at e; cases e
    | some d' =>
      rw [q] at e
      cases e
      obtain ⟨v, h1, h2⟩ := dpa_get h q
      exact ⟨v, by rw [List.getElem?_map, h1]; rfl, h2⟩
theorem start_repS {K : Fg} {G H : Hp} {vs : List V} {ds : List D} {N : List Str} (s : Same G H) (a : DqAll K G vs ds) : RepS K none G H (L2.start N vs) (ds.map .val ++ List.replicate (N.length - ds.length) .un) G H := by
  have hl := dpa_len a
  have hno : ∀ (i : Nat) (xs : D), (ds.map Sl.val ++ List.replicate (N.length - ds.length) Sl.un)[i]? ≠ some (.own xs) := fun i xs e => by
    by_cases hi : i < (ds.map Sl.val).length
    · rw [List.getElem?_append_left hi, List.getElem?_map] at e
      cases q : ds[i]? with
      | none => rw [q] at e; cases e
      | some d => rw [q] at e; cases e
    · rw [List.getElem?_append_right (by omega), List.getElem?_replicate] at e
      split at e <;> cases e
  refine ⟨Nx.refl s, ?_, fun i d e => ?_, fun i xs e => absurd e (hno i xs), fun q hq => (by cases hq), fun i j xs ys p e => absurd e (hno i xs)⟩
  · unfold L2.start
    simp only [List.length_append, List.length_map, List.length_replicate]
    omega
  · unfold L2.start
    by_cases hi : i < (ds.map Sl.val).length
    · rw [List.getElem?_append_left hi] at e
      obtain ⟨v, h1, h2⟩ := dqa_some a e
      refine ⟨v, ?_, h2⟩
      rw [List.getElem?_append_left (by rw [List.length_map] at hi ⊢; omega)]
      exact h1
    · rw [List.getElem?_append_right (by omega), List.getElem?_replicate] at e
      split at e <;> cases e
/-- where a def stands: at the top, in a class (its class, its name, its full name), what makes a class's things -/
inductive Wh where
  | top
  | meth (c m q : Str)
  | init (c q : Str)
def Wh.nm (x : Str) : Wh → Str
  | .top => x
  | .meth _ m _ => m
  | .init _ _ => "__init__"
def Wh.qual (x : Str) : Wh → Str
  | .top => x
  | .meth _ _ q => q
  | .init _ q => q
/-- .. and where that is -/
def DefAt (K : PySem.W.Frag) (mg : Str → Option Value) (x : Str) (wh : Wh) (f : Addr) : Prop := match wh with
  | .top => mg x = some (.ref f)
  | .meth c m _ => ∃ C, cnOf K c = some C ∧ Meth K C m f
  | .init c _ => ∃ C, cnOf K c = some C ∧ mg c = some (.ref C) ∧ Mk K C f
/-- a def that is read off -/
structure DefI where
  st : Stmt
  N : List Str
  ps : List Str
  body : Sm
  wh : Wh := .top
def DefI.np (d : DefI) : Nat := d.ps.length
def Wh.isTop : Wh → Bool
  | .top => true
  | _ => false
/-- of a def of the top: how many values it wants -/
def DefI.npT (d : DefI) : Option Nat := if d.wh.isTop = true then some d.np else none
abbrev Tab := List (Str × DefI)
def run (P : Tab) (w : Nat) : Nat → Str → List D → Res D
  | 0, _, _ => .no
  | k + 1, f, ds => match P.lookup f with
    | some d => evD (run P w k) w d.N.length d.body ds
    | none => if f = "<new>" then (match ds with
      | .str g :: es => (match P.lookup g with
        | some d => evDF (run P w k) w d.N.length d.body es
        | none => .no)
      | _ => .no) else .no
theorem run_new {P : Tab} {w k : Nat} {x : Str} {d : DefI} {ds : List D} (n : P.lookup ("<new>" : Str) = none) (h : P.lookup x = some d) : run P w (k + 1) "<new>" (.str x :: ds) = evDF (run P w k) w d.N.length d.body ds := by
  show (match P.lookup ("<new>" : Str) with
    | some d => evD (run P w k) w d.N.length d.body (.str x :: ds)
    | none => if ("<new>" : Str) = "<new>" then (match P.lookup x with
        | some d => evDF (run P w k) w d.N.length d.body ds
        | none => .no) else .no) = _
  rw [n]
  show (if ("<new>" : Str) = "<new>" then (match P.lookup x with
        | some d => evDF (run P w k) w d.N.length d.body ds
        | none => .no) else .no) = _
  rw [if_pos rfl, h]
/-- what must be seen of a def -/
structure DefOk (K : PySem.W.Frag) (mg : Str → Option Value) (T : Tbl) (x : Str) (d : DefI) : Prop where
  ex : ∃ (f : Addr) (fd : FuncData), Fun K (d.wh.nm x) (d.wh.qual x) d.st f fd ∧ DefAt K mg x d.wh f ∧ Binds K fd d.ps []
  cb : d.body = .never ∨ (FnScope d.N d.ps (defScope d.st) ∧ ∃ n ap ow k, cB (appsOf d.N 20) (cS d.N n (defScope d.st) ap ow k T) (cPair d.N (defScope d.st).names T (cE d.N T n (defScope d.st)) ow) [] (defBody d.st) = some d.body)
/-- what must be seen of an own error -/
structure ErT (K : PySem.W.Frag) (mg : Str → Option Value) (co : Co) (c : Str) (inf : ErI) : Prop where
  ex : ∃ (C fI : Addr) (fd : FuncData) (st : Stmt) (qual f : Str) (fs : List Str), inf.fs = f :: fs ∧ mg c = some (.ref C) ∧ co c inf.fs inf.ups = some C ∧ OexC K C ∧ PySem.W.findIn K (.ref C) "__init__" = some (some (.ref fI)) ∧ PySem.W.typeIn K (.ref fI) = some (.type "function") ∧
    Fun K "__init__" qual st fI fd ∧ FnScope (("self" : Str) :: f :: fs) (("self" : Str) :: f :: fs) (defScope st) ∧ initB (f :: fs) (defBody st) = true ∧ (f :: fs).Nodup ∧ (∀ g ∈ ("self" : Str) :: f :: fs, g ≠ "__debug__" ∧ g ≠ "__classdict__") ∧ fs.length ≤ 800 ∧
    Binds K fd (("self" : Str) :: f :: fs) []
/-- what must be seen of the top -/
structure TopOk (K : PySem.W.Frag) (Pr : Program) (w : World) (mg : Str → Option Value) (co : Co) (T : Tbl) (P : Tab) : Prop where
  blt : ∀ x ∈ bltNames, mg x = none
  gl : ∀ x d, T.cons.lookup x = some d → ∃ u v, mg x = some u ∧ RelV v u ∧ ∀ G, Dq ⟨K, Pr, w⟩ G v d
  fns : ∀ x n, T.fns.lookup x = some n → ∃ d, P.lookup x = some d ∧ d.np = n ∧ d.wh = .top
  ocl : ∀ c oc, (c, oc) ∈ T.ocls → ∃ C, cnOf K c = some C ∧ Cls K C ∧ (∀ f ∈ oc.flds, NoAttr K C f) ∧ ∀ m g n, oc.ms.lookup m = some g → T.mfns.lookup g = some n → ∃ d q, P.lookup g = some d ∧ d.np = n ∧ d.wh = .meth c m q
  defs : ∀ x d, P.lookup x = some d → DefOk K mg T x d
  dct : ∀ y es, T.dcts.lookup y = some es → ∃ d : Addr, mg y = some (.ref d) ∧ TabD ⟨K, Pr, w⟩ w d es
  ftb : ∀ y es, T.ftabs.lookup y = some es → ∃ d : Addr, mg y = some (.ref d) ∧ TabF K mg w d es
  ers : ∀ c inf, T.ers.lookup c = some inf → ErT K mg co c inf
  cls : ∃ cn : Str → Value, (∀ c ∈ T.cls, ClsN mg c (cn c)) ∧ ∀ c fs ups C, co c fs ups = some C → ErC K cn T.cls C fs ups
  hot : T.hot = false
  xv : T.xv = none
  nw : P.lookup ("<new>" : Str) = none
section
variable {Pr : Program} {wo : World} {Kf : PySem.W.Frag} {mg : Str → Option Value} {base : Heap} {T : Tbl} {P : Tab} {co : Co} {w : Nat}
/-- ALL DEFS -/
theorem all_defs (O : TopOk Kf Pr wo mg co T P) (small : ∀ {k : Nat} {A : Around}, Room k A → A.units + 65 < cLine) : ∀ (k : Nat) (x : Str) (d : DefI), P.lookup x = some d →
    ∃ (f : Addr) (fd : FuncData), Fun Kf (d.wh.nm x) (d.wh.qual x) d.st f fd ∧ (FnG Pr wo ⟨Kf, Pr, wo⟩ mg base (k + 2) f fd d.ps (spD ⟨Kf, Pr, wo⟩ co d.np (run P w k x)) ∧ FnG Pr wo ⟨Kf, Pr, wo⟩ mg base (k + 2) f fd d.ps (spF ⟨Kf, Pr, wo⟩ co d.np fun ds => run P w k "<new>" (.str x :: ds))) ∧ DefAt Kf mg x d.wh f ∧ PySem.W.keepIn Kf (.ref f) = true ∧ Binds Kf fd d.ps [] := by
  intro k
  induction k with
  | zero =>
    intro x d h
    obtain ⟨f, fd, F1, m, b⟩ := (O.defs x d h).ex
    refine ⟨f, fd, F1, ⟨⟨?_, ?_⟩, ⟨?_, ?_⟩⟩, m, F1.kp, b⟩
    · rintro vs H Q E ⟨G, ds, s, a, hl, z⟩
      exact z.elim
    · rintro A outer s H args us vs Q E _ _ _ _ _ ⟨G, ds, s, a, hl, z⟩
      exact z.elim
    · rintro vs H Q E ⟨G, ds, s, a, hl, z⟩
      exact z.elim
    · rintro A outer s H args us vs Q E _ _ _ _ _ ⟨G, ds, s, a, hl, z⟩
      exact z.elim
  | succ k ih =>
    intro x d h
    have dok := O.defs x d h
    obtain ⟨f, fd, F1, m, b⟩ := dok.ex
    rcases dok.cb with nv | ⟨dsc, n, ap, ow, j, hcb⟩
    · have no : ∀ ds, run P w (k + 1) x ds = .no := fun ds => by
        unfold run
        rw [h]
        show evD (run P w k) w d.N.length d.body ds = .no
        rw [nv]
        unfold evD
        simp only [evS]
        rfl
      have no2 : ∀ ds, run P w (k + 1) "<new>" (.str x :: ds) = .no := fun ds => by
        rw [run_new O.nw h, nv]
        unfold evDF
        simp only [evS]
        rfl
      refine ⟨f, fd, F1, ⟨⟨?_, ?_⟩, ⟨?_, ?_⟩⟩, m, F1.kp, b⟩
      · rintro vs H Q E ⟨G, ds, s, a, hl, z⟩
        rw [no] at z
        exact z.elim
      · rintro A outer s H args us vs Q E _ _ _ _ _ ⟨G, ds, s, a, hl, z⟩
        rw [no] at z
        exact z.elim
      · rintro vs H Q E ⟨G, ds, s, a, hl, z⟩
        replace z : PsR _ _ _ ((run P w (k + 1) "<new>" (.str x :: ds)).bind fun y => listR y .ok) _ _ _ := z
        rw [no2] at z
        exact z.elim
      · rintro A outer s H args us vs Q E _ _ _ _ _ ⟨G, ds, s, a, hl, z⟩
        replace z : PsR _ _ _ ((run P w (k + 1) "<new>" (.str x :: ds)).bind fun y => listR y .ok) _ _ _ := z
        rw [no2] at z
        exact z.elim
    have core : ∀ (cdv : Value) (A : Around) (outer : List Env) (s : Shared) (H : Hp) (vs : List V) (Q : VK) (E : XK), Room (k + 2) (A.deeper (envOfC (d.wh.qual x) (defScope d.st) s.heap.objs.size f cdv)) → A.guards = some [] → ∀ (G : Hp) (ds : List D), Same G H → DqAll ⟨Kf, Pr, wo⟩ G vs ds →
        PsR ⟨Kf, Pr, wo⟩ co E (evS (run P w k) w (ds.map .val ++ List.replicate (d.N.length - ds.length) .un) d.body) G H (PostO ⟨Kf, Pr, wo⟩ none G H { nx := fun _ H' => Q .non H', rt := Q }) →
        ∃ t, PSs (cxOf (L2.CX Pr wo) Pr wo Kf mg base d.N (d.wh.qual x) (defScope d.st) f cdv A outer s H E) (defBody d.st) t ∧ t { nx := fun _ H' => Q .non H', rt := Q } (L2.start d.N vs) H := by
      intro cdv A outer s H vs Q E room gd G ds sm a z
      generalize hX : cxOf (L2.CX Pr wo) Pr wo Kf mg base d.N (d.wh.qual x) (defScope d.st) f cdv A outer s H E = X
      have hN : X.N = d.N := by rw [← hX]; rfl
      have hsc : X.env.scope = defScope d.st := by rw [← hX]; rfl
      have hK : X.kx = ⟨Kf, Pr, wo⟩ := by rw [← hX]; rfl
      have ok2 : Ok2 X T (run P w k) none co E := by
        subst hX
        refine ⟨⟨dsc.nd, fun _ => rfl, gd, small room, O.blt, fun _ g m' hg => ?_, O.gl, O.dct, O.ftb, fun _ σ => ?_, fun _ => O.xv, fun e x' hx' => ?_, fun _ c oc hc => ?_⟩, fun _ => passes_of rfl, fun _ => rfl, fun _ => rfl, rfl, rfl, fun _ => takes_of rfl rfl rfl rfl, fun _ c inf hc => ?_, O.cls⟩
        · obtain ⟨d', h1, h2, h3⟩ := O.fns g m' hg
          obtain ⟨f', fd', _, F', m'', kp', b'⟩ := ih g d' h1
          subst h2
          rw [h3] at m''
          exact ⟨⟨f', fd', d'.ps, k + 2, F'.2, room, m'', kp', b'⟩, ⟨f', fd', d'.ps, k + 2, F'.1, room, m'', kp', b'⟩⟩
        · exact fun pins H' s' e s'' I c => passes_call (W := fun cls d σ H => E cls d H) (takes_of rfl rfl rfl rfl) (fun _ _ _ _ z => z) pins σ H' s' e s'' I c
        · rw [xq_cool O.xv] at hx'
          cases hx'
        · obtain ⟨C, c1, c2, c3, c4⟩ := O.ocl c oc hc
          refine ⟨C, c1, c2, c3, fun m g n hm hg => ?_⟩
          obtain ⟨d', q', h1, h2, h3⟩ := c4 m g n hm hg
          obtain ⟨f', fd', _, F', m'', kp', b'⟩ := ih g d' h1
          subst h2
          rw [h3] at m''
          obtain ⟨C', e1, e2⟩ := m''
          rw [c1] at e1
          cases e1
          exact ⟨f', fd', d'.ps, k + 2, F'.1, room, e2, b'⟩
        · obtain ⟨C, fI, fd', st', q', g0, gs, e0, e1, e2, e3, e4, e5, e6, e7, e8, e9, e10, e11, e12⟩ := (O.ers c inf hc).ex
          obtain ⟨cn, _, hec⟩ := O.cls
          have nf := (hec _ _ _ _ e2).nf
          refine ⟨C, fI, fd', _, k + 1, e1, e2, e3, e4, e5, ?_, by rw [e0, List.length_cons]; omega, room, e12⟩
          rw [e0]
          rw [e0] at nf
          exact init_fn e6 e7 e3 e8 e9 nf e10 e11
      have snd := stm_block (mu := appsOf X.N 20) (la := []) (sndS (w := w) (n := n) (ap := ap) (ow := ow) j ok2 (fun q hq => by cases hq)) (ss := defBody d.st) (S := d.body) (by rw [hN, hsc]; exact hcb)
      refine ⟨_, snd, G, H, G, H, _, G, Nx.refl sm, by rw [hK]; exact start_repS sm a, ?_⟩
      rw [hK]
      exact z
    refine ⟨f, fd, F1, ⟨fn_G F1 dsc ?_ ?_, fn_G F1 dsc ?_ ?_⟩, m, F1.kp, b⟩
    · rintro vs H Q E ⟨G, ds, s, a, hl, z⟩
      rw [dpa_len a, hl]
      rfl
    · rintro cdv A outer s H vs Q E room gd ⟨G, ds, sm, a, hl, z⟩
      refine core cdv A outer s H vs Q E room gd G ds sm a ?_
      have z' : Pst ⟨Kf, Pr, wo⟩ co E (evD (run P w k) w d.N.length d.body ds) G H Q := by
        have z0 : Pst ⟨Kf, Pr, wo⟩ co E (run P w (k + 1) x ds) G H Q := z
        unfold run at z0
        rw [h] at z0
        exact z0
      unfold evD at z'
      revert z'
      cases evS (run P w k) w (ds.map .val ++ List.replicate (d.N.length - ds.length) .un) d.body with
      | ok o =>
        cases o with
        | rt r => exact fun q v G' H' nx hv => q v G' H' nx hv
        | rtL r => exact fun q => FrL.now q
        | nx ρ => exact fun q σ' G' H' R' => q .non G' H' R'.nx .non
        | bk _ => exact fun q => q.elim
        | ct _ => exact fun q => q.elim
      | err e => exact fun q => q
      | no => exact fun q => q
    · rintro vs H Q E ⟨G, ds, s, a, hl, z⟩
      rw [dpa_len a, hl]
      rfl
    · rintro cdv A outer s H vs Q E room gd ⟨G, ds, sm, a, hl, z⟩
      refine core cdv A outer s H vs Q E room gd G ds sm a ?_
      replace z : PsR _ _ _ ((run P w (k + 1) "<new>" (.str x :: ds)).bind fun y => listR y .ok) _ _ _ := z
      rw [run_new O.nw h] at z
      unfold evDF at z
      revert z
      cases evS (run P w k) w (ds.map .val ++ List.replicate (d.N.length - ds.length) .un) d.body with
      | ok o =>
        cases o with
        | rt r => exact fun q => q.elim
        | rtL r => exact fun q => q
        | nx ρ => exact fun q => q.elim
        | bk _ => exact fun q => q.elim
        | ct _ => exact fun q => q.elim
      | err e => exact fun q => q
      | no => exact fun q => q
end
end Pe

set_option Elab.async false
set_option linter.all false
set_option maxRecDepth 100000
set_option maxHeartbeats 8000000
/-! Pe16: the law's call. -/
namespace Pe
open PySem PySem.Spec PyProof.Rows L2
/-- the law's call, the script a list that may be read -/
theorem law_G {P : Program} {w : World} {K : PySem.W.Frag} {mg mb : Str → Option Value} {k : Nat} {fa a : Addr} {x : Str} {sp : Sp} {s₁ : Shared} {vs : List Value} {ns : List Int}
    (kin : K.In s₁.heap) (gns : s₁.heap.Ns mainGlobals mg) (bns : s₁.heap.Ns builtinsNs mb) (boot : ∀ x : Str, x ≠ "__name__" → mb x = bootBuiltins x) (lim : s₁.heap.NoLimit) (gens : s₁.gens = #[])
    (scr : s₁.heap.get? a = some { cls := .type "list", data := .seq vs.toArray }) (iv : IntsAre vs ns) (len : ns.length ≤ sizeLine) (room : Room k callerA)
    (ok : ∀ base : Heap, K.In base → base.Ns mainGlobals mg → ∃ fd : FuncData, FnG P w ⟨K, P, w⟩ mg base k fa fd [x] sp ∧ ∀ (s : Shared) (u : Value), BindsTo s fd ⟨[u], []⟩ [(x, u)])
    (want : ∀ H : Hp, LsQ K H a (ns.map V.int) → sp [.ref a] H (fun v _ => v = .bl true) fun _ _ _ => False) :
    codeAny (model P w) callerA (.call (.ref fa) ⟨[.ref a], []⟩) (fun r s' => r = .ok (.ret (.bool true)) ∧ OldK s₁.heap s'.heap ∧ s'.os = s₁.os ∧ AllBare s'.gens) s₁ := by
  have rv := vals_ints iv
  have vlen := iv.length
  have go : ∀ H : Hp, (∀ b, H b = none ∨ ∃ ob xs, H b = some (.frz ob (.lst xs))) → LsQ K H a (ns.map V.int) → HOk P w H s₁.heap → (∀ b, H b ≠ none → b = a) → (H a ≠ none → K.lookup a = none) →
      codeAny (model P w) callerA (.call (.ref fa) ⟨[.ref a], []⟩) (fun r s' => r = .ok (.ret (.bool true)) ∧ OldK s₁.heap s'.heap ∧ s'.os = s₁.os ∧ AllBare s'.gens) s₁ := by
    intro H only hS hok alone notK
    have keep {b : Addr} {o : Obj} (e : s₁.heap.get? b = some o) (n : H b = none) : (hidT s₁.heap H).get? b = some o := hidT_get e n
    have dictFree {b : Addr} {o : Obj} {es : Array DictEntry} {ep : Nat} (e : s₁.heap.get? b = some o) (d : o.data = .dict es ep) : H b = none := by
      cases q : H b with
      | none => rfl
      | some u =>
        have := alone b (by rw [q]; exact Option.some_ne_none _)
        subst this
        rw [scr] at e
        cases e
        exact nomatch (show Data.seq vs.toArray _ = Data.dict es ep from d)
    have nsKeep {b : Addr} {m : Str → Option Value} (z : s₁.heap.Ns b m) : (hidT s₁.heap H).Ns b m := by
      obtain ⟨o, es, ep, e, d, r⟩ := z
      exact ⟨o, es, ep, keep e (dictFree e d), d, r⟩
    have kb : K.In (hidT s₁.heap H) := by
      intro b o e
      apply keep (kin b o e)
      cases q : H b with
      | none => rfl
      | some u =>
        have := alone b (by rw [q]; exact Option.some_ne_none _)
        subst this
        rw [notK (by rw [q]; exact Option.some_ne_none _)] at e
        exact nomatch e
    have md : Mod K mg (hidT s₁.heap H) := by
      obtain ⟨mc, l1, l2⟩ := lim
      exact ⟨kb, nsKeep gns, ⟨mb, nsKeep bns, boot⟩, ⟨mc, nsKeep l1, l2⟩⟩
    have noFr : ∀ b, b ∉ frs ([] : List Env) := fun b hb => by cases hb
    have e0 : Env0 P w K mg (hidT s₁.heap H) callerA [] s₁ H :=
      ⟨rfl, md, fun b o e => of_hidT e, Nat.le_of_eq (hidT_size _ _), trivial, fun b hb => (noFr b hb).elim, hok, .of_eq gens⟩
    obtain ⟨fd, fok, bind⟩ := ok _ kb (nsKeep gns)
    have ran := fok.run callerA [] s₁ H ⟨[.ref a], []⟩ [.ref a] [.ref a] _ _ room rfl e0 (bind s₁ (.ref a)) (.cons rfl .nil) (want H hS)
    refine codeAny_mono ran ?_
    intro r s' z
    match r, z with
    | .error e, ⟨_, _, _, _, _, _, _, _, _, _, _, _, f⟩ => exact f.elim
    | .ok (.ret u), ⟨v, H', os, bare, un, hok', r', q⟩ =>
      have q' : v = .bl true := q
      subst q'
      obtain rfl : u = Value.bool true := r'
      refine ⟨rfl, OldK.of_keep ?_, os, bare⟩
      intro b o e
      cases q : H b with
      | none => exact un.keep b o e q (noFr b) (by simp)
      | some u =>
        rcases only b with n | ⟨ob, xs, n⟩
        · rw [q] at n
          exact nomatch n
        · obtain ⟨e1, _⟩ := hok b _ n
          obtain ⟨e2, _⟩ := hok' b _ (un.frzs b ob _ n)
          rw [e] at e1
          cases e1
          exact e2
  cases hk : K.lookup a with
  | some o =>
    have e := kin a o hk
    rw [scr] at e
    cases e
    refine go (fun _ => none) (fun _ => .inl rfl) (.inr ⟨vs.toArray, _, hk, ?_, by simpa using rv⟩) ?_ (fun b z => absurd rfl z) fun z => absurd rfl z
    · rw [List.size_toArray, vlen]
      exact len
    · intro b u z
      exact nomatch (show (none : Option HO) = some u from z)
  | none =>
    refine go (upd (fun _ => none) a (.frz { cls := .type "list", data := .seq vs.toArray } (.lst (ns.map V.int)))) ?_ (.inl (.inr ⟨_, upd_same⟩)) ?_ ?_ fun _ => hk
    · intro b
      by_cases hb : b = a
      · subst hb
        exact .inr ⟨_, _, upd_same⟩
      · exact .inl (upd_ne hb)
    · intro b u z
      by_cases hb : b = a
      · subst hb
        rw [upd_same] at z
        cases z
        refine ⟨scr, ?_, vs, _, rv, scr⟩
        rw [List.length_map]
        exact len
      · rw [upd_ne hb] at z
        exact nomatch z
    · intro b z
      by_cases hb : b = a
      · exact hb
      · exact absurd (upd_ne hb) z
theorem ints_dq {K : Fg} {G : Hp} : ∀ ns : List Int, DqAll K G (ns.map V.int) (ns.map PyData.int)
  | [] => .nil
  | n :: ns => .cons (.int n) (ints_dq ns)
/-- where the classes of the errors lie -/
def coOf (K : PySem.W.Frag) (T : Tbl) : Co := fun c fs ups => match T.ers.lookup c with
  | some inf => if fs = inf.fs ∧ ups = inf.ups then (match PySem.W.nsIn K mainGlobals c with
    | some (some (.ref C)) => some C
    | _ => none) else none
  | none => none
/-- THE LAW, by its table of defs -/
theorem walk_G {l : PySem.W.OpenLaw} {n k w : Nat} {q : Program} {loose : List Str} {XP : (Str → Option Value) → Heap → Prop} {YP : World → Heap → Prop} {d : DefRec} {K : Params → PySem.W.Frag} {x : Str} {T : Tbl} {P : Tab} {di : DefI}
    (hn : l.most = some n) (hn2 : n ≤ sizeLine) (hdf : d.params.defaults = []) (room : Room (k + 2) callerA) (hY : ∀ (w : World) (h : Heap), YP w h → (K w.params).In h)
    (hd : P.lookup d.name = some di) (hp : di.ps = [x]) (hw : di.wh = .top := by rfl)
    (top : ∀ (wo : World) (mg : Str → Option Value) (h : Heap), (K wo.params).In h → h.Ns mainGlobals mg → TopOk (K wo.params) l.prog wo mg (coOf (K wo.params) T) T P)
    (bind : ∀ (K : PySem.W.Frag) (fa : Addr) (fd : FuncData), Fun K d.name d.name di.st fa fd → ∀ (s : Shared) (u : Value), BindsTo s fd ⟨[u], []⟩ [(x, u)])
    (holds : ∀ ns : List Int, ns.length ≤ n → run P w k d.name [.list (ns.map .int)] = .ok (.bool true)) :
    PySem.W.WalkO q loose XP YP l.row.toRowW d [] (fun f vs => PySem.call f vs) := by
  refine Att.attach_call hn hdf fun wo s₀ s₁ mg mb fa o pm cd doc a vs ns G Y ho hd' hcd hmg hobj hints hlen hg => ?_
  have kin := hY wo _ Y
  have tp := top wo mg _ kin G.T.g
  refine law_G (x := x) (sp := spD ⟨K wo.params, l.prog, wo⟩ (coOf (K wo.params) T) 1 (run P w k d.name)) kin G.T.g G.T.b G.T.builtins G.T.nolimit hg hobj hints (Nat.le_trans hlen hn2) room (fun base _ _ => ?_) fun H hS => ?_
  · obtain ⟨f, fd, F1, F2, m, kp, b⟩ := all_defs (Pr := l.prog) (wo := wo) (base := base) (w := w) tp (fun r => by have := r.un; omega) k d.name di hd
    rw [hw] at m F1
    replace m : mg d.name = some (.ref f) := m
    rw [hmg] at m
    cases m
    have e : di.np = 1 := by show di.ps.length = 1; rw [hp]; rfl
    replace F2 := F2.1
    rw [hp, e] at F2
    exact ⟨fd, F2, bind _ _ _ F1⟩
  · refine ⟨H, [.list (ns.map .int)], Same.refl H, .cons (.lst hS (ints_dq ns)) .nil, rfl, ?_⟩
    rw [holds ns hlen]
    intro v G' H' _ hv
    cases hv
    rfl
end Pe

set_option Elab.async false
set_option linter.all false
set_option maxRecDepth 100000
set_option maxHeartbeats 4000000
/-! Tp: what the written part says of a module's top. -/
namespace Pe
open PySem PySem.Spec PyProof.Rows L2
/-- a value of the written part is this data -/
inductive KdT (K : PySem.W.Frag) : Value → D → Prop
  | non : KdT K .none .none
  | bl (b : Bool) : KdT K (.bool b) (.bool b)
  | int (i : Int) (t : Tok) : KdT K (.int i t) (.int i)
  | str (x : Str) (t : Tok) : KdT K (.str x t) (.str x)
  | tup {a : Addr} {dd : Option Addr} {its : Array Value} {n : Nat} {sl : Array (Option Value)} {ds : List D} (l : K.lookup a = some ⟨.type "tuple", dd, .seq its n, sl⟩) (z : its.size ≤ 1000) (k : Paired (KdT K) its.toList ds) : KdT K (.ref a) (.tuple ds)
theorem kdT_dq {K : PySem.W.Frag} {Pr : Program} {wo : World} : ∀ (d : D) (u : Value), KdT K u d → ∃ v, RelV v u ∧ ∀ G, Dq ⟨K, Pr, wo⟩ G v d := by
  have key : ∀ n : Nat, ∀ (d : D) (u : Value), sizeOf d < n → KdT K u d → ∃ v, RelV v u ∧ ∀ G, Dq ⟨K, Pr, wo⟩ G v d := by
    intro n
    induction n with
    | zero => intro d u h; omega
    | succ n ih =>
      intro d u hn h
      cases h with
      | non => exact ⟨.non, rfl, fun G => .non⟩
      | bl b => exact ⟨.bl b, rfl, fun G => .bl b⟩
      | int i t => exact ⟨.int i, ⟨t, rfl⟩, fun G => .int i⟩
      | str x t => exact ⟨.str x, ⟨t, rfl⟩, fun G => .str x⟩
      | tup l z k =>
        rename_i a dd its m sl ds
        have all : ∀ (us : List Value) (ds : List D), (∀ d ∈ ds, sizeOf d < n) → Paired (KdT K) us ds → ∃ vs, Vals vs us ∧ ∀ G, DqAll ⟨K, Pr, wo⟩ G vs ds := by
          intro us ds hs p
          induction p with
          | nil => exact ⟨[], .nil, fun G => .nil⟩
          | cons h t iht =>
            obtain ⟨v, v1, v2⟩ := ih _ _ (hs _ List.mem_cons_self) h
            obtain ⟨vs, w1, w2⟩ := iht fun d hd => hs d (List.mem_cons_of_mem _ hd)
            exact ⟨v :: vs, .cons v1 w1, fun G => .cons (v2 G) (w2 G)⟩
        have hs : ∀ d ∈ ds, sizeOf d < n := fun d hd => by
          have h1 := List.sizeOf_lt_of_mem hd
          have h2 : sizeOf (PyData.tuple ds) = 1 + sizeOf ds := by simp
          omega
        obtain ⟨vs, w1, w2⟩ := all _ _ hs k
        exact ⟨.ref a, rfl, fun G => .tup (.inr ⟨_, its, m, l, rfl, rfl, by rw [sizeLine_eq]; omega, w1⟩) (w2 G)⟩
  exact fun d u h => key _ d u (Nat.lt_succ_self _) h
/-- a dict's entries are this table -/
inductive EntD (K : PySem.W.Frag) (P : Params) : List DictEntry → List (Str × D) → Prop
  | nil : EntD K P [] []
  | cons {h : Int} {x : Str} {t : Tok} {u : Value} {es : List DictEntry} {d : D} {r : List (Str × D)} (hh : h = PyData.keyHash P x) (v : KdT K u d) (k : EntD K P es r) : EntD K P (⟨h, .str x t, u⟩ :: es) ((x, d) :: r)
inductive EntF (K : PySem.W.Frag) (P : Params) (mg : Str → Option Value) : List DictEntry → List (Str × Str) → Prop
  | nil : EntF K P mg [] []
  | cons {h : Int} {x : Str} {t : Tok} {a : Addr} {es : List DictEntry} {g : Str} {r : List (Str × Str)} (hh : h = PyData.keyHash P x) (m : mg g = some (.ref a)) (k : EntF K P mg es r) : EntF K P mg (⟨h, .str x t, .ref a⟩ :: es) ((x, g) :: r)
theorem entD_lit {K : PySem.W.Frag} {P : Params} : ∀ {es : List DictEntry} {r : List (Str × D)}, EntD K P es r → PySem.W.KeysLit P es
  | _, _, .nil => trivial
  | _, _, .cons hh v k => ⟨⟨_, _, rfl, hh⟩, entD_lit k⟩
theorem entF_lit {K : PySem.W.Frag} {P : Params} {mg : Str → Option Value} : ∀ {es : List DictEntry} {r : List (Str × Str)}, EntF K P mg es r → PySem.W.KeysLit P es
  | _, _, .nil => trivial
  | _, _, .cons hh v k => ⟨⟨_, _, rfl, hh⟩, entF_lit k⟩
theorem entD_find {K : PySem.W.Frag} {P : Params} {z : Str} : ∀ {es : List DictEntry} {r : List (Str × D)}, EntD K P es r → (∀ x, r.lookup z = some x → ∃ e, es.find? (·.key.isStr z) = some e ∧ KdT K e.val x) ∧ (r.lookup z = none → es.find? (·.key.isStr z) = none) ∧ es.any (·.refKey) = false
  | _, _, .nil => ⟨(fun x h => by cases h), (fun _ => rfl), rfl⟩
  | _, _, .cons (h := hq) (x := x) (t := tq) (u := u) hh v k => by
    obtain ⟨k1, k2, k3⟩ := entD_find (z := z) k
    by_cases e : z = x
    · subst e
      refine ⟨fun x h => ?_, fun h => ?_, ?_⟩
      · simp only [List.lookup, beq_self_eq_true, Option.some.injEq] at h
        subst h
        exact ⟨⟨hq, .str z tq, u⟩, by simp [List.find?, Value.isStr], v⟩
      · simp [List.lookup] at h
      · rw [List.any_cons, k3]; rfl
    · have e1 : (z == x) = false := by simpa using e
      have e2 : (x == z) = false := by simpa using fun t : x = z => e t.symm
      refine ⟨fun y h => ?_, fun h => ?_, ?_⟩
      · simp only [List.lookup, e1] at h
        obtain ⟨en, h1, h2⟩ := k1 y h
        exact ⟨en, by simp only [List.find?, Value.isStr, e2]; exact h1, h2⟩
      · simp only [List.lookup, e1] at h
        simp only [List.find?, Value.isStr, e2]
        exact k2 h
      · rw [List.any_cons, k3]; rfl
theorem entF_find {K : PySem.W.Frag} {P : Params} {mg : Str → Option Value} {z : Str} : ∀ {es : List DictEntry} {r : List (Str × Str)}, EntF K P mg es r → ∀ g, r.lookup z = some g → ∃ e a, es.find? (·.key.isStr z) = some e ∧ e.val = .ref a ∧ mg g = some (.ref a)
  | _, _, .nil, g, h => by cases h
  | _, _, .cons (h := hq) (x := x) (t := tq) (a := aq) hh m k, g, h => by
    by_cases e : z = x
    · subst e
      simp only [List.lookup, beq_self_eq_true, Option.some.injEq] at h
      subst h
      exact ⟨⟨hq, .str z tq, .ref aq⟩, aq, by simp [List.find?, Value.isStr], rfl, m⟩
    · have e1 : (z == x) = false := by simpa using e
      have e2 : (x == z) = false := by simpa using fun t : x = z => e t.symm
      simp only [List.lookup, e1] at h
      obtain ⟨en, a, h1, h2, h3⟩ := entF_find k g h
      exact ⟨en, a, by simp only [List.find?, Value.isStr, e2]; exact h1, h2, h3⟩
theorem entF_none {K : PySem.W.Frag} {P : Params} {mg : Str → Option Value} {z : Str} : ∀ {es : List DictEntry} {r : List (Str × Str)}, EntF K P mg es r → (r.lookup z = none → es.find? (·.key.isStr z) = none) ∧ es.any (·.refKey) = false
  | _, _, .nil => ⟨fun _ => rfl, rfl⟩
  | _, _, .cons (h := hq) (x := x) (t := tq) (a := aq) hh m k => by
    obtain ⟨k2, k3⟩ := entF_none (z := z) k
    by_cases e : z = x
    · subst e
      refine ⟨fun h => ?_, ?_⟩
      · simp [List.lookup] at h
      · rw [List.any_cons, k3]; rfl
    · have e1 : (z == x) = false := by simpa using e
      have e2 : (x == z) = false := by simpa using fun t : x = z => e t.symm
      refine ⟨fun h => ?_, ?_⟩
      · simp only [List.lookup, e1] at h
        simp only [List.find?, Value.isStr, e2]
        exact k2 h
      · rw [List.any_cons, k3]; rfl
theorem ns_look {K : PySem.W.Frag} {d : Addr} {es : Array DictEntry} {n : Nat} {z : Str} (l : K.lookup d = some ⟨.type "dict", none, .dict es n, #[]⟩) : PySem.W.nsIn K d z = match es.toList.find? (·.key.isStr z) with
    | some e => some (some e.val)
    | none => if es.toList.any (·.refKey) = true then none else some none := by
  unfold PySem.W.nsIn
  rw [l]
  rfl
theorem tabD_of {K : PySem.W.Frag} {Pr : Program} {w : World} {d : Addr} {es : Array DictEntry} {n : Nat} {r : List (Str × D)} (l : K.lookup d = some ⟨.type "dict", none, .dict es n, #[]⟩) (s : (d == sysModules) = false) (e : EntD K w.params es.toList r) : TabD ⟨K, Pr, w⟩ w d r := by
  refine ⟨⟨es, n, l, entD_lit e, s⟩, fun z x h => ?_, fun z h => ?_⟩
  · obtain ⟨en, h1, h2⟩ := (entD_find (z := z) e).1 x h
    obtain ⟨v, v1, v2⟩ := kdT_dq _ _ h2
    exact ⟨en.val, v, by rw [ns_look l, h1], v1, v2⟩
  · obtain ⟨_, h2, h3⟩ := entD_find (z := z) e
    rw [ns_look l, h2 h, h3]
    rfl
theorem tabF_of {K : PySem.W.Frag} {w : World} {mg : Str → Option Value} {d : Addr} {es : Array DictEntry} {n : Nat} {r : List (Str × Str)} (l : K.lookup d = some ⟨.type "dict", none, .dict es n, #[]⟩) (s : (d == sysModules) = false) (e : EntF K w.params mg es.toList r) : TabF K mg w d r := by
  refine ⟨⟨es, n, l, entF_lit e, s⟩, fun z g h => ?_, fun z h => ?_⟩
  · obtain ⟨en, a, h1, h2, h3⟩ := entF_find e g h
    exact ⟨a, by rw [ns_look l, h1]; show some (some en.val) = _; rw [h2], h3⟩
  · obtain ⟨h2, h3⟩ := entF_none (z := z) e
    rw [ns_look l, h2 h, h3]
    rfl
/-- a def of the top -/
theorem def_of {K : PySem.W.Frag} {mg : Str → Option Value} {h : Heap} {T : Tbl} {x : Str} {d : DefI} {f : Addr} {oc : Value} {od an : Option Addr} {osl : Array (Option Value)} {kV doc pm cdv ct : Value} (X : K.In h) (G : h.Ns mainGlobals mg)
    (a : PySem.W.nsIn K mainGlobals x = some (some (.ref f))) (l : K.lookup f = some ⟨oc, od, .func (PySem.W.fnOf x x (defArgs d.st) (defBody d.st) (defScope d.st) .none kV doc pm an cdv ct), osl⟩) (c : PySem.W.codeIn K cdv x = true) (k : PySem.W.keepIn K (.ref f) = true)
    (bd : ∀ (kV doc pm : Value) (an : Option Addr) (cdv ct : Value) (us : List Value), us.length = d.ps.length → bindArgs (PySem.W.fnOf x x (defArgs d.st) (defBody d.st) (defScope d.st) .none kV doc pm an cdv ct) ⟨us, []⟩ = pure (d.ps.zip us))
    (sc : FnScope d.N d.ps (defScope d.st)) (cb : ∃ n ap ow k, cB (appsOf d.N 20) (cS d.N n (defScope d.st) ap ow k T) (cPair d.N (defScope d.st).names T (cE d.N T n (defScope d.st)) ow) [] (defBody d.st) = some d.body) (hw : d.wh = .top := by rfl) : DefOk K mg T x d :=
  have F := fun_mk l c k
  ⟨⟨f, PySem.W.fnOf x x (defArgs d.st) (defBody d.st) (defScope d.st) .none kV doc pm an cdv ct, by rw [hw]; exact F, by rw [hw]; exact PySem.W.mg_of X G a, F.binds bd⟩, .inr ⟨sc, cb⟩⟩
/-- a def of the top that is not read -/
theorem def_no {K : PySem.W.Frag} {mg : Str → Option Value} {h : Heap} {T : Tbl} {x : Str} {d : DefI} {f : Addr} {oc : Value} {od an : Option Addr} {osl : Array (Option Value)} {kV doc pm cdv ct : Value} (X : K.In h) (G : h.Ns mainGlobals mg)
    (a : PySem.W.nsIn K mainGlobals x = some (some (.ref f))) (l : K.lookup f = some ⟨oc, od, .func (PySem.W.fnOf x x (defArgs d.st) (defBody d.st) (defScope d.st) .none kV doc pm an cdv ct), osl⟩) (c : PySem.W.codeIn K cdv x = true) (k : PySem.W.keepIn K (.ref f) = true)
    (bd : ∀ (kV doc pm : Value) (an : Option Addr) (cdv ct : Value) (us : List Value), us.length = d.ps.length → bindArgs (PySem.W.fnOf x x (defArgs d.st) (defBody d.st) (defScope d.st) .none kV doc pm an cdv ct) ⟨us, []⟩ = pure (d.ps.zip us))
    (cb : d.body = .never) (hw : d.wh = .top := by rfl) : DefOk K mg T x d :=
  have F := fun_mk l c k
  ⟨⟨f, PySem.W.fnOf x x (defArgs d.st) (defBody d.st) (defScope d.st) .none kV doc pm an cdv ct, by rw [hw]; exact F, by rw [hw]; exact PySem.W.mg_of X G a, F.binds bd⟩, .inl cb⟩
theorem all_look {α : Type} {Q : Str → α → Prop} {x : Str} {d : α} : ∀ {P : List (Str × α)}, (∀ p ∈ P, Q p.1 p.2) → P.lookup x = some d → Q x d := fun h e => h _ (mem_look e)
def AllL {α : Type} (Q : α → Prop) : List α → Prop
  | [] => True
  | p :: r => Q p ∧ AllL Q r
theorem allL_mem {α : Type} {Q : α → Prop} : ∀ {l : List α}, AllL Q l → ∀ p ∈ l, Q p
  | p :: r, h, q, hq => by
    rcases List.mem_cons.mp hq with rfl | hq
    · exact h.1
    · exact allL_mem h.2 q hq
theorem allL_look {α : Type} {Q : Str × α → Prop} {P : List (Str × α)} (h : AllL Q P) (x : Str) (d : α) (e : P.lookup x = some d) : Q (x, d) := allL_mem h _ (mem_look e)
theorem con_of {K : PySem.W.Frag} {Pr : Program} {wo : World} {mg : Str → Option Value} {h : Heap} {x : Str} {d : D} {u : Value} (X : K.In h) (G : h.Ns mainGlobals mg) (a : PySem.W.nsIn K mainGlobals x = some (some u)) (k : KdT K u d) : ∃ u v, mg x = some u ∧ RelV v u ∧ ∀ G, Dq ⟨K, Pr, wo⟩ G v d :=
  let ⟨v, h1, h2⟩ := kdT_dq d u k
  ⟨u, v, PySem.W.mg_of X G a, h1, h2⟩
theorem dct_of {K : PySem.W.Frag} {Pr : Program} {w : World} {mg : Str → Option Value} {h : Heap} {x : Str} {d : Addr} {es : Array DictEntry} {n : Nat} {r : List (Str × D)} (X : K.In h) (G : h.Ns mainGlobals mg) (a : PySem.W.nsIn K mainGlobals x = some (some (.ref d)))
    (l : K.lookup d = some ⟨.type "dict", none, .dict es n, #[]⟩) (s : (d == sysModules) = false) (e : EntD K w.params es.toList r) : ∃ d : Addr, mg x = some (.ref d) ∧ TabD ⟨K, Pr, w⟩ w d r := ⟨d, PySem.W.mg_of X G a, tabD_of l s e⟩
theorem ftb_of {K : PySem.W.Frag} {w : World} {mg : Str → Option Value} {h : Heap} {x : Str} {d : Addr} {es : Array DictEntry} {n : Nat} {r : List (Str × Str)} (X : K.In h) (G : h.Ns mainGlobals mg) (a : PySem.W.nsIn K mainGlobals x = some (some (.ref d)))
    (l : K.lookup d = some ⟨.type "dict", none, .dict es n, #[]⟩) (s : (d == sysModules) = false) (e : EntF K w.params mg es.toList r) : ∃ d : Addr, mg x = some (.ref d) ∧ TabF K mg w d r := ⟨d, PySem.W.mg_of X G a, tabF_of l s e⟩
theorem fns_of {T : Tbl} {P : Tab} (h : T.fns.all (fun p => (P.lookup p.1).bind (·.npT) == some p.2) = true) (x : Str) (n : Nat) (e : T.fns.lookup x = some n) : ∃ d, P.lookup x = some d ∧ d.np = n ∧ d.wh = .top := by
  have h1 := List.all_eq_true.mp h _ (mem_look e)
  have h2 : (P.lookup x).bind (·.npT) = some n := eq_of_beq h1
  cases q : P.lookup x with
  | none => rw [q] at h2; cases h2
  | some d =>
    rw [q] at h2
    have h3 : (if d.wh.isTop = true then some d.np else none) = some n := h2
    obtain ⟨a, b⟩ := of_ite_some h3
    refine ⟨d, rfl, b, ?_⟩
    cases e2 : d.wh <;> first | rfl | (rw [e2] at a; cases a)
end Pe

set_option Elab.async false
set_option linter.all false
set_option maxRecDepth 100000
set_option maxHeartbeats 4000000
/-! Im1: things that change: values that are data or refer to cells; cells in the heap; what may be looked at. -/
namespace Im
open PySem L2 Pe
inductive W where
  | dat (d : D)
  | ref (n : Nat)
inductive Cell where
  | lst (ws : List W)
  | dct (kvs : List (D × W))
  | obj (c : Str) (fs : List (Str × W))
abbrev Hv := List Cell
/-- side by side -/
inductive Al {α β : Type} (R : α → β → Prop) : List α → List β → Prop
  | nil : Al R [] []
  | cons {a : α} {b : β} {as : List α} {bs : List β} : R a b → Al R as bs → Al R (a :: as) (b :: bs)
namespace Al
variable {α β : Type} {R R' : α → β → Prop}
theorem len : ∀ {as : List α} {bs : List β}, Al R as bs → as.length = bs.length
  | _, _, .nil => rfl
  | _, _, .cons _ t => congrArg (· + 1) (len t)
theorem imp (i : ∀ a b, R a b → R' a b) : ∀ {as : List α} {bs : List β}, Al R as bs → Al R' as bs
  | _, _, .nil => .nil
  | _, _, .cons h t => .cons (i _ _ h) (imp i t)
theorem app : ∀ {as as' : List α} {bs bs' : List β}, Al R as bs → Al R as' bs' → Al R (as ++ as') (bs ++ bs')
  | _, _, _, _, .nil, s => s
  | _, _, _, _, .cons h t, s => .cons h (app t s)
theorem get : ∀ {as : List α} {bs : List β} {i : Nat} {b : β}, Al R as bs → bs[i]? = some b → ∃ a, as[i]? = some a ∧ R a b
  | _, _, _, _, .nil, h => by simp at h
  | _, _, 0, _, .cons r _, h => by simp at h; subst h; exact ⟨_, rfl, r⟩
  | _, _, i + 1, _, .cons _ t, h => by
    obtain ⟨v, h1, h2⟩ := get (i := i) t (by simpa using h)
    exact ⟨v, by simpa using h1, h2⟩
theorem get' {as : List α} {bs : List β} {i : Nat} {a : α} (h : Al R as bs) (e : as[i]? = some a) : ∃ b, bs[i]? = some b ∧ R a b := by
  obtain ⟨hi, _⟩ := List.getElem?_eq_some_iff.mp e
  have hd : i < bs.length := by rw [← h.len]; exact hi
  obtain ⟨v', e', r⟩ := get h (List.getElem?_eq_getElem hd)
  rw [e] at e'
  cases e'
  exact ⟨bs[i], List.getElem?_eq_getElem hd, r⟩
theorem set {a : α} {b : β} (r : R a b) : ∀ {as : List α} {bs : List β} (n : Nat), Al R as bs → Al R (as.set n a) (bs.set n b)
  | _, _, _, .nil => .nil
  | _, _, 0, .cons _ t => .cons r t
  | _, _, n + 1, .cons q t => .cons q (set r n t)
theorem erase : ∀ {as : List α} {bs : List β} (n : Nat), Al R as bs → Al R (as.eraseIdx n) (bs.eraseIdx n)
  | _, _, _, .nil => by simpa using Al.nil
  | _, _, 0, .cons _ t => by simpa using t
  | _, _, n + 1, .cons q t => by simpa using Al.cons q (erase n t)
theorem rev {as : List α} {bs : List β} (h : Al R as bs) : Al R as.reverse bs.reverse := by
  induction as generalizing bs with
  | nil => cases h; exact .nil
  | cons v vs ih =>
    cases h with
    | cons r t =>
      simp only [List.reverse_cons]
      exact app (ih t) (.cons r .nil)
theorem dropLast {as : List α} {bs : List β} (h : Al R as bs) : Al R as.dropLast bs.dropLast := by
  induction as generalizing bs with
  | nil => cases h; exact .nil
  | cons v vs ih =>
    cases h with
    | cons r t =>
      cases t with
      | nil => exact .nil
      | cons r' t' => exact .cons r (ih (.cons r' t'))
end Al

/-! ### where the cells lie -/
inductive WR (K : Fg) (m : List Addr) (G : Hp) : V → W → Prop
  | dat {v : V} {d : D} : Dq K G v d → WR K m G v (.dat d)
  | ref {n : Nat} {a : Addr} : m[n]? = some a → WR K m G (.ref a) (.ref n)
def KvR (K : Fg) (m : List Addr) (G : Hp) (x : Key × V) (y : D × W) : Prop := y.1 = keyD x.1 ∧ WR K m G x.2 y.2
def TvR (K : Fg) (m : List Addr) (G : Hp) (x : List Key × Addr × V) (y : D × W) : Prop := y.1 = ksD x.1 ∧ SqT K G x.2.1 (x.1.map kV) ∧ WR K m G x.2.2 y.2
def FsR (K : Fg) (m : List Addr) (G : Hp) (x : Str × V) (y : Str × W) : Prop := y.1 = x.1 ∧ WR K m G x.2 y.2
inductive CR (K : Fg) (m : List Addr) (G : Hp) (p : Addr) : HO → Cell → Prop
  | lst {vs : List V} {ws : List W} : Al (WR K m G) vs ws → CR K m G p (.lst vs) (.lst ws)
  | dK {kvs : List (Key × V)} {ds : List (D × W)} : Al (KvR K m G) kvs ds → CR K m G p (.dK kvs) (.dct ds)
  | dT {ent : List (List Key × Addr × V)} {ds : List (D × W)} : Al (TvR K m G) ent ds → ds ≠ [] → CR K m G p (dtO K p ent) (.dct ds)
  | obj {C dx : Addr} {c : Str} {fs : List (Str × V)} {ds : List (Str × W)} : cnOf K.K c = some C → Al (FsR K m G) fs ds → CR K m G p (.ins C dx fs) (.obj c ds)
section
variable {K : Fg} {m m' : List Addr} {G G' : Hp}
theorem WR.mono {v : V} {w : W} (hm : ∀ (n : Nat) (a : Addr), m[n]? = some a → m'[n]? = some a) (s : Same G G') : WR K m G v w → WR K m' G' v w
  | .dat h => .dat (dp_same s _ _ h)
  | .ref h => .ref (hm _ _ h)
theorem CR.mono {p : Addr} {o : HO} {c : Cell} (hm : ∀ (n : Nat) (a : Addr), m[n]? = some a → m'[n]? = some a) (s : Same G G') : CR K m G p o c → CR K m' G' p o c
  | .lst a => .lst (a.imp fun _ _ => WR.mono hm s)
  | .dK a => .dK (a.imp fun _ _ h => ⟨h.1, h.2.mono hm s⟩)
  | .dT a ne => .dT (a.imp fun _ _ h => ⟨h.1, seqT_same s h.2.1, h.2.2.mono hm s⟩) ne
  | .obj h a => .obj h (a.imp fun _ _ h => ⟨h.1, h.2.mono hm s⟩)
theorem CR.mut {p : Addr} {o : HO} {c : Cell} : CR K m G p o c → Mut (some o)
  | .lst _ => trivial
  | .dK _ => trivial
  | .dT _ _ => trivial
  | .obj _ _ => trivial
end
/-- the cells, as they lie -/
structure Rp (K : Fg) (m : List Addr) (A : Hv) (G H : Hp) : Prop where
  s : Same G H
  len : m.length = A.length
  nd : m.Nodup
  cell : ∀ (n : Nat) (c : Cell), A[n]? = some c → ∃ p o, m[n]? = some p ∧ H p = some o ∧ G p = none ∧ CR K m G p o c
/-- the heap goes on, and the cells with it -/
structure Ny (m : List Addr) (G H : Hp) (m' : List Addr) (G' H' : Hp) : Prop where
  pre : ∃ t, m' = m ++ t
  g : Same G G'
  h : ∀ a o, a ∉ m → H a = some o → H' a = some o
  n : ∀ a, G a = none → H a ≠ none → G' a = none ∧ H' a ≠ none
  f : ∀ a, a ∈ m' → a ∉ m → H a = none
theorem pre_get {m m' : List Addr} (h : ∃ t, m' = m ++ t) (n : Nat) (a : Addr) (e : m[n]? = some a) : m'[n]? = some a := by
  obtain ⟨t, rfl⟩ := h
  rw [List.getElem?_append_left (List.getElem?_eq_some_iff.mp e).1]
  exact e
theorem pre_mem {m m' : List Addr} (h : ∃ t, m' = m ++ t) {a : Addr} (e : a ∈ m) : a ∈ m' := by
  obtain ⟨t, rfl⟩ := h
  exact List.mem_append_left _ e
theorem Ny.refl {m : List Addr} {G H : Hp} : Ny m G H m G H := ⟨⟨[], by simp⟩, Same.refl G, fun _ _ _ e => e, fun _ a b => ⟨a, b⟩, fun _ a b => absurd a b⟩
theorem Ny.trans {m m1 m2 : List Addr} {G H G1 H1 G2 H2 : Hp} (x : Ny m G H m1 G1 H1) (y : Ny m1 G1 H1 m2 G2 H2) : Ny m G H m2 G2 H2 := by
  refine ⟨?_, x.g.trans y.g, fun a o na e => ?_, fun a e n => ?_, fun a i n => ?_⟩
  · obtain ⟨t, rfl⟩ := x.pre
    obtain ⟨u, rfl⟩ := y.pre
    exact ⟨t ++ u, by simp⟩
  · have n1 : a ∉ m1 := fun z => by rw [x.f a z na] at e; cases e
    exact y.h a o n1 (x.h a o na e)
  · obtain ⟨h1, h2⟩ := x.n a e n
    exact y.n a h1 h2
  · by_cases i1 : a ∈ m1
    · exact x.f a i1 n
    · have := y.f a i i1
      cases q : H a with
      | none => rfl
      | some o => rw [x.h a o n q] at this; cases this
theorem WR.ny {K : Fg} {m m' : List Addr} {G G' H H' : Hp} {v : V} {w : W} (x : Ny m G H m' G' H') (h : WR K m G v w) : WR K m' G' v w := h.mono (pre_get x.pre) x.g
theorem wra_ny {K : Fg} {m m' : List Addr} {G G' H H' : Hp} {vs : List V} {ws : List W} (x : Ny m G H m' G' H') (h : Al (WR K m G) vs ws) : Al (WR K m' G') vs ws := h.imp fun _ _ => WR.ny x

/-! ### the cells as data -/
def mapO {α β : Type} (f : α → Option β) : List α → Option (List β)
  | [] => some []
  | a :: as => match f a with
    | some b => (mapO f as).map (b :: ·)
    | none => none
def deep : Nat → Hv → W → Option D
  | _, _, .dat d => some d
  | 0, _, .ref _ => none
  | k + 1, A, .ref n => match A[n]? with
    | some (.lst ws) => (mapO (deep k A) ws).map .list
    | some (.dct kvs) => (mapO (fun x => (deep k A x.2).map fun d => (x.1, d)) kvs).map .dict
    | some (.obj c fs) => (mapO (fun x => (deep k A x.2).map fun d => (x.1, d)) fs).map (objD c)
    | none => none
theorem mapO_al {α β γ : Type} {f : α → Option β} {R : γ → α → Prop} {S : γ → β → Prop} : ∀ {gs : List γ} {as : List α} {bs : List β}, (∀ g a b, R g a → f a = some b → S g b) → Al R gs as → mapO f as = some bs → Al S gs bs
  | _, _, _, _, .nil, h => by cases h; exact .nil
  | _, _, _, k, .cons (b := a) r t, h => by
    unfold mapO at h
    cases e : f a with
    | none => rw [e] at h; cases h
    | some b =>
      rw [e] at h
      cases e2 : mapO f _ with
      | none => rw [e2] at h; cases h
      | some bs =>
        rw [e2] at h
        cases h
        exact .cons (k _ _ _ r e) (mapO_al k t e2)
def gP (m : List Addr) (G H : Hp) : Hp := fun a => if a ∈ m then H a else G a
def hid (m : List Addr) (H : Hp) : Hp := fun a => if a ∈ m then none else H a
section
variable {K : Fg} {m : List Addr} {A : Hv} {G H : Hp}
theorem al_dqa : ∀ {vs : List V} {ds : List D}, Al (fun v d => Dq K G v d) vs ds → DqAll K G vs ds
  | _, _, .nil => .nil
  | _, _, .cons h t => .cons h (al_dqa t)
theorem dqa_al : ∀ {vs : List V} {ds : List D}, DqAll K G vs ds → Al (fun v d => Dq K G v d) vs ds
  | _, _, .nil => .nil
  | _, _, .cons h t => .cons h (dqa_al t)
theorem al_kv : ∀ {vs : List (Key × V)} {ds : List (D × D)}, Al (fun x y => y.1 = keyD x.1 ∧ Dq K G x.2 y.2) vs ds → DqKv K G vs ds
  | _, _, .nil => .nil
  | (k, v) :: _, (_, d) :: _, .cons ⟨h1, h2⟩ t => by cases h1; exact .cons h2 (al_kv t)
theorem al_tv : ∀ {vs : List (List Key × Addr × V)} {ds : List (D × D)}, Al (fun x y => y.1 = ksD x.1 ∧ SqT K G x.2.1 (x.1.map kV) ∧ Dq K G x.2.2 y.2) vs ds → DqTv K G vs ds
  | _, _, .nil => .nil
  | (k, b, v) :: _, (_, d) :: _, .cons ⟨h1, h2, h3⟩ t => by cases h1; exact .cons h2 h3 (al_tv t)
theorem al_fs : ∀ {vs : List (Str × V)} {ds : List (Str × D)}, Al (fun x y => y.1 = x.1 ∧ Dq K G x.2 y.2) vs ds → DqFs K G vs ds
  | _, _, .nil => .nil
  | (k, v) :: _, (_, d) :: _, .cons ⟨h1, h2⟩ t => by cases h1; exact .cons h2 (al_fs t)
theorem gP_in {a : Addr} (h : a ∈ m) : gP m G H a = H a := if_pos h
theorem gP_out {a : Addr} (h : a ∉ m) : gP m G H a = G a := if_neg h
theorem hid_in {a : Addr} (h : a ∈ m) : hid m H a = none := if_pos h
theorem hid_out {a : Addr} (h : a ∉ m) : hid m H a = H a := if_neg h
theorem Rp.at_ (R : Rp K m A G H) {a : Addr} (h : a ∈ m) : ∃ (n : Nat) (c : Cell) (o : HO), m[n]? = some a ∧ A[n]? = some c ∧ H a = some o ∧ G a = none ∧ CR K m G a o c := by
  obtain ⟨n, hn⟩ := List.mem_iff_getElem?.mp h
  have hl : n < A.length := by rw [← R.len]; exact (List.getElem?_eq_some_iff.mp hn).1
  obtain ⟨p, o, h1, h2, h3, h4⟩ := R.cell n A[n] (List.getElem?_eq_getElem hl)
  rw [hn] at h1
  cases h1
  exact ⟨n, A[n], o, hn, List.getElem?_eq_getElem hl, h2, h3, h4⟩
theorem Rp.same_gP (R : Rp K m A G H) : Same G (gP m G H) := fun a o e => by
  by_cases h : a ∈ m
  · obtain ⟨_, _, _, _, _, _, h3, _⟩ := R.at_ h
    rw [h3] at e; cases e
  · rw [gP_out h]; exact e
theorem Rp.gP_same (R : Rp K m A G H) : Same (gP m G H) H := fun a o e => by
  by_cases h : a ∈ m
  · rw [gP_in h] at e; exact e
  · rw [gP_out h] at e; exact R.s a o e
/-- what a cell looks like, as data -/
theorem Rp.deep (R : Rp K m A G H) : ∀ (k : Nat) (w : W) (v : V) (d : D), WR K m G v w → Im.deep k A w = some d → Dq K (gP m G H) v d
  | _, .dat d', v, d, h, e => by
    have e' : some d' = some d := by
      revert e
      cases ‹Nat› <;> exact id
    cases e'
    cases h with
    | dat h => exact dp_same R.same_gP _ _ h
  | 0, .ref n, v, d, h, e => by cases e
  | k + 1, .ref n, v, d, h, e => by
    cases h with
    | ref hn =>
      unfold Im.deep at e
      cases q : A[n]? with
      | none => rw [q] at e; cases e
      | some c =>
        rw [q] at e
        obtain ⟨p, o, h1, h2, h3, h4⟩ := R.cell n c q
        rw [hn] at h1
        cases h1
        have hp := List.mem_of_getElem? hn
        have look : gP m G H _ = some o := (gP_in hp).trans h2
        cases h4 with
        | lst a =>
          rename_i vs ws
          replace e : (mapO (Im.deep k A) ws).map PyData.list = some d := e
          cases e1 : mapO (Im.deep k A) ws with
          | none => rw [e1] at e; cases e
          | some ds =>
            rw [e1] at e
            cases e
            exact .lst (.inl (Rd.of look)) (al_dqa (mapO_al (fun v w d r f => R.deep k w v d r f) a e1))
        | dK a =>
          rename_i kvs ws
          replace e : (mapO (fun x : D × W => (Im.deep k A x.2).map fun d => (x.1, d)) ws).map PyData.dict = some d := e
          cases e1 : mapO (fun x : D × W => (Im.deep k A x.2).map fun d => (x.1, d)) ws with
          | none => rw [e1] at e; cases e
          | some ds =>
            rw [e1] at e
            cases e
            refine .dctK (Rd.of look) (al_kv (mapO_al (fun x y z r f => ?_) a e1))
            cases e2 : Im.deep k A y.2 with
            | none => rw [e2] at f; cases f
            | some d => rw [e2] at f; cases f; exact ⟨r.1, R.deep k _ _ _ r.2 e2⟩
        | dT a ne =>
          rename_i kvs ws
          replace e : (mapO (fun x : D × W => (Im.deep k A x.2).map fun d => (x.1, d)) ws).map PyData.dict = some d := e
          cases e1 : mapO (fun x : D × W => (Im.deep k A x.2).map fun d => (x.1, d)) ws with
          | none => rw [e1] at e; cases e
          | some ds =>
            rw [e1] at e
            cases e
            have al := mapO_al (S := fun (x : List Key × Addr × V) (y : D × D) => y.1 = ksD x.1 ∧ SqT K (gP m G H) x.2.1 (x.1.map kV) ∧ Dq K (gP m G H) x.2.2 y.2) (fun x y z r f => by
              cases e2 : Im.deep k A y.2 with
              | none => rw [e2] at f; cases f
              | some d => rw [e2] at f; cases f; exact ⟨r.1, seqT_same R.same_gP r.2.1, R.deep k _ _ _ r.2.2 e2⟩) a e1
            refine .dctT (Rd.of look) (al_tv al) fun z => ?_
            subst z
            have := al.len
            have l2 := a.len
            exact ne (List.length_eq_zero_iff.mp (by rw [← l2, this]; rfl))
        | obj hc a =>
          rename_i C dx c fs ws
          replace e : (mapO (fun x : Str × W => (Im.deep k A x.2).map fun d => (x.1, d)) ws).map (objD c) = some d := e
          cases e1 : mapO (fun x : Str × W => (Im.deep k A x.2).map fun d => (x.1, d)) ws with
          | none => rw [e1] at e; cases e
          | some ds =>
            rw [e1] at e
            cases e
            refine .obj look hc (al_fs (mapO_al (fun x y z r f => ?_) a e1))
            cases e2 : Im.deep k A y.2 with
            | none => rw [e2] at f; cases f
            | some d => rw [e2] at f; cases f; exact ⟨r.1, R.deep k _ _ _ r.2 e2⟩
/-- behind what looked at all -/
theorem Rp.backP (R : Rp K m A G H) {G' H' : Hp} (x : Nx (gP m G H) H G' H') : Rp K m A (hid m G') H' ∧ Ny m G H m (hid m G') H' := by
  have sG : Same G (hid m G') := fun a o e => by
    have n : a ∉ m := fun h => by
      obtain ⟨_, _, _, _, _, _, h3, _⟩ := R.at_ h
      rw [h3] at e; cases e
    rw [hid_out n]
    exact x.g a o (by rw [gP_out n]; exact e)
  refine ⟨⟨fun a o e => ?_, R.len, R.nd, fun n c e => ?_⟩, ⟨⟨[], by simp⟩, sG, fun a o _ e => x.h a o e, fun a e n => ⟨?_, fun z => n (x.h.free z)⟩, fun _ a b => absurd a b⟩⟩
  · by_cases h : a ∈ m
    · rw [hid_in h] at e; cases e
    · rw [hid_out h] at e; exact x.s a o e
  · obtain ⟨p, o, h1, h2, h3, h4⟩ := R.cell n c e
    exact ⟨p, o, h1, x.h _ _ h2, hid_in (List.mem_of_getElem? h1), h4.mono (fun _ _ e => e) sG⟩
  · by_cases h : a ∈ m
    · exact hid_in h
    · rw [hid_out h]
      exact x.n a (by rw [gP_out h]; exact e) n
theorem Rp.backD (R : Rp K m A G H) {G' H' : Hp} (x : Nx (gP m G H) H G' H') {v : V} {d : D} (n : noL d = true) (h : Dq K G' v d) : Dq K (hid m G') v d := by
  refine dp_drop (fun a o e => ?_) d v n h
  by_cases q : a ∈ m
  · obtain ⟨_, _, o', _, _, h2, _, h4⟩ := R.at_ q
    have := x.g a o' (by rw [gP_in q]; exact h2)
    rw [this] at e
    cases e
    exact .inl h4.mut
  · exact .inr (by rw [hid_out q]; exact e)
/-- behind what did not -/
theorem Rp.back (R : Rp K m A G H) {G' H' : Hp} (x : Nx G H G' H') : Rp K m A G' H' ∧ Ny m G H m G' H' := by
  refine ⟨⟨x.s, R.len, R.nd, fun n c e => ?_⟩, ⟨⟨[], by simp⟩, x.g, fun a o _ e => x.h a o e, fun a e n => ⟨x.n a e n, fun z => n (x.h.free z)⟩, fun _ a b => absurd a b⟩⟩
  obtain ⟨p, o, h1, h2, h3, h4⟩ := R.cell n c e
  exact ⟨p, o, h1, x.h _ _ h2, x.n p h3 (by rw [h2]; simp), h4.mono (fun _ _ e => e) x.g⟩
/-- a cell is changed -/
theorem Rp.put (R : Rp K m A G H) {n : Nat} {p : Addr} {o : HO} {c c0 : Cell} (hn : m[n]? = some p) (h0 : A[n]? = some c0) (h : CR K m G p o c) : Rp K m (A.set n c) G (upd H p o) ∧ Ny m G H m G (upd H p o) := by
  have hp := List.mem_of_getElem? hn
  obtain ⟨p', o', g1, g2, g3, g4⟩ := R.cell n c0 h0
  rw [hn] at g1
  cases g1
  refine ⟨⟨fun a u e => ?_, by rw [List.length_set]; exact R.len, R.nd, fun k d e => ?_⟩, ⟨⟨[], by simp⟩, Same.refl G, fun a u na e => ?_, fun a e ne => ⟨e, ?_⟩, fun _ a b => absurd a b⟩⟩
  · have : a ≠ p := fun z => by rw [z, g3] at e; cases e
    rw [upd_ne this]
    exact R.s a u e
  · by_cases hk : n = k
    · subst hk
      have hl : n < A.length := (List.getElem?_eq_some_iff.mp h0).1
      rw [List.getElem?_set_self hl] at e
      cases e
      exact ⟨p, o, hn, upd_same, g3, h⟩
    · rw [List.getElem?_set_ne hk] at e
      obtain ⟨q, u, e1, e2, e3, e4⟩ := R.cell k d e
      have : q ≠ p := fun z => by
        subst z
        obtain ⟨l1, e1'⟩ := List.getElem?_eq_some_iff.mp e1
        obtain ⟨l2, e2'⟩ := List.getElem?_eq_some_iff.mp hn
        exact hk ((List.getElem_inj R.nd).mp (e2'.trans e1'.symm))
      exact ⟨q, u, e1, by rw [upd_ne this]; exact e2, e3, e4⟩
  · have : a ≠ p := fun z => na (z ▸ hp)
    rw [upd_ne this]
    exact e
  · by_cases z : a = p
    · subst z; rw [upd_same]; simp
    · rw [upd_ne z]; exact ne
/-- a new cell, that lies at p -/
theorem Rp.new (R : Rp K m A G H) {p : Addr} {o : HO} {c : Cell} (hH : H p = some o) (hG : G p = none) (hm : p ∉ m) (h : CR K m G p o c) : Rp K (m ++ [p]) (A ++ [c]) G H := by
  refine ⟨R.s, by rw [List.length_append, List.length_append, R.len]; rfl, ?_, fun n d e => ?_⟩
  · rw [List.nodup_append]
    exact ⟨R.nd, by simp, fun a ha b hb z => by
      rw [List.mem_singleton] at hb
      subst hb z
      exact hm ha⟩
  · by_cases hl : n < A.length
    · rw [List.getElem?_append_left hl] at e
      obtain ⟨q, u, e1, e2, e3, e4⟩ := R.cell n d e
      exact ⟨q, u, pre_get ⟨[p], rfl⟩ _ _ e1, e2, e3, e4.mono (pre_get ⟨[p], rfl⟩) (Same.refl G)⟩
    · rw [List.getElem?_append_right (by omega)] at e
      have h0 : n - A.length = 0 := by
        have := (List.getElem?_eq_some_iff.mp e).1
        simp at this
        omega
      rw [h0] at e
      cases e
      refine ⟨p, o, ?_, hH, hG, h.mono (pre_get ⟨[p], rfl⟩) (Same.refl G)⟩
      rw [List.getElem?_append_right (by rw [R.len]; omega), R.len, h0]
      rfl
theorem Ny.cell {p : Addr} (hm : p ∉ m) (hH : H p = none) {G' H' : Hp} (x : Ny m G H m G' H') : Ny m G H (m ++ [p]) G' H' :=
  ⟨⟨[p], rfl⟩, x.g, x.h, x.n, fun a i n => by
    rcases List.mem_append.mp i with i | i
    · exact absurd i n
    · rw [List.mem_singleton] at i; subst i; exact hH⟩
end
end Im

set_option Elab.async false
set_option linter.all false
set_option maxRecDepth 100000
set_option maxHeartbeats 4000000
/-! Im2: the language of what changes things: expressions, tests, statements; how they are carried out. -/
namespace Im
open PySem L2 Pe
/-- a result, and the cells behind it -/
inductive Ri (α : Type) where
  | ok (a : α) (A : Hv)
  | err (e : Err) (A : Hv)
  | no
namespace Ri
def bind {α β : Type} (r : Ri α) (f : α → Hv → Ri β) : Ri β := match r with
  | .ok a A => f a A
  | .err e A => .err e A
  | .no => .no
def of {α : Type} (A : Hv) : Res α → Ri α
  | .ok a => .ok a A
  | .err e => .err e A
  | .no => .no
def ofO {α : Type} (A : Hv) : Option α → Ri α
  | some a => .ok a A
  | none => .no
@[simp] theorem bind_ok {α β : Type} (a : α) (A : Hv) (f : α → Hv → Ri β) : (Ri.ok a A).bind f = f a A := id rfl
@[simp] theorem bind_err {α β : Type} (e : Err) (A : Hv) (f : α → Hv → Ri β) : (Ri.err e A).bind f = .err e A := id rfl
@[simp] theorem bind_no {α β : Type} (f : α → Hv → Ri β) : (Ri.no).bind f = .no := id rfl
@[simp] theorem of_ok {α : Type} (a : α) (A : Hv) : Ri.of A (.ok a) = .ok a A := id rfl
@[simp] theorem of_err {α : Type} (e : Err) (A : Hv) : (Ri.of A (.err e) : Ri α) = .err e A := id rfl
@[simp] theorem of_no {α : Type} (A : Hv) : (Ri.of A .no : Ri α) = .no := id rfl
@[simp] theorem ofO_some {α : Type} (a : α) (A : Hv) : Ri.ofO A (some a) = .ok a A := id rfl
@[simp] theorem ofO_none {α : Type} (A : Hv) : (Ri.ofO A none : Ri α) = .no := id rfl
end Ri
/-- methods of built-in kinds that change -/
inductive Bm where
  | append | extend | pop | popA
mutual
inductive Ix where
  | pu (x : Ex) (vs : List Nat)
  | nu (x : Ex) (vs : List Nat)
  | newD
  | dis (as : Ia)
  | var (i : Nat)
  | atr (a : Ix) (f : Str) (cs : List Str)
  | idx (a b : Ix)
  | callI (g : Str) (as : Ia)
  | callP (g : Str) (as : Ia)
  | bf (b : Bf) (as : Ia)
  | bin (o : Operator) (a b : Ix)
  | cmp (o : CmpOp) (a b : Ix)
  | methI (a : Ix) (m : Str) (tb : List (Str × Str)) (as : Ia)
  | make (c g : Str) (as : Ia)
  | bm (a : Ix) (b : Bm) (as : Ia)
inductive Ia where
  | nil
  | cons (a : Ix) (r : Ia)
end
/-- tests -/
inductive Tt where
  | pu (x : Ex) (vs : List Nat)
  | val (x : Ix)
  | not (a : Tt)
  | and (a b : Tt)
  | or (a b : Tt)
/-- how deep cells are looked at -/
def dpF : Nat := 8
abbrev Ro := List (Option W)
def vwW (A : Hv) (ρ : Ro) : List (Option D) := ρ.map fun o => o.bind (deep dpF A)
def W.isD : W → Bool
  | .dat _ => true
  | .ref _ => false
def W.dd : W → Option D
  | .dat d => some d
  | .ref _ => none
def vwN (ρ : Ro) : List (Option D) := ρ.map fun o => o.bind W.dd
/-- whether these names hold data -/
def allD (ρ : Ro) (vs : List Nat) : Bool := vs.all fun i => match ρ[i]? with
  | some (some (.ref _)) => false
  | _ => true
/-- a result kept: nl: whatever it is; else only where no list is in it -/
def fin (A : Hv) (nl : Bool) : Res D → Ri W
  | .ok d => if nl = true ∨ noL d = true then .ok (.dat d) A else .no
  | .err e => if nl = true ∨ e.args.all noL = true then .err e A else .no
  | .no => .no
/-- an operation upon data -/
def opW (A : Hv) (ws : List W) (f : List D → Res D) : Ri W := match mapO W.dd ws with
  | some ds => fin A true (f ds)
  | none => match mapO (deep dpF A) ws with
    | some ds => fin A false (f ds)
    | none => .no
def puW (F : Str → List D → Res D) (A : Hv) (ρ : Ro) (x : Ex) (vs : List Nat) : Ri W :=
  if allD ρ vs = true then fin A true (evE F (vwN ρ) x) else fin A false (evE F (vwW A ρ) x)
def puB (F : Str → List D → Res D) (A : Hv) (ρ : Ro) (x : Ex) (vs : List Nat) : Ri Bool :=
  match (evE F (vwW A ρ) x).bind fun d => Res.ofO (truD d) with
  | .ok b => .ok b A
  | .err e => if e.args.all noL = true then .err e A else .no
  | .no => .no
/-- a new list -/
def newL (A : Hv) (nl : Bool) : Res D → Ri W
  | .ok (.list ds) => if nl = true ∨ noLAll ds = true then .ok (.ref A.length) (A ++ [.lst (ds.map .dat)]) else .no
  | .err e => if nl = true ∨ e.args.all noL = true then .err e A else .no
  | _ => .no
def nuW (F : Str → List D → Res D) (A : Hv) (ρ : Ro) (x : Ex) (vs : List Nat) : Ri W :=
  if allD ρ vs = true then newL A true (evE F (vwN ρ) x) else newL A false (evE F (vwW A ρ) x)
def D2 (f : D → D → Option D) : List D → Res D
  | [x, y] => Res.ofO (f x y)
  | _ => .no
def dfindW (kvs : List (D × W)) (k : D) : Option W := (kvs.find? fun kv => PyData.eqv kv.1 k).map (·.2)
/-- whether this may be a key of such a dict -/
def dkOkW (kvs : List (D × W)) (k : D) : Bool := dkOk (kvs.map fun kv => (kv.1, PyData.none)) k
def dputW (kvs : List (D × W)) (k : D) (w : W) : List (D × W) := if (kvs.any fun kv => PyData.eqv kv.1 k) = true then kvs.map fun kv => if PyData.eqv kv.1 k = true then (kv.1, w) else kv else kvs ++ [(k, w)]
/-- a[b] -/
def getW (A : Hv) (a b : W) : Ri W := match a with
  | .dat x => opW A [.dat x, b] (D2 idxD)
  | .ref n => match A[n]?, b with
    | some (.lst ws), .dat (.int j) => Ri.ofO A (atI ws j)
    | some (.dct _), b => opW A [a, b] (D2 idxD)
    | _, _ => .no
/-- a.f -/
def atrW (A : Hv) (a : W) (f : Str) (cs : List Str) : Ri W := match a with
  | .ref n => match A[n]? with
    | some (.obj c fs) => if cs.contains c = true then Ri.ofO A (fs.lookup f) else .no
    | _ => .no
  | _ => .no
/-- a.f = w -/
def putW (f : Str) (w : W) : List (Str × W) → List (Str × W)
  | [] => [(f, w)]
  | (g, x) :: r => if g = f then (g, w) :: r else (g, x) :: putW f w r
def isLs (A : Hv) (w : W) : Bool := match w with
  | .ref n => match A[n]? with
    | some (.lst _) => true
    | _ => false
  | _ => false
def bmW (A : Hv) (a : W) (b : Bm) (ws : List W) : Ri W := match a with
  | .ref n => match A[n]?, b, ws with
    | some (.lst xs), .append, [w] => if xs.length < sizeLine then .ok (.dat .none) (A.set n (.lst (xs ++ [w]))) else .no
    | some (.lst xs), .pop, [] => (match xs[xs.length - 1]? with
      | some w => .ok w (A.set n (.lst xs.dropLast))
      | none => .no)
    | some (.lst xs), .popA, [.dat (.int j)] => if near j = true then (match ixN xs.length j with
      | some k => (match xs[k]? with
        | some w => .ok w (A.set n (.lst (xs.eraseIdx k)))
        | none => .no)
      | none => .no) else .no
    | some (.lst xs), .extend, [.dat (.list ds)] => if xs.length + ds.length ≤ sizeLine then .ok (.dat .none) (A.set n (.lst (xs ++ ds.map .dat))) else .no
    | _, _, _ => .no
  | _ => .no
def methW (A : Hv) (a : W) (m : Str) (tb : List (Str × Str)) : Option Str := match a with
  | .ref n => match A[n]? with
    | some (.obj c fs) => if (fs.lookup m).isSome = true then none else tb.lookup c
    | _ => none
  | _ => none
abbrev FP := Str → List D → Res D
abbrev FW := Str → List W → Hv → Ri W
mutual
def evX (F : FP) (I : FW) (ρ : Ro) : Hv → Ix → Ri W
  | A, .pu x vs => puW F A ρ x vs
  | A, .nu x vs => nuW F A ρ x vs
  | A, .newD => .ok (.ref A.length) (A ++ [.dct []])
  | A, .dis as => (evIa F I ρ A as).bind fun ws A1 => if ws.length ≤ sizeLine then .ok (.ref A1.length) (A1 ++ [.lst ws]) else .no
  | A, .var i => match ρ[i]? with
    | some (some w) => .ok w A
    | _ => .no
  | A, .atr a f cs => (evX F I ρ A a).bind fun w A1 => atrW A1 w f cs
  | A, .idx a b => (evX F I ρ A a).bind fun w A1 => (evX F I ρ A1 b).bind fun u A2 => getW A2 w u
  | A, .callI g as => (evIa F I ρ A as).bind fun ws A1 => I g ws A1
  | A, .callP g as => (evIa F I ρ A as).bind fun ws A1 => opW A1 ws (F g)
  | A, .bf b as => (evIa F I ρ A as).bind fun ws A1 => opW A1 ws fun ds => Res.ofO (bfD b ds)
  | A, .bin o a b => (evX F I ρ A a).bind fun w A1 => (evX F I ρ A1 b).bind fun u A2 => opW A2 [w, u] (D2 (binD o))
  | A, .cmp o a b => (evX F I ρ A a).bind fun w A1 => (evX F I ρ A1 b).bind fun u A2 => opW A2 [w, u] (D2 (cmpD o))
  | A, .methI a m tb as => (evX F I ρ A a).bind fun w A1 => match methW A1 w m tb with
    | some g => (evIa F I ρ A1 as).bind fun ws A2 => I g (w :: ws) A2
    | none => .no
  | A, .make c g as => (evIa F I ρ A as).bind fun ws A1 => (I g (.ref A1.length :: ws) (A1 ++ [.obj c []])).bind fun u A2 => match u with
    | .dat .none => .ok (.ref A1.length) A2
    | _ => .no
  | A, .bm a b as => (evX F I ρ A a).bind fun w A1 => if isLs A1 w = true then (evIa F I ρ A1 as).bind fun ws A2 => bmW A2 w b ws else .no
def evIa (F : FP) (I : FW) (ρ : Ro) : Hv → Ia → Ri (List W)
  | A, .nil => .ok [] A
  | A, .cons a r => (evX F I ρ A a).bind fun w A1 => (evIa F I ρ A1 r).bind fun ws A2 => .ok (w :: ws) A2
end
def truW (A : Hv) (w : W) : Option Bool := (deep dpF A w).bind truD
def evTt (F : FP) (I : FW) (ρ : Ro) : Hv → Tt → Ri Bool
  | A, .pu x vs => puB F A ρ x vs
  | A, .val x => (evX F I ρ A x).bind fun w A1 => Ri.ofO A1 (truW A1 w)
  | A, .not a => (evTt F I ρ A a).bind fun b A1 => .ok (!b) A1
  | A, .and a b => (evTt F I ρ A a).bind fun x A1 => if x = true then evTt F I ρ A1 b else .ok false A1
  | A, .or a b => (evTt F I ρ A a).bind fun x A1 => if x = true then .ok true A1 else evTt F I ρ A1 b

/-! ### statements -/
inductive Si where
  | set (i : Nat) (x : Ix)
  | unp (is : List Nat) (x : Ix)
  | sto (o i v : Ix)
  | stoA (o : Ix) (f : Str) (cs : List Str) (v : Ix)
  | aug (i : Nat) (op : Operator) (x : Ix)
  | dro (x : Ix)
  | ret (x : Ix)
  | retN
  | ife (c : Tt) (a b : Si)
  | for_ (tg : Sum Nat (List Nat)) (it : Ex) (vs : List Nat) (body : Si)
  | forR (tg : Sum Nat (List Nat)) (a b : Ix) (body : Si)
  | forX (tg : Sum Nat (List Nat)) (it : Ix) (body : Si)
  | whl (c : Tt) (body : Si)
  | brk
  | cnt
  | pass
  | never
  | seq (a b : Si)
inductive OutI where
  | nx (ρ : Ro)
  | rt (w : W)
  | bk (ρ : Ro)
  | ct (ρ : Ro)
def setAllI (ρ : Ro) : List Nat → List W → Option Ro
  | [], [] => some ρ
  | i :: is, d :: ds => setAllI (ρ.set i (some d)) is ds
  | _, _ => none
def setI (ρ : Ro) (tg : Sum Nat (List Nat)) (w : W) : Option Ro := match tg with
  | .inl i => some (ρ.set i (some w))
  | .inr is => match w with
    | .dat (.tuple ds) => setAllI ρ is (ds.map .dat)
    | _ => none
def stoW (A : Hv) (o k v : W) : Ri Unit := match o with
  | .ref n => match A[n]?, k with
    | some (.lst ws), .dat (.int j) => (match ixN ws.length j with
      | some i => .ok () (A.set n (.lst (ws.set i v)))
      | none => .no)
    | some (.dct kvs), .dat k => if dkOkW kvs k = true ∧ kvs.length < sizeLine then .ok () (A.set n (.dct (dputW kvs k v))) else .no
    | _, _ => .no
  | _ => .no
def stoAW (A : Hv) (o : W) (f : Str) (cs : List Str) (v : W) : Ri Unit := match o with
  | .ref n => match A[n]? with
    | some (.obj c fs) => if cs.contains c = true ∧ fs.length < 1000 then .ok () (A.set n (.obj c (putW f v fs))) else .no
    | _ => .no
  | _ => .no
def nextI (k : Ro → Hv → Ri OutI) : OutI → Hv → Ri OutI
  | .nx ρ, A => k ρ A
  | .ct ρ, A => k ρ A
  | .bk ρ, A => .ok (.nx ρ) A
  | .rt w, A => .ok (.rt w) A
def forI (g : Ro → Hv → W → Ri OutI) : Ro → Hv → List W → Ri OutI
  | ρ, A, [] => .ok (.nx ρ) A
  | ρ, A, d :: ds => (g ρ A d).bind (nextI fun ρ' A' => forI g ρ' A' ds)
/-- a list walked, as it is at each step -/
def forCI (g : Ro → Hv → W → Ri OutI) (n : Nat) : Nat → Nat → Ro → Hv → Ri OutI
  | 0, _, _, _ => .no
  | k + 1, i, ρ, A => match A[n]? with
    | some (.lst ws) => (match ws[i]? with
      | some d => (g ρ A d).bind (nextI fun ρ' A' => forCI g n k (i + 1) ρ' A')
      | none => .ok (.nx ρ) A)
    | _ => .no
def whlI (c : Ro → Hv → Ri Bool) (g : Ro → Hv → Ri OutI) : Nat → Ro → Hv → Ri OutI
  | 0, _, _ => .no
  | n + 1, ρ, A => (c ρ A).bind fun b A1 => if b = true then (g ρ A1).bind (nextI fun ρ' A' => whlI c g n ρ' A') else .ok (.nx ρ) A1
def itW (A : Hv) (u : W) : Bool := match u with
  | .dat (.list _) => true
  | .dat (.tuple _) => true
  | u => isLs A u
def rngW (u v : W) : Option (List W) := match u, v with
  | .dat (.int i), .dat (.int j) => if near i = true ∧ near j = true then some ((rangeL i j).map .dat) else none
  | _, _ => none
def _root_.Option.bindW {α β : Type} (o : Option α) (f : α → Ri β) : Ri β := match o with
  | some a => f a
  | none => .no
def evI (F : FP) (I : FW) (w : Nat) : Ro → Hv → Si → Ri OutI
  | ρ, A, .set i x => (evX F I ρ A x).bind fun u A1 => .ok (.nx (ρ.set i (some u))) A1
  | ρ, A, .unp is x => (evX F I ρ A x).bind fun u A1 => (Ri.ofO A1 (setI ρ (.inr is) u)).bind fun ρ' A2 => .ok (.nx ρ') A2
  | ρ, A, .sto o i v => (evX F I ρ A v).bind fun u A1 => (evX F I ρ A1 o).bind fun ow A2 => (evX F I ρ A2 i).bind fun iw A3 => (stoW A3 ow iw u).bind fun _ A4 => .ok (.nx ρ) A4
  | ρ, A, .stoA o f cs v => (evX F I ρ A v).bind fun u A1 => (evX F I ρ A1 o).bind fun ow A2 => (stoAW A2 ow f cs u).bind fun _ A4 => .ok (.nx ρ) A4
  | ρ, A, .aug i op x => match ρ[i]? with
    | some (some w0) => (evX F I ρ A x).bind fun u A1 => (opW A1 [w0, u] (D2 (augD op))).bind fun r A2 => .ok (.nx (ρ.set i (some r))) A2
    | _ => .no
  | ρ, A, .dro x => (evX F I ρ A x).bind fun _ A1 => .ok (.nx ρ) A1
  | ρ, A, .ret x => (evX F I ρ A x).bind fun u A1 => .ok (.rt u) A1
  | ρ, A, .retN => .ok (.rt (.dat .none)) A
  | ρ, A, .ife c a b => (evTt F I ρ A c).bind fun k A1 => if k = true then evI F I w ρ A1 a else evI F I w ρ A1 b
  | ρ, A, .for_ tg it vs body => if allD ρ vs = true then (Ri.of A ((evE F (vwN ρ) it).bind fun y => listR y .ok)).bind fun ds A1 => forI (fun ρ A d => match setI ρ tg d with
      | some ρ' => evI F I w ρ' A body
      | none => .no) ρ A1 (ds.map .dat) else .no
  | ρ, A, .forR tg a b body => (evX F I ρ A a).bind fun u A1 => (evX F I ρ A1 b).bind fun v A2 => (rngW u v).bindW fun ds => forI (fun ρ A d => match setI ρ tg d with
      | some ρ' => evI F I w ρ' A body
      | none => .no) ρ A2 ds
  | ρ, A, .forX tg it body => (evX F I ρ A it).bind fun u A1 => if itW A1 u = true then (match u with
    | .dat (.list ds) => forI (fun ρ A d => match setI ρ tg d with
      | some ρ' => evI F I w ρ' A body
      | none => .no) ρ A1 (ds.map .dat)
    | .dat (.tuple ds) => forI (fun ρ A d => match setI ρ tg d with
      | some ρ' => evI F I w ρ' A body
      | none => .no) ρ A1 (ds.map .dat)
    | .ref n => forCI (fun ρ A d => match setI ρ tg d with
        | some ρ' => evI F I w ρ' A body
        | none => .no) n w 0 ρ A1
    | _ => .no) else .no
  | ρ, A, .whl c body => whlI (fun ρ A => evTt F I ρ A c) (fun ρ A => evI F I w ρ A body) w ρ A
  | ρ, A, .brk => .ok (.bk ρ) A
  | ρ, A, .cnt => .ok (.ct ρ) A
  | ρ, A, .pass => .ok (.nx ρ) A
  | _, _, .never => .no
  | ρ, A, .seq a b => (evI F I w ρ A a).bind fun o A1 => match o with
    | .nx ρ' => evI F I w ρ' A1 b
    | .rt u => .ok (.rt u) A1
    | .bk ρ' => .ok (.bk ρ') A1
    | .ct ρ' => .ok (.ct ρ') A1
end Im

set_option Elab.async false
set_option linter.all false
set_option maxRecDepth 100000
set_option maxHeartbeats 4000000
/-! Im3: what is to follow; data looked at; values by their forms. -/
namespace Im
open PySem L2 Pe
/-- what is to follow a result -/
def PsI {α : Type} (K : Fg) (co : Co) (E : XK) (m : List Addr) (G H : Hp) (r : Ri α) (k : α → Hv → List Addr → Hp → Hp → Prop) : Prop := match r with
  | .ok a A => ∀ m' G' H', Ny m G H m' G' H' → Rp K m' A G' H' → k a A m' G' H'
  | .err e A => ∀ m' G' H', Ny m G H m' G' H' → Rp K m' A G' H' → EW K co E e G' H'
  | .no => False
section
variable {K : Fg} {co : Co} {E : XK} {m m1 : List Addr} {G H G1 H1 : Hp} {A : Hv}
theorem PsI.mono {α : Type} {r : Ri α} {k : α → Hv → List Addr → Hp → Hp → Prop} (h : PsI K co E m G H r k) (x : Ny m G H m1 G1 H1) : PsI K co E m1 G1 H1 r k := by
  cases r with
  | ok a A => exact fun m' G' H' y R => h m' G' H' (x.trans y) R
  | err e A => exact fun m' G' H' y R => h m' G' H' (x.trans y) R
  | no => exact h
theorem PsI.bind {α β : Type} {r : Ri α} {f : α → Hv → Ri β} {k : β → Hv → List Addr → Hp → Hp → Prop} (h : PsI K co E m G H (r.bind f) k) : PsI K co E m G H r fun a A m' G' H' => PsI K co E m' G' H' (f a A) k := by
  cases r with
  | ok a A => exact fun m' G' H' y R => PsI.mono (r := f a A) h y
  | err e A => exact h
  | no => exact h
theorem PsI.imp {α : Type} {r : Ri α} {k k' : α → Hv → List Addr → Hp → Hp → Prop} (h : PsI K co E m G H r k) (i : ∀ a A m' G' H', r = .ok a A → Ny m G H m' G' H' → Rp K m' A G' H' → k a A m' G' H' → k' a A m' G' H') : PsI K co E m G H r k' := by
  cases r with
  | ok a A => exact fun m' G' H' y R => i a A m' G' H' rfl y R (h m' G' H' y R)
  | err e A => exact h
  | no => exact h
theorem PsI.here {α : Type} {a : α} {k : α → Hv → List Addr → Hp → Hp → Prop} (h : PsI K co E m G H (.ok a A) k) (R : Rp K m A G H) : k a A m G H := h m G H Ny.refl R
theorem PsI.ofO {α : Type} {o : Option α} {k : α → Hv → List Addr → Hp → Hp → Prop} (h : PsI K co E m G H (Ri.ofO A o) k) (R : Rp K m A G H) : ∃ a, o = some a ∧ k a A m G H := by
  cases o with
  | none => exact h.elim
  | some a => exact ⟨a, rfl, h m G H Ny.refl R⟩
end
/-- the names -/
structure RW (K : Fg) (m : List Addr) (σ : St) (ρ : Ro) (G : Hp) : Prop where
  len : ρ.length = σ.length
  get : ∀ (i : Nat) (w : W), ρ[i]? = some (some w) → ∃ v, σ[i]? = some (some v) ∧ WR K m G v w
section
variable {K : Fg} {co : Co} {E : XK} {m m1 : List Addr} {G H G1 H1 : Hp} {A : Hv} {σ : St} {ρ : Ro}
theorem RW.ny (R : RW K m σ ρ G) (x : Ny m G H m1 G1 H1) : RW K m1 σ ρ G1 := ⟨R.len, fun i w e => let ⟨v, h1, h2⟩ := R.get i w e; ⟨v, h1, h2.ny x⟩⟩
theorem RW.viewP (R : RW K m σ ρ G) (P : Rp K m A G H) : RepV K none σ (vwW A ρ) (gP m G H) H := by
  refine ⟨P.gP_same, by unfold vwW; rw [List.length_map]; exact R.len, fun i d e => ?_, fun q hq => by cases hq⟩
  unfold vwW at e
  rw [List.getElem?_map] at e
  cases q : ρ[i]? with
  | none => rw [q] at e; cases e
  | some o =>
    rw [q] at e
    cases o with
    | none => cases e
    | some w =>
      obtain ⟨v, h1, h2⟩ := R.get i w q
      exact ⟨v, h1, P.deep dpF w v d h2 (Option.some.inj e)⟩
theorem dd_is {w : W} {d : D} (h : W.dd w = some d) : w = .dat d := by
  cases w with
  | dat x => cases h; rfl
  | ref n => cases h
theorem RW.viewN (R : RW K m σ ρ G) (s : Same G H) : RepV K none σ (vwN ρ) G H := by
  refine ⟨s, by unfold vwN; rw [List.length_map]; exact R.len, fun i d e => ?_, fun q hq => by cases hq⟩
  unfold vwN at e
  rw [List.getElem?_map] at e
  cases q : ρ[i]? with
  | none => rw [q] at e; cases e
  | some o =>
    rw [q] at e
    cases o with
    | none => cases e
    | some w =>
      obtain ⟨v, h1, h2⟩ := R.get i w q
      have := dd_is (Option.some.inj e)
      subst this
      cases h2 with
      | dat h2 => exact ⟨v, h1, h2⟩
theorem RW.set (R : RW K m σ ρ G) (i : Nat) {v : V} {w : W} (r : WR K m G v w) : RW K m (σ.set i (some v)) (ρ.set i (some w)) G := by
  refine ⟨by rw [List.length_set, List.length_set]; exact R.len, fun j u e => ?_⟩
  by_cases hj : i = j
  · subst hj
    have hi : i < ρ.length := by
      have := (List.getElem?_eq_some_iff.mp e).1
      rwa [List.length_set] at this
    rw [List.getElem?_set_self hi] at e
    cases e
    exact ⟨v, List.getElem?_set_self (by rw [← R.len]; exact hi), r⟩
  · rw [List.getElem?_set_ne hj] at e ⊢
    exact R.get j u e
/-- an error that was raised while all was looked at -/
theorem ew_gP {e : Err} (R : Rp K m A G H) (h : EW K co E e G H) (n : e.args.all noL = true) : EW K co E e (gP m G H) H := by
  intro C dx ps G' H' h1 x h2 h3 h4 h5
  obtain ⟨R', y⟩ := R.backP x
  refine h C dx ps (hid m G') H' h1 ⟨y.g, R'.s, x.h, fun a e n => (y.n a e n).1⟩ ?_ h3 h4 ?_
  · unfold hid
    split
    · rfl
    · exact h2
  · intro f d q
    obtain ⟨v, k1, k2⟩ := h5 f d q
    have hd : d ∈ e.args := by
      have : ∀ {fs : List Str} {as : List D}, (fs.zip as).lookup f = some d → d ∈ as := by
        intro fs
        induction fs with
        | nil => intro as z; cases z
        | cons g fs ih =>
          intro as z
          cases as with
          | nil => cases z
          | cons a as =>
            rw [List.zip_cons_cons, List.lookup_cons] at z
            split at z
            · cases z; exact List.mem_cons_self
            · exact List.mem_cons_of_mem _ (ih z)
      exact this q
    exact ⟨v, k1, R.backD x (List.all_eq_true.mp n d hd) k2⟩
theorem fin_go {r : Res D} {Q : VK} (R : Rp K m A G H) (h : PsI K co E m G H (fin A true r) fun w A' m' G' H' => ∀ v, WR K m' G' v w → Q v H') : Pst K co E r G H Q := by
  cases r with
  | ok d =>
    intro v G' H' nx hv
    obtain ⟨R', y⟩ := R.back nx
    exact h m G' H' y R' v (.dat hv)
  | err e => exact (show PsI K co E m G H (if true = true ∨ e.args.all noL = true then .err e A else .no) _ from h) m G H Ny.refl R
  | no => exact h
theorem fin_goP {r : Res D} {Q : VK} (R : Rp K m A G H) (h : PsI K co E m G H (fin A false r) fun w A' m' G' H' => ∀ v, WR K m' G' v w → Q v H') : Pst K co E r (gP m G H) H Q := by
  cases r with
  | ok d =>
    replace h : PsI K co E m G H (if false = true ∨ noL d = true then Ri.ok (Im.W.dat d) A else .no) _ := h
    by_cases n : noL d = true
    · rw [if_pos (.inr n)] at h
      intro v G' H' nx hv
      obtain ⟨R', y⟩ := R.backP nx
      exact h m _ H' y R' v (.dat (R.backD nx n hv))
    · rw [if_neg (fun z => z.elim (fun q => by cases q) n)] at h
      exact h.elim
  | err e =>
    replace h : PsI K co E m G H (if false = true ∨ e.args.all noL = true then .err e A else .no) _ := h
    by_cases n : e.args.all noL = true
    · rw [if_pos (.inr n)] at h
      exact ew_gP R (h m G H Ny.refl R) n
    · rw [if_neg (fun z => z.elim (fun q => by cases q) n)] at h
      exact h.elim
  | no => exact h
theorem opW_go {vs : List V} {ws : List W} {f : List D → Res D} {Q : VK} (R : Rp K m A G H) (a : Al (WR K m G) vs ws) (h : PsI K co E m G H (opW A ws f) fun w A' m' G' H' => ∀ v, WR K m' G' v w → Q v H') :
    ∃ G1 ds, Same G1 H ∧ DqAll K G1 vs ds ∧ ds.length = ws.length ∧ Pst K co E (f ds) G1 H Q := by
  unfold opW at h
  cases e : mapO W.dd ws with
  | some ds =>
    rw [e] at h
    have al := mapO_al (S := fun v d => Dq K G v d) (fun v w d r q => by
      have := dd_is q
      subst this
      cases r with
      | dat r => exact r) a e
    exact ⟨G, ds, R.s, al_dqa al, by rw [← al.len, a.len], fin_go R h⟩
  | none =>
    rw [e] at h
    cases e2 : mapO (Im.deep dpF A) ws with
    | none => rw [e2] at h; exact h.elim
    | some ds =>
      rw [e2] at h
      have al := mapO_al (S := fun v d => Dq K (gP m G H) v d) (fun v w d r q => R.deep dpF w v d r q) a e2
      exact ⟨gP m G H, ds, R.gP_same, al_dqa al, by rw [← al.len, a.len], fin_goP R h⟩
/-- .. of two -/
theorem opW2_go {v u : V} {w x : W} {f : D → D → Option D} {Q : VK} (R : Rp K m A G H) (hv : WR K m G v w) (hu : WR K m G u x) (h : PsI K co E m G H (opW A [w, x] (D2 f)) fun w A' m' G' H' => ∀ v, WR K m' G' v w → Q v H') : rD2 K f v u H Q := by
  obtain ⟨G1, ds, s, a, l, p⟩ := opW_go R (.cons hv (.cons hu .nil)) h
  match ds, a, p with
  | [d, d2], .cons h1 (.cons h2 .nil), p =>
    obtain ⟨r, e, k⟩ := Pst.ofO p
    exact ⟨G1, d, d2, r, s, h1, h2, e, k⟩
/-! ### readings -/
variable {F : FP} {I : FW} {Ex' : St → XK}
def tX (K : Fg) (co : Co) (F : FP) (I : FW) (E : St → XK) (x : Ix) : TE := fun σ H Q => ∃ m A G ρ, Rp K m A G H ∧ RW K m σ ρ G ∧ PsI K co (E σ) m G H (evX F I ρ A x) fun w A' m' G' H' => ∀ v, WR K m' G' v w → Q v H'
def tIa (K : Fg) (co : Co) (F : FP) (I : FW) (E : St → XK) (x : Ia) : TA := fun σ H Q => ∃ m A G ρ, Rp K m A G H ∧ RW K m σ ρ G ∧ PsI K co (E σ) m G H (evIa F I ρ A x) fun ws A' m' G' H' => ∀ vs, Al (WR K m' G') vs ws → Q vs H'
def tTt (K : Fg) (co : Co) (F : FP) (I : FW) (E : St → XK) (x : Tt) : TT := fun σ H Q => ∃ m A G ρ, Rp K m A G H ∧ RW K m σ ρ G ∧ PsI K co (E σ) m G H (evTt F I ρ A x) fun b A' m' G' H' => Q b H'
theorem tX.of {E : St → XK} {x : Ix} {Q : VK} (R : Rp K m A G H) (W : RW K m σ ρ G) (h : PsI K co (E σ) m G H (evX F I ρ A x) fun w A' m' G' H' => ∀ v, WR K m' G' v w → Q v H') : tX K co F I E x σ H Q := ⟨m, A, G, ρ, R, W, h⟩
end
/-- what holds of the parts -/
structure SndX (X : Cx) (co : Co) (F : FP) (I : FW) (E : St → XK) (f : Expr → Option Ix) : Prop where
  e : ∀ a x, f a = some x → PE X a (tX X.kx co F I E x)
  star : ∀ a x, f a = some x → ∀ b p, a ≠ .Starred b p
def cIa (f : Expr → Option Ix) : List Expr → Option Ia
  | [] => some .nil
  | e :: es => match f e, cIa f es with
    | some a, some r => some (.cons a r)
    | _, _ => none
section
variable {X : Cx} {T : Tbl} {F : FP} {I : FW} {co : Co} {E : St → XK} {f : Expr → Option Ix}
theorem cIa_star (S : SndX X co F I E f) : ∀ {es : List Expr} {x : Ia}, cIa f es = some x → ∀ a ∈ es, ∀ b p, a ≠ .Starred b p
  | [], x, _, a, ha => by cases ha
  | e :: es, x, h, a, ha => by
    unfold cIa at h
    cases e1 : f e with
    | none => rw [e1] at h; cases h
    | some a1 =>
      cases e2 : cIa f es with
      | none => rw [e1, e2] at h; cases h
      | some r =>
        rcases List.mem_cons.mp ha with rfl | ha
        · exact S.star _ _ e1
        · exact cIa_star S e2 a ha
theorem x_args (S : SndX X co F I E f) : ∀ {es : List Expr} {x : Ia}, cIa f es = some x → PA X es (tIa X.kx co F I E x)
  | [], x, h => by
    cases h
    refine pa_imp pa_nil fun σ H Q ⟨m, A, G, ρ, R, W, q⟩ => ?_
    simp only [evIa] at q
    exact q.here R [] .nil
  | e :: es, x, h => by
    have hs := cIa_star S h e List.mem_cons_self
    unfold cIa at h
    cases e1 : f e with
    | none => rw [e1] at h; cases h
    | some a1 =>
      cases e2 : cIa f es with
      | none => rw [e1, e2] at h; cases h
      | some r =>
        rw [e1, e2] at h
        cases h
        refine pa_imp (pa_cons (S.e _ _ e1) (x_args S e2) (star_of hs)) fun σ H Q ⟨m, A, G, ρ, R, W, q⟩ => ?_
        simp only [evIa] at q
        refine ⟨m, A, G, ρ, R, W, q.bind.imp fun w A1 m1 G1 H1 _ y R1 q1 v hv => ⟨m1, A1, G1, ρ, R1, W.ny y, q1.bind.imp fun ws A2 m2 G2 H2 _ y2 R2 q2 vs hvs => ?_⟩⟩
        exact q2.here R2 (v :: vs) (.cons (hv.ny y2) hvs)
theorem cIa_len {ρ : Ro} : ∀ {es : List Expr} {x : Ia} {A A' : Hv} {ws : List W}, cIa f es = some x → evIa F I ρ A x = .ok ws A' → ws.length = es.length
  | [], x, A, A', ws, h, q => by
    cases h
    simp only [evIa] at q
    cases q
    rfl
  | e :: es, x, A, A', ws, h, q => by
    unfold cIa at h
    cases e1 : f e with
    | none => rw [e1] at h; cases h
    | some a1 =>
      cases e2 : cIa f es with
      | none => rw [e1, e2] at h; cases h
      | some r =>
        rw [e1, e2] at h
        cases h
        simp only [evIa] at q
        cases e3 : evX F I ρ A a1 with
        | ok w A1 =>
          rw [e3, Ri.bind_ok] at q
          cases e4 : evIa F I ρ A1 r with
          | ok us A2 =>
            rw [e4] at q
            cases q
            exact congrArg (· + 1) (cIa_len e2 e4)
          | err _ _ => rw [e4] at q; cases q
          | no => rw [e4] at q; cases q
        | err _ _ => rw [e3] at q; cases q
        | no => rw [e3] at q; cases q
/-! ### the forms -/
theorem x_pu {e : Expr} {x : Ex} {vs : List Nat} (h : PE X e (tE X.kx none co F E x)) : PE X e (tX X.kx co F I E (.pu x vs)) := by
  refine pe_imp h fun σ H Q ⟨m, A, G, ρ, R, W, q⟩ => ?_
  simp only [evX] at q
  unfold puW at q
  by_cases c : allD ρ vs = true
  · rw [if_pos c] at q
    exact ⟨_, _, W.viewN R.s, fin_go R q⟩
  · rw [if_neg c] at q
    exact ⟨_, _, W.viewP R, fin_goP R q⟩
theorem x_var (nd : X.N.Nodup) {y : Str} {i : Nat} {p : Pos} (g : visB X.env.scope.names y = true) (d1 : y ≠ "__debug__") (d2 : y ≠ "__classdict__") (hi : ixOf y X.N 0 = some i) : PE X (.Name y p) (tX X.kx co F I E (.var i)) := by
  refine pe_imp (pe_var (ixOf_get hi) (vis_of rfl g) (ne_beq d1) (ne_beq d2)) fun σ H Q ⟨m, A, G, ρ, R, W, q⟩ => ?_
  simp only [evX] at q
  split at q
  · rename_i w e
    obtain ⟨v, h1, h2⟩ := W.get i w e
    exact ⟨v, h1, q.here R v h2⟩
  · exact q.elim
theorem x_bin (S : SndX X co F I E f) {op : Operator} {a b : Expr} {p : Pos} {a' b' : Ix} (h1 : f a = some a') (h2 : f b = some b') : PE X (.BinOp a op b p) (tX X.kx co F I E (.bin op a' b')) := by
  refine pe_imp (pe_op (op_binD op) (S.e _ _ h1) (S.e _ _ h2)) fun σ H Q ⟨m, A, G, ρ, R, W, q⟩ => ?_
  simp only [evX] at q
  exact ⟨m, A, G, ρ, R, W, q.bind.imp fun w A1 m1 G1 H1 _ y R1 q1 v hv => ⟨m1, A1, G1, ρ, R1, W.ny y, q1.bind.imp fun u A2 m2 G2 H2 _ y2 R2 q2 v2 hv2 => opW2_go R2 (hv.ny y2) hv2 q2⟩⟩
theorem x_cmp (hu : X.A.units + 65 < cLine) (S : SndX X co F I E f) {op : CmpOp} {a b : Expr} {p : Pos} {a' b' : Ix} (hm : behindInMarks op b = false) (h1 : f a = some a') (h2 : f b = some b') : PE X (.Compare a [op] [b] p) (tX X.kx co F I E (.cmp op a' b')) := by
  refine pe_imp (pe_cmpR (op_cmpD hu op) (S.e _ _ h1) (S.e _ _ h2) hm) fun σ H Q ⟨m, A, G, ρ, R, W, q⟩ => ?_
  simp only [evX] at q
  exact ⟨m, A, G, ρ, R, W, q.bind.imp fun w A1 m1 G1 H1 _ y R1 q1 v hv => ⟨m1, A1, G1, ρ, R1, W.ny y, q1.bind.imp fun u A2 m2 G2 H2 _ y2 R2 q2 v2 hv2 => opW2_go R2 (hv.ny y2) hv2 q2⟩⟩
theorem x_callP (O : Ok1 X T F none co E) (S : SndX X co F I E f) {y : Str} {as : List Expr} {x : Ia} {n : Nat} {p pos : Pos} (g : glB X.env.scope.names y = true) (hd : y ≠ "__debug__") (hf : T.fns.lookup y = some n) (hl : as.length = n) (cool : T.hot = false) (h : cIa f as = some x) :
    PE X (.Call (.Name y p) as [] pos) (tX X.kx co F I E (.callP y x)) := by
  obtain ⟨a, fd, ps, k, P, room, m, kp, b⟩ := (O.call cool y n hf).ex
  cases as with
  | nil =>
    cases h
    refine pe_imp (pe_callG0 P room O.gd (gl_of g) m kp b (O.pas cool) (ne_beq hd)) fun σ H Q ⟨m, A, G, ρ, R, W, q⟩ => ?_
    simp only [evX, evIa, Ri.bind_ok] at q
    obtain ⟨G1, ds, s, a, l, p⟩ := opW_go R .nil q
    exact ⟨G1, ds, s, a, by rw [l]; exact hl, p⟩
  | cons e es =>
    have st := cIa_star S h
    refine pe_imp (pe_callG P room O.gd (gl_of g) m kp b (O.pas cool) (x_args S h) (ne_beq hd) (star_of (st e List.mem_cons_self)) (noStars fun a ha => st a (List.mem_cons_of_mem _ ha))) fun σ H Q ⟨m, A, G, ρ, R, W, q⟩ => ?_
    simp only [evX] at q
    refine ⟨m, A, G, ρ, R, W, q.bind.imp fun ws A1 m1 G1 H1 ev y1 R1 q1 vs hvs => ?_⟩
    obtain ⟨G2, ds, s, a, l, p⟩ := opW_go R1 hvs q1
    exact ⟨G2, ds, s, a, by rw [l, cIa_len h ev]; exact hl, p⟩
theorem x_bf (O : Ok1 X T F none co E) (S : SndX X co F I E f) {y : Str} {as : List Expr} {x : Ia} {b : Bf} {p pos : Pos} (g : glB X.env.scope.names y = true) (hb : bfOf y as.length = some b) (cool : T.hot = false) (h : cIa f as = some x) :
    PE X (.Call (.Name y p) as [] pos) (tX X.kx co F I E (.bf b x)) := by
  obtain ⟨k1, k2, k3, k4, k5⟩ := bf_boot _ _ _ hb
  have m := O.blt y k1
  cases as with
  | nil => exact absurd k5 (Nat.lt_irrefl 0)
  | cons e es =>
    have st := cIa_star S h
    have rd : ∀ (σ : St) (H : Hp) (Q : VK), tX X.kx co F I E (.bf b x) σ H Q → tCB (rDc X.kx (bfD b)) (tIa X.kx co F I E x) σ H Q := fun σ H Q ⟨m, A, G, ρ, R, W, q⟩ => by
      simp only [evX] at q
      refine ⟨m, A, G, ρ, R, W, q.bind.imp fun ws A1 m1 G1 H1 ev y1 R1 q1 vs hvs => ?_⟩
      obtain ⟨G2, ds, s, a, l, p⟩ := opW_go R1 hvs q1
      obtain ⟨r, er, k⟩ := Pst.ofO p
      exact ⟨G2, ds, r, s, a, er, k⟩
    have c := call_bfD (X := X) b (fun z => O.calm cool) O.gd O.hu
    rcases k4 with ⟨id, e1, e2⟩ | ⟨id, e1, e2⟩
    · rw [e1] at c
      exact pe_imp (pe_callB c (gl_of g) m e2 (x_args S h) k2 (ne_beq k3) (star_of (st e List.mem_cons_self)) (noStars fun a ha => st a (List.mem_cons_of_mem _ ha))) rd
    · rw [e1] at c
      exact pe_imp (pe_callTy c (gl_of g) m e2 (x_args S h) k2 (ne_beq k3) (star_of (st e List.mem_cons_self)) (noStars fun a ha => st a (List.mem_cons_of_mem _ ha))) rd
end
end Im

set_option Elab.async false
set_option linter.all false
set_option maxRecDepth 100000
set_option maxHeartbeats 4000000
/-! Im4: values that change things: new cells, calls, methods, objects made. -/
namespace Im
open PySem L2 Pe
section
variable {K : Fg} {co : Co} {E : XK} {m m1 : List Addr} {G H G1 H1 : Hp} {A : Hv} {σ : St} {ρ : Ro}
theorem Rp.fresh (R : Rp K m A G H) {p : Addr} (h : H p = none) : p ∉ m := fun z => by
  obtain ⟨_, _, o, _, _, h2, _⟩ := R.at_ z
  rw [h] at h2
  cases h2
theorem new_get (R : Rp K m A G H) (p : Addr) : (m ++ [p])[A.length]? = some p := by
  rw [List.getElem?_append_right (by rw [R.len]; omega), R.len]
  simp
/-- a new cell is laid -/
theorem Rp.alloc (R : Rp K m A G H) {p : Addr} {o : HO} {c : Cell} (h : H p = none) (hc : CR K m G p o c) : Rp K (m ++ [p]) (A ++ [c]) G (upd H p o) ∧ Ny m G H (m ++ [p]) G (upd H p o) := by
  obtain ⟨R1, y⟩ := R.back (Nx.hid (o := o) R.s h)
  exact ⟨R1.new upd_same (R.s.free h) (R.fresh h) hc, y.cell (R.fresh h) h⟩
theorem al_dat : ∀ {vs : List V} {ds : List D}, DqAll K G vs ds → Al (WR K m G) vs (ds.map .dat)
  | _, _, .nil => .nil
  | _, _, .cons h t => .cons (.dat h) (al_dat t)
theorem dqa_noL (R : Rp K m A G H) {G' H' : Hp} (x : Nx (gP m G H) H G' H') : ∀ {vs : List V} {ds : List D}, noLAll ds = true → DqAll K G' vs ds → DqAll K (hid m G') vs ds
  | _, _, _, .nil => .nil
  | _, _, n, .cons h t => by
    have n' := (Bool.and_eq_true _ _).mp n
    exact .cons (R.backD x n'.1 h) (dqa_noL R x n'.2 t)
theorem newL_go {r : Res D} {Q : VK} (R : Rp K m A G H) (h : PsI K co E m G H (newL A true r) fun w A' m' G' H' => ∀ v, WR K m' G' v w → Q v H') : PsR K co E (r.bind fun y => listR y .ok) G H (FrL K G H Q) := by
  cases r with
  | ok d =>
    cases d with
    | list ds =>
      intro L acc G' H' nx gL hL hl ha
      obtain ⟨R1, y⟩ := R.back nx
      have R2 := R1.new hl gL (R.fresh hL) (.lst (al_dat (m := m) ha))
      exact h _ G' H' (y.cell (R.fresh hL) hL) R2 _ (.ref (new_get R L))
    | _ => exact h
  | err e => exact (show PsI K co E m G H (if true = true ∨ e.args.all noL = true then .err e A else .no) _ from h) m G H Ny.refl R
  | no => exact h
theorem newL_goP {r : Res D} {Q : VK} (R : Rp K m A G H) (h : PsI K co E m G H (newL A false r) fun w A' m' G' H' => ∀ v, WR K m' G' v w → Q v H') : PsR K co E (r.bind fun y => listR y .ok) (gP m G H) H (FrL K (gP m G H) H Q) := by
  cases r with
  | ok d =>
    cases d with
    | list ds =>
      replace h : PsI K co E m G H (if false = true ∨ noLAll ds = true then Ri.ok (Im.W.ref A.length) (A ++ [.lst (ds.map .dat)]) else .no) _ := h
      by_cases n : noLAll ds = true
      · rw [if_pos (.inr n)] at h
        intro L acc G' H' nx gL hL hl ha
        obtain ⟨R1, y⟩ := R.backP nx
        have R2 := R1.new hl (show hid m G' L = none by unfold hid; split <;> first | rfl | exact gL) (R.fresh hL) (.lst (al_dat (m := m) (dqa_noL R nx n ha)))
        exact h _ _ H' (y.cell (R.fresh hL) hL) R2 _ (.ref (new_get R L))
      · rw [if_neg (fun z => z.elim (fun q => by cases q) n)] at h
        exact h.elim
    | _ => exact h
  | err e =>
    replace h : PsI K co E m G H (if false = true ∨ e.args.all noL = true then .err e A else .no) _ := h
    by_cases n : e.args.all noL = true
    · rw [if_pos (.inr n)] at h
      exact ew_gP R (h m G H Ny.refl R) n
    · rw [if_neg (fun z => z.elim (fun q => by cases q) n)] at h
      exact h.elim
  | no => exact h
theorem al_look {f : Str} {w : W} : ∀ {fs : List (Str × V)} {ds : List (Str × W)}, Al (FsR K m G) fs ds → ds.lookup f = some w → ∃ v, fs.lookup f = some v ∧ WR K m G v w
  | _, _, .nil, h => by cases h
  | (g, v) :: fs, (_, u) :: ds, .cons ⟨e, r⟩ t, h => by
    cases e
    rw [List.lookup_cons] at h ⊢
    split
    · rename_i q
      rw [q] at h
      cases h
      exact ⟨v, rfl, r⟩
    · rename_i q
      rw [q] at h
      exact al_look t h
theorem al_lookN {f : Str} : ∀ {fs : List (Str × V)} {ds : List (Str × W)}, Al (FsR K m G) fs ds → ds.lookup f = none → fs.lookup f = none
  | _, _, .nil, h => rfl
  | (g, v) :: fs, (_, u) :: ds, .cons ⟨e, r⟩ t, h => by
    cases e
    rw [List.lookup_cons] at h ⊢
    split
    · rename_i q
      rw [q] at h
      cases h
    · rename_i q
      rw [q] at h
      exact al_lookN t h
theorem al_put {f : Str} {v : V} {w : W} (r : WR K m G v w) : ∀ {fs : List (Str × V)} {ds : List (Str × W)}, Al (FsR K m G) fs ds → Al (FsR K m G) (L2.putF f v fs) (putW f w ds)
  | _, _, .nil => .cons ⟨rfl, r⟩ .nil
  | (g, v) :: fs, (_, u) :: ds, .cons ⟨e, q⟩ t => by
    cases e
    unfold L2.putF putW
    split
    · exact .cons ⟨rfl, r⟩ t
    · exact .cons ⟨rfl, q⟩ (al_put r t)
end
/-- what a def promises that may change what it is given -/
def spW (K : Fg) (co : Co) (n : Nat) (f : List W → Hv → Ri W) : Sp := fun vs H Q E => ∃ m A G ws, Rp K m A G H ∧ Al (WR K m G) vs ws ∧ ws.length = n ∧ PsI K co E m G H (f ws A) fun w A' m' G' H' => ∀ v, WR K m' G' v w → Q v H'
structure HeldI (X : Cx) (co : Co) (n : Nat) (f : List W → Hv → Ri W) (x : Str) : Prop where
  ex : ∃ (a : Addr) (fd : FuncData) (ps : List Str) (k : Nat), FnG X.prog X.w X.kx X.mg X.base k a fd ps (spW X.kx co n f) ∧ Room k X.A ∧ X.mg x = some (.ref a) ∧ PySem.W.keepIn X.kx (.ref a) = true ∧ Binds X.kx fd ps []
structure HeldMI (X : Cx) (co : Co) (n : Nat) (f : List W → Hv → Ri W) (C : Addr) (m : Str) : Prop where
  ex : ∃ (a : Addr) (fd : FuncData) (ps : List Str) (k : Nat), FnG X.prog X.w X.kx X.mg X.base k a fd ps (spW X.kx co n f) ∧ Room k X.A ∧ Meth X.K C m a ∧ Binds X.kx fd ps []
structure HeldMk (X : Cx) (co : Co) (n : Nat) (f : List W → Hv → Ri W) (C : Addr) (c : Str) : Prop where
  ex : ∃ (a : Addr) (fd : FuncData) (ps : List Str) (k : Nat), FnG X.prog X.w X.kx X.mg X.base k a fd ps (spW X.kx co n f) ∧ Room (k + 1) X.A ∧ Mk X.K C a ∧ X.mg c = some (.ref C) ∧ Binds X.kx fd ps []
/-- a class: its fields, its methods (their defs, how many values), what makes it -/
structure ICl where
  flds : List Str
  ms : List (Str × Str × Nat)
  ini : Option (Str × Nat)
structure TblI where
  ifns : List (Str × Nat)
  icls : List (Str × ICl)
def clsW (TI : TblI) (f : Str) : List Str := (TI.icls.filter fun p => p.2.flds.contains f).map (·.1)
def methsI (TI : TblI) (m : Str) (n : Nat) : List (Str × Str) := TI.icls.filterMap fun p => match p.2.ms.lookup m with
  | some (g, k) => if k = n then some (p.1, g) else none
  | none => none
structure ClsI (X : Cx) (I : FW) (co : Co) (c : Str) (ic : ICl) : Prop where
  ex : ∃ C, cnOf X.K c = some C ∧ Cls X.K C ∧ (∀ f ∈ ic.flds, NoAttr X.K C f) ∧ (∀ m g n, ic.ms.lookup m = some (g, n) → HeldMI X co n (I g) C m) ∧ ∀ g n, ic.ini = some (g, n) → HeldMk X co n (I g) C c
structure OkI (X : Cx) (T : Tbl) (TI : TblI) (F : FP) (I : FW) (co : Co) (E : XK) : Prop where
  o : Ok2 X T F none co E
  cool : T.hot = false
  fn : ∀ g n, TI.ifns.lookup g = some n → HeldI X co n (I g) g
  cls : ∀ c ic, (c, ic) ∈ TI.icls → ClsI X I co c ic
section
variable {X : Cx} {T : Tbl} {TI : TblI} {F : FP} {I : FW} {co : Co} {E : XK} {f : Expr → Option Ix}
theorem clsW_in {f c : Str} (h : (clsW TI f).contains c = true) : ∃ ic, (c, ic) ∈ TI.icls ∧ f ∈ ic.flds := by
  unfold clsW at h
  rw [List.contains_iff_mem] at h
  obtain ⟨p, hp, rfl⟩ := List.mem_map.mp h
  obtain ⟨h1, h2⟩ := List.mem_filter.mp hp
  exact ⟨p.2, h1, List.contains_iff_mem.mp h2⟩
theorem methsI_in {m c g : Str} {n : Nat} (h : (methsI TI m n).lookup c = some g) : ∃ ic, (c, ic) ∈ TI.icls ∧ ic.ms.lookup m = some (g, n) := by
  have h' := look_mem h
  unfold methsI at h'
  obtain ⟨p, hp, e⟩ := List.mem_filterMap.mp h'
  cases e1 : p.2.ms.lookup m with
  | none => rw [e1] at e; cases e
  | some g' =>
    obtain ⟨g', k⟩ := g'
    rw [e1] at e
    replace e : (if k = n then some (p.1, g') else none) = some (c, g) := e
    by_cases c2 : k = n
    · rw [if_pos c2] at e
      cases e
      subst c2
      exact ⟨p.2, hp, e1⟩
    · rw [if_neg c2] at e
      cases e
theorem x_nu {e : Expr} {x : Ex} {vs : List Nat} {te : TE} {E : St → XK} (h : PE X e te) (k : ∀ σ H Q, tF X.kx none co F E x σ H Q → te σ H Q) : PE X e (tX X.kx co F I E (.nu x vs)) := by
  refine pe_imp h fun σ H Q ⟨m, A, G, ρ, R, W, q⟩ => k σ H Q ?_
  simp only [evX] at q
  unfold nuW at q
  by_cases c : allD ρ vs = true
  · rw [if_pos c] at q
    exact ⟨_, _, W.viewN R.s, newL_go R q⟩
  · rw [if_neg c] at q
    exact ⟨_, _, W.viewP R, newL_goP R q⟩
theorem x_newD {p : Pos} {E : St → XK} : PE X (.Dict [] [] p) (tX X.kx co F I E .newD) := by
  refine pe_imp pe_dnewK fun σ H Q ⟨m, A, G, ρ, R, W, q⟩ => ?_
  simp only [evX] at q
  intro L hL
  obtain ⟨R1, y⟩ := R.alloc (o := .dK []) (c := .dct []) hL (.dK .nil)
  exact q _ _ _ y R1 _ (.ref (new_get R L))
theorem x_dis {E : St → XK} (S : SndX X co F I E f) {es : List Expr} {p : Pos} {x : Ia} (h : cIa f es = some x) : PE X (.List es p) (tX X.kx co F I E (.dis x)) := by
  refine pe_imp (pe_lst (x_args S h)) fun σ H Q ⟨m, A, G, ρ, R, W, q⟩ => ?_
  simp only [evX] at q
  refine ⟨m, A, G, ρ, R, W, q.bind.imp fun ws A1 m1 G1 H1 _ y R1 q1 vs hvs => ?_⟩
  by_cases hz : ws.length ≤ sizeLine
  · rw [if_pos hz] at q1
    refine ⟨by rw [hvs.len]; exact hz, fun L hL => ?_⟩
    obtain ⟨R2, y2⟩ := R1.alloc (o := .lst vs) (c := .lst ws) hL (.lst hvs)
    exact q1 _ _ _ y2 R2 _ (.ref (new_get R1 L))
  · rw [if_neg hz] at q1; exact q1.elim
theorem x_atr (O : OkI X T TI F I co E) (S : SndX X co F I (fun _ => E) f) {o : Expr} {n : Str} {p : Pos} {a : Ix} (ho : attO o = true) (h : f o = some a) : PE X (.Attribute o n p) (tX X.kx co F I (fun _ => E) (.atr a n (clsW TI n))) := by
  refine pe_imp (pe_fld (S.e _ _ h) (atb_of ho)) fun σ H Q ⟨m, A, G, ρ, R, W, q⟩ => ?_
  simp only [evX] at q
  refine ⟨m, A, G, ρ, R, W, q.bind.imp fun w A1 m1 G1 H1 ev y R1 q1 v hv => ?_⟩
  unfold atrW at q1
  split at q1
  · rename_i k
    split at q1
    · rename_i c fs e
      by_cases hc : (clsW TI n).contains c = true
      · rw [if_pos hc] at q1
        obtain ⟨u, e1, q2⟩ := q1.ofO R1
        obtain ⟨p', ob, g1, g2, g3, g4⟩ := R1.cell k _ e
        obtain ⟨ic, i1, i2⟩ := clsW_in hc
        obtain ⟨C, c1, c2, c3, _⟩ := (O.cls c ic i1).ex
        cases hv with
        | ref hk =>
          rw [hk] at g1
          cases g1
          cases g4 with
          | obj k1 al =>
            rename_i C' dx fs'
            have eC : C = C' := by
              have : cnOf X.K c = some C' := k1
              rw [c1] at this
              exact Option.some.inj this
            subst eC
            obtain ⟨z, z1, z2⟩ := al_look al e1
            exact ⟨_, _, _, _, z, rfl, g2, c2, c3 n i2, z1, q2 z z2⟩
      · rw [if_neg hc] at q1; exact q1.elim
    · exact q1.elim
  · exact q1.elim
theorem al_at {K : Fg} {m : List Addr} {G : Hp} {vs : List V} {ws : List W} {i : Int} {w : W} (a : Al (WR K m G) vs ws) (h : atI ws i = some w) : ∃ v, atI vs i = some v ∧ WR K m G v w := by
  unfold atI at h ⊢
  rw [a.len]
  cases e : ixN ws.length i with
  | none => rw [e] at h; cases h
  | some j =>
    rw [e] at h
    exact a.get h
/-- what is wanted of a subscript -/
def rGet (K : Fg) (co : Co) (E : XK) : R2 := fun v u H Q => ∃ m A G w x, Rp K m A G H ∧ WR K m G v w ∧ WR K m G u x ∧ PsI K co E m G H (getW A w x) fun w A' m' G' H' => ∀ v, WR K m' G' v w → Q v H'
theorem ix_W (hu : X.A.units + 1 < cLine) {E : XK} : IxR X (rGet X.kx co E) := by
  rintro va sl pins s σ H x y v u Q Inv rx ry ⟨m, A, G, w, x', R, hv, hu', q⟩ hs
  unfold getW at q
  split at q
  · exact ix_D hu va sl pins s σ H x y v u Q Inv rx ry (opW2_go R hv hu' q) hs
  · split at q
    · rename_i n _ _ ws j e
      obtain ⟨wj, e1, q1⟩ := q.ofO R
      obtain ⟨p, ob, g1, g2, g3, g4⟩ := R.cell n _ e
      cases hv with
      | ref hk =>
        rw [hk] at g1
        cases g1
        cases g4 with
        | lst al =>
          obtain ⟨z, z1, z2⟩ := al_at al e1
          cases hu' with
          | dat hd =>
            cases hd with
            | int j => exact ix_list va sl pins s σ H _ _ v u Q Inv rx ry ⟨_, _, j, z, rfl, rfl, SqL.of g2, z1, q1 z z2⟩ hs
    · exact ix_D hu va sl pins s σ H x y v u Q Inv rx ry (opW2_go R hv hu' q) hs
    · exact q.elim
theorem x_idx (O : OkI X T TI F I co E) (S : SndX X co F I (fun _ => E) f) {a b : Expr} {p : Pos} {a' b' : Ix} (hm : notSlice b = true) (h1 : f a = some a') (h2 : f b = some b') : PE X (.Subscript a b p) (tX X.kx co F I (fun _ => E) (.idx a' b')) := by
  refine pe_imp (pe_ix (ix_W (co := co) (E := E) (by have := O.o.o.hu; omega)) (S.e _ _ h1) (S.e _ _ h2) (plainIx_of hm)) fun σ H Q ⟨m, A, G, ρ, R, W, q⟩ => ?_
  simp only [evX] at q
  exact ⟨m, A, G, ρ, R, W, q.bind.imp fun w A1 m1 G1 H1 _ y R1 q1 v hv => ⟨m1, A1, G1, ρ, R1, W.ny y, q1.bind.imp fun u A2 m2 G2 H2 _ y2 R2 q2 v2 hv2 => ⟨m2, A2, G2, w, u, R2, hv.ny y2, hv2, q2⟩⟩⟩
theorem x_callI (O : OkI X T TI F I co E) (S : SndX X co F I (fun _ => E) f) {y : Str} {as : List Expr} {x : Ia} {n : Nat} {p pos : Pos} (g : glB X.env.scope.names y = true) (hd : y ≠ "__debug__") (hf : TI.ifns.lookup y = some n) (hl : as.length = n) (h : cIa f as = some x) :
    PE X (.Call (.Name y p) as [] pos) (tX X.kx co F I (fun _ => E) (.callI y x)) := by
  obtain ⟨a, fd, ps, k, P, room, m, kp, b⟩ := (O.fn y n hf).ex
  cases as with
  | nil =>
    cases h
    refine pe_imp (pe_callG0 P room O.o.o.gd (gl_of g) m kp b (O.o.o.pas O.cool) (ne_beq hd)) fun σ H Q ⟨m, A, G, ρ, R, W, q⟩ => ?_
    simp only [evX, evIa, Ri.bind_ok] at q
    exact ⟨m, A, G, [], R, .nil, hl, q⟩
  | cons e es =>
    have st := cIa_star S h
    refine pe_imp (pe_callG P room O.o.o.gd (gl_of g) m kp b (O.o.o.pas O.cool) (x_args S h) (ne_beq hd) (star_of (st e List.mem_cons_self)) (noStars fun a ha => st a (List.mem_cons_of_mem _ ha))) fun σ H Q ⟨m, A, G, ρ, R, W, q⟩ => ?_
    simp only [evX] at q
    exact ⟨m, A, G, ρ, R, W, q.bind.imp fun ws A1 m1 G1 H1 ev y1 R1 q1 vs hvs => ⟨m1, A1, G1, ws, R1, hvs, by rw [cIa_len h ev]; exact hl, q1⟩⟩
/-- a method's def is where its object's class says -/
theorem methW_go (O : OkI X T TI F I co E) {m : List Addr} {A : Hv} {G H : Hp} {v : V} {w : W} {n : Str} {j : Nat} {g : Str} (R : Rp X.kx m A G H) (hv : WR X.kx m G v w) (h : methW A w n (methsI TI n j) = some g) :
    ∃ (ad C dx ga : Addr) (fs : List (Str × V)) (fd : FuncData) (ps : List Str) (k : Nat), v = .ref ad ∧ H ad = some (.ins C dx fs) ∧ Cls X.K C ∧ Meth X.K C n ga ∧ fs.lookup n = none ∧ FnG X.prog X.w X.kx X.mg X.base k ga fd ps (spW X.kx co j (I g)) ∧ Room k X.A ∧ Binds X.kx fd ps [] := by
  unfold methW at h
  split at h
  · rename_i i
    split at h
    · rename_i c fs e
      by_cases q : (fs.lookup n).isSome = true
      · rw [if_pos q] at h; cases h
      · rw [if_neg q] at h
        have hn : fs.lookup n = none := by
          cases e2 : fs.lookup n with
          | none => rfl
          | some _ => rw [e2] at q; exact absurd rfl q
        obtain ⟨ic, i1, i2⟩ := methsI_in h
        obtain ⟨C, c1, c2, _, c4, _⟩ := (O.cls c ic i1).ex
        obtain ⟨ga, fd, ps, k, P, room, mt, b⟩ := (c4 n g j i2).ex
        obtain ⟨p', ob, g1, g2, g3, g4⟩ := R.cell i _ e
        cases hv with
        | ref hk =>
          rw [hk] at g1
          cases g1
          cases g4 with
          | obj k1 al =>
            rename_i C' dx fs'
            have eC : C = C' := by
              have : cnOf X.K c = some C' := k1
              rw [c1] at this
              exact Option.some.inj this
            subst eC
            exact ⟨_, C, dx, ga, fs', fd, ps, k, rfl, g2, c2, mt, al_lookN al hn, P, room, b⟩
    · cases h
  · cases h
theorem x_methI (O : OkI X T TI F I co E) (S : SndX X co F I (fun _ => E) f) {o : Expr} {n : Str} {as : List Expr} {ap cp : Pos} {a : Ix} {x : Ia} (ho : attO o = true) (hline : (ap.endLine == cp.line) = true) (hz : as.length ≤ 20) (h1 : f o = some a) (h2 : cIa f as = some x) :
    PE X (.Call (.Attribute o n ap) as [] cp) (tX X.kx co F I (fun _ => E) (.methI a n (methsI TI n (as.length + 1)) x)) := by
  cases as with
  | nil =>
    cases h2
    refine pe_imp (pe_methG0 O.o.o.gd (O.o.o.pas O.cool) (S.e _ _ h1) (atb_of ho) hline) fun σ H Q ⟨m, A, G, ρ, R, W, q⟩ => ?_
    simp only [evX] at q
    refine ⟨m, A, G, ρ, R, W, q.bind.imp fun w A1 m1 G1 H1 _ y R1 q1 v hv => ?_⟩
    split at q1
    · rename_i g e
      obtain ⟨ad, C, dx, ga, fs, fd, ps, k, rfl, k1, k2, k3, k4, P, room, b⟩ := methW_go O R1 hv e
      simp only [evIa, Ri.bind_ok] at q1
      exact ⟨ad, C, dx, ga, fs, fd, ps, k, _, rfl, k1, k2, k3, k4, P, room, b, m1, A1, G1, [w], R1, .cons hv .nil, rfl, q1⟩
    · exact q1.elim
  | cons e es =>
    have st := cIa_star S h2
    refine pe_imp (pe_methG O.o.o.gd (O.o.o.pas O.cool) (S.e _ _ h1) (x_args S h2) st hz (atb_of ho) hline) fun σ H Q ⟨m, A, G, ρ, R, W, q⟩ => ?_
    simp only [evX] at q
    refine ⟨m, A, G, ρ, R, W, q.bind.imp fun w A1 m1 G1 H1 _ y R1 q1 v hv => ?_⟩
    split at q1
    · rename_i g eg
      obtain ⟨ad, C, dx, ga, fs, fd, ps, k, rfl, k1, k2, k3, k4, P, room, b⟩ := methW_go O R1 hv eg
      refine ⟨ad, C, dx, ga, fs, fd, ps, k, _, rfl, k1, k2, k3, k4, P, room, b, m1, A1, G1, ρ, R1, W.ny y, q1.bind.imp fun ws A2 m2 G2 H2 ev y2 R2 q2 vs hvs => ?_⟩
      exact ⟨m2, A2, G2, w :: ws, R2, .cons (hv.ny y2) hvs, by rw [List.length_cons, cIa_len h2 ev], q2⟩
    · exact q1.elim
end
end Im

set_option Elab.async false
set_option linter.all false
set_option maxRecDepth 100000
set_option maxHeartbeats 4000000
/-! Im5: lists that are changed by their methods; objects made; tests. -/
namespace Im
open PySem L2 Pe
section
variable {X : Cx} {T : Tbl} {TI : TblI} {F : FP} {I : FW} {co : Co} {E : XK} {f : Expr → Option Ix}
def bmNm : Bm → Str
  | .append => "append"
  | .extend => "extend"
  | .pop => "pop"
  | .popA => "pop"
def bmN : Bm → Nat
  | .append => 1
  | .extend => 1
  | .pop => 0
  | .popA => 1
theorem isLs_is {K : Fg} {m : List Addr} {A : Hv} {G H : Hp} {v : V} {w : W} (R : Rp K m A G H) (hv : WR K m G v w) (h : isLs A w = true) : ∃ n p vs, w = .ref n ∧ v = .ref p ∧ m[n]? = some p ∧ H p = some (.lst vs) := by
  unfold isLs at h
  split at h
  · rename_i n
    split at h
    · rename_i ws e
      obtain ⟨p, o, g1, g2, g3, g4⟩ := R.cell n _ e
      cases hv with
      | ref hk =>
        rw [hk] at g1
        cases g1
        cases g4 with
        | lst a => exact ⟨n, p, _, rfl, rfl, hk, g2⟩
    · cases h
  · cases h
/-- what is wanted of such a method -/
def rBm (K : Fg) (co : Co) (E : XK) (b : Bm) : V → List V → Hp → VK → Prop := fun v vs H Q => ∃ m A G w ws, Rp K m A G H ∧ WR K m G v w ∧ Al (WR K m G) vs ws ∧ PsI K co E m G H (bmW A w b ws) fun w A' m' G' H' => ∀ v, WR K m' G' v w → Q v H'
theorem bm_append {E : XK} {v : V} {vs : List V} {H : Hp} {Q : VK} (h : rBm X.kx co E .append v vs H Q) : rAppend v vs H Q := by
  obtain ⟨m, A, G, w, ws, R, hv, a, q⟩ := h
  unfold bmW at q
  split at q
  · rename_i n
    split at q
    case h_1 xs w1 e _ =>
      obtain ⟨p, o, g1, g2, g3, g4⟩ := R.cell n _ e
      cases hv with
      | ref hk =>
        rw [hk] at g1
        cases g1
        cases g4 with
        | lst al =>
          cases a with
          | cons r t =>
            cases t
            by_cases hz : xs.length < sizeLine
            · rw [if_pos hz] at q
              obtain ⟨R2, y2⟩ := R.put (c := .lst (xs ++ [w1])) hk e (.lst (al.app (.cons r .nil)))
              exact ⟨_, _, _, rfl, rfl, g2, by rw [al.len]; exact hz, q _ _ _ y2 R2 _ (.dat .non)⟩
            · rw [if_neg hz] at q; exact q.elim
    all_goals first | contradiction | exact q.elim
  · exact q.elim
theorem bm_pop {E : XK} {v : V} {vs : List V} {H : Hp} {Q : VK} (h : rBm X.kx co E .pop v vs H Q) : rPop v vs H Q := by
  obtain ⟨m, A, G, w, ws, R, hv, a, q⟩ := h
  unfold bmW at q
  split at q
  · rename_i n
    split at q
    case h_2 xs e _ =>
      obtain ⟨p, o, g1, g2, g3, g4⟩ := R.cell n _ e
      cases hv with
      | ref hk =>
        rw [hk] at g1
        cases g1
        cases g4 with
        | lst al =>
          cases a
          split at q
          · rename_i u eu
            obtain ⟨z, z1, z2⟩ := al.get eu
            obtain ⟨R2, y2⟩ := R.put (c := .lst xs.dropLast) hk e (.lst al.dropLast)
            exact ⟨_, _, z, rfl, rfl, g2, by rw [al.len]; exact z1, q _ _ _ y2 R2 _ (z2.ny y2)⟩
          · exact q.elim
    all_goals first | contradiction | exact q.elim
  · exact q.elim
theorem bm_popA {E : XK} {v : V} {vs : List V} {H : Hp} {Q : VK} (h : rBm X.kx co E .popA v vs H Q) : rPopAt v vs H Q := by
  obtain ⟨m, A, G, w, ws, R, hv, a, q⟩ := h
  unfold bmW at q
  split at q
  · rename_i n
    split at q
    case h_3 xs j e _ =>
      obtain ⟨p, o, g1, g2, g3, g4⟩ := R.cell n _ e
      cases hv with
      | ref hk =>
        rw [hk] at g1
        cases g1
        cases g4 with
        | lst al =>
          cases a with
          | cons r t =>
            cases t
            cases r with
            | dat r =>
              cases r with
              | int j =>
                by_cases nr : near j = true
                · rw [if_pos nr] at q
                  split at q
                  · rename_i k ek
                    split at q
                    · rename_i u eu
                      obtain ⟨z, z1, z2⟩ := al.get eu
                      obtain ⟨R2, y2⟩ := R.put (c := .lst (xs.eraseIdx k)) hk e (.lst (al.erase k))
                      have nr' := of_decide_eq_true nr
                      exact ⟨_, _, j, k, z, rfl, rfl, g2, by omega, by omega, by rw [al.len]; exact (ixN_seq ek).1, z1, q _ _ _ y2 R2 _ (z2.ny y2)⟩
                    · exact q.elim
                  · exact q.elim
                · rw [if_neg nr] at q; exact q.elim
    all_goals first | contradiction | exact q.elim
  · exact q.elim
theorem bm_extend {E : XK} {v : V} {vs : List V} {H : Hp} {Q : VK} (h : rBm X.kx co E .extend v vs H Q) : ∃ l b xs zs, v = .ref l ∧ vs = [.ref b] ∧ H l = some (.lst xs) ∧ LsQ X.K H b zs ∧ xs.length + zs.length ≤ sizeLine ∧ Q .non (upd H l (.lst (xs ++ zs))) := by
  obtain ⟨m, A, G, w, ws, R, hv, a, q⟩ := h
  unfold bmW at q
  split at q
  · rename_i n
    split at q
    case h_4 xs ds e _ =>
      obtain ⟨p, o, g1, g2, g3, g4⟩ := R.cell n _ e
      cases hv with
      | ref hk =>
        rw [hk] at g1
        cases g1
        cases g4 with
        | lst al =>
          cases a with
          | cons r t =>
            cases t
            cases r with
            | dat r =>
              cases r with
              | lst hl ha =>
                by_cases hz : xs.length + ds.length ≤ sizeLine
                · rw [if_pos hz] at q
                  obtain ⟨R2, y2⟩ := R.put (c := .lst (xs ++ ds.map .dat)) hk e (.lst (al.app (al_dat ha)))
                  exact ⟨_, _, _, _, rfl, rfl, g2, ls_same R.s hl, by rw [al.len, dpa_len ha]; exact hz, q _ _ _ y2 R2 _ (.dat .non)⟩
                · rw [if_neg hz] at q; exact q.elim
    all_goals first | contradiction | exact q.elim
  · exact q.elim
theorem x_bm (O : OkI X T TI F I co E) (S : SndX X co F I (fun _ => E) f) {o : Expr} {b : Bm} {as : List Expr} {ap cp : Pos} {a : Ix} {x : Ia} (ho : attO o = true) (hline : (ap.endLine == cp.line) = true) (hn : as.length = bmN b) (h1 : f o = some a) (h2 : cIa f as = some x) :
    PE X (.Call (.Attribute o (bmNm b) ap) as [] cp) (tX X.kx co F I (fun _ => E) (.bm a b x)) := by
  have go : ∀ {r : V → List V → Hp → VK → Prop} {σ : St} {H : Hp} {Q : VK}, (∀ {v vs H Q}, rBm X.kx co E b v vs H Q → r v vs H Q) → tX X.kx co F I (fun _ => E) (.bm a b x) σ H Q → tBM X.K "list" r (tX X.kx co F I (fun _ => E) a) (tIa X.kx co F I (fun _ => E) x) σ H Q := by
    rintro r σ H Q hr ⟨m, A, G, ρ, R, W, q⟩
    simp only [evX] at q
    refine ⟨m, A, G, ρ, R, W, q.bind.imp fun w A1 m1 G1 H1 ev y R1 q1 v hv => ?_⟩
    by_cases c : isLs A1 w = true
    · rw [if_pos c] at q1
      obtain ⟨n, p, vs, rfl, rfl, e1, e2⟩ := isLs_is R1 hv c
      exact ⟨.inl ⟨rfl, _, SqL.of e2⟩, m1, A1, G1, ρ, R1, W.ny y, q1.bind.imp fun ws A2 m2 G2 H2 _ y2 R2 q2 us hus => hr ⟨m2, A2, G2, _, ws, R2, hv.ny y2, hus, q2⟩⟩
    · rw [if_neg c] at q1; exact q1.elim
  cases as with
  | nil =>
    cases b with
    | pop =>
      refine pe_imp (pe_bm0 (cpos := cp) (apos := ap) PySem.F.plainAttrs_list PySem.F.slot_list_pop PySem.F.type_list_pop mt_pop (S.e _ _ h1) (atb_of ho) hline) fun σ H Q t => ?_
      cases h2
      obtain ⟨m, A, G, ρ, R, W, q⟩ := t
      simp only [evX] at q
      refine ⟨m, A, G, ρ, R, W, q.bind.imp fun w A1 m1 G1 H1 ev y R1 q1 v hv => ?_⟩
      by_cases c : isLs A1 w = true
      · rw [if_pos c] at q1
        obtain ⟨n, p, vs, rfl, rfl, e1, e2⟩ := isLs_is R1 hv c
        simp only [evIa, Ri.bind_ok] at q1
        exact ⟨.inl ⟨rfl, _, SqL.of e2⟩, bm_pop (X := X) ⟨m1, A1, G1, _, [], R1, hv, .nil, q1⟩⟩
      · rw [if_neg c] at q1; exact q1.elim
    | _ => cases hn
  | cons e es =>
    have st := cIa_star S h2
    have s1 := star_of (es := es) (env := X.env) (st e List.mem_cons_self)
    have s2 := noStars (pos := cp) (env := X.env) fun a ha => st a (List.mem_cons_of_mem _ ha)
    cases es with
    | cons _ _ => cases b <;> cases hn
    | nil =>
      cases b with
      | append => exact pe_imp (pe_bm (cpos := cp) (apos := ap) PySem.F.plainAttrs_list PySem.F.slot_list_append PySem.F.type_list_append mt_append (S.e _ _ h1) (x_args S h2) (atb_of ho) (by rw [s1]; rfl) hline s1 s2) fun σ H Q => go fun q => bm_append (X := X) q
      | extend => exact pe_imp (pe_bm (cpos := cp) (apos := ap) PySem.F.plainAttrs_list PySem.F.slot_list_extend PySem.F.type_list_extend mt_extendD (S.e _ _ h1) (x_args S h2) (atb_of ho) (by rw [s1]; rfl) hline s1 s2) fun σ H Q => go fun q => bm_extend (X := X) q
      | popA => exact pe_imp (pe_bm (cpos := cp) (apos := ap) PySem.F.plainAttrs_list PySem.F.slot_list_pop PySem.F.type_list_pop mt_popAt (S.e _ _ h1) (x_args S h2) (atb_of ho) (by rw [s1]; rfl) hline s1 s2) fun σ H Q => go fun q => bm_popA (X := X) q
      | pop => cases hn
/-! ### objects made -/
theorem run_makeG {pins : List (Addr × Obj)} {σ : St} {H : Hp} {s : Shared} {Q : VK} {us : List Value} {vs : List V} {k : Nat} {a C : Addr} {fd : FuncData} {ps : List Str} {sp : Sp} (M : Mk X.K C a) (P : FnG X.prog X.w X.kx X.mg X.base k a fd ps sp)
    (room : Room (k + 1) X.A) (gd : X.A.guards = some []) (b : Binds X.kx fd ps []) (pas : PassesAt (L2.CX X.prog X.w) X σ E) (Iv : Inv X pins σ H s) (r : Vals vs us)
    (h : ∀ x dx, H x = none → H dx = none → dx ≠ x → sp (.ref x :: vs) (upd (upd H dx (.own x)) x (.ins C dx [])) (fun v H2 => v = .non ∧ Q (.ref x) H2) E) :
    wpAny (model X.prog X.w) X.A (call (.ref C) us) (EP X pins σ Q) X.xe s := by
  have hq := h (s.heap.objs.size + 1) s.heap.objs.size (Iv.hok.fresh (Nat.le_succ _)) (Iv.hok.fresh (Nat.le_refl _)) (Nat.ne_of_lt (Nat.lt_succ_self _))
  have I2 := Inv.made (C := C) Iv
  have r2 : Vals (V.ref (s.heap.objs.size + 1) :: vs) (Value.ref (s.heap.objs.size + 1) :: us) := .cons rfl r
  have hl : ((Value.ref (s.heap.objs.size + 1) :: us) ++ []).length = ps.length := by
    have e := r2.length
    rw [P.len _ _ _ _ hq] at e
    rw [List.append_nil]
    exact e.symm
  have bound := b _ (Value.ref (s.heap.objs.size + 1) :: us) I2.kIn hl
  rw [List.append_nil] at bound
  refine wpAny_call (make_map (f := a) Iv.kIn M.makes M.init (beq_iff_eq.mp M.fn) (codeAny_mono (P.run _ X.stack _ _ ⟨Value.ref (s.heap.objs.size + 1) :: us, []⟩ (Value.ref (s.heap.objs.size + 1) :: us) _ _ E (room.make C us []) gd
    (I2.env0.make C us []) bound r2 hq) fun r s' hq' => ?_))
  match r, hq' with
  | .ok (.ret u), hq' =>
    obtain ⟨v, H', I3, rv, ev, q3⟩ := I2.after hq'
    subst ev
    exact ⟨rv, ⟨V.ref (s.heap.objs.size + 1), H', I3, rfl, q3⟩⟩
  | .error e, hq' => exact pas pins _ _ e s' I2 hq'
theorem x_make (O : OkI X T TI F I co E) (S : SndX X co F I (fun _ => E) f) {c g : Str} {ic : ICl} {as : List Expr} {x : Ia} {p pos : Pos} (gl : glB X.env.scope.names c = true) (hd : c ≠ "__debug__") (hc : (c, ic) ∈ TI.icls) (hi : ic.ini = some (g, as.length + 1)) (h : cIa f as = some x) :
    PE X (.Call (.Name c p) as [] pos) (tX X.kx co F I (fun _ => E) (.make c g x)) := by
  obtain ⟨C, c1, c2, c3, c4, c5⟩ := (O.cls c ic hc).ex
  obtain ⟨a, fd, ps, k, P, room, M, mg, b⟩ := (c5 g _ hi).ex
  have go : ∀ {m : List Addr} {A : Hv} {G H : Hp} {Q : VK} {vs : List V} {ws : List W}, Rp X.kx m A G H → Al (WR X.kx m G) vs ws → ws.length = as.length → PsI X.kx co E m G H ((I g (.ref A.length :: ws) (A ++ [.obj c []])).bind fun u A2 => match u with
      | .dat .none => .ok (Im.W.ref A.length) A2
      | _ => .no) (fun w A' m' G' H' => ∀ v, WR X.kx m' G' v w → Q v H') →
      ∀ x dx, H x = none → H dx = none → dx ≠ x → spW X.kx co (as.length + 1) (I g) (.ref x :: vs) (upd (upd H dx (.own x)) x (.ins C dx [])) (fun v H2 => v = .non ∧ Q (.ref x) H2) E := by
    intro m A G H Q vs ws R a l q x dx hx hdx ne
    obtain ⟨R1, y1⟩ := R.back (Nx.hid (o := .own x) R.s hdx)
    have hx1 : upd H dx (.own x) x = none := by rw [upd_ne (Ne.symm ne)]; exact hx
    obtain ⟨R2, y2⟩ := R1.alloc (o := .ins C dx []) (c := .obj c []) hx1 (.obj c1 .nil)
    have y3 := y1.trans y2
    refine ⟨_, _, _, .ref A.length :: ws, R2, .cons (.ref (new_get R x)) (wra_ny y3 a), by rw [List.length_cons, l], ?_⟩
    refine (q.mono y3).bind.imp fun u A4 m4 G4 H4 ev y4 R4 q4 v hv => ?_
    split at q4
    · cases hv with
      | dat hv =>
        cases hv
        exact ⟨rfl, q4.here R4 _ (WR.ny y4 (.ref (new_get R x)))⟩
    · exact q4.elim
  cases as with
  | nil =>
    cases h
    refine ⟨fun pins s σ H Q Iv t => ?_⟩
    refine wpAny_Call_Name_kw (ld_glob Iv (gl_of gl) mg ?_ (ne_beq hd))
    obtain ⟨m, A, G, ρ, R, W, q⟩ := t
    simp only [evX, evIa, Ri.bind_ok] at q
    exact PySem.W.callWith_K0 Iv.kIn M.kp (run_makeG (us := []) M P room O.o.o.gd b (O.o.o.pas O.cool σ) Iv .nil (go R .nil rfl q))
  | cons e es =>
    have st := cIa_star S h
    refine ⟨fun pins s σ H Q Iv t => ?_⟩
    refine wpAny_Call_Name_kw (ld_glob Iv (gl_of gl) mg ?_ (ne_beq hd))
    obtain ⟨m, A, G, ρ, R, W, q⟩ := t
    simp only [evX] at q
    have rd : tIa X.kx co F I (fun _ => E) x σ H fun vs H1 => ∀ x dx, H1 x = none → H1 dx = none → dx ≠ x → spW X.kx co ((e :: es).length + 1) (I g) (.ref x :: vs) (upd (upd H1 dx (.own x)) x (.ins C dx [])) (fun v H2 => v = .non ∧ Q (.ref x) H2) E :=
      ⟨m, A, G, ρ, R, W, q.bind.imp fun ws A1 m1 G1 H1 ev y R1 q1 vs hvs => go R1 hvs (cIa_len h ev) q1⟩
    refine PySem.W.callWith_K (h₀ := X.base) Iv.ok.mod.kin M.kp (thn ((x_args S h).run pos pins s σ H _ Iv rd) fun us s1 ⟨vs, H1, I1, r, q⟩ => ⟨I1.kIn, ?_⟩) (star_of (st e List.mem_cons_self)) (noStars fun a ha => st a (List.mem_cons_of_mem _ ha))
    exact run_makeG M P room O.o.o.gd b (O.o.o.pas O.cool σ) I1 r q
end
end Im

set_option Elab.async false
set_option linter.all false
set_option maxRecDepth 100000
set_option maxHeartbeats 4000000
/-! Im6: expressions and tests that change things, read off a text. -/
namespace Im
open PySem L2 Pe
section
variable {X : Cx} {T : Tbl} {TI : TblI} {F : FP} {I : FW} {co : Co} {E : XK} {f : Expr → Option Ix}
/-! ### tests -/
theorem t_pu {e : Expr} {x : Ex} {vs : List Nat} (h : PT X e (tT X.kx none co F (fun _ => E) x)) : PT X e (tTt X.kx co F I (fun _ => E) (.pu x vs)) := by
  refine pt_imp h fun σ H Q ⟨m, A, G, ρ, R, W, q⟩ => ?_
  simp only [evTt] at q
  unfold puB at q
  refine ⟨_, _, W.viewP R, ?_⟩
  cases e : (evE F (vwW A ρ) x).bind fun d => Res.ofO (truD d) with
  | ok b =>
    rw [e] at q
    intro G' H' nx
    obtain ⟨R', y⟩ := R.backP nx
    exact q _ _ H' y R'
  | err e1 =>
    rw [e] at q
    replace q : PsI X.kx co E m G H (if e1.args.all noL = true then Ri.err e1 A else .no) _ := q
    by_cases n : e1.args.all noL = true
    · rw [if_pos n] at q
      exact ew_gP R (q m G H Ny.refl R) n
    · rw [if_neg n] at q
      exact q.elim
  | no => rw [e] at q; exact q.elim
theorem t_val {a : Expr} {x : Ix} (h : PE X a (tX X.kx co F I (fun _ => E) x)) (hp : plainT a = true) : PT X a (tTt X.kx co F I (fun _ => E) (.val x)) := by
  refine pt_imp (pt_truth h ?_) fun σ H Q ⟨m, A, G, ρ, R, W, q⟩ => ?_
  · intro whole
    cases a with
    | BoolOp _ _ _ => cases hp
    | IfExp _ _ _ _ => cases hp
    | Compare _ _ _ _ => cases hp
    | UnaryOp op a p => cases op <;> first | rfl | cases hp
    | _ => rfl
  · simp only [evTt] at q
    refine ⟨m, A, G, ρ, R, W, q.bind.imp fun w A1 m1 G1 H1 _ y R1 q1 v hv => ?_⟩
    obtain ⟨k, e, k1⟩ := q1.ofO R1
    unfold truW at e
    cases e2 : deep dpF A1 w with
    | none => rw [e2] at e; cases e
    | some d =>
      rw [e2] at e
      exact ⟨k, tru_of (R1.deep dpF w v d hv e2) R1.gP_same e, k1⟩
theorem t_not {a : Expr} {x : Tt} {p : Pos} (h : PT X a (tTt X.kx co F I (fun _ => E) x)) : PT X (.UnaryOp .Not a p) (tTt X.kx co F I (fun _ => E) (.not x)) := by
  refine pt_imp (pt_not h) fun σ H Q ⟨m, A, G, ρ, R, W, q⟩ => ?_
  simp only [evTt] at q
  exact ⟨m, A, G, ρ, R, W, q.bind.imp fun b A1 m1 G1 H1 _ y R1 q1 => q1.here R1⟩
theorem t_cmp (hu : X.A.units + 65 < cLine) (S : SndX X co F I (fun _ => E) f) {op : CmpOp} {a b : Expr} {p : Pos} {a' b' : Ix} (hm : behindInMarks op b = false) (h1 : f a = some a') (h2 : f b = some b') : PT X (.Compare a [op] [b] p) (tTt X.kx co F I (fun _ => E) (.val (.cmp op a' b'))) := by
  refine pt_imp (pt_cmpR (op_cmpD hu op) (S.e _ _ h1) (S.e _ _ h2) hm) fun σ H Q ⟨m, A, G, ρ, R, W, q⟩ => ?_
  simp only [evTt, evX] at q
  have q' := q.bind
  refine ⟨m, A, G, ρ, R, W, q'.bind.imp fun w A1 m1 G1 H1 _ y R1 q1 v hv => ⟨m1, A1, G1, ρ, R1, W.ny y, q1.bind.imp fun u A2 m2 G2 H2 _ y2 R2 q2 v2 hv2 => opW2_go (co := co) (E := E) R2 (hv.ny y2) hv2 ?_⟩⟩
  refine q2.imp fun r A3 m3 G3 H3 er y3 R3 q3 v3 hv3 => ?_
  obtain ⟨k, e, k1⟩ := q3.ofO R3
  have isB : ∃ b, r = .dat (.bool b) := by
    have fn : ∀ {nl : Bool} {ds : List D}, fin A2 nl (D2 (cmpD op) ds) = .ok r A3 → ∃ b, r = .dat (.bool b) := fun {nl ds} h => by
      match ds, h with
      | [x, y], h =>
        replace h : fin A2 nl (Res.ofO (cmpD op x y)) = .ok r A3 := h
        cases e1 : cmpD op x y with
        | none => rw [e1] at h; cases h
        | some d =>
          obtain ⟨b, rfl⟩ := cmp_bool e1
          rw [e1] at h
          refine ⟨b, ?_⟩
          have h' : (if nl = true ∨ noL (.bool b) = true then Ri.ok (Im.W.dat (.bool b)) A2 else .no) = .ok r A3 := h
          rw [if_pos (.inr rfl)] at h'
          cases h'
          rfl
      | [], h => cases h
      | [_], h => cases h
      | _ :: _ :: _ :: _, h => cases h
    unfold opW at er
    split at er
    · exact fn er
    · split at er
      · exact fn er
      · cases er
  obtain ⟨b, rfl⟩ := isB
  cases hv3 with
  | dat hd =>
    cases hd
    have e' : some b = some k := e
    cases e'
    exact ⟨_, rfl, k1⟩
def cTl (f : Expr → Option Tt) (op : BoolOp) : List Expr → Option Tt
  | [] => none
  | [a] => f a
  | a :: es => match f a, cTl f op es with
    | some a', some r => some (match op with
      | .And => .and a' r
      | .Or => .or a' r)
    | _, _ => none
theorem t_bool {f : Expr → Option Tt} (S : ∀ a x, f a = some x → PT X a (tTt X.kx co F I (fun _ => E) x)) {op : BoolOp} {p : Pos} : ∀ {vs : List Expr} {x : Tt}, cTl f op vs = some x → PW X (.BoolOp op vs p) (tTt X.kx co F I (fun _ => E) x)
  | [], _, h => by cases h
  | [a], x, h => by
    cases op with
    | And => exact pw_and1 (S _ _ h)
    | Or => exact pw_or1 (S _ _ h)
  | a :: b :: es, x, h => by
    unfold cTl at h
    cases e1 : f a with
    | none => rw [e1] at h; cases h
    | some a' =>
      cases e2 : cTl f op (b :: es) with
      | none => rw [e1, e2] at h; cases h
      | some r =>
        rw [e1, e2] at h
        have ih := t_bool S (p := p) e2
        have ha := S _ _ e1
        cases op with
        | And =>
          cases h
          refine ⟨fun wh pins s σ H Q Iv q => (pw_and ha ih).run wh pins s σ H Q Iv ?_⟩
          obtain ⟨m, A, G, ρ, R, W, q⟩ := q
          simp only [evTt] at q
          refine ⟨m, A, G, ρ, R, W, q.bind.imp fun k A1 m1 G1 H1 _ y R1 q1 => ?_⟩
          cases k with
          | true => rw [if_pos rfl] at q1; exact iteT ⟨m1, A1, G1, ρ, R1, W.ny y, q1⟩
          | false => rw [if_neg (by simp)] at q1; exact iteF (q1.here R1)
        | Or =>
          cases h
          refine ⟨fun wh pins s σ H Q Iv q => (pw_or ha ih).run wh pins s σ H Q Iv ?_⟩
          obtain ⟨m, A, G, ρ, R, W, q⟩ := q
          simp only [evTt] at q
          refine ⟨m, A, G, ρ, R, W, q.bind.imp fun k A1 m1 G1 H1 _ y R1 q1 => ?_⟩
          cases k with
          | true => rw [if_pos rfl] at q1; exact iteT (q1.here R1)
          | false => rw [if_neg (by simp)] at q1; exact iteF ⟨m1, A1, G1, ρ, R1, W.ny y, q1⟩
def cTt (inN : Expr → Bool) (fx : Expr → Option Ix) (fp : Expr → Option Ex) : Nat → Expr → Option Tt
  | 0, _ => none
  | k + 1, e => match (if testOk e = true then fp e else none) with
    | some x => some (.pu x (vars x))
    | none => match e with
      | .UnaryOp .Not a _ => (cTt inN fx fp k a).map .not
      | .BoolOp op vs _ => if 2 ≤ vs.length then cTl (cTt inN fx fp k) op vs else none
      | .Compare a [op] [b] _ => if behindInMarks op b = false ∧ inN b = false then (match fx a, fx b with
        | some a', some b' => some (.val (.cmp op a' b'))
        | _, _ => none) else none
      | e => if plainT e = true then (fx e).map .val else none
theorem t_ok (hu : X.A.units + 65 < cLine) {inN : Expr → Bool} {fp : Expr → Option Ex} (S : SndX X co F I (fun _ => E) f) (P : ∀ a x, fp a = some x → testOk a = true → PT X a (tT X.kx none co F (fun _ => E) x)) : ∀ (k : Nat) (e : Expr) (x : Tt), cTt inN f fp k e = some x → PT X e (tTt X.kx co F I (fun _ => E) x)
  | 0, _, _, h => by cases h
  | k + 1, e, x, h => by
    unfold cTt at h
    split at h
    · rename_i x' h1
      cases h
      by_cases c : testOk e = true
      · rw [if_pos c] at h1
        exact t_pu (P _ _ h1 c)
      · rw [if_neg c] at h1; cases h1
    · split at h
      · rename_i a p _
        cases e1 : cTt inN f fp k a with
        | none => rw [e1] at h; cases h
        | some y => rw [e1] at h; cases h; exact t_not (t_ok hu S P k _ _ e1)
      · rename_i op vs p _
        by_cases c : 2 ≤ vs.length
        · rw [if_pos c] at h
          exact (t_bool (t_ok hu S P k) h).pt
        · rw [if_neg c] at h; cases h
      · rename_i a op b p _
        by_cases c : behindInMarks op b = false ∧ inN b = false
        · rw [if_pos c] at h
          split at h
          · rename_i h1 h2
            cases h
            exact t_cmp hu S c.1 h1 h2
          · cases h
        · rw [if_neg c] at h; cases h
      · by_cases c : plainT e = true
        · rw [if_pos c] at h
          cases e1 : f e with
          | none => rw [e1] at h; cases h
          | some y => rw [e1] at h; cases h; exact t_val (S.e _ _ e1) c
        · rw [if_neg c] at h; cases h
end
/-! ### expressions -/
def impM (TI : TblI) (m : Str) : Bool := TI.icls.any fun p => (p.2.ms.lookup m).isSome
def bmOf (m : Str) (n : Nat) : Option Bm :=
  if m = "append" ∧ n = 1 then some .append else if m = "extend" ∧ n = 1 then some .extend else if m = "pop" ∧ n = 0 then some .pop else if m = "pop" ∧ n = 1 then some .popA else none
def puO (o : Option Ex) : Option Ix := o.map fun x => .pu x (vars x)
def cX (N : List Str) (T : Tbl) (TI : TblI) : Nat → Scope → Expr → Option Ix
  | 0, _, _ => none
  | n + 1, sc, e => match e with
    | .Name y p => if visB sc.names y = true then (if y = "__debug__" ∨ y = "__classdict__" then none else (ixOf y N 0).map .var) else puO (cE N T (n + 1) sc (.Name y p))
    | .Attribute o m p => if attO o = true then (match cX N T TI n sc o with
      | some a => some (.atr a m (clsW TI m))
      | none => none) else none
    | .Subscript a b p => if notSlice b = true ∧ (tabOf sc.names T a).isNone = true ∧ attO a = true then (match cX N T TI n sc a, cX N T TI n sc b with
      | some a', some b' => some (.idx a' b')
      | _, _ => none) else (match cE N T (n + 1) sc (.Subscript a b p) with
      | some y => some (.pu y (vars y))
      | none => if notSlice b = true then (match cX N T TI n sc a, cX N T TI n sc b with
        | some a', some b' => some (.idx a' b')
        | _, _ => none) else none)
    | .List es p => (cIa (cX N T TI n sc) es).map .dis
    | .Dict [] [] p => some .newD
    | .Call (.Name x p) as [] pos => if glB sc.names x = true ∧ x ≠ "__debug__" then (match TI.ifns.lookup x with
      | some k => if as.length = k then (cIa (cX N T TI n sc) as).map (.callI x) else none
      | none => (match TI.icls.lookup x with
        | some ic => (match ic.ini with
          | some (g, k) => if k = as.length + 1 then (cIa (cX N T TI n sc) as).map (.make x g) else none
          | none => none)
        | none => (match cE N T (n + 1) sc (.Call (.Name x p) as [] pos) with
          | some y => some (.pu y (vars y))
          | none => (match T.fns.lookup x with
            | some k => if as.length = k then (cIa (cX N T TI n sc) as).map (.callP x) else none
            | none => (match bfOf x as.length with
              | some b => (cIa (cX N T TI n sc) as).map (.bf b)
              | none => none))))) else none
    | .Call (.Attribute o m ap) as [] cp => if attO o = true ∧ (ap.endLine == cp.line) = true ∧ as.length ≤ 20 ∧ ((bmOf m as.length).isSome = true ∨ impM TI m = true) then (match bmOf m as.length with
      | some b => (match cX N T TI n sc o, cIa (cX N T TI n sc) as with
        | some a, some x => some (.bm a b x)
        | _, _ => none)
      | none => (match cX N T TI n sc o, cIa (cX N T TI n sc) as with
        | some a, some x => some (.methI a m (methsI TI m (as.length + 1)) x)
        | _, _ => none)) else puO (cE N T (n + 1) sc (.Call (.Attribute o m ap) as [] cp))
    | .BinOp a op b p => (match cE N T (n + 1) sc (.BinOp a op b p) with
      | some y => some (.pu y (vars y))
      | none => (match cX N T TI n sc a, cX N T TI n sc b with
        | some a', some b' => some (.bin op a' b')
        | _, _ => none))
    | .Compare a [op] [b] p => (match cE N T (n + 1) sc (.Compare a [op] [b] p) with
      | some y => some (.pu y (vars y))
      | none => if behindInMarks op b = false then (match cX N T TI n sc a, cX N T TI n sc b with
        | some a', some b' => some (.cmp op a' b')
        | _, _ => none) else none)
    | e => puO (cE N T (n + 1) sc e)
theorem bmOf_is {m : Str} {n : Nat} {b : Bm} (h : bmOf m n = some b) : m = bmNm b ∧ n = bmN b := by
  unfold bmOf at h
  by_cases c : m = "append" ∧ n = 1
  · rw [if_pos c] at h; cases h; exact c
  rw [if_neg c] at h; clear c
  by_cases c : m = "extend" ∧ n = 1
  · rw [if_pos c] at h; cases h; exact c
  rw [if_neg c] at h; clear c
  by_cases c : m = "pop" ∧ n = 0
  · rw [if_pos c] at h; cases h; exact c
  rw [if_neg c] at h; clear c
  by_cases c : m = "pop" ∧ n = 1
  · rw [if_pos c] at h; cases h; exact c
  rw [if_neg c] at h; cases h
section
variable {X : Cx} {T : Tbl} {TI : TblI} {F : FP} {I : FW} {co : Co} {E : XK}
theorem x_puO (O : OkI X T TI F I co E) {n : Nat} {e : Expr} {x : Ix} (h : puO (cE X.N T n X.env.scope e) = some x) : PE X e (tX X.kx co F I (fun _ => E) x) := by
  unfold puO at h
  cases e1 : cE X.N T n X.env.scope e with
  | none => rw [e1] at h; cases h
  | some y => rw [e1] at h; cases h; exact x_pu ((snd n O.o.o).e _ _ e1)
theorem sndX (O : OkI X T TI F I co E) : ∀ n : Nat, SndX X co F I (fun _ => E) (cX X.N T TI n X.env.scope)
  | 0 => ⟨fun a x h => (by cases h), fun a x h => (by cases h)⟩
  | n + 1 => by
    have S := sndX O n
    have P := snd (n + 1) O.o.o
    refine ⟨fun e x h => ?_, fun a x h b p z => by subst z; cases h⟩
    unfold cX at h
    split at h
    · rename_i y p
      by_cases v : visB X.env.scope.names y = true
      · rw [if_pos v] at h
        by_cases d : y = "__debug__" ∨ y = "__classdict__"
        · rw [if_pos d] at h; cases h
        · rw [if_neg d] at h
          rw [not_or] at d
          cases e1 : ixOf y X.N 0 with
          | none => rw [e1] at h; cases h
          | some i => rw [e1] at h; cases h; exact x_var O.o.o.nd v d.1 d.2 e1
      · rw [if_neg v] at h; exact x_puO O h
    · rename_i o m p
      by_cases c : attO o = true
      · rw [if_pos c] at h
        split at h
        · rename_i a e1; cases h; exact x_atr O S c e1
        · cases h
      · rw [if_neg c] at h; cases h
    · rename_i a b p
      by_cases c : notSlice b = true ∧ (tabOf X.env.scope.names T a).isNone = true ∧ attO a = true
      · rw [if_pos c] at h
        split at h
        · rename_i h1 h2; cases h; exact x_idx O S c.1 h1 h2
        · cases h
      · rw [if_neg c] at h
        split at h
        · rename_i y hy; cases h; exact x_pu (P.e _ _ hy)
        · by_cases c2 : notSlice b = true
          · rw [if_pos c2] at h
            split at h
            · rename_i h1 h2; cases h; exact x_idx O S c2 h1 h2
            · cases h
          · rw [if_neg c2] at h; cases h
    · rename_i es p
      cases e1 : cIa (cX X.N T TI n X.env.scope) es with
      | none => rw [e1] at h; cases h
      | some y => rw [e1] at h; cases h; exact x_dis S e1
    · cases h; exact x_newD
    · rename_i y p as pos
      by_cases c : glB X.env.scope.names y = true ∧ y ≠ "__debug__"
      · rw [if_pos c] at h
        split at h
        · rename_i k hk
          by_cases l : as.length = k
          · rw [if_pos l] at h
            cases e1 : cIa (cX X.N T TI n X.env.scope) as with
            | none => rw [e1] at h; cases h
            | some z => rw [e1] at h; cases h; exact x_callI O S c.1 c.2 hk l e1
          · rw [if_neg l] at h; cases h
        · split at h
          · rename_i ic hic
            split at h
            · rename_i g k hi
              by_cases l : k = as.length + 1
              · rw [if_pos l] at h
                cases e1 : cIa (cX X.N T TI n X.env.scope) as with
                | none => rw [e1] at h; cases h
                | some z => rw [e1] at h; cases h; exact x_make O S c.1 c.2 (look_mem hic) (by rw [hi, l]) e1
              · rw [if_neg l] at h; cases h
            · cases h
          · split at h
            · rename_i z hz
              cases h
              exact x_pu (P.e _ _ hz)
            · split at h
              · rename_i k hk
                by_cases l : as.length = k
                · rw [if_pos l] at h
                  cases e1 : cIa (cX X.N T TI n X.env.scope) as with
                  | none => rw [e1] at h; cases h
                  | some z => rw [e1] at h; cases h; exact x_callP O.o.o S c.1 c.2 hk l O.cool e1
                · rw [if_neg l] at h; cases h
              · split at h
                · rename_i b hb
                  cases e1 : cIa (cX X.N T TI n X.env.scope) as with
                  | none => rw [e1] at h; cases h
                  | some z => rw [e1] at h; cases h; exact x_bf O.o.o S c.1 hb O.cool e1
                · cases h
      · rw [if_neg c] at h; cases h
    · rename_i o m ap as cp
      by_cases c : attO o = true ∧ (ap.endLine == cp.line) = true ∧ as.length ≤ 20 ∧ ((bmOf m as.length).isSome = true ∨ impM TI m = true)
      · rw [if_pos c] at h
        split at h
        · rename_i b hb
          obtain ⟨rfl, hn⟩ := bmOf_is hb
          split at h
          · rename_i h1 h2; cases h; exact x_bm O S c.1 c.2.1 hn h1 h2
          · cases h
        · split at h
          · rename_i h1 h2; cases h; exact x_methI O S c.1 c.2.1 c.2.2.1 h1 h2
          · cases h
      · rw [if_neg c] at h; exact x_puO O h
    · rename_i a op b p
      split at h
      · rename_i y hy; cases h; exact x_pu (P.e _ _ hy)
      · split at h
        · rename_i h1 h2; cases h; exact x_bin S h1 h2
        · cases h
    · rename_i a op b p
      split at h
      · rename_i y hy; cases h; exact x_pu (P.e _ _ hy)
      · by_cases c : behindInMarks op b = false
        · rw [if_pos c] at h
          split at h
          · rename_i h1 h2; cases h; exact x_cmp O.o.o.hu S c h1 h2
          · cases h
        · rw [if_neg c] at h; cases h
    · exact x_puO O h
end
end Im

set_option Elab.async false
set_option linter.all false
set_option maxRecDepth 100000
set_option maxHeartbeats 8000000
/-! Im7: stores; statements. -/
namespace Im
open PySem PySem.Spec PyProof.Rows L2 Pe
section
variable {K : Fg} {m : List Addr} {G : Hp}
theorem kv_any (k : Key) : ∀ {kvs : List (Key × V)} {ds : List (D × W)}, Al (KvR K m G) kvs ds → (kvs.any fun kv => decide (kv.1 = k)) = ds.any fun kv => PyData.eqv kv.1 (keyD k)
  | _, _, .nil => rfl
  | (j, v) :: _, (dk, w) :: _, .cons ⟨e, _⟩ t => by
    have e : dk = keyD j := e
    subst e
    rw [List.any_cons, List.any_cons, kv_any k t, eqv_key]
theorem kv_map (k : Key) {v : V} {w : W} (r : WR K m G v w) : ∀ {kvs : List (Key × V)} {ds : List (D × W)}, Al (KvR K m G) kvs ds → Al (KvR K m G) (kvs.map fun kv => if kv.1 = k then (kv.1, v) else kv) (ds.map fun kv => if PyData.eqv kv.1 (keyD k) = true then (kv.1, w) else kv)
  | _, _, .nil => .nil
  | (j, v') :: _, (dk, w') :: _, .cons ⟨e, q⟩ t => by
    have e : dk = keyD j := e
    subst e
    rw [List.map_cons, List.map_cons]
    by_cases e : j = k
    · subst e
      rw [if_pos rfl, if_pos (by rw [eqv_key]; simp)]
      exact .cons ⟨rfl, r⟩ (kv_map j r t)
    · rw [if_neg e, if_neg (by rw [eqv_key]; simp [e])]
      exact .cons ⟨rfl, q⟩ (kv_map k r t)
theorem kv_put {k : Key} {v : V} {w : W} {kvs : List (Key × V)} {ds : List (D × W)} (a : Al (KvR K m G) kvs ds) (r : WR K m G v w) : Al (KvR K m G) (putK kvs k v) (dputW ds (keyD k) w) := by
  unfold putK dputW
  rw [kv_any k a]
  split
  · exact kv_map k r a
  · exact a.app (.cons ⟨rfl, r⟩ .nil)
theorem tv_any (ks : List Key) : ∀ {ent : List (List Key × Addr × V)} {ds : List (D × W)}, Al (TvR K m G) ent ds → (entV ent ks).isSome = ds.any fun kv => PyData.eqv kv.1 (ksD ks)
  | _, _, .nil => rfl
  | (j, b, v) :: ent, (dk, w) :: _, .cons ⟨e, _, _⟩ t => by
    have e : dk = ksD j := e
    subst e
    have ih := tv_any ks t
    unfold entV at ih ⊢
    rw [List.any_cons, ← ih, eqv_ks]
    by_cases e : j = ks
    · rw [List.find?_cons_of_pos (by simp [e])]; simp [e]
    · rw [List.find?_cons_of_neg (by simp [e])]; simp [e]
theorem tv_map (ks : List Key) {v : V} {w : W} (r : WR K m G v w) : ∀ {ent : List (List Key × Addr × V)} {ds : List (D × W)}, Al (TvR K m G) ent ds → Al (TvR K m G) (ent.map fun e => if e.1 = ks then (e.1, e.2.1, v) else e) (ds.map fun kv => if PyData.eqv kv.1 (ksD ks) = true then (kv.1, w) else kv)
  | _, _, .nil => .nil
  | (j, b, v') :: _, (dk, w') :: _, .cons ⟨e, p, q⟩ t => by
    have e : dk = ksD j := e
    subst e
    rw [List.map_cons, List.map_cons]
    by_cases e : j = ks
    · subst e
      rw [if_pos rfl, if_pos (by rw [eqv_ks]; simp)]
      exact .cons ⟨rfl, p, r⟩ (tv_map j r t)
    · rw [if_neg e, if_neg (by rw [eqv_ks]; simp [e])]
      exact .cons ⟨rfl, p, q⟩ (tv_map ks r t)
theorem tv_put {ks : List Key} {b : Addr} {v : V} {w : W} {ent : List (List Key × Addr × V)} {ds : List (D × W)} (a : Al (TvR K m G) ent ds) (p : SqT K G b (ks.map kV)) (r : WR K m G v w) : Al (TvR K m G) (entPut ent ks b v) (dputW ds (ksD ks) w) := by
  unfold entPut dputW
  rw [tv_any ks a]
  split
  · exact tv_map ks r a
  · exact a.app (.cons ⟨rfl, p, r⟩ .nil)
theorem dputW_ne (ds : List (D × W)) (k : D) (w : W) : dputW ds k w ≠ [] := by
  unfold dputW
  split
  · rename_i h
    intro z
    rw [List.map_eq_nil_iff] at z
    subst z
    cases h
  · simp
end
section
variable {X : Cx} {T : Tbl} {TI : TblI} {F : FP} {I : FW} {co : Co} {E : XK}
theorem ents_cell {pins : List (Addr × Obj)} {σ : L2.St} {H G : Hp} {m : List Addr} {s : Shared} (Iv : Inv X pins σ H s) (sm : Same G H) : ∀ {ent : List (List Key × Addr × V)} {xs : List (List Key × Addr × Value)} {ds : List (D × W)}, EntX ent xs → Al (TvR X.kx m G) ent ds → ∀ x ∈ xs, (tupleKind (mixKind X.prog X.w)).is s.heap x.1 x.2.1
  | _, _, _, .nil, _, x, hx => by cases hx
  | _, _, _, .cons h t, q, x, hx => by
    cases q with
    | cons q1 q3 =>
      rcases List.mem_cons.mp hx with rfl | hx
      · rw [← h.1, ← h.2.1]; exact key_sq Iv (seqT_same sm q1.2.1)
      · exact ents_cell Iv sm t q3 x hx
theorem dt_cell {pins : List (Addr × Obj)} {σ : L2.St} {H G : Hp} {m : List Addr} {s : Shared} {a : Addr} {ent : List (List Key × Addr × V)} {ds : List (D × W)} (Iv : Inv X pins σ H s) (sm : Same G H) (h : Rd H a (dtO X.kx a ent)) (al : Al (TvR X.kx m G) ent ds) : ent.length ≤ sizeLine ∧ (a == sysModules) = false ∧ ∃ xs, EntX ent xs ∧ s.heap.DictOfH (tupleKind (mixKind X.prog X.w)) a xs := by
  obtain ⟨⟨z, y, xs, r, o, es, ep, h1, h2, h3, h4, h5⟩, _⟩ := (show ObjOk X.prog X.w H s.heap a (dtO X.kx a ent) from h.ok Iv.hok)
  exact ⟨z, y, xs, r, o, es, ep, h1, h2, h3, h4, ents_cell Iv sm r al, h5⟩
/-- what is wanted of a store to a cell -/
def tStoW (K : Fg) (co : Co) (E : XK) : TSet := fun o i v H Q => ∃ m A G ow iw u, Rp K m A G H ∧ WR K m G o ow ∧ WR K m G i iw ∧ WR K m G v u ∧ PsI K co E m G H (stoW A ow iw u) fun _ A' m' G' H' => Q H'
theorem set_W (hu : X.A.units + 1 < cLine) {E : XK} : PSet X (tStoW X.kx co E) := by
  rintro pins s σ H o i v ov iv u Q Iv ro ri rv ⟨m, A, G, ow, iw, w, R, ho, hi, hv, q⟩
  unfold stoW at q
  split at q
  · rename_i n
    cases ho with
    | ref hk =>
      split at q
      · rename_i ws j e
        obtain ⟨p, ob, g1, g2, g3, g4⟩ := R.cell n _ e
        rw [hk] at g1
        cases g1
        cases g4 with
        | lst al =>
          cases hi with
          | dat hd =>
            cases hd with
            | int j =>
              split at q
              · rename_i k ek
                obtain ⟨R2, y2⟩ := R.put (c := .lst (ws.set k w)) hk e (.lst (al.set hv k))
                exact set_list pins s σ H _ _ v ov iv u Q Iv ro ri rv ⟨_, _, j, k, rfl, rfl, g2, by rw [al.len]; exact ek, q _ _ _ y2 R2⟩
              · exact q.elim
      · rename_i kvs k e
        by_cases c : dkOkW kvs k = true ∧ kvs.length < sizeLine
        · rw [if_pos c] at q
          obtain ⟨ok, hz⟩ := c
          obtain ⟨o1, o2⟩ := dkOk_of ok
          obtain ⟨p, ob, g1, g2, g3, g4⟩ := R.cell n _ e
          rw [hk] at g1
          cases g1
          obtain rfl : ov = Value.ref _ := ro
          cases hi with
          | dat hd =>
            cases g4 with
            | dK al =>
              rename_i kvs'
              rcases keyOk_is o1 with ⟨key, rfl⟩ | ⟨ks, rfl⟩
              · have ek := dq_key hd
                subst ek
                obtain ⟨R2, y2⟩ := R.put (c := .dct (dputW kvs (keyD key) w)) hk e (.dK (kv_put al hv))
                exact d_setItem hu Iv (DPut.k g2 (by rw [al.len]; exact hz)) ri rv fun s' I' => ⟨_, I', q _ _ _ y2 R2⟩
              · cases al with
                | cons r _ =>
                  rename_i x y _ _ _
                  have z := kind_head o2
                  have e1 : y.1 = keyD x.1 := r.1
                  replace z : isTupK y.1 = isTupK (ksD ks) := z
                  rw [e1, isTupK_key, isTupK_ks] at z
                  cases z
                | nil =>
                  obtain ⟨b, rfl, sq⟩ := dq_ks hd
                  obtain rfl : iv = Value.ref b := ri
                  obtain ⟨y, dd⟩ := empty_H (x := .non) Iv g2
                  obtain ⟨R2, y2⟩ := R.put (c := .dct (dputW [] (ksD ks) w)) hk e (.dT (tv_put .nil sq hv) (dputW_ne _ _ _))
                  exact dt_store (ent := []) hu Iv (by rw [g2]; trivial) (by rw [sizeLine_eq]; decide) y .nil dd (seqT_same R.s sq) rv fun s' I' => ⟨_, I', q _ _ _ y2 R2⟩
            | dT al ne =>
              rename_i ent
              obtain ⟨z, y, xs, rx, dd⟩ := dt_cell Iv R.s (Rd.of g2) al
              rcases keyOk_is o1 with ⟨key, rfl⟩ | ⟨ks, rfl⟩
              · cases al with
                | cons r _ =>
                  rename_i x y _ _ _
                  have z := kind_head o2
                  have e1 : y.1 = ksD x.1 := r.1
                  replace z : isTupK y.1 = isTupK (keyD key) := z
                  rw [e1, isTupK_key, isTupK_ks] at z
                  cases z
                | nil => exact absurd rfl ne
              · obtain ⟨b, rfl, sq⟩ := dq_ks hd
                obtain rfl : iv = Value.ref b := ri
                obtain ⟨R2, y2⟩ := R.put (c := .dct (dputW kvs (ksD ks) w)) hk e (.dT (tv_put al sq hv) (dputW_ne _ _ _))
                exact dt_store hu Iv (by rw [g2]; trivial) (by rw [al.len]; exact hz) y rx dd (seqT_same R.s sq) rv fun s' I' => ⟨_, I', q _ _ _ y2 R2⟩
        · rw [if_neg c] at q; exact q.elim
      · exact q.elim
  · exact q.elim
/-! ### statements -/
def PostI (K : Fg) (D : Ends) : OutI → Hv → List Addr → Hp → Hp → Prop
  | .nx ρ, _, m, G, H => ∀ σ, RW K m σ ρ G → D.nx σ H
  | .rt w, _, m, G, H => ∀ v, WR K m G v w → D.rt v H
  | .bk ρ, _, m, G, H => ∀ σ, RW K m σ ρ G → D.bk σ H
  | .ct ρ, _, m, G, H => ∀ σ, RW K m σ ρ G → D.ct σ H
def tI (K : Fg) (co : Co) (F : FP) (I : FW) (E : XK) (w : Nat) (S : Si) : TS := fun D σ H => ∃ m A G ρ, Rp K m A G H ∧ RW K m σ ρ G ∧ PsI K co E m G H (evI F I w ρ A S) (PostI K D)
abbrev SX (X : Cx) (co : Co) (F : FP) (I : FW) (E : XK) (f : Expr → Option Ix) := SndX X co F I (fun _ => E) f
variable {f : Expr → Option Ix} {w : Nat}
theorem s_set (O : OkI X T TI F I co E) {y : Str} {i : Nat} {e : Expr} {x : Ix} {p q : Pos} {te : TE} (g : locB X.env.scope.names y = true) (hi : ixOf y X.N 0 = some i) (h : PS X (.Assign [.Name y q] e p) (tAsg te (gName i))) (k : ∀ σ H Q, tX X.kx co F I (fun _ => E) x σ H Q → te σ H Q) :
    PS X (.Assign [.Name y q] e p) (tI X.kx co F I E w (.set i x)) := by
  refine ps_imp h fun D σ H ⟨m, A, G, ρ, R, W, r⟩ => k σ H _ ?_
  simp only [evI] at r
  exact ⟨m, A, G, ρ, R, W, r.bind.imp fun u A1 m1 G1 H1 _ y R1 r1 v hv => r1.here R1 _ ((W.ny y).set i hv)⟩
theorem s_setX (O : OkI X T TI F I co E) (S : SX X co F I E f) {y : Str} {i : Nat} {e : Expr} {x : Ix} {p q : Pos} (g : locB X.env.scope.names y = true) (hi : ixOf y X.N 0 = some i) (nc : notComp e = true) (h : f e = some x) : PS X (.Assign [.Name y q] e p) (tI X.kx co F I E w (.set i x)) :=
  s_set O g hi (ps_set O.o.o.nd (ixOf_get hi) (loc_of g) (S.e _ _ h) (swaps_no nc) (.inl (O.o.fn y))) fun _ _ _ z => z
/-- a new list, any value, by the pure reading -/
theorem s_setN (O : OkI X T TI F I co E) {n : Nat} {y : Str} {i : Nat} {e : Expr} {x : Ex} {p q : Pos} {vs : List Nat} (g : locB X.env.scope.names y = true) (hi : ixOf y X.N 0 = some i) (fr : freshOk e x = true) (h : cE X.N T n X.env.scope e = some x) : PS X (.Assign [.Name y q] e p) (tI X.kx co F I E w (.set i (.nu x vs))) := by
  obtain ⟨te, h1, _, h3⟩ := asg_ok (p := p) (q := q) O.o g hi h
  refine s_set O g hi h1 fun σ H Q ⟨m, A, G, ρ, R, W, q⟩ => h3 fr σ H Q ?_
  simp only [evX] at q
  unfold nuW at q
  by_cases c : allD ρ vs = true
  · rw [if_pos c] at q
    exact ⟨_, _, W.viewN R.s, newL_go R q⟩
  · rw [if_neg c] at q
    exact ⟨_, _, W.viewP R, newL_goP R q⟩
theorem s_setP (O : OkI X T TI F I co E) {n : Nat} {y : Str} {i : Nat} {e : Expr} {x : Ex} {p q : Pos} {vs : List Nat} (g : locB X.env.scope.names y = true) (hi : ixOf y X.N 0 = some i) (h : cE X.N T n X.env.scope e = some x) : PS X (.Assign [.Name y q] e p) (tI X.kx co F I E w (.set i (.pu x vs))) := by
  obtain ⟨te, h1, h2, _⟩ := asg_ok (p := p) (q := q) O.o g hi h
  refine s_set O g hi h1 fun σ H Q ⟨m, A, G, ρ, R, W, q⟩ => h2 σ H Q ?_
  simp only [evX] at q
  unfold puW at q
  by_cases c : allD ρ vs = true
  · rw [if_pos c] at q
    exact ⟨_, _, W.viewN R.s, fin_go R q⟩
  · rw [if_neg c] at q
    exact ⟨_, _, W.viewP R, fin_goP R q⟩
theorem setI_go {K : Fg} {m : List Addr} {A : Hv} {G H : Hp} {σ : L2.St} {ρ ρ' : Ro} {tg : Sum Nat (List Nat)} {u : Im.W} {v : V} {Q : L2.St → Hp → Prop} (R : Rp K m A G H) (W : RW K m σ ρ G) (r : WR K m G v u) (h : setI ρ tg u = some ρ') (k : ∀ σ', RW K m σ' ρ' G → Q σ' H) : tG K tg v σ H Q := by
  cases tg with
  | inl i =>
    cases h
    exact k _ (W.set i r)
  | inr is =>
    cases u with
    | ref n => cases h
    | dat d =>
      cases d with
      | tuple ds =>
        cases r with
        | dat r =>
          cases r with
          | tup hs a =>
            rename_i p vs
            have h2 : setAllI ρ is (ds.map .dat) = some ρ' := h
            clear h
            have hl : ∀ {is : List Nat} {us : List Im.W} {ρ ρ' : Ro}, setAllI ρ is us = some ρ' → us.length = is.length := by
              intro is
              induction is with
              | nil => intro us ρ ρ' h; cases us with
                | nil => rfl
                | cons _ _ => cases h
              | cons i is ih => intro us ρ ρ' h; cases us with
                | nil => cases h
                | cons d us => exact congrArg (· + 1) (ih (us := us) h)
            have l2 := hl h2
            rw [List.length_map] at l2
            refine ⟨p, vs, rfl, seqT_same R.s hs, by rw [dpa_len a, l2], ?_⟩
            clear hs hl l2
            induction is generalizing ds vs σ ρ with
            | nil =>
              cases a with
              | nil => cases h2; exact ⟨rfl, k σ W⟩
              | cons _ _ => cases h2
            | cons i is ih =>
              cases a with
              | nil => cases h2
              | cons r t => exact ⟨_, _, rfl, ih (W.set i (.dat r)) _ t h2⟩
      | _ => cases h
theorem s_unp (O : OkI X T TI F I co E) (S : SX X co F I E f) {es : List Expr} {is : List Nat} {e : Expr} {x : Ix} {j : Nat} {p q : Pos} (nt : notTup e = true) (ht : cTgs X.N X.env.scope.names es = some is) (h : f e = some x) :
    PS X (.Assign [.Tuple es j q] e p) (tI X.kx co F I E w (.unp is x)) := by
  have tg : PG X (.Tuple es j q) (tG X.kx (.inr is)) := tg_ok O.o.o.nd (O.o.o.calm O.cool) (sto_def O.o) (by show (cTgs X.N X.env.scope.names es).map Sum.inr = _; rw [ht]; rfl)
  have base := ps_asg (pos := p) (S.e _ _ h) tg (by cases e <;> rfl) (by cases e <;> first | rfl | cases nt) rfl
  refine ps_imp base fun D σ H ⟨m, A, G, ρ, R, W, r⟩ => ?_
  simp only [evI] at r
  refine ⟨m, A, G, ρ, R, W, r.bind.imp fun u A1 m1 G1 H1 _ y R1 r1 v hv => ?_⟩
  obtain ⟨ρ', e1, r2⟩ := r1.bind.ofO R1
  exact setI_go R1 (W.ny y) hv e1 fun σ' W' => r2.here R1 σ' W'
theorem s_sto (O : OkI X T TI F I co E) (S : SX X co F I E f) {o ix e : Expr} {o' i' x : Ix} {p p' : Pos} (ns : notSlice ix = true) (nc : notComp e = true) (h1 : f o = some o') (h2 : f ix = some i') (h3 : f e = some x) : PS X (.Assign [.Subscript o ix p'] e p) (tI X.kx co F I E w (.sto o' i' x)) := by
  have tg : PG X (.Subscript o ix p') (gSub (tX X.kx co F I (fun _ => E) o') (tX X.kx co F I (fun _ => E) i') (tStoW X.kx co E)) := pg_sub (S.e _ _ h1) (S.e _ _ h2) (set_W (by have := O.o.o.hu; omega)) (by
    intro v
    cases ix with
    | Slice _ _ _ _ => cases ns
    | _ => rfl)
  have base := ps_asg (pos := p) (S.e _ _ h3) tg (by cases e <;> first | rfl | cases nc) (by cases e <;> rfl) rfl
  refine ps_imp base fun D σ H ⟨m, A, G, ρ, R, W, r⟩ => ?_
  simp only [evI] at r
  exact ⟨m, A, G, ρ, R, W, r.bind.imp fun u A1 m1 G1 H1 _ y R1 r1 v hv => ⟨m1, A1, G1, ρ, R1, W.ny y, r1.bind.imp fun ow A2 m2 G2 H2 _ y2 R2 r2 ov hov => ⟨m2, A2, G2, ρ, R2, (W.ny y).ny y2, r2.bind.imp fun iw A3 m3 G3 H3 _ y3 R3 r3 iv hiv =>
    ⟨m3, A3, G3, ow, iw, u, R3, hov.ny y3, hiv, (hv.ny y2).ny y3, r3.bind.imp fun _ A4 m4 G4 H4 _ y4 R4 r4 => r4.here R4 σ ((((W.ny y).ny y2).ny y3).ny y4)⟩⟩⟩⟩
theorem s_stoA (O : OkI X T TI F I co E) (S : SX X co F I E f) {o e : Expr} {n : Str} {o' x : Ix} {p p' : Pos} (nc : notComp e = true) (h1 : f o = some o') (h3 : f e = some x) : PS X (.Assign [.Attribute o n p'] e p) (tI X.kx co F I E w (.stoA o' n (clsW TI n) x)) := by
  refine ps_imp (ps_fld (S.e _ _ h1) (S.e _ _ h3) (swaps_no nc)) fun D σ H ⟨m, A, G, ρ, R, W, r⟩ => ?_
  simp only [evI] at r
  refine ⟨m, A, G, ρ, R, W, r.bind.imp fun u A1 m1 G1 H1 _ y R1 r1 v hv => ⟨m1, A1, G1, ρ, R1, W.ny y, r1.bind.imp fun ow A2 m2 G2 H2 ev y2 R2 r2 ov hov => ?_⟩⟩
  have r3 := r2.bind
  unfold stoAW at r3
  split at r3
  · rename_i k
    split at r3
    · rename_i c fs ek
      by_cases hc : (clsW TI n).contains c = true ∧ fs.length < 1000
      · rw [if_pos hc] at r3
        obtain ⟨p', ob, g1, g2, g3, g4⟩ := R2.cell k _ ek
        obtain ⟨ic, i1, i2⟩ := clsW_in hc.1
        obtain ⟨C, c1, c2, c3, _⟩ := (O.cls c ic i1).ex
        cases hov with
        | ref hk =>
          rw [hk] at g1
          cases g1
          cases g4 with
          | obj k1 al =>
            rename_i C' dx fs'
            have eC : C = C' := by
              have : cnOf X.K c = some C' := k1
              rw [c1] at this
              exact Option.some.inj this
            subst eC
            obtain ⟨R3, y3⟩ := R2.put (c := .obj c (putW n u fs)) hk ek (.obj (dx := dx) k1 (al_put (hv.ny y2) al))
            exact ⟨_, C, dx, fs', rfl, g2, c2, c3 n i2, by rw [al.len]; exact hc.2, (r3 _ _ _ y3 R3).here R3 σ (((W.ny y).ny y2).ny y3)⟩
      · rw [if_neg hc] at r3; exact r3.elim
    · exact r3.elim
  · exact r3.elim
end
end Im

set_option Elab.async false
set_option linter.all false
set_option maxRecDepth 100000
set_option maxHeartbeats 8000000
/-! Im8: all statements. -/
namespace Im
open PySem PySem.Spec PyProof.Rows L2 Pe
section
variable {X : Cx} {T : Tbl} {TI : TblI} {F : FP} {I : FW} {co : Co} {E : XK} {f : Expr → Option Ix} {w : Nat}
theorem s_aug (O : OkI X T TI F I co E) (S : SX X co F I E f) {y : Str} {i : Nat} {op : Operator} {e : Expr} {x : Ix} {p q : Pos} (g : locB X.env.scope.names y = true) (hi : ixOf y X.N 0 = some i) (h : f e = some x) :
    PS X (.AugAssign (.Name y q) op e p) (tI X.kx co F I E w (.aug i op x)) := by
  have base := ps_aug (pos := p) (pos' := q) O.o.o.nd (ixOf_get hi) (loc_of g) (S.e _ _ h) (ip_D op) (.inl (O.o.fn y))
  refine ps_imp base fun D σ H ⟨m, A, G, ρ, R, W, r⟩ => ?_
  simp only [evI] at r
  split at r
  · rename_i w0 e0
    obtain ⟨v, a1, a2⟩ := W.get i w0 e0
    refine ⟨v, a1, m, A, G, ρ, R, W, r.bind.imp fun u A1 m1 G1 H1 _ y R1 r1 v2 hv2 => ?_⟩
    obtain ⟨G2, dx, dy, d, s, h1, h2, h3, k⟩ := opW2_go (co := co) (E := E) (Q := fun z H => D.nx (σ.set i (some z)) H) R1 (a2.ny y) hv2 (r1.bind.imp fun r A3 m3 G3 H3 _ y3 R3 r3 v3 hv3 => r3.here R3 _ (((W.ny y).ny y3).set i hv3))
    exact ⟨G2, dx, dy, d, s, h1, h2, h3, fun v3 hv3 => k v3 G2 _ (Nx.refl s) hv3⟩
  · exact r.elim
theorem s_dro (S : SX X co F I E f) {e : Expr} {x : Ix} {p : Pos} (nc : notComp e = true) (h : f e = some x) : PS X (.Expr e p) (tI X.kx co F I E w (.dro x)) := by
  refine ps_imp (ps_expr (S.e _ _ h) (swaps_no nc)) fun D σ H ⟨m, A, G, ρ, R, W, r⟩ => ?_
  simp only [evI] at r
  exact ⟨m, A, G, ρ, R, W, r.bind.imp fun u A1 m1 G1 H1 _ y R1 r1 v _ => r1.here R1 σ (W.ny y)⟩
theorem s_ret (S : SX X co F I E f) {e : Expr} {x : Ix} {p : Pos} (h : f e = some x) : PS X (.Return (some e) p) (tI X.kx co F I E w (.ret x)) := by
  refine ps_imp (ps_ret (S.e _ _ h)) fun D σ H ⟨m, A, G, ρ, R, W, r⟩ => ?_
  simp only [evI] at r
  exact ⟨m, A, G, ρ, R, W, r.bind.imp fun u A1 m1 G1 H1 _ y R1 r1 v hv => r1.here R1 v hv⟩
theorem s_retN {p : Pos} : PS X (.Return none p) (tI X.kx co F I E w .retN) := by
  refine ps_imp ps_retN fun D σ H ⟨m, A, G, ρ, R, W, r⟩ => ?_
  simp only [evI] at r
  exact r.here R .non (.dat .non)
theorem s_pass {p : Pos} : PS X (.Pass p) (tI X.kx co F I E w .pass) := by
  refine ps_imp ps_pass fun D σ H ⟨m, A, G, ρ, R, W, r⟩ => ?_
  simp only [evI] at r
  exact r.here R σ W
theorem s_brk {p : Pos} : PS X (.Break p) (tI X.kx co F I E w .brk) := by
  refine ps_imp ps_break fun D σ H ⟨m, A, G, ρ, R, W, r⟩ => ?_
  simp only [evI] at r
  exact r.here R σ W
theorem s_cnt {p : Pos} : PS X (.Continue p) (tI X.kx co F I E w .cnt) := by
  refine ps_imp ps_continue fun D σ H ⟨m, A, G, ρ, R, W, r⟩ => ?_
  simp only [evI] at r
  exact r.here R σ W
theorem s_doc {y : Str} {j : Nat} {p p' : Pos} : PS X (.Expr (.Constant (.str y) j p) p') (tI X.kx co F I E w .pass) := by
  refine ps_imp ps_doc fun D σ H ⟨m, A, G, ρ, R, W, r⟩ => ?_
  simp only [evI] at r
  exact r.here R σ W
theorem s_never {st : Stmt} : PS X st (tI X.kx co F I E w .never) := by
  refine ps_imp ps_never fun D σ H ⟨m, A, G, ρ, R, W, r⟩ => ?_
  simp only [evI] at r
  exact r.elim
def cBI (f : Stmt → Option Si) : List Stmt → Option Si
  | [] => some .pass
  | [s] => f s
  | s :: t :: ss => match f s, cBI f (t :: ss) with
    | some a, some b => some (.seq a b)
    | _, _ => none
theorem s_block {f : Stmt → Option Si} (B : ∀ st S, f st = some S → PS X st (tI X.kx co F I E w S)) : ∀ {ss : List Stmt} {S : Si}, cBI f ss = some S → PSs X ss (tI X.kx co F I E w S)
  | [], S, h => by
    cases h
    refine pss_imp pss_nil fun D σ H ⟨m, A, G, ρ, R, W, r⟩ => ?_
    simp only [evI] at r
    exact r.here R σ W
  | [s], S, h => pss_one (B _ _ h)
  | s :: t :: ss, S, h => by
    unfold cBI at h
    cases e1 : f s with
    | none => rw [e1] at h; cases h
    | some a =>
      cases e2 : cBI f (t :: ss) with
      | none => rw [e1, e2] at h; cases h
      | some b =>
        rw [e1, e2] at h
        cases h
        refine pss_imp (pss_cons (B _ _ e1) (s_block B e2)) fun D σ H ⟨m, A, G, ρ, R, W, r⟩ => ?_
        simp only [evI] at r
        refine ⟨m, A, G, ρ, R, W, r.bind.imp fun o A1 m1 G1 H1 _ y R1 r1 => ?_⟩
        cases o with
        | nx ρ' => exact fun σ' W' => ⟨m1, A1, G1, ρ', R1, W', r1⟩
        | rt u => exact r1.here R1
        | bk ρ' => exact r1.here R1
        | ct ρ' => exact r1.here R1
theorem s_if {c : Expr} {c' : Tt} {a b : List Stmt} {a' b' : Si} {p : Pos} (h : PT X c (tTt X.kx co F I (fun _ => E) c')) (h1 : PSs X a (tI X.kx co F I E w a')) (h2 : PSs X b (tI X.kx co F I E w b')) : PS X (.If c a b p) (tI X.kx co F I E w (.ife c' a' b')) := by
  refine ps_imp (ps_if h h1 h2) fun D σ H ⟨m, A, G, ρ, R, W, r⟩ => ?_
  simp only [evI] at r
  refine ⟨m, A, G, ρ, R, W, r.bind.imp fun k A1 m1 G1 H1 _ y R1 r1 => ?_⟩
  cases k with
  | true => rw [if_pos rfl] at r1; exact iteT ⟨m1, A1, G1, ρ, R1, W.ny y, r1⟩
  | false => rw [if_neg (by simp)] at r1; exact iteF ⟨m1, A1, G1, ρ, R1, W.ny y, r1⟩
theorem s_whl (O : OkI X T TI F I co E) {c : Expr} {c' : Tt} {body : List Stmt} {b : Si} {p : Pos} (h : PT X c (tTt X.kx co F I (fun _ => E) c')) (h1 : PSs X body (tI X.kx co F I E w b)) : PS X (.While c body [] p) (tI X.kx co F I E w (.whl c' b)) := by
  refine ps_imp (ps_while (O.o.po O.cool) h h1) fun D σ H ⟨m, A, G, ρ, R, W, r⟩ => ?_
  simp only [evI] at r
  refine ⟨fun k σ H => ∃ m A G ρ, Rp X.kx m A G H ∧ RW X.kx m σ ρ G ∧ PsI X.kx co E m G H (whlI (fun ρ A => evTt F I ρ A c') (fun ρ A => evI F I w ρ A b) k ρ A) (PostI X.kx D), ⟨w, m, A, G, ρ, R, W, r⟩, ?_⟩
  rintro k σ H ⟨m, A, G, ρ, R, W, r⟩
  cases k with
  | zero => exact r.elim
  | succ k =>
    unfold whlI at r
    refine ⟨m, A, G, ρ, R, W, r.bind.imp fun t A1 m1 G1 H1 _ y R1 r1 => ?_⟩
    cases t with
    | false => rw [if_neg (by simp)] at r1; exact iteF (r1.here R1 σ (W.ny y))
    | true =>
      rw [if_pos rfl] at r1
      refine iteT ⟨fun σ H => ∃ m A G ρ, Rp X.kx m A G H ∧ RW X.kx m σ ρ G ∧ PsI X.kx co E m G H (whlI (fun ρ A => evTt F I ρ A c') (fun ρ A => evI F I w ρ A b) k ρ A) (PostI X.kx D), fun σ' H' q => ⟨k, Nat.lt_succ_self _, q⟩, m1, A1, G1, ρ, R1, W.ny y, r1.bind.imp fun o A2 m2 G2 H2 _ y2 R2 r2 => ?_⟩
      cases o with
      | nx ρ' => exact fun σ' W' => ⟨m2, A2, G2, ρ', R2, W', r2⟩
      | ct ρ' => exact fun σ' W' => ⟨m2, A2, G2, ρ', R2, W', r2⟩
      | bk ρ' => exact r2.here R2
      | rt u => exact r2.here R2
/-! ### walks -/
def stepI (F : FP) (I : FW) (w : Nat) (tg : Sum Nat (List Nat)) (b : Si) : Ro → Hv → Im.W → Ri OutI := fun ρ A d => match setI ρ tg d with
  | some ρ' => evI F I w ρ' A b
  | none => .no
/-- a walk over what is told -/
theorem walk_told {D : Ends} {σ : L2.St} {J : It} {ds : List Pe.D} {m : List Addr} {A : Hv} {G H : Hp} {ρ : Ro} {tg : Sum Nat (List Nat)} {b : Si} (R : Rp X.kx m A G H) (Wr : RW X.kx m σ ρ G) (wk : WalkD X.kx J ds G) (r : PsI X.kx co E m G H (forI (stepI F I w tg b) ρ A (ds.map .dat)) (PostI X.kx D)) :
    ∃ W : Nat → Nat → L2.St → Hp → Prop, (∃ m, W 0 m σ H) ∧ ∀ i m σ H, W i m σ H →
      (J.stop i H ∧ D.nx σ H) ∨ (J.go i H ∧ ∃ N : L2.St → Hp → Prop, (∀ σ' H', N σ' H' → ∃ m', m' < m ∧ W (i + 1) m' σ' H') ∧ ∀ x H', J.yld i H x H' → tG X.kx tg x σ H' fun σ2 H2 => tI X.kx co F I E w b { D with nx := N, ct := N, bk := D.nx } σ2 H2) := by
  obtain ⟨Y, wk, wy⟩ := wk
  refine for_it wk (fun j σ H => ∃ m1 A1 G1 ρ1, Same G G1 ∧ Rp X.kx m1 A1 G1 H ∧ RW X.kx m1 σ ρ1 G1 ∧ PsI X.kx co E m1 G1 H (forI (stepI F I w tg b) ρ1 A1 ((ds.drop j).map .dat)) (PostI X.kx D)) ⟨m, A, G, ρ, Same.refl G, R, Wr, by simpa using r⟩ (fun j σ H _ ⟨m1, A1, G1, ρ1, s, R1, _, _⟩ => s.trans R1.s) ?_ ?_
  · rintro j x σ3 H3 H4 hj ⟨m1, A1, G1, ρ1, s1, R1, W1, q⟩ y
    rw [List.drop_eq_getElem_cons hj, List.map_cons] at q
    unfold forI at q
    obtain ⟨G4, nx4, hv⟩ := wy j ds[j] G1 H3 H4 x (List.getElem?_eq_getElem hj) s1 R1.s y
    obtain ⟨R4, y4⟩ := R1.back nx4
    have q1 := (q.mono y4).bind
    unfold stepI at q1
    cases e1 : setI ρ1 tg (.dat ds[j]) with
    | none => rw [e1] at q1; exact q1.elim
    | some ρ5 =>
      rw [e1] at q1
      refine setI_go R4 (W1.ny y4) (.dat hv) e1 fun σ5 W5 => ⟨m1, A1, G4, ρ5, R4, W5, q1.imp fun o A6 m6 G6 H6 _ y6 R6 zz => ?_⟩
      cases o with
      | nx ρ' => exact fun σ' W' => ⟨m6, A6, G6, ρ', s1.trans (y4.g.trans y6.g), R6, W', zz⟩
      | ct ρ' => exact fun σ' W' => ⟨m6, A6, G6, ρ', s1.trans (y4.g.trans y6.g), R6, W', zz⟩
      | bk ρ' => exact zz.here R6
      | rt d => exact zz.here R6
  · rintro σ3 H3 ⟨m1, A1, G1, ρ1, s1, R1, W1, q⟩
    rw [List.drop_length] at q
    exact q.here R1 σ3 W1
/-- a walk over a cell -/
theorem walk_cell {D : Ends} {σ : L2.St} {n : Nat} {p : Addr} {m : List Addr} {A : Hv} {G H : Hp} {ρ : Ro} {tg : Sum Nat (List Nat)} {b : Si} (R : Rp X.kx m A G H) (Wr : RW X.kx m σ ρ G) (hn : m[n]? = some p) (r : PsI X.kx co E m G H (forCI (stepI F I w tg b) n w 0 ρ A) (PostI X.kx D)) :
    ∃ W : Nat → Nat → L2.St → Hp → Prop, (∃ m, W 0 m σ H) ∧ ∀ i m σ H, W i m σ H →
      ((Itl X.K p).stop i H ∧ D.nx σ H) ∨ ((Itl X.K p).go i H ∧ ∃ N : L2.St → Hp → Prop, (∀ σ' H', N σ' H' → ∃ m', m' < m ∧ W (i + 1) m' σ' H') ∧ ∀ x H', (Itl X.K p).yld i H x H' → tG X.kx tg x σ H' fun σ2 H2 => tI X.kx co F I E w b { D with nx := N, ct := N, bk := D.nx } σ2 H2) := by
  refine ⟨fun i k σ H => ∃ m1 A1 G1 ρ1, m1[n]? = some p ∧ Rp X.kx m1 A1 G1 H ∧ RW X.kx m1 σ ρ1 G1 ∧ PsI X.kx co E m1 G1 H (forCI (stepI F I w tg b) n k i ρ1 A1) (PostI X.kx D), ⟨w, m, A, G, ρ, hn, R, Wr, r⟩, ?_⟩
  rintro i k σ3 H3 ⟨m1, A1, G1, ρ1, hn1, R1, W1, q⟩
  cases k with
  | zero => exact q.elim
  | succ k =>
    unfold forCI at q
    split at q
    · rename_i ws e
      obtain ⟨p', ob, g1, g2, g3, g4⟩ := R1.cell n _ e
      rw [hn1] at g1
      cases g1
      cases g4 with
      | lst al =>
        rename_i vs
        have sq : SqL X.K H3 p vs := SqL.of g2
        split at q
        · rename_i d ed
          obtain ⟨v, ev, hv⟩ := al.get ed
          refine .inr ⟨⟨vs, v, sq, ev⟩, fun σ H => ∃ m1 A1 G1 ρ1, m1[n]? = some p ∧ Rp X.kx m1 A1 G1 H ∧ RW X.kx m1 σ ρ1 G1 ∧ PsI X.kx co E m1 G1 H (forCI (stepI F I w tg b) n k (i + 1) ρ1 A1) (PostI X.kx D), fun σ' H' q => ⟨k, Nat.lt_succ_self _, q⟩, fun x H' y => ?_⟩
          obtain ⟨rfl, y2⟩ := y
          have ex := y2 vs sq
          rw [ev] at ex
          cases ex
          have q1 := q.bind
          unfold stepI at q1
          cases e1 : setI ρ1 tg d with
          | none => rw [e1] at q1; exact q1.elim
          | some ρ5 =>
            rw [e1] at q1
            refine setI_go R1 W1 hv e1 fun σ5 W5 => ⟨m1, A1, G1, ρ5, R1, W5, q1.imp fun o A6 m6 G6 H6 _ y6 R6 zz => ?_⟩
            cases o with
            | nx ρ' => exact fun σ' W' => ⟨m6, A6, G6, ρ', pre_get y6.pre _ _ hn1, R6, W', zz⟩
            | ct ρ' => exact fun σ' W' => ⟨m6, A6, G6, ρ', pre_get y6.pre _ _ hn1, R6, W', zz⟩
            | bk ρ' => exact zz.here R6
            | rt d => exact zz.here R6
        · rename_i ed
          refine .inl ⟨⟨vs, sq, ?_⟩, q.here R1 σ3 W1⟩
          rw [al.len]
          exact List.getElem?_eq_none_iff.mp ed
    · exact q.elim
/-- what a walked thing is -/
def WalkW (K : Fg) (m : List Addr) (G : Hp) (J : It) (u : Im.W) : Prop := (∃ ds, (u = .dat (.list ds) ∨ u = .dat (.tuple ds)) ∧ WalkD K J ds G) ∨ ∃ n p, u = .ref n ∧ m[n]? = some p ∧ J = Itl K.K p
def tIx (K : Fg) (co : Co) (F : FP) (I : FW) (E : XK) (x : Ix) : L2.TI := fun σ H R => ∃ m A G ρ, Rp K m A G H ∧ RW K m σ ρ G ∧ PsI K co E m G H ((evX F I ρ A x).bind fun u A1 => if itW A1 u = true then .ok u A1 else .no) fun u A' m' G' H' => ∀ J, WalkW K m' G' J u → R J H'
theorem pi_X (S : SX X co F I E f) {tg e : Expr} {x : Ix} (h : f e = some x) : PI X tg e (tIx X.kx co F I E x) := by
  refine ⟨fun pins s σ H R Iv q => ?_⟩
  obtain ⟨m, A, G, ρ, P, W, q⟩ := q
  cases ev : evX F I ρ A x with
  | err e' A' =>
    rw [ev] at q
    refine (pi_list (S.e _ _ h)).run pins s σ H R Iv ⟨m, A, G, ρ, P, W, ?_⟩
    rw [ev]
    exact q
  | no => rw [ev] at q; exact q.elim
  | ok u A1 =>
    rw [ev] at q
    replace q : PsI X.kx co E m G H (if itW A1 u = true then Ri.ok u A1 else .no) _ := q
    by_cases c : itW A1 u = true
    · rw [if_pos c] at q
      cases u with
      | ref n =>
        refine (pi_list (S.e _ _ h)).run pins s σ H R Iv ⟨m, A, G, ρ, P, W, ?_⟩
        rw [ev]
        intro m1 G1 H1 y R1 v hv
        obtain ⟨n', p, vs, e1, rfl, e2, e3⟩ := isLs_is R1 hv c
        cases e1
        exact ⟨p, rfl, ⟨vs, SqL.of e3⟩, q m1 G1 H1 y R1 _ (.inr ⟨n, p, rfl, e2, rfl⟩)⟩
      | dat d =>
        cases d with
        | list ds =>
          refine (pi_list (S.e _ _ h)).run pins s σ H R Iv ⟨m, A, G, ρ, P, W, ?_⟩
          rw [ev]
          intro m1 G1 H1 y R1 v hv
          cases hv with
          | dat hv =>
            cases hv with
            | lst h1 a => exact ⟨_, rfl, ⟨_, (ls_same R1.s h1).sq⟩, q m1 G1 H1 y R1 _ (.inl ⟨ds, .inl rfl, walk_at walk_list (fun H2 s => (ls_same s h1).sq) a⟩)⟩
        | tuple ds =>
          refine (pi_tup (S.e _ _ h)).run pins s σ H R Iv ⟨m, A, G, ρ, P, W, ?_⟩
          rw [ev]
          intro m1 G1 H1 y R1 v hv
          cases hv with
          | dat hv =>
            cases hv with
            | tup h1 a => exact ⟨_, rfl, ⟨_, seqT_same R1.s h1⟩, q m1 G1 H1 y R1 _ (.inl ⟨ds, .inr rfl, walk_at walk_tup (fun H2 s => seqT_same s h1) a⟩)⟩
        | _ => cases c
    · rw [if_neg c] at q; exact q.elim
theorem s_forX (O : OkI X T TI F I co E) (S : SX X co F I E f) {tg it : Expr} {t : Sum Nat (List Nat)} {x : Ix} {body : List Stmt} {b : Si} {p : Pos} (ns : notSet it = true) (h1 : f it = some x) (h2 : cTg X.N X.env.scope.names tg = some t) (h3 : PSs X body (tI X.kx co F I E w b)) : PS X (.For tg it body [] p) (tI X.kx co F I E w (.forX t x b)) := by
  have folded : ∀ x, foldedSetIterable it X.env x = pure x := fun x => by
    cases it with
    | Set _ _ _ => cases ns
    | _ => rfl
  refine ps_imp (ps_for (O.o.po O.cool) (O.o.o.calm O.cool) (pi_X S h1) (tg_ok O.o.o.nd (O.o.o.calm O.cool) (sto_def O.o) h2) h3 folded) fun D σ H ⟨m, A, G, ρ, R, W, r⟩ => ?_
  simp only [evI] at r
  refine ⟨m, A, G, ρ, R, W, ?_⟩
  have r' : PsI X.kx co E m G H (((evX F I ρ A x).bind fun u A1 => if itW A1 u = true then Ri.ok u A1 else .no).bind fun u A1 => match u with
    | .dat (.list ds) => forI (stepI F I w t b) ρ A1 (ds.map .dat)
    | .dat (.tuple ds) => forI (stepI F I w t b) ρ A1 (ds.map .dat)
    | .ref n => forCI (stepI F I w t b) n w 0 ρ A1
    | _ => .no) (PostI X.kx D) := by
    revert r
    cases evX F I ρ A x with
    | ok u A1 =>
      simp only [Ri.bind_ok]
      by_cases c : itW A1 u = true
      · rw [if_pos c, if_pos c]; exact id
      · rw [if_neg c, if_neg c]; exact id
    | err _ _ => exact id
    | no => exact id
  refine r'.bind.imp fun u A1 m1 G1 H1 _ y R1 r1 J wk => ?_
  rcases wk with ⟨ds, rfl | rfl, wk⟩ | ⟨n, p, rfl, hn, rfl⟩
  · exact walk_told R1 (W.ny y) wk r1
  · exact walk_told R1 (W.ny y) wk r1
  · exact walk_cell R1 (W.ny y) hn r1
/-- zip, enumerate: over what is told -/
theorem s_for (O : OkI X T TI F I co E) {n : Nat} {tg it : Expr} {t : Sum Nat (List Nat)} {i : Ex} {vs : List Nat} {body : List Stmt} {b : Si} {p : Pos} (ns : notSet it = true) (h1 : cIter X.env.scope.names T (cE X.N T n X.env.scope) tg it = some i) (h2 : cTg X.N X.env.scope.names tg = some t) (h3 : PSs X body (tI X.kx co F I E w b)) : PS X (.For tg it body [] p) (tI X.kx co F I E w (.for_ t i vs b)) := by
  have folded : ∀ x, foldedSetIterable it X.env x = pure x := fun x => by
    cases it with
    | Set _ _ _ => cases ns
    | _ => rfl
  refine ps_imp (ps_for (O.o.po O.cool) (O.o.o.calm O.cool) (iter_ok O.o.o (snd n O.o.o) h1) (tg_ok O.o.o.nd (O.o.o.calm O.cool) (sto_def O.o) h2) h3 folded) fun D σ H ⟨m, A, G, ρ, R, W, r⟩ => ?_
  simp only [evI] at r
  by_cases c : allD ρ vs = true
  · rw [if_pos c] at r
    refine ⟨_, _, W.viewN R.s, ?_⟩
    cases ev : (evE F (vwN ρ) i).bind fun y => listR y .ok with
    | ok ds =>
      rw [ev] at r
      intro J G' H' nx wk
      obtain ⟨R1, y⟩ := R.back nx
      exact walk_told R1 (W.ny y) wk (PsI.mono (r := forI (stepI F I w t b) ρ A (ds.map .dat)) r y)
    | err e => rw [ev] at r; exact r m G H Ny.refl R
    | no => rw [ev] at r; exact r.elim
  · rw [if_neg c] at r; exact r.elim
/-- a range -/
theorem s_forR2 (O : OkI X T TI F I co E) (S : SX X co F I E f) {tg a c : Expr} {t : Sum Nat (List Nat)} {a' c' : Ix} {body : List Stmt} {b : Si} {p p1 p2 : Pos} (g : glB X.env.scope.names "range" = true) (h1 : f a = some a') (h1' : f c = some c') (h2 : cTg X.N X.env.scope.names tg = some t) (h3 : PSs X body (tI X.kx co F I E w b)) : PS X (.For tg (.Call (.Name "range" p1) [a, c] [] p2) body [] p) (tI X.kx co F I E w (.forR t a' c' b)) := by
  have st1 := S.star _ _ h1
  have st2 := S.star _ _ h1'
  have pa : PA X [a, c] (tCons (tX X.kx co F I (fun _ => E) a') (tCons (tX X.kx co F I (fun _ => E) c') tNil)) := pa_cons (S.e _ _ h1) (pa_cons (S.e _ _ h1') pa_nil (star_of st2)) (star_of st1)
  refine ps_imp (ps_for (O.o.po O.cool) (O.o.o.calm O.cool) (pi_range2 (gl_of g) (O.o.o.blt _ (by decide +kernel)) pa (by rw [star_of st1, star_of st2]; rfl) (by rw [star_of st2]; rfl)) (tg_ok O.o.o.nd (O.o.o.calm O.cool) (sto_def O.o) h2) h3 (fun _ => rfl)) fun D σ H ⟨m, A, G, ρ, R, W, r⟩ => ?_
  simp only [evI] at r
  refine ⟨m, A, G, ρ, R, W, r.bind.imp fun u A1 m1 G1 H1 ev1 y R1 r1 v hv => ⟨m1, A1, G1, ρ, R1, W.ny y, r1.bind.imp fun u2 A2 m2 G2 H2 ev2 y2 R2 r2 v2 hv2 => ?_⟩⟩
  clear ev1 ev2
  unfold rngW at r2
  split at r2
  · rename_i i j
    by_cases c : near i = true ∧ near j = true
    · rw [if_pos c] at r2
      cases hv with
      | dat hv =>
        cases hv
        cases hv2 with
        | dat hv2 =>
          cases hv2
          have n1 := near_of c.1
          have n2 := near_of c.2
          exact ⟨i, j, rfl, ⟨n1.1, n1.2, n2.1, n2.2⟩, walk_told R2 ((W.ny y).ny y2) (walk_rng i j) r2⟩
    · rw [if_neg c] at r2; exact r2.elim
  · exact r2.elim
theorem s_forR1 (O : OkI X T TI F I co E) (S : SX X co F I E f) {tg c : Expr} {t : Sum Nat (List Nat)} {c' : Ix} {body : List Stmt} {b : Si} {p p1 p2 : Pos} (g : glB X.env.scope.names "range" = true) (h1' : f c = some c') (h2 : cTg X.N X.env.scope.names tg = some t) (h3 : PSs X body (tI X.kx co F I E w b)) : PS X (.For tg (.Call (.Name "range" p1) [c] [] p2) body [] p) (tI X.kx co F I E w (.forR t (.pu (.cst (.int 0)) []) c' b)) := by
  have st2 := S.star _ _ h1'
  have pa : PA X [c] (tCons (tX X.kx co F I (fun _ => E) c') tNil) := pa_cons (S.e _ _ h1') pa_nil (star_of st2)
  refine ps_imp (ps_for (O.o.po O.cool) (O.o.o.calm O.cool) (pi_range1 (gl_of g) (O.o.o.blt _ (by decide +kernel)) pa (by rw [star_of st2]; rfl)) (tg_ok O.o.o.nd (O.o.o.calm O.cool) (sto_def O.o) h2) h3 (fun _ => rfl)) fun D σ H ⟨m, A, G, ρ, R, W, r⟩ => ?_
  simp only [evI] at r
  have r' : PsI X.kx co E m G H ((evX F I ρ A c').bind fun v A2 => (rngW (.dat (.int 0)) v).bindW fun ds => forI (stepI F I w t b) ρ A2 ds) (PostI X.kx D) := by
    have e0 : evX F I ρ A (.pu (.cst (.int 0)) []) = .ok (.dat (.int 0)) A := by
      simp only [evX]
      unfold puW
      rw [if_pos (by rfl)]
      simp only [evE]
      rfl
    rw [e0] at r
    exact r
  refine ⟨m, A, G, ρ, R, W, r'.bind.imp fun u2 A2 m2 G2 H2 ev2 y2 R2 r2 v2 hv2 => ?_⟩
  clear ev2
  unfold rngW at r2
  split at r2
  · rename_i i j e1
    cases e1
    by_cases c : near 0 = true ∧ near j = true
    · rw [if_pos c] at r2
      cases hv2 with
      | dat hv2 =>
        cases hv2
        have n2 := near_of c.2
        have w := walk_rng (K := X.kx) (G := G2) 0 j
        rw [show j - 0 = j by omega] at w
        exact ⟨j, rfl, n2.1, n2.2, walk_told R2 (W.ny y2) w r2⟩
    · rw [if_neg c] at r2; exact r2.elim
  · exact r2.elim
end
end Im

set_option Elab.async false
set_option linter.all false
set_option maxRecDepth 100000
set_option maxHeartbeats 8000000
/-! Im9: statements that change things, read off a text. -/
namespace Im
open PySem PySem.Spec PyProof.Rows L2 Pe
/-- a display is no reading of its own here -/
def notDis : Expr → Bool
  | .List _ _ => false
  | _ => true
def cAssign (N : List Str) (n : Nat) (sc : Scope) (ap : List Nat) (T : Tbl) (TI : TblI) (tg e : Expr) : Option Si := match tg with
  | .Name y _ => if locB sc.names y = true then (match ixOf y N 0 with
    | some i => (match cE N T n sc e with
      | some x => if freshOk e x = true ∧ notDis e = true ∧ (isNewE e = true ∨ ap.contains i = true) then some (.set i (.nu x (vars x)))
        else if notComp e = false then some (.set i (.pu x (vars x)))
        else (cX N T TI n sc e).map (.set i)
      | none => if notComp e = true then (cX N T TI n sc e).map (.set i) else none)
    | none => none) else none
  | .Tuple es _ _ => if notTup e = true then (match cTgs N sc.names es, cX N T TI n sc e with
    | some is, some x => some (.unp is x)
    | _, _ => none) else none
  | .Subscript o ix _ => if notSlice ix = true ∧ notComp e = true then (match cX N T TI n sc o, cX N T TI n sc ix, cX N T TI n sc e with
    | some o', some i', some x => some (.sto o' i' x)
    | _, _, _ => none) else none
  | .Attribute o m _ => if notComp e = true then (match cX N T TI n sc o, cX N T TI n sc e with
    | some o', some x => some (.stoA o' m (clsW TI m) x)
    | _, _ => none) else none
  | _ => none
def cExprI (N : List Str) (n : Nat) (sc : Scope) (T : Tbl) (TI : TblI) (e : Expr) : Option Si := match e with
  | .Constant (.str _) _ _ => some .pass
  | e => if notComp e = true then (cX N T TI n sc e).map .dro else none
def cForI (N : List Str) (n : Nat) (sc : Scope) (T : Tbl) (TI : TblI) (t : Sum Nat (List Nat)) (b : Si) (tg it : Expr) : Option Si :=
  if notSet it = true then (match it with
    | .Call (.Name x _) [c] [] _ => if x = "range" ∧ glB sc.names "range" = true then (cX N T TI n sc c).map fun c' => .forR t (.pu (.cst (.int 0)) []) c' b
      else if x = "enumerate" then (cIter sc.names T (cE N T n sc) tg it).map fun i => .for_ t i (vars i) b
      else (cX N T TI n sc it).map fun x => .forX t x b
    | .Call (.Name x _) [a, c] [] _ => if x = "range" ∧ glB sc.names "range" = true then (match cX N T TI n sc a, cX N T TI n sc c with
        | some a', some c' => some (.forR t a' c' b)
        | _, _ => none)
      else if x = "zip" then (cIter sc.names T (cE N T n sc) tg it).map fun i => .for_ t i (vars i) b
      else (cX N T TI n sc it).map fun x => .forX t x b
    | it => (cX N T TI n sc it).map fun x => .forX t x b) else none
def cSI (N : List Str) (n : Nat) (sc : Scope) (ap : List Nat) (T : Tbl) (TI : TblI) : Nat → Stmt → Option Si
  | 0, _ => none
  | k + 1, st => match st with
    | .Assign [tg] e _ => cAssign N n sc ap T TI tg e
    | .AugAssign (.Name y _) op e _ => if locB sc.names y = true then (match ixOf y N 0, cX N T TI n sc e with
      | some i, some x => some (.aug i op x)
      | _, _ => none) else none
    | .Expr e _ => cExprI N n sc T TI e
    | .Return (some e) _ => (cX N T TI n sc e).map .ret
    | .Return none _ => some .retN
    | .If c a b _ => (match cTt (fun e => (inOf sc.names T e).isSome) (cX N T TI n sc) (cE N T n sc) n c, cBI (cSI N n sc ap T TI k) a, cBI (cSI N n sc ap T TI k) b with
      | some c', some a', some b' => some (.ife c' a' b')
      | _, _, _ => none)
    | .For tg it body [] _ => (match cTg N sc.names tg, cBI (cSI N n sc ap T TI k) body with
      | some t, some b => cForI N n sc T TI t b tg it
      | _, _ => none)
    | .While c body [] _ => (match cTt (fun e => (inOf sc.names T e).isSome) (cX N T TI n sc) (cE N T n sc) n c, cBI (cSI N n sc ap T TI k) body with
      | some c', some b' => some (.whl c' b')
      | _, _ => none)
    | .Pass _ => some .pass
    | .Break _ => some .brk
    | .Continue _ => some .cnt
    | .Raise _ _ _ => some .never
    | _ => none
section
variable {X : Cx} {T : Tbl} {TI : TblI} {F : FP} {I : FW} {co : Co} {E : XK} {w : Nat}
theorem asgI_ok (O : OkI X T TI F I co E) {n : Nat} {ap : List Nat} {tg e : Expr} {p : Pos} {S : Si} (h : cAssign X.N n X.env.scope ap T TI tg e = some S) : PS X (.Assign [tg] e p) (tI X.kx co F I E w S) := by
  have SX := sndX O n
  unfold cAssign at h
  split at h
  · rename_i y q
    by_cases g : locB X.env.scope.names y = true
    · rw [if_pos g] at h
      split at h
      · rename_i i hi
        split at h
        · rename_i x hx
          by_cases c : freshOk e x = true ∧ notDis e = true ∧ (isNewE e = true ∨ ap.contains i = true)
          · rw [if_pos c] at h
            cases h
            exact s_setN O g hi c.1 hx
          · rw [if_neg c] at h
            by_cases c2 : notComp e = false
            · rw [if_pos c2] at h
              cases h
              exact s_setP O g hi hx
            · rw [if_neg c2] at h
              cases e1 : cX X.N T TI n X.env.scope e with
              | none => rw [e1] at h; cases h
              | some z =>
                rw [e1] at h
                cases h
                exact s_setX O SX g hi (by cases q : notComp e with | true => rfl | false => exact absurd q c2) e1
        · by_cases c2 : notComp e = true
          · rw [if_pos c2] at h
            cases e1 : cX X.N T TI n X.env.scope e with
            | none => rw [e1] at h; cases h
            | some z => rw [e1] at h; cases h; exact s_setX O SX g hi c2 e1
          · rw [if_neg c2] at h; cases h
      · cases h
    · rw [if_neg g] at h; cases h
  · rename_i es j q
    by_cases c : notTup e = true
    · rw [if_pos c] at h
      split at h
      · rename_i h1 h2; cases h; exact s_unp O SX c h1 h2
      · cases h
    · rw [if_neg c] at h; cases h
  · rename_i o ix q
    by_cases c : notSlice ix = true ∧ notComp e = true
    · rw [if_pos c] at h
      split at h
      · rename_i h1 h2 h3; cases h; exact s_sto O SX c.1 c.2 h1 h2 h3
      · cases h
    · rw [if_neg c] at h; cases h
  · rename_i o m q
    by_cases c : notComp e = true
    · rw [if_pos c] at h
      split at h
      · rename_i h1 h2; cases h; exact s_stoA O SX c h1 h2
      · cases h
    · rw [if_neg c] at h; cases h
  · cases h
theorem forI_ok (O : OkI X T TI F I co E) {n : Nat} {tg it : Expr} {t : Sum Nat (List Nat)} {body : List Stmt} {b S : Si} {p : Pos} (h2 : cTg X.N X.env.scope.names tg = some t) (h3 : PSs X body (tI X.kx co F I E w b)) (h : cForI X.N n X.env.scope T TI t b tg it = some S) : PS X (.For tg it body [] p) (tI X.kx co F I E w S) := by
  have SX := sndX O n
  unfold cForI at h
  by_cases ns : notSet it = true
  · rw [if_pos ns] at h
    split at h
    · rename_i x p1 c p2
      by_cases g : x = "range" ∧ glB X.env.scope.names "range" = true
      · rw [if_pos g] at h
        obtain ⟨rfl, g⟩ := g
        cases e1 : cX X.N T TI n X.env.scope c with
        | none => rw [e1] at h; cases h
        | some c' => rw [e1] at h; cases h; exact s_forR1 O SX g e1 h2 h3
      · rw [if_neg g] at h
        by_cases g2 : x = "enumerate"
        · rw [if_pos g2] at h
          cases e1 : cIter X.env.scope.names T (cE X.N T n X.env.scope) tg (.Call (.Name x p1) [c] [] p2) with
          | none => rw [e1] at h; cases h
          | some i => rw [e1] at h; cases h; exact s_for O ns e1 h2 h3
        · rw [if_neg g2] at h
          cases e1 : cX X.N T TI n X.env.scope (.Call (.Name x p1) [c] [] p2) with
          | none => rw [e1] at h; cases h
          | some i => rw [e1] at h; cases h; exact s_forX O SX ns e1 h2 h3
    · rename_i x p1 a c p2
      by_cases g : x = "range" ∧ glB X.env.scope.names "range" = true
      · rw [if_pos g] at h
        obtain ⟨rfl, g⟩ := g
        split at h
        · rename_i e1 e2; cases h; exact s_forR2 O SX g e1 e2 h2 h3
        · cases h
      · rw [if_neg g] at h
        by_cases g2 : x = "zip"
        · rw [if_pos g2] at h
          cases e1 : cIter X.env.scope.names T (cE X.N T n X.env.scope) tg (.Call (.Name x p1) [a, c] [] p2) with
          | none => rw [e1] at h; cases h
          | some i => rw [e1] at h; cases h; exact s_for O ns e1 h2 h3
        · rw [if_neg g2] at h
          cases e1 : cX X.N T TI n X.env.scope (.Call (.Name x p1) [a, c] [] p2) with
          | none => rw [e1] at h; cases h
          | some i => rw [e1] at h; cases h; exact s_forX O SX ns e1 h2 h3
    · cases e1 : cX X.N T TI n X.env.scope it with
      | none => rw [e1] at h; cases h
      | some i => rw [e1] at h; cases h; exact s_forX O SX ns e1 h2 h3
  · rw [if_neg ns] at h; cases h
theorem sndSI (O : OkI X T TI F I co E) {n : Nat} {ap : List Nat} : ∀ (k : Nat) (st : Stmt) (S : Si), cSI X.N n X.env.scope ap T TI k st = some S → PS X st (tI X.kx co F I E w S)
  | 0, _, _, h => by cases h
  | k + 1, st, S, h => by
    have ih := sndSI O (n := n) (ap := ap) k
    have SX := sndX O n
    have P := (snd n O.o.o).t
    unfold cSI at h
    split at h
    · exact asgI_ok O h
    · rename_i y q op e p
      by_cases g : locB X.env.scope.names y = true
      · rw [if_pos g] at h
        split at h
        · rename_i h1 h2; cases h; exact s_aug O SX g h1 h2
        · cases h
      · rw [if_neg g] at h; cases h
    · rename_i e p
      unfold cExprI at h
      split at h
      · cases h; exact s_doc
      · by_cases c : notComp e = true
        · rw [if_pos c] at h
          cases e1 : cX X.N T TI n X.env.scope e with
          | none => rw [e1] at h; cases h
          | some z => rw [e1] at h; cases h; exact s_dro SX c e1
        · rw [if_neg c] at h; cases h
    · rename_i e p
      cases e1 : cX X.N T TI n X.env.scope e with
      | none => rw [e1] at h; cases h
      | some z => rw [e1] at h; cases h; exact s_ret SX e1
    · cases h; exact s_retN
    · rename_i c a b p
      split at h
      · rename_i h1 h2 h3; cases h; exact s_if (t_ok O.o.o.hu SX P _ _ _ h1) (s_block ih h2) (s_block ih h3)
      · cases h
    · rename_i tg it body p
      split at h
      · rename_i h1 h2; exact forI_ok O h1 (s_block ih h2) h
      · cases h
    · rename_i c body p
      split at h
      · rename_i h1 h2; cases h; exact s_whl O (t_ok O.o.o.hu SX P _ _ _ h1) (s_block ih h2)
      · cases h
    · cases h; exact s_pass
    · cases h; exact s_brk
    · cases h; exact s_cnt
    · cases h; exact s_never
    · cases h
end
end Im

set_option Elab.async false
set_option linter.all false
set_option maxRecDepth 100000
set_option maxHeartbeats 8000000
/-! Im10: defs that change what they are given; a whole table of them; the law's call. -/
namespace Im
open PySem PySem.Spec PyProof.Rows L2 Pe
structure DefJ where
  st : Stmt
  N : List Str
  ps : List Str
  body : Si
  wh : Wh := .top
def DefJ.np (d : DefJ) : Nat := d.ps.length
abbrev TabJ := List (Str × DefJ)
def evDI (F : FP) (I : FW) (w n : Nat) (b : Si) (ws : List W) (A : Hv) : Ri W := (evI F I w (ws.map some ++ List.replicate (n - ws.length) none) A b).bind fun o A' => match o with
  | .rt u => .ok u A'
  | .nx _ => .ok (.dat .none) A'
  | _ => .no
def runI (P : Tab) (PJ : TabJ) (w : Nat) : Nat → FW
  | 0, _, _, _ => .no
  | k + 1, g, ws, A => match PJ.lookup g with
    | some d => evDI (run P w k) (runI P PJ w k) w d.N.length d.body ws A
    | none => .no
structure DefJOk (K : PySem.W.Frag) (mg : Str → Option Value) (T : Tbl) (TI : TblI) (x : Str) (d : DefJ) : Prop where
  ex : ∃ (f : Addr) (fd : FuncData), Fun K (d.wh.nm x) (d.wh.qual x) d.st f fd ∧ DefAt K mg x d.wh f ∧ Binds K fd d.ps []
  cb : d.body = .never ∨ (FnScope d.N d.ps (defScope d.st) ∧ ∃ n ap k, cBI (cSI d.N n (defScope d.st) ap T TI k) (defBody d.st) = some d.body)
structure TopI (K : PySem.W.Frag) (Pr : Program) (w : World) (mg : Str → Option Value) (co : Co) (T : Tbl) (TI : TblI) (P : Tab) (PJ : TabJ) : Prop where
  o : TopOk K Pr w mg co T P
  fns : ∀ x n, TI.ifns.lookup x = some n → ∃ d, PJ.lookup x = some d ∧ d.np = n ∧ d.wh = .top
  defs : ∀ x d, PJ.lookup x = some d → DefJOk K mg T TI x d
  cls : ∀ c ic, (c, ic) ∈ TI.icls → ∃ C, cnOf K c = some C ∧ Cls K C ∧ (∀ f ∈ ic.flds, NoAttr K C f) ∧ (∀ m g n, ic.ms.lookup m = some (g, n) → ∃ d q, PJ.lookup g = some d ∧ d.np = n ∧ d.wh = .meth c m q) ∧ ∀ g n, ic.ini = some (g, n) → ∃ d q, PJ.lookup g = some d ∧ d.np = n ∧ d.wh = .init c q
theorem start_RW {K : Fg} {m : List Addr} {G : Hp} {vs : List V} {ws : List Im.W} {N : List Str} (a : Al (WR K m G) vs ws) : RW K m (L2.start N vs) (ws.map some ++ List.replicate (N.length - ws.length) none) G := by
  have hl := a.len
  refine ⟨?_, fun i w e => ?_⟩
  · unfold L2.start
    simp only [List.length_append, List.length_map, List.length_replicate]
    omega
  · unfold L2.start
    by_cases hi : i < (ws.map some).length
    · rw [List.getElem?_append_left hi, List.getElem?_map] at e
      cases q : ws[i]? with
      | none => rw [q] at e; cases e
      | some u =>
        rw [q] at e
        cases e
        obtain ⟨v, h1, h2⟩ := a.get q
        refine ⟨v, ?_, h2⟩
        rw [List.getElem?_append_left (by rw [List.length_map] at hi ⊢; omega), List.getElem?_map, h1]
        rfl
    · rw [List.getElem?_append_right (by omega), List.getElem?_replicate] at e
      split at e <;> cases e
section
variable {Pr : Program} {wo : World} {Kf : PySem.W.Frag} {mg : Str → Option Value} {base : Heap} {T : Tbl} {TI : TblI} {P : Tab} {PJ : TabJ} {co : Co} {w : Nat}
/-- ALL DEFS that change things -/
theorem all_defsI (O : TopI Kf Pr wo mg co T TI P PJ) (small : ∀ {k : Nat} {A : Around}, Room k A → A.units + 65 < cLine) : ∀ (k : Nat) (x : Str) (d : DefJ), PJ.lookup x = some d →
    ∃ (f : Addr) (fd : FuncData), Fun Kf (d.wh.nm x) (d.wh.qual x) d.st f fd ∧ FnG Pr wo ⟨Kf, Pr, wo⟩ mg base (2 * k + 2) f fd d.ps (spW ⟨Kf, Pr, wo⟩ co d.np (runI P PJ w k x)) ∧ DefAt Kf mg x d.wh f ∧ PySem.W.keepIn Kf (.ref f) = true ∧ Binds Kf fd d.ps [] := by
  intro k
  induction k with
  | zero =>
    intro x d h
    obtain ⟨f, fd, F1, m, b⟩ := (O.defs x d h).ex
    refine ⟨f, fd, F1, ⟨?_, ?_⟩, m, F1.kp, b⟩
    · rintro vs H Q E ⟨m, A, G, ws, R, a, hl, z⟩
      exact z.elim
    · rintro A outer s H args us vs Q E _ _ _ _ _ ⟨m, A, G, ws, R, a, hl, z⟩
      exact z.elim
  | succ k ih =>
    intro x d h
    have dok := O.defs x d h
    obtain ⟨f, fd, F1, m, b⟩ := dok.ex
    have hr : ∀ ws A, runI P PJ w (k + 1) x ws A = evDI (run P w k) (runI P PJ w k) w d.N.length d.body ws A := fun ws A => by
      show (match PJ.lookup x with
        | some d => evDI (run P w k) (runI P PJ w k) w d.N.length d.body ws A
        | none => .no) = _
      rw [h]
    rcases dok.cb with nv | ⟨dsc, n, ap, j, hcb⟩
    · have no : ∀ ws A, runI P PJ w (k + 1) x ws A = .no := fun ws A => by
        rw [hr, nv]
        unfold evDI
        simp only [evI]
        rfl
      refine ⟨f, fd, F1, ⟨?_, ?_⟩, m, F1.kp, b⟩
      · rintro vs H Q E ⟨m, A, G, ws, R, a, hl, z⟩
        rw [no] at z
        exact z.elim
      · rintro A outer s H args us vs Q E _ _ _ _ _ ⟨m, A, G, ws, R, a, hl, z⟩
        rw [no] at z
        exact z.elim
    refine ⟨f, fd, F1, fn_G (k := 2 * k + 3) F1 dsc ?_ ?_, m, F1.kp, b⟩
    · rintro vs H Q E ⟨m, A, G, ws, R, a, hl, z⟩
      rw [a.len, hl]
      rfl
    · rintro cdv Ar outer s H vs Q E room gd ⟨mm, A, G, ws, R, a, hl, z⟩
      generalize hX : cxOf (L2.CX Pr wo) Pr wo Kf mg base d.N (d.wh.qual x) (defScope d.st) f cdv Ar outer s H E = X
      have hN : X.N = d.N := by rw [← hX]; rfl
      have hsc : X.env.scope = defScope d.st := by rw [← hX]; rfl
      have hK : X.kx = ⟨Kf, Pr, wo⟩ := by rw [← hX]; rfl
      have okI : OkI X T TI (run P w k) (runI P PJ w k) co E := by
        subst hX
        have all := all_defs (Pr := Pr) (wo := wo) (base := base) (w := w) O.o small k
        have room2 := room.mono (show k + 2 ≤ 2 * k + 3 by omega)
        refine ⟨⟨⟨dsc.nd, fun _ => rfl, gd, small room, O.o.blt, fun _ g m' hg => ?_, O.o.gl, O.o.dct, O.o.ftb, fun _ σ => ?_, fun _ => O.o.xv, fun e x' hx' => ?_, fun _ c oc hc => ?_⟩, fun _ => passes_of rfl, fun _ => rfl, fun _ => rfl, rfl, rfl, fun _ => takes_of rfl rfl rfl rfl, fun _ c inf hc => ?_, O.o.cls⟩, O.o.hot, fun g m' hg => ?_, fun c ic hc => ?_⟩
        · obtain ⟨d', h1, h2, h3⟩ := O.o.fns g m' hg
          obtain ⟨f', fd', _, F', m'', kp', b'⟩ := all g d' h1
          subst h2
          rw [h3] at m''
          exact ⟨⟨f', fd', d'.ps, k + 2, F'.2, room2, m'', kp', b'⟩, ⟨f', fd', d'.ps, k + 2, F'.1, room2, m'', kp', b'⟩⟩
        · exact fun pins H' s' e s'' I c => passes_call (W := fun cls d σ H => E cls d H) (takes_of rfl rfl rfl rfl) (fun _ _ _ _ z => z) pins σ H' s' e s'' I c
        · rw [xq_cool O.o.xv] at hx'
          cases hx'
        · obtain ⟨C, c1, c2, c3, c4⟩ := O.o.ocl c oc hc
          refine ⟨C, c1, c2, c3, fun m g n hm hg => ?_⟩
          obtain ⟨d', q', h1, h2, h3⟩ := c4 m g n hm hg
          obtain ⟨f', fd', _, F', m'', kp', b'⟩ := all g d' h1
          subst h2
          rw [h3] at m''
          obtain ⟨C', e1, e2⟩ := m''
          rw [c1] at e1
          cases e1
          exact ⟨f', fd', d'.ps, k + 2, F'.1, room2, e2, b'⟩
        · obtain ⟨C, fI, fd', st', q', g0, gs, e0, e1, e2, e3, e4, e5, e6, e7, e8, e9, e10, e11, e12⟩ := (O.o.ers c inf hc).ex
          obtain ⟨cn, _, hec⟩ := O.o.cls
          have nf := (hec _ _ _ _ e2).nf
          refine ⟨C, fI, fd', _, k + 1, e1, e2, e3, e4, e5, ?_, by rw [e0, List.length_cons]; omega, room2, e12⟩
          rw [e0]
          rw [e0] at nf
          exact init_fn e6 e7 e3 e8 e9 nf e10 e11
        · obtain ⟨d', h1, h2, h3⟩ := O.fns g m' hg
          obtain ⟨f', fd', _, F', m'', kp', b'⟩ := ih g d' h1
          subst h2
          rw [h3] at m''
          exact ⟨f', fd', d'.ps, 2 * k + 2, F', room.mono (by omega), m'', kp', b'⟩
        · obtain ⟨C, c1, c2, c3, c4, c5⟩ := O.cls c ic hc
          refine ⟨C, c1, c2, c3, fun m g n hm => ?_, fun g n hi => ?_⟩
          · obtain ⟨d', q', h1, h2, h3⟩ := c4 m g n hm
            obtain ⟨f', fd', _, F', m'', kp', b'⟩ := ih g d' h1
            subst h2
            rw [h3] at m''
            obtain ⟨C', e1, e2⟩ := m''
            rw [c1] at e1
            cases e1
            exact ⟨f', fd', d'.ps, 2 * k + 2, F', room.mono (by omega), e2, b'⟩
          · obtain ⟨d', q', h1, h2, h3⟩ := c5 g n hi
            obtain ⟨f', fd', _, F', m'', kp', b'⟩ := ih g d' h1
            subst h2
            rw [h3] at m''
            obtain ⟨C', e1, e2, e3⟩ := m''
            rw [c1] at e1
            cases e1
            exact ⟨f', fd', d'.ps, 2 * k + 2, F', room, e3, e2, b'⟩
      have snd := s_block (w := w) (sndSI okI (n := n) (ap := ap) j) (ss := defBody d.st) (S := d.body) (by rw [hN, hsc]; exact hcb)
      refine ⟨_, snd, mm, A, G, _, by rw [hK]; exact R, by rw [hK]; exact start_RW a, ?_⟩
      rw [hK]
      rw [hr] at z
      unfold evDI at z
      refine z.bind.imp fun o A1 m1 G1 H1 _ y R1 z1 => ?_
      cases o with
      | nx ρ => exact fun σ' _ => z1.here R1 .non (.dat .non)
      | rt u => exact z1.here R1
      | bk ρ => exact z1.elim
      | ct ρ => exact z1.elim
end
/-- THE LAW, by its tables of defs -/
theorem walk_I {l : PySem.W.OpenLaw} {n k w : Nat} {q : Program} {loose : List Str} {XP : (Str → Option Value) → Heap → Prop} {YP : World → Heap → Prop} {d : DefRec} {K : Params → PySem.W.Frag} {x : Str} {T : Tbl} {TI : TblI} {P : Tab} {PJ : TabJ} {di : DefJ}
    (hn : l.most = some n) (hn2 : n ≤ sizeLine) (hdf : d.params.defaults = []) (room : Room (2 * k + 2) callerA) (hY : ∀ (w : World) (h : Heap), YP w h → (K w.params).In h)
    (hd : PJ.lookup d.name = some di) (hp : di.ps = [x]) (hw : di.wh = .top)
    (top : ∀ (wo : World) (mg : Str → Option Value) (h : Heap), (K wo.params).In h → h.Ns mainGlobals mg → TopI (K wo.params) l.prog wo mg (coOf (K wo.params) T) T TI P PJ)
    (bind : ∀ (K : PySem.W.Frag) (fa : Addr) (fd : FuncData), Fun K d.name d.name di.st fa fd → ∀ (s : Shared) (u : Value), BindsTo s fd ⟨[u], []⟩ [(x, u)])
    (holds : ∀ ns : List Int, ns.length ≤ n → ∃ A, runI P PJ w k d.name [.dat (.list (ns.map .int))] [] = .ok (.dat (.bool true)) A) :
    PySem.W.WalkO q loose XP YP l.row.toRowW d [] (fun f vs => PySem.call f vs) := by
  refine Att.attach_call hn hdf fun wo s₀ s₁ mg mb fa o pm cd doc a vs ns G Y ho hd' hcd hmg hobj hints hlen hg => ?_
  have kin := hY wo _ Y
  have tp := top wo mg _ kin G.T.g
  refine law_G (x := x) (sp := spW ⟨K wo.params, l.prog, wo⟩ (coOf (K wo.params) T) 1 (runI P PJ w k d.name)) kin G.T.g G.T.b G.T.builtins G.T.nolimit hg hobj hints (Nat.le_trans hlen hn2) room (fun base _ _ => ?_) fun H hS => ?_
  · obtain ⟨f, fd, F1, F2, m, kp, b⟩ := all_defsI (Pr := l.prog) (wo := wo) (base := base) (w := w) tp (fun r => by have := r.un; omega) k d.name di hd
    rw [hw] at m F1
    replace m : mg d.name = some (.ref f) := m
    rw [hmg] at m
    cases m
    have e : di.np = 1 := by show di.ps.length = 1; rw [hp]; rfl
    rw [hp, e] at F2
    exact ⟨fd, F2, bind _ _ _ F1⟩
  · refine ⟨[], [], H, [.dat (.list (ns.map .int))], ⟨Same.refl H, rfl, List.nodup_nil, fun n c e => by cases e⟩, .cons (.dat (.lst hS (ints_dq ns))) .nil, rfl, ?_⟩
    obtain ⟨A, e⟩ := holds ns hlen
    rw [e]
    intro m' G' H' _ _ v hv
    cases hv with
    | dat hv => cases hv; rfl
end Im

set_option Elab.async false
set_option linter.all false
set_option maxRecDepth 100000
set_option maxHeartbeats 4000000
/-! DL: reckoning with data. -/
namespace Pe
open PySem L2
/-! ### data of bounded size -/
mutual
def lv : D → Bool
  | .none => true
  | .bool _ => true
  | .int i => decide (i.natAbs < 10 ^ 31)
  | .str x => x.cps.toList.all fun c => decide (c < 55296)
  | .list xs => lvAll xs
  | .tuple xs => lvAll xs
  | .dict _ => false
def lvAll : List D → Bool
  | [] => true
  | x :: xs => lv x && lvAll xs
end
structure W (k b : Nat) (d : D) : Prop where
  l : lv d = true
  dp : PyData.depth d ≤ k
  bk : PyData.bulk d ≤ b
structure WL (k b : Nat) (ds : List D) : Prop where
  l : lvAll ds = true
  dp : PyData.depthAll ds ≤ k
  bk : PyData.bulkAll ds ≤ b
theorem W.mono {k b k' b' : Nat} {d : D} (h : W k b d) (hk : k ≤ k') (hb : b ≤ b') : W k' b' d := ⟨h.l, Nat.le_trans h.dp hk, Nat.le_trans h.bk hb⟩
theorem WL.mono {k b k' b' : Nat} {d : List D} (h : WL k b d) (hk : k ≤ k') (hb : b ≤ b') : WL k' b' d := ⟨h.l, Nat.le_trans h.dp hk, Nat.le_trans h.bk hb⟩
theorem WL.nil {k b : Nat} : WL k b [] := ⟨rfl, Nat.zero_le _, Nat.zero_le _⟩
theorem WL.cons {k b c : Nat} {d : D} {ds : List D} (h : W k b d) (t : WL k c ds) : WL k (b + 1 + c) (d :: ds) := by
  refine ⟨?_, ?_, ?_⟩
  · show (lv d && lvAll ds) = true
    rw [h.l, t.l]; rfl
  · show max d.depth (PyData.depthAll ds) ≤ k
    have := h.dp; have := t.dp
    omega
  · show d.bulk + 1 + PyData.bulkAll ds ≤ _
    have := h.bk; have := t.bk
    omega
theorem WL.head {k b : Nat} {d : D} {ds : List D} (h : WL k b (d :: ds)) : W k b d := by
  have l : (lv d && lvAll ds) = true := h.l
  have d' : max d.depth (PyData.depthAll ds) ≤ k := h.dp
  have b' : d.bulk + 1 + PyData.bulkAll ds ≤ b := h.bk
  rw [Bool.and_eq_true] at l
  exact ⟨l.1, by omega, by omega⟩
theorem WL.tail {k b : Nat} {d : D} {ds : List D} (h : WL k b (d :: ds)) : WL k b ds := by
  have l : (lv d && lvAll ds) = true := h.l
  have d' : max d.depth (PyData.depthAll ds) ≤ k := h.dp
  have b' : d.bulk + 1 + PyData.bulkAll ds ≤ b := h.bk
  rw [Bool.and_eq_true] at l
  exact ⟨l.2, by omega, by omega⟩
theorem WL.len {k b : Nat} : ∀ {ds : List D}, WL k b ds → ds.length ≤ b
  | [], _ => Nat.zero_le _
  | d :: ds, h => by
    have b' : d.bulk + 1 + PyData.bulkAll ds ≤ b := h.bk
    have ih := WL.len (k := k) (b := PyData.bulkAll ds) (ds := ds) ⟨h.tail.l, h.tail.dp, Nat.le_refl _⟩
    show ds.length + 1 ≤ b
    omega
theorem WL.append {k b c : Nat} : ∀ {xs ys : List D}, WL k b xs → WL k c ys → WL k (b + c) (xs ++ ys)
  | [], ys, h, t => t.mono (Nat.le_refl _) (by omega)
  | x :: xs, ys, h, t => by
    have b' : x.bulk + 1 + PyData.bulkAll xs ≤ b := h.bk
    have hx : W k x.bulk x := ⟨h.head.l, h.head.dp, Nat.le_refl _⟩
    have ih := WL.append (k := k) (b := PyData.bulkAll xs) (c := c) (xs := xs) (ys := ys) ⟨h.tail.l, h.tail.dp, Nat.le_refl _⟩ t
    exact (WL.cons hx ih).mono (Nat.le_refl _) (by omega)
theorem WL.take {k b : Nat} : ∀ (n : Nat) {xs : List D}, WL k b xs → WL k b (xs.take n)
  | 0, xs, _ => by rw [List.take_zero]; exact .nil
  | n + 1, [], _ => .nil
  | n + 1, x :: xs, h => by
    have b' : x.bulk + 1 + PyData.bulkAll xs ≤ b := h.bk
    have hx : W k x.bulk x := ⟨h.head.l, h.head.dp, Nat.le_refl _⟩
    have ih := WL.take n (k := k) (b := PyData.bulkAll xs) (xs := xs) ⟨h.tail.l, h.tail.dp, Nat.le_refl _⟩
    rw [List.take_succ_cons]
    exact (WL.cons hx ih).mono (Nat.le_refl _) b'
theorem WL.drop {k b : Nat} : ∀ (n : Nat) {xs : List D}, WL k b xs → WL k b (xs.drop n)
  | 0, xs, h => by rw [List.drop_zero]; exact h
  | n + 1, [], _ => .nil
  | n + 1, x :: xs, h => by
    rw [List.drop_succ_cons]
    exact h.tail.drop n
theorem WL.cut {k b : Nat} {xs : List D} (h : WL k b xs) (lo hi : Option Int) : WL k b (cutL xs lo hi) := (h.drop _).take _
theorem WL.get {k b : Nat} : ∀ {xs : List D} {i : Nat} {d : D}, WL k b xs → xs[i]? = some d → W k b d
  | [], _, _, _, h => by simp at h
  | x :: xs, 0, d, h, e => by simp at e; subst e; exact h.head
  | x :: xs, i + 1, d, h, e => h.tail.get (i := i) (by simpa using e)
theorem WL.mem {k b : Nat} {xs : List D} {d : D} (h : WL k b xs) (m : d ∈ xs) : W k b d := by
  obtain ⟨i, e⟩ := List.mem_iff_getElem?.mp m
  exact h.get e
theorem WL.of {k b : Nat} : ∀ {xs : List D}, (∀ d ∈ xs, W k b d) → WL k (xs.length * (b + 1)) xs
  | [], _ => .nil
  | x :: xs, h => by
    refine (WL.cons (h x List.mem_cons_self) (WL.of fun d hd => h d (List.mem_cons_of_mem _ hd))).mono (Nat.le_refl _) ?_
    rw [List.length_cons, Nat.succ_mul]
    omega
theorem WL.rev {k b : Nat} : ∀ {xs : List D}, WL k b xs → WL k b xs.reverse
  | [], h => h
  | x :: xs, h => by
    have b' : x.bulk + 1 + PyData.bulkAll xs ≤ b := h.bk
    have hx : W k x.bulk x := ⟨h.head.l, h.head.dp, Nat.le_refl _⟩
    have ih := WL.rev (k := k) (b := PyData.bulkAll xs) (xs := xs) ⟨h.tail.l, h.tail.dp, Nat.le_refl _⟩
    rw [List.reverse_cons]
    exact (ih.append (WL.cons hx (.nil (b := 0)))).mono (Nat.le_refl _) (by omega)
theorem WL.tup {k b : Nat} {ds : List D} (h : WL k b ds) : W (k + 1) b (.tuple ds) := ⟨h.l, by have := h.dp; show PyData.depthAll ds + 1 ≤ _; omega, h.bk⟩
theorem WL.lst {k b : Nat} {ds : List D} (h : WL k b ds) : W (k + 1) b (.list ds) := ⟨h.l, by have := h.dp; show PyData.depthAll ds + 1 ≤ _; omega, h.bk⟩
theorem W.tup {k b : Nat} {ds : List D} (h : W k b (.tuple ds)) : WL k b ds := ⟨h.l, by have d : PyData.depthAll ds + 1 ≤ k := h.dp; omega, h.bk⟩
theorem W.lst {k b : Nat} {ds : List D} (h : W k b (.list ds)) : WL k b ds := ⟨h.l, by have d : PyData.depthAll ds + 1 ≤ k := h.dp; omega, h.bk⟩
theorem W.str {k b : Nat} {z : Str} (h : z.cps.toList.all (fun c => decide (c < 55296)) = true) (hb : z.length ≤ b) : W k b (.str z) := ⟨h, Nat.zero_le _, hb⟩
theorem W.int {k b : Nat} {i : Int} (h : i.natAbs < 10 ^ 31) : W k b (.int i) := ⟨decide_eq_true h, Nat.zero_le _, Nat.zero_le _⟩
theorem W.non {k b : Nat} : W k b .none := ⟨rfl, Nat.zero_le _, Nat.zero_le _⟩
theorem W.bl {k b : Nat} {c : Bool} : W k b (.bool c) := ⟨rfl, Nat.zero_le _, Nat.zero_le _⟩
theorem W.slen {k b : Nat} {z : Str} (h : W k b (.str z)) : z.length ≤ b := h.bk
mutual
theorem lv_leaves : ∀ d : D, lv d = true → d.leavesShort 40 = true ∧ d.showable = true
  | .none, _ => ⟨rfl, rfl⟩
  | .bool _, _ => ⟨rfl, rfl⟩
  | .int i, h => by
    have h' : i.natAbs < 10 ^ 31 := of_decide_eq_true h
    have e1 : (PyData.shown (.int i)).length ≤ 32 := by
      rw [PyData.shown_int]
      have := int_text_length_le10 (a := i) (k := 31) (by decide) h'
      show (Str.ofString (toString i)).length ≤ 32
      rw [ofString_length]; exact this
    refine ⟨?_, ?_⟩
    · unfold PyData.leavesShort
      exact decide_eq_true (by omega)
    · unfold PyData.showable
      refine decide_eq_true ?_
      by_cases z : i.natAbs = 0
      · rw [z]; decide
      · rw [Nat.log2_lt z]
        have : (10 : Nat) ^ 31 ≤ 2 ^ 1920 := by decide +kernel
        omega
  | .str x, h => by
    refine ⟨?_, rfl⟩
    unfold PyData.leavesShort
    refine List.all_eq_true.mpr fun c hc => ?_
    have := of_decide_eq_true (List.all_eq_true.mp h c hc)
    exact decide_eq_true (by omega)
  | .list xs, h => by
    have := lvAll_leaves xs h
    exact ⟨by unfold PyData.leavesShort; exact this.1, by unfold PyData.showable; exact this.2⟩
  | .tuple xs, h => by
    have := lvAll_leaves xs h
    exact ⟨by unfold PyData.leavesShort; exact this.1, by unfold PyData.showable; exact this.2⟩
  | .dict _, h => by cases h
theorem lvAll_leaves : ∀ ds : List D, lvAll ds = true → PyData.leavesShortAll 40 ds = true ∧ PyData.showableAll ds = true
  | [], _ => ⟨rfl, rfl⟩
  | x :: xs, h => by
    have h' : (lv x && lvAll xs) = true := h
    rw [Bool.and_eq_true] at h'
    obtain ⟨a1, a2⟩ := lv_leaves x h'.1
    obtain ⟨b1, b2⟩ := lvAll_leaves xs h'.2
    refine ⟨?_, ?_⟩
    · unfold PyData.leavesShortAll; rw [a1, b1]; rfl
    · unfold PyData.showableAll; rw [a2, b2]; rfl
end
mutual
theorem lv_nd : ∀ d : D, lv d = true → d.hasDict = false
  | .none, _ => rfl
  | .bool _, _ => rfl
  | .int _, _ => rfl
  | .str _, _ => rfl
  | .list xs, h => by
    show PyData.hasDictAll xs = false
    exact lvAll_nd xs h
  | .tuple xs, h => by
    show PyData.hasDictAll xs = false
    exact lvAll_nd xs h
  | .dict _, h => by cases h
theorem lvAll_nd : ∀ ds : List D, lvAll ds = true → PyData.hasDictAll ds = false
  | [], _ => rfl
  | x :: xs, h => by
    have h' : (lv x && lvAll xs) = true := h
    rw [Bool.and_eq_true] at h'
    show (x.hasDict || PyData.hasDictAll xs) = false
    rw [lv_nd x h'.1, lvAll_nd xs h'.2]; rfl
end
theorem repr_ok {d : D} (h : W 60 300000 d) : bfD .repr [d] = some (.str d.shown) := by
  obtain ⟨h1, h2⟩ := lv_leaves d h.l
  have h3 := PyData.shown_le_bulk 40 (by decide) d h1
  have h4 : 42 * d.bulk ≤ 42 * 300000 := Nat.mul_le_mul_left _ h.bk
  show (if d.showable = true ∧ d.shown.length ≤ sizeLine ∧ d.depth ≤ 64 ∧ d.hasDict = false then some (PyData.str d.shown) else none) = _
  rw [if_pos ⟨h2, by rw [sizeLine_eq]; omega, by have := h.dp; omega, lv_nd d h.l⟩]
end Pe

set_option Elab.async false
set_option linter.all false
set_option maxRecDepth 100000
set_option maxHeartbeats 4000000
/-! DE: how data are reckoned with, as equations. -/
namespace Pe
open PySem L2
section
variable {F : Str → List D → Res D} {w : Nat} {ν : List (Option D)} {ρ : List Sl}
@[simp] theorem v_cst {d : D} : evE F ν (.cst d) = .ok d := by simp only [evE]
@[simp] theorem v_var {i : Nat} : evE F ν (.var i) = match ν[i]? with
    | some (some d) => .ok d
    | _ => .no := by
  simp only [evE] <;> rfl
@[simp] theorem v_bin {op : Operator} {a b : Ex} : evE F ν (.bin op a b) = (evE F ν a).bind fun x => (evE F ν b).bind fun y => .ofO (binD op x y) := by simp only [evE]
@[simp] theorem v_neg {a : Ex} : evE F ν (.neg a) = (evE F ν a).bind fun x => .ofO (negD x) := by simp only [evE]
@[simp] theorem v_cmp {op : CmpOp} {a b : Ex} : evE F ν (.cmp op a b) = (evE F ν a).bind fun x => (evE F ν b).bind fun y => .ofO (cmpD op x y) := by simp only [evE]
@[simp] theorem v_chn {op op' : CmpOp} {a b c : Ex} : evE F ν (.chn op op' a b c) = (evE F ν a).bind fun x => (evE F ν b).bind fun y => (Res.ofO (cmpD op x y)).bind fun r => boolR r ((evE F ν c).bind fun z => .ofO (cmpD op' y z)) (.ok (.bool false)) := by simp only [evE]
@[simp] theorem v_and {a b : Ex} : evE F ν (.and a b) = (evE F ν a).bind fun x => boolR x (evE F ν b) (.ok (.bool false)) := by simp only [evE]
@[simp] theorem v_or {a b : Ex} : evE F ν (.or a b) = (evE F ν a).bind fun x => boolR x (.ok (.bool true)) (evE F ν b) := by simp only [evE]
@[simp] theorem v_not {a : Ex} : evE F ν (.not a) = (evE F ν a).bind fun x => (Res.ofO (truD x)).bind fun k => .ok (.bool (!k)) := by simp only [evE]
@[simp] theorem v_ite {c a b : Ex} : evE F ν (.ite c a b) = (evE F ν c).bind fun x => (Res.ofO (truD x)).bind fun k => if k = true then evE F ν a else evE F ν b := by simp only [evE]
@[simp] theorem v_anil : evE F ν .anil = .ok (.list []) := by simp only [evE]
@[simp] theorem v_acons {a r : Ex} : evE F ν (.acons a r) = (evE F ν a).bind fun x => (evE F ν r).bind fun y => listR y fun ds => .ok (.list (x :: ds)) := by simp only [evE]
@[simp] theorem v_tup {a : Ex} : evE F ν (.tup a) = (evE F ν a).bind fun y => listR y fun ds => if ds.length ≤ sizeLine then .ok (.tuple ds) else .no := by simp only [evE]
@[simp] theorem v_lst {a : Ex} : evE F ν (.lst a) = (evE F ν a).bind fun y => listR y fun ds => if ds.length ≤ sizeLine then .ok (.list ds) else .no := by simp only [evE]
@[simp] theorem v_idx {a b : Ex} : evE F ν (.idx a b) = (evE F ν a).bind fun x => (evE F ν b).bind fun y => .ofO (idxD x y) := by simp only [evE]
@[simp] theorem v_slc {a lo hi : Ex} : evE F ν (.slc a lo hi) = (evE F ν a).bind fun x => (partE lo (evE F ν lo)).bind fun l => (partE hi (evE F ν hi)).bind fun h => .ofO (slcD x l h) := by simp only [evE]
@[simp] theorem v_call {f : Str} {a : Ex} : evE F ν (.call f a) = (evE F ν a).bind fun y => listR y fun ds => F f ds := by simp only [evE]
@[simp] theorem v_bf {f : Bf} {a : Ex} : evE F ν (.bf f a) = (evE F ν a).bind fun y => listR y fun ds => .ofO (bfD f ds) := by simp only [evE]
@[simp] theorem v_isi {a : Ex} {t : Ty} : evE F ν (.isi a t) = (evE F ν a).bind fun x => .ofO (isTO t x) := by simp only [evE]
@[simp] theorem v_isis {a : Ex} {t : List Ty} : evE F ν (.isis a t) = (evE F ν a).bind fun x => .ofO (anyTO t x) := by simp only [evE]
@[simp] theorem v_join {a b : Ex} : evE F ν (.join a b) = (evE F ν a).bind fun x => (evE F ν b).bind fun y => .ofO (joinD x y) := by simp only [evE]
def seqR : D → Res D
  | .list ds => .ok (.list ds)
  | .tuple ds => .ok (.list ds)
  | .str z => .ok (.list (signs z))
  | _ => .no
@[simp] theorem seqR_list {ds : List D} : seqR (.list ds) = .ok (.list ds) := id rfl
@[simp] theorem seqR_tuple {ds : List D} : seqR (.tuple ds) = .ok (.list ds) := id rfl
@[simp] theorem seqR_str {z : Str} : seqR (.str z) = .ok (.list (signs z)) := id rfl
@[simp] theorem v_seq {a : Ex} : evE F ν (.seq a) = (evE F ν a).bind seqR := by
  simp only [evE]
  congr 1
def rngR : D → D → Res D
  | .int i, .int j => if near i = true ∧ near j = true then .ok (.list (rangeL i j)) else .no
  | _, _ => .no
@[simp] theorem v_rng {a b : Ex} : evE F ν (.rng a b) = (evE F ν a).bind fun x => (evE F ν b).bind fun y => rngR x y := by
  simp only [evE]
  congr 1
theorem rngR_int {i j : Int} (h1 : -4611686018427387904 ≤ i) (h2 : i < 4611686018427387904) (h3 : -4611686018427387904 ≤ j) (h4 : j < 4611686018427387904) : rngR (.int i) (.int j) = .ok (.list (rangeL i j)) := by
  show (if near i = true ∧ near j = true then _ else _) = _
  rw [if_pos ⟨decide_eq_true ⟨h1, h2⟩, decide_eq_true ⟨h3, h4⟩⟩]
def zipR : D → D → Res D
  | .list xs, .list ys => .ok (.list (pairs xs ys))
  | .tuple xs, .tuple ys => .ok (.list (pairs xs ys))
  | _, _ => .no
@[simp] theorem zipR_l {xs ys : List D} : zipR (.list xs) (.list ys) = .ok (.list (pairs xs ys)) := id rfl
@[simp] theorem zipR_t {xs ys : List D} : zipR (.tuple xs) (.tuple ys) = .ok (.list (pairs xs ys)) := id rfl
@[simp] theorem v_zip {a b : Ex} : evE F ν (.zip a b) = (evE F ν a).bind fun x => (evE F ν b).bind fun y => zipR x y := by
  simp only [evE]
  congr 1
@[simp] theorem v_comp {elt it cond : Ex} {tg : Sum Nat (List Nat)} {own : List Nat} : evE F ν (.comp elt it cond tg own) = (evE F ν it).bind fun y => listR y fun ds => if ds.length ≤ sizeLine then (compL (itemR F ν elt cond tg own) ds).bind fun r => .ok (.list r) else .no := by
  simp only [evE]
  rfl
def keysR : D → Res D
  | .dict kvs => if scKeys kvs = true ∧ kvs.length ≤ sizeLine then .ok (.list (kvs.map Prod.fst)) else .no
  | .list ds => .ok (.list ds)
  | .tuple ds => .ok (.list ds)
  | .str z => .ok (.list (signs z))
  | _ => .no
@[simp] theorem keysR_list {ds : List D} : keysR (.list ds) = .ok (.list ds) := id rfl
@[simp] theorem keysR_tuple {ds : List D} : keysR (.tuple ds) = .ok (.list ds) := id rfl
@[simp] theorem keysR_str {z : Str} : keysR (.str z) = .ok (.list (signs z)) := id rfl
@[simp] theorem keysR_dict {kvs : List (D × D)} : keysR (.dict kvs) = if scKeys kvs = true ∧ kvs.length ≤ sizeLine then .ok (.list (kvs.map Prod.fst)) else .no := id rfl
@[simp] theorem v_seqD {i : Nat} : evE F ν (.seqD i) = match ν[i]? with
    | some (some d) => keysR d
    | _ => .no := by
  simp only [evE]
  cases ν[i]? with
  | none => rfl
  | some o => cases o with
    | none => rfl
    | some d => cases d <;> rfl
@[simp] theorem v_dcomp {kx vx it cond : Ex} {tg : Sum Nat (List Nat)} {own : List Nat} : evE F ν (.dcomp kx vx it cond tg own) = (evE F ν it).bind fun y => listR y fun ds => if ds.length ≤ sizeLine then (dcL (itemK F ν kx vx cond tg own) ds []).bind fun r => .ok (.dict r) else .no := by
  simp only [evE]
  rfl
@[simp] theorem v_dsp {a : Ex} : evE F ν (.dsp a) = (evE F ν a).bind fun y => listR y fun ds => (Res.ofO (dspD ds [])).bind fun r => .ok (.dict r) := by
  simp only [evE]
@[simp] theorem v_comp2 {elt it it1 : Ex} {tg tg1 : Sum Nat (List Nat)} {own own1 : List Nat} : evE F ν (.comp2 elt it it1 tg own tg1 own1) = (evE F ν it).bind fun y => listR y fun ds => (flatL (item2 F ν elt it1 tg own tg1 own1) ds).bind fun r => if r.length ≤ sizeLine then .ok (.list r) else .no := by
  simp only [evE]
  rfl
@[simp] theorem v_inT {a : Ex} {es : List (Str × D)} : evE F ν (.inT a es) = (evE F ν a).bind fun x => .ofO (inTD es x) := by simp only [evE]
@[simp] theorem v_atT {a : Ex} {es : List (Str × D)} : evE F ν (.atT a es) = (evE F ν a).bind fun x => .ofO (atTD es x) := by simp only [evE]
@[simp] theorem v_rev {a : Ex} : evE F ν (.rev a) = (evE F ν a).bind fun x => .ofO (revD x) := by simp only [evE]
@[simp] theorem p_no : partE .nopart (evE F ν .nopart) = .ok none := by unfold partE; rfl
@[simp] theorem listR_l {α : Type} {ds : List D} {f : List D → Res α} : listR (.list ds) f = f ds := id rfl
@[simp] theorem boolR_t {α : Type} {t f : Res α} : boolR (.bool true) t f = t := id rfl
@[simp] theorem boolR_f {α : Type} {t f : Res α} : boolR (.bool false) t f = f := id rfl
theorem boolR_ite {α : Type} {b : Bool} {t f : Res α} : boolR (.bool b) t f = if b = true then t else f := by cases b <;> rfl
@[simp] theorem truD_b {b : Bool} : truD (.bool b) = some b := id rfl
@[simp] theorem truD_n : truD .none = some false := id rfl
@[simp] theorem truD_i {i : Int} : truD (.int i) = some (i != 0) := id rfl
@[simp] theorem truD_l {xs : List D} : truD (.list xs) = some (!xs.isEmpty) := id rfl
@[simp] theorem truD_t {xs : List D} : truD (.tuple xs) = some (!xs.isEmpty) := id rfl
@[simp] theorem partE_int {x : Ex} {i : Int} (h : isPart x = true) : partE x (.ok (.int i)) = .ok (some i) := by rw [partE_is h]; rfl
@[simp] theorem isPart_cst {d : D} : isPart (.cst d) = true := id rfl
@[simp] theorem isPart_var {i : Nat} : isPart (.var i) = true := id rfl
@[simp] theorem isPart_bin {op : Operator} {a b : Ex} : isPart (.bin op a b) = true := id rfl
/-! operators -/
@[simp] theorem b_add {i j : Int} : binD .Add (.int i) (.int j) = some (.int (i + j)) := id rfl
@[simp] theorem b_sub {i j : Int} : binD .Sub (.int i) (.int j) = some (.int (i - j)) := id rfl
@[simp] theorem b_mul {i j : Int} : binD .Mult (.int i) (.int j) = if mulOk i j = true then some (.int (i * j)) else none := id rfl
@[simp] theorem b_div {i j : Int} : binD .FloorDiv (.int i) (.int j) = if 0 < j ∧ j.natAbs.log2 < 9000 then some (.int (i / j)) else none := id rfl
@[simp] theorem b_mod {i j : Int} : binD .Mod (.int i) (.int j) = if 0 < j then some (.int (i % j)) else none := id rfl
@[simp] theorem b_pow {i j : Int} : binD .Pow (.int i) (.int j) = if 0 ≤ j ∧ j ≤ 1000000 ∧ i.natAbs < 18446744073709551616 then some (.int (i ^ j.toNat)) else none := id rfl
@[simp] theorem b_addS {i j : Str} : binD .Add (.str i) (.str j) = if i.length + j.length ≤ sizeLine then some (.str (i ++ j)) else none := id rfl
@[simp] theorem b_addL {i j : List D} : binD .Add (.list i) (.list j) = if i.length + j.length ≤ sizeLine then some (.list (i ++ j)) else none := id rfl
@[simp] theorem b_addT {i j : List D} : binD .Add (.tuple i) (.tuple j) = if i.length + j.length ≤ sizeLine then some (.tuple (i ++ j)) else none := id rfl
@[simp] theorem neg_i {i : Int} : negD (.int i) = some (.int (-i)) := id rfl
@[simp] theorem c_eq {x y : D} : cmpD .Eq x y = bD (eqB x y) := id rfl
@[simp] theorem c_ne {x y : D} : cmpD .NotEq x y = nD (eqB x y) := id rfl
@[simp] theorem c_lt {x y : D} : cmpD .Lt x y = bD (ltB x y) := id rfl
@[simp] theorem c_le {x y : D} : cmpD .LtE x y = bD (leW x y) := id rfl
@[simp] theorem lw_i {i j : Int} : leW (.int i) (.int j) = some (decide (i ≤ j)) := id rfl
@[simp] theorem lw_s {i j : Str} : leW (.str i) (.str j) = some (!decide (j.cps.toList < i.cps.toList)) := id rfl
@[simp] theorem c_gt {x y : D} : cmpD .Gt x y = bD (ltB y x) := id rfl
@[simp] theorem c_ge {x y : D} : cmpD .GtE x y = bD (leB y x) := id rfl
@[simp] theorem c_is {x y : D} : cmpD .Is x y = bD (isB x y) := id rfl
@[simp] theorem c_isn {x y : D} : cmpD .IsNot x y = nD (isB x y) := id rfl
@[simp] theorem c_in {x y : D} : cmpD .In x y = bD (inB x y) := id rfl
@[simp] theorem c_nin {x y : D} : cmpD .NotIn x y = nD (inB x y) := id rfl
@[simp] theorem bD_s {b : Bool} : bD (some b) = some (.bool b) := id rfl
@[simp] theorem nD_s {b : Bool} : nD (some b) = some (.bool (!b)) := id rfl
@[simp] theorem lt_i {i j : Int} : ltB (.int i) (.int j) = some (decide (i < j)) := id rfl
@[simp] theorem le_i {i j : Int} : leB (.int i) (.int j) = some (decide (i ≤ j)) := id rfl
@[simp] theorem lt_s {i j : Str} : ltB (.str i) (.str j) = some (decide (i.cps.toList < j.cps.toList)) := id rfl
@[simp] theorem le_s {i j : Str} : leB (.str i) (.str j) = some (!decide (j.cps.toList < i.cps.toList)) := id rfl
@[simp] theorem eq_i {i j : Int} : eqB (.int i) (.int j) = some (i == j) := by simp [eqB, scalD, PyData.eqv]
@[simp] theorem eq_b {i j : Bool} : eqB (.bool i) (.bool j) = some (i == j) := by simp [eqB, scalD, PyData.eqv]
@[simp] theorem eq_s {i j : Str} : eqB (.str i) (.str j) = some (i == j) := by simp [eqB, scalD, PyData.eqv]
@[simp] theorem is_n {d : D} : isB d .none = some (match d with
    | .none => true
    | _ => false) := by cases d <;> rfl
/-! built-in functions -/
@[simp] theorem f_lenL {ds : List D} : bfD .len [.list ds] = some (.int ds.length) := id rfl
@[simp] theorem f_lenT {ds : List D} : bfD .len [.tuple ds] = some (.int ds.length) := id rfl
@[simp] theorem f_lenS {z : Str} : bfD .len [.str z] = if z.length ≤ sizeLine then some (.int z.length) else none := id rfl
@[simp] theorem f_abs {i : Int} : bfD .abs [.int i] = some (.int (if i < 0 then -i else i)) := id rfl
@[simp] theorem f_int {i : Int} : bfD .int [.int i] = some (.int i) := id rfl
@[simp] theorem f_intb {b : Bool} : bfD .int [.bool b] = some (.int (if b = true then 1 else 0)) := id rfl
@[simp] theorem f_max {i j : Int} : bfD .max2 [.int i, .int j] = some (.int (if j > i then j else i)) := id rfl
@[simp] theorem f_min {i j : Int} : bfD .min2 [.int i, .int j] = some (.int (if j < i then j else i)) := id rfl
@[simp] theorem f_tupL {ds : List D} : bfD .tuple [.list ds] = some (.tuple ds) := id rfl
@[simp] theorem f_tupT {ds : List D} : bfD .tuple [.tuple ds] = some (.tuple ds) := id rfl
@[simp] theorem f_lstL {ds : List D} : bfD .list [.list ds] = some (.list ds) := id rfl
@[simp] theorem f_lstT {ds : List D} : bfD .list [.tuple ds] = some (.list ds) := id rfl
@[simp] theorem f_all {ds : List D} : bfD .all [.list ds] = (blsOf ds).map fun bs => .bool (bs.all id) := id rfl
@[simp] theorem f_any {ds : List D} : bfD .any [.list ds] = (blsOf ds).map fun bs => .bool (bs.any id) := id rfl
@[simp] theorem f_sum {ds : List D} : bfD .sum [.list ds] = (intsOf ds).map fun ns => .int ns.sum := id rfl
@[simp] theorem f_sumT {ds : List D} : bfD .sum [.tuple ds] = (intsOf ds).map fun ns => .int ns.sum := id rfl
@[simp] theorem f_sor {ds : List D} : bfD .sorted ds = sorD ds := id rfl
@[simp] theorem bls_map {α : Type} {f : α → Bool} : ∀ {xs : List α}, blsOf (xs.map fun x => PyData.bool (f x)) = some (xs.map f)
  | [] => rfl
  | x :: xs => by
    show (blsOf (xs.map fun x => PyData.bool (f x))).map (f x :: ·) = _
    rw [bls_map]; rfl
@[simp] theorem ints_map : ∀ {xs : List Int}, intsOf (xs.map PyData.int) = some xs
  | [] => rfl
  | x :: xs => by
    show (intsOf (xs.map PyData.int)).map (x :: ·) = _
    rw [ints_map]; rfl
@[simp] theorem i_list {ds : List D} {i : Int} : idxD (.list ds) (.int i) = atI ds i := id rfl
@[simp] theorem i_tup {ds : List D} {i : Int} : idxD (.tuple ds) (.int i) = atI ds i := id rfl
@[simp] theorem i_str {z : Str} {i : Int} : idxD (.str z) (.int i) = if z.length ≤ sizeLine then (atI z.cps.toList i).map fun c => .str ⟨#[c]⟩ else none := id rfl
@[simp] theorem i_dict {kvs : List (D × D)} {k : D} : idxD (.dict kvs) k = if dkOk kvs k = true then dfind kvs k else none := by cases k <;> rfl
@[simp] theorem in_dict' {kvs : List (D × D)} {k : D} : inB k (.dict kvs) = if dkOk kvs k = true then some (dfind kvs k).isSome else none := by cases k <;> rfl
@[simp] theorem s_list {ds : List D} {lo hi : Option Int} : slcD (.list ds) lo hi = some (.list (cutL ds lo hi)) := id rfl
@[simp] theorem s_tup {ds : List D} {lo hi : Option Int} : slcD (.tuple ds) lo hi = some (.tuple (cutL ds lo hi)) := id rfl
@[simp] theorem s_str {z : Str} {lo hi : Option Int} : slcD (.str z) lo hi = if z.length ≤ sizeLine then some (.str (cutS z lo hi)) else none := id rfl
@[simp] theorem rev_l {ds : List D} : revD (.list ds) = some (.list ds.reverse) := id rfl
@[simp] theorem rev_s {z : Str} : revD (.str z) = if z.length ≤ sizeLine then some (.str (revS z)) else none := id rfl
@[simp] theorem rev_t {ds : List D} : revD (.tuple ds) = some (.tuple ds.reverse) := id rfl
@[simp] theorem inTD_s {es : List (Str × D)} {z : Str} : inTD es (.str z) = some (.bool (es.lookup z).isSome) := id rfl
@[simp] theorem atTD_s {es : List (Str × D)} {z : Str} : atTD es (.str z) = es.lookup z := id rfl
theorem atI_nat {α : Type} {xs : List α} {n : Nat} (h : n < xs.length) : atI xs (n : Int) = some xs[n] := by
  unfold atI ixN
  rw [if_pos (by omega), if_pos (by omega)]
  simp [h]
theorem atI_ok {α : Type} {xs : List α} {i : Int} (h0 : 0 ≤ i) (h : i < xs.length) : ∃ x, atI xs i = some x ∧ xs[i.toNat]? = some x := by
  have e := atI_nat (xs := xs) (n := i.toNat) (by omega)
  rw [Int.toNat_of_nonneg h0] at e
  exact ⟨_, e, List.getElem?_eq_getElem _⟩
@[simp] theorem atI_zero {α : Type} {x : α} {xs : List α} : atI (x :: xs) 0 = some x := by
  unfold atI ixN
  simp
@[simp] theorem log_lt {n : Nat} (h : n < 1152921504606846976) : (n.log2 < 9000) = True := by
  refine eq_true ?_
  by_cases z : n = 0
  · subst z; decide
  · rw [Nat.log2_lt z]
    have : (1152921504606846976 : Nat) ≤ 2 ^ 9000 := by
      have : (1152921504606846976 : Nat) = 2 ^ 60 := by decide
      rw [this]
      exact Nat.pow_le_pow_right (by decide) (by decide)
    omega
/-! slots -/
@[simp] theorem vw_nil : vw [] = [] := id rfl
@[simp] theorem vw_cons {s : Sl} {r : List Sl} : vw (s :: r) = s.all :: vw r := id rfl
@[simp] theorem vwN_nil : vwN [] = [] := id rfl
@[simp] theorem vwN_cons {s : Sl} {r : List Sl} : vwN (s :: r) = s.fix :: vwN r := id rfl
@[simp] theorem all_un : Sl.un.all = none := id rfl
@[simp] theorem all_val {d : D} : (Sl.val d).all = some d := id rfl
@[simp] theorem all_own {d : D} : (Sl.own d).all = some d := id rfl
@[simp] theorem fix_un : Sl.un.fix = none := id rfl
@[simp] theorem fix_val {d : D} : (Sl.val d).fix = some d := id rfl
@[simp] theorem fix_own {d : D} : (Sl.own d).fix = none := id rfl
@[simp] theorem frz_nil {ρ : List Sl} : frz [] ρ = ρ := id rfl
@[simp] theorem frz_cons {i : Nat} {is : List Nat} {ρ : List Sl} : frz (i :: is) ρ = match ρ[i]? with
    | some (.own d) => frz is (ρ.set i (.val d))
    | _ => frz is ρ := rfl
@[simp] theorem evK_t {x : Ex} {m : List Nat} : evK F ρ x true m = (evE F (vw ρ) x).bind fun d => if noL d = true then .ok (d, ρ) else .no := id rfl
@[simp] theorem evK_f {x : Ex} {m : List Nat} : evK F ρ x false m = (evE F (vwN (frz m ρ)) x).bind fun d => .ok (d, frz m ρ) := id rfl
/-! statements -/
@[simp] theorem w_set {i : Nat} {x : Ex} {k : Bool} {m : List Nat} : evS F w ρ (.set i x k m) = (evK F ρ x k m).bind fun a => .ok (.nx (a.2.set i (.val a.1))) := by simp only [evS]
@[simp] theorem evN_t {x : Ex} {m : List Nat} : evN F ρ x true m = (evE F (vw ρ) x).bind fun y => listR y fun r => if noLAll r = true then .ok (r, ρ) else .no := id rfl
@[simp] theorem evN_f {x : Ex} {m : List Nat} : evN F ρ x false m = (evE F (vwN (frz m ρ)) x).bind fun y => listR y fun r => .ok (r, frz m ρ) := id rfl
@[simp] theorem w_new {i : Nat} {x : Ex} {k : Bool} {m : List Nat} : evS F w ρ (.new i x k m) = (evN F ρ x k m).bind fun a => .ok (.nx (a.2.set i (.own (.list a.1)))) := by simp only [evS]
@[simp] theorem w_newD {i : Nat} : evS F w ρ (.newD i) = .ok (.nx (ρ.set i (.own (.dict [])))) := by simp only [evS]
def extR (i : Nat) (a : List D × List Sl) : Res Out := match a.2[i]? with
  | some (.own (.list xs)) => if xs.length + a.1.length ≤ sizeLine then .ok (.nx (a.2.set i (.own (.list (xs ++ a.1))))) else .no
  | _ => .no
theorem w_ext {i : Nat} {x : Ex} {k : Bool} {m : List Nat} {xs : List D} (h : ρ[i]? = some (.own (.list xs))) : evS F w ρ (.ext i x k m) = (evN F ρ x k m).bind (extR i) := by
  simp only [evS, h]
  rfl
def stoR (F : Str → List D → Res D) (i : Nat) (y : Ex) (a : D × List Sl) : Res Out := match a.2[i]? with
  | some (.own o) => (evE F (vw a.2) y).bind fun e => if noL e = true then (Res.ofO (stoO o e a.1)).bind fun r => .ok (.nx (a.2.set i (.own r))) else .no
  | _ => .no
@[simp] theorem w_sto {i : Nat} {y x : Ex} {k : Bool} {m : List Nat} : evS F w ρ (.sto i y x k m) = (evK F ρ x k m).bind (stoR F i y) := by
  simp only [evS]
  rfl
theorem w_popA {i j : Nat} {y : Ex} {xs : List D} (h : ρ[i]? = some (.own (.list xs))) : evS F w ρ (.popA j i y) = (evE F (vw ρ) y).bind fun e => (Res.ofO (popO (.list xs) e)).bind fun r => .ok (.nx ((ρ.set i (.own r.2)).set j (.val r.1))) := by
  simp only [evS, h]
@[simp] theorem w_unp {is : List Nat} {x : Ex} {k : Bool} {m : List Nat} : evS F w ρ (.unp is x k m) = (evK F ρ x k m).bind fun a => (Res.ofO (setS a.2 (.inr is) a.1)).bind fun ρ' => .ok (.nx ρ') := by simp only [evS]
@[simp] theorem w_dro {x : Ex} : evS F w ρ (.dro x) = (evE F (vw ρ) x).bind fun _ => .ok (.nx ρ) := by simp only [evS]
@[simp] theorem w_ret {x : Ex} {m : List Nat} : evS F w ρ (.ret x m) = (evE F (vwN (frz m ρ)) x).bind fun d => .ok (.rt d) := by simp only [evS]
@[simp] theorem w_retL {x : Ex} {m : List Nat} : evS F w ρ (.retL x m) = (evE F (vwN (frz m ρ)) x).bind fun y => listR y fun ds => .ok (.rtL ds) := by
  simp only [evS, evN_f]
  cases evE F (vwN (frz m ρ)) x with
  | ok d => cases d <;> rfl
  | err _ => rfl
  | no => rfl
@[simp] theorem w_retN : evS F w ρ .retN = .ok (.rt .none) := by simp only [evS]
@[simp] theorem w_ife {c : Ex} {a b : Sm} : evS F w ρ (.ife c a b) = (tst F ρ c).bind fun k => if k = true then evS F w ρ a else evS F w ρ b := by simp only [evS]
@[simp] theorem w_pass : evS F w ρ .pass = .ok (.nx ρ) := by simp only [evS]
@[simp] theorem w_brk : evS F w ρ .brk = .ok (.bk ρ) := by simp only [evS]
@[simp] theorem w_cnt : evS F w ρ .cnt = .ok (.ct ρ) := by simp only [evS]
@[simp] theorem tst_is {c : Ex} : tst F ρ c = (evE F (vw ρ) c).bind fun d => .ofO (truD d) := id rfl
def thenS (F : Str → List D → Res D) (w : Nat) (b : Sm) : Out → Res Out
  | .nx ρ' => evS F w ρ' b
  | .rt d => .ok (.rt d)
  | .rtL d => .ok (.rtL d)
  | .bk ρ' => .ok (.bk ρ')
  | .ct ρ' => .ok (.ct ρ')
@[simp] theorem w_seq {a b : Sm} : evS F w ρ (.seq a b) = (evS F w ρ a).bind (thenS F w b) := by
  simp only [evS]
  congr 1
@[simp] theorem then_nx {b : Sm} : thenS F w b (.nx ρ) = evS F w ρ b := id rfl
@[simp] theorem then_rt {b : Sm} {d : D} : thenS F w b (.rt d) = .ok (.rt d) := id rfl
@[simp] theorem then_rtL {b : Sm} {d : List D} : thenS F w b (.rtL d) = .ok (.rtL d) := id rfl
@[simp] theorem then_bk {b : Sm} : thenS F w b (.bk ρ) = .ok (.bk ρ) := id rfl
@[simp] theorem then_ct {b : Sm} : thenS F w b (.ct ρ) = .ok (.ct ρ) := id rfl
def appR (i : Nat) (a : D × List Sl) : Res Out := match a.2[i]? with
  | some (.own (.list xs)) => if xs.length < sizeLine then .ok (.nx (a.2.set i (.own (.list (xs ++ [a.1]))))) else .no
  | _ => .no
theorem w_app {i : Nat} {x : Ex} {k : Bool} {m : List Nat} {xs : List D} (h : ρ[i]? = some (.own (.list xs))) : evS F w ρ (.app i x k m) = (evK F ρ x k m).bind (appR i) := by
  simp only [evS, h]
  rfl
def stepF (F : Str → List D → Res D) (w : Nat) (tg : Sum Nat (List Nat)) (b : Sm) (ρ : List Sl) (d : D) : Res Out := match setS ρ tg d with
  | some ρ' => evS F w ρ' b
  | none => .no
@[simp] theorem stepF_one {i : Nat} {b : Sm} {d : D} : stepF F w (.inl i) b ρ d = evS F w (ρ.set i (.val d)) b := id rfl
theorem w_for {tg : Sum Nat (List Nat)} {it : Ex} {m : List Nat} {b : Sm} : evS F w ρ (.for_ tg it m b) = (evE F (vwN (frz m ρ)) it).bind fun y => listR y fun ds => forL (stepF F w tg b) (frz m ρ) ds := by
  simp only [evS]
  rfl
theorem w_forR {tg : Sum Nat (List Nat)} {x y : Ex} {b : Sm} : evS F w ρ (.forR tg x y b) = (evE F (vw ρ) (.rng x y)).bind fun y => listR y fun ds => forL (stepF F w tg b) ρ ds := by
  simp only [evS]
  rfl
@[simp] theorem forL_nil {g : List Sl → D → Res Out} : forL g ρ [] = .ok (.nx ρ) := id rfl
def loopR (g : List Sl → D → Res Out) (ds : List D) : Out → Res Out
  | .nx ρ' => forL g ρ' ds
  | .ct ρ' => forL g ρ' ds
  | .bk ρ' => .ok (.nx ρ')
  | .rt d => .ok (.rt d)
  | .rtL d => .ok (.rtL d)
theorem forL_cons {g : List Sl → D → Res Out} {d : D} {ds : List D} : forL g ρ (d :: ds) = (g ρ d).bind (loopR g ds) := by
  unfold forL
  congr 1
@[simp] theorem loopR_nx {g : List Sl → D → Res Out} {ds : List D} : loopR g ds (.nx ρ) = forL g ρ ds := id rfl
@[simp] theorem loopR_ct {g : List Sl → D → Res Out} {ds : List D} : loopR g ds (.ct ρ) = forL g ρ ds := id rfl
@[simp] theorem loopR_bk {g : List Sl → D → Res Out} {ds : List D} : loopR g ds (.bk ρ) = .ok (.nx ρ) := id rfl
@[simp] theorem loopR_rtL {g : List Sl → D → Res Out} {ds : List D} {d : List D} : loopR g ds (.rtL d) = .ok (.rtL d) := id rfl
@[simp] theorem loopR_rt {g : List Sl → D → Res Out} {ds : List D} {d : D} : loopR g ds (.rt d) = .ok (.rt d) := id rfl
/-- a loop that goes to its end -/
theorem forL_inv {g : List Sl → D → Res Out} {ds : List D} (I : Nat → List Sl → Prop) (step : ∀ i ρ d, ds[i]? = some d → I i ρ → ∃ ρ', (g ρ d = .ok (.nx ρ') ∨ g ρ d = .ok (.ct ρ')) ∧ I (i + 1) ρ') {ρ : List Sl} (h : I 0 ρ) : ∃ ρ', forL g ρ ds = .ok (.nx ρ') ∧ I ds.length ρ' := by
  induction ds generalizing ρ I with
  | nil => exact ⟨ρ, rfl, h⟩
  | cons d ds ih =>
    obtain ⟨ρ1, h1, h2⟩ := step 0 ρ d rfl h
    obtain ⟨ρ2, h3, h4⟩ := ih (fun i => I (i + 1)) (fun i ρ d e hi => step (i + 1) ρ d (by simpa using e) hi) h2
    refine ⟨ρ2, ?_, h4⟩
    rw [forL_cons]
    rcases h1 with h1 | h1 <;> rw [h1] <;> exact h3
def endR : Out → Res D
  | .rt d => .ok d
  | .rtL ds => .ok (.list ds)
  | .nx _ => .ok .none
  | _ => .no
@[simp] theorem endR_rtL {d : List D} : endR (.rtL d) = .ok (.list d) := id rfl
def endF : Out → Res D
  | .rtL ds => .ok (.list ds)
  | _ => .no
@[simp] theorem endF_rtL {d : List D} : endF (.rtL d) = .ok (.list d) := id rfl
@[simp] theorem endR_rt {d : D} : endR (.rt d) = .ok d := id rfl
@[simp] theorem endR_nx : endR (.nx ρ) = .ok .none := id rfl
theorem evD_is {n : Nat} {b : Sm} {ds : List D} : evD F w n b ds = (evS F w (ds.map .val ++ List.replicate (n - ds.length) .un) b).bind endR := by
  unfold evD
  congr 1
end
theorem evDF_is {F : Str → List D → Res D} {w n : Nat} {b : Sm} {ds : List D} : evDF F w n b ds = (evS F w (ds.map .val ++ List.replicate (n - ds.length) .un) b).bind endF := by
  unfold evDF
  congr 1
theorem compL_map {f : D → Res (Option D)} {g : D → D} : ∀ {ds : List D}, (∀ d ∈ ds, f d = .ok (some (g d))) → compL f ds = .ok (ds.map g)
  | [], _ => rfl
  | d :: ds, h => by
    unfold compL
    rw [h d List.mem_cons_self, compL_map fun e he => h e (List.mem_cons_of_mem _ he)]
    rfl
theorem item_one {F : Str → List D → Res D} {ν : List (Option D)} {elt : Ex} {i : Nat} {own : List Nat} {d : D} : itemR F ν elt (.cst (.bool true)) (.inl i) own d = (evE F ((wipeD ν own).set i (some d)) elt).noErr.bind fun x => .ok (some x) := by
  unfold itemR
  simp [setTg]
theorem item_two {F : Str → List D → Res D} {ν : List (Option D)} {elt : Ex} {i j : Nat} {own : List Nat} {a b : D} : itemR F ν elt (.cst (.bool true)) (.inr [i, j]) own (.tuple [a, b]) = (evE F (((wipeD ν own).set i (some a)).set j (some b)) elt).noErr.bind fun x => .ok (some x) := by
  unfold itemR
  simp [setTg, setAll]
@[simp] theorem wipe_nil {ν : List (Option D)} : wipeD ν [] = ν := id rfl
@[simp] theorem wipe_cons {ν : List (Option D)} {i : Nat} {is : List Nat} : wipeD ν (i :: is) = (wipeD ν is).set i none := id rfl
theorem run_is {P : Tab} {w k : Nat} {f : Str} {ds : List D} {d : DefI} (h : P.lookup f = some d) : run P w (k + 1) f ds = evD (run P w k) w d.N.length d.body ds := by
  unfold run
  rw [h]
end Pe

set_option Elab.async false
set_option linter.all false
set_option maxRecDepth 100000
set_option maxHeartbeats 4000000
/-! DN: the numbers that a law draws; words. -/
namespace Pe
open PySem L2
def nb_body : Sm := (.ife (.var 3) (.seq (.app 5 (.bin .Mod (.bf .int (.acons (.var 4) .anil)) (.cst (.int 1000))) false []) (.set 4 (.bin .FloorDiv (.var 4) (.cst (.int 1000))) false [])) (.seq (.set 7 (.bin .Mod (.bf .int (.acons (.bin .Add (.bin .Add (.bin .Add (.bin .Mult (.var 4) (.cst (.int 48271))) (.bin .Mult (.var 1) (.cst (.int 69621)))) (.bin .Mult (.var 6) (.cst (.int 16807)))) (.cst (.int 7))) .anil)) (.cst (.int 2147483647))) false []) (.seq (.set 7 (.bin .Mod (.bf .int (.acons (.bin .Add (.bin .Add (.bin .Mult (.var 7) (.var 7)) (.bin .Mult (.var 6) (.cst (.int 40692)))) (.cst (.int 3))) .anil)) (.cst (.int 2147483629))) false []) (.seq (.set 7 (.bin .Mod (.bf .int (.acons (.bin .Add (.bin .Add (.bin .Mult (.var 7) (.var 7)) (.bin .Mult (.var 1) (.cst (.int 30269)))) (.cst (.int 5))) .anil)) (.cst (.int 2147483587))) false []) (.app 5 (.bin .Mod (.bf .int (.acons (.bin .FloorDiv (.var 7) (.cst (.int 5))) .anil)) (.cst (.int 1000))) false [])))))
def b_numbers : Sm := (.seq (.set 3 (.cmp .GtE (.bf .abs (.acons (.bf .int (.acons (.var 0) .anil)) .anil)) (.bin .Pow (.cst (.int 10)) (.cst (.int 18)))) false []) (.seq (.set 4 (.bin .Add (.bin .Mult (.cst (.int 2)) (.bf .abs (.acons (.bf .int (.acons (.var 0) .anil)) .anil))) (.bf .int (.acons (.cmp .Lt (.var 0) (.cst (.int 0))) .anil))) false []) (.seq (.new 5 (.lst .anil) false []) (.seq (.for_ (.inl 6) (.rng (.cst (.int 0)) (.var 2)) [] nb_body) (.ret (.var 5) [5])))))
theorem small_of {i : Int} (h : i.natAbs < 18446744073709551616) : small i = true := decide_eq_true h
theorem mulOk_r {i j : Int} (h : small j = true) : mulOk i j = true := by unfold mulOk; rw [h]; rfl
theorem mulOk_l {i j : Int} (h : small i = true) : mulOk i j = true := by unfold mulOk; rw [h]; simp
theorem range_at {i j : Int} {n : Nat} {d : D} (h : (rangeL i j)[n]? = some d) : d = .int (i + n) := by
  unfold rangeL at h
  rw [List.getElem?_map] at h
  cases e : (List.range (j - i).toNat)[n]? with
  | none => rw [e] at h; cases h
  | some m =>
    rw [e] at h
    cases h
    rw [List.getElem?_range] at e
    · cases e; rfl
    · obtain ⟨hk, _⟩ := List.getElem?_eq_some_iff.mp e
      simpa using hk
def Nums (n : Nat) (ns : List Int) : Prop := ns.length = n ∧ ∀ x ∈ ns, 0 ≤ x ∧ x < 1000
def NI (c at_ : Int) (n : Nat) (great : Bool) (i : Nat) (ρ : List Sl) : Prop := ∃ (xs : List Int) (rest : Int) (k m : Sl), ρ = [.val (.int c), .val (.int at_), .val (.int n), .val (.bool great), .val (.int rest), .own (.list (xs.map .int)), k, m] ∧ xs.length = i ∧ ∀ x ∈ xs, 0 ≤ x ∧ x < 1000
section
variable {F : Str → List D → Res D} {w : Nat} {c at_ : Int} {n : Nat}
theorem nb_t {xs : List Int} {rest : Int} {k m : Sl} {i : Nat} (hs : xs.length < sizeLine) : stepF F w (.inl 6) nb_body [.val (.int c), .val (.int at_), .val (.int n), .val (.bool true), .val (.int rest), .own (.list (xs.map .int)), k, m] (.int i) =
    .ok (.nx [.val (.int c), .val (.int at_), .val (.int n), .val (.bool true), .val (.int (rest / 1000)), .own (.list ((xs ++ [rest % 1000]).map .int)), .val (.int i), m]) := by
  simp [nb_body, w_app, appR, hs]
def mx1 (rest at_ i : Int) : Int := (rest * 48271 + at_ * 69621 + i * 16807 + 7) % 2147483647
def mx2 (rest at_ i : Int) : Int := (mx1 rest at_ i * mx1 rest at_ i + i * 40692 + 3) % 2147483629
def mx3 (rest at_ i : Int) : Int := (mx2 rest at_ i * mx2 rest at_ i + at_ * 30269 + 5) % 2147483587
theorem nb_f {xs : List Int} {rest : Int} {k m : Sl} {i : Nat} (hs : xs.length < sizeLine) : stepF F w (.inl 6) nb_body [.val (.int c), .val (.int at_), .val (.int n), .val (.bool false), .val (.int rest), .own (.list (xs.map .int)), k, m] (.int i) =
    .ok (.nx [.val (.int c), .val (.int at_), .val (.int n), .val (.bool false), .val (.int rest), .own (.list ((xs ++ [mx3 rest at_ i / 5 % 1000]).map .int)), .val (.int i), .val (.int (mx3 rest at_ i))]) := by
  have e48 : ∀ a, mulOk a 48271 = true := fun a => mulOk_r (by decide)
  have e69 : ∀ a, mulOk a 69621 = true := fun a => mulOk_r (by decide)
  have e16 : ∀ a, mulOk a 16807 = true := fun a => mulOk_r (by decide)
  have e40 : ∀ a, mulOk a 40692 = true := fun a => mulOk_r (by decide)
  have e30 : ∀ a, mulOk a 30269 = true := fun a => mulOk_r (by decide)
  have mm : ∀ j : Int, 0 ≤ j → j < 2147483647 → mulOk j j = true := fun j h0 h1 => mulOk_r (small_of (by omega))
  have f1 : (rest * 48271 + at_ * 69621 + (i : Int) * 16807 + 7) % 2147483647 = mx1 rest at_ i := rfl
  have f2 : (mx1 rest at_ i * mx1 rest at_ i + (i : Int) * 40692 + 3) % 2147483629 = mx2 rest at_ i := rfl
  have f3 : (mx2 rest at_ i * mx2 rest at_ i + at_ * 30269 + 5) % 2147483587 = mx3 rest at_ i := rfl
  have g1 : mulOk (mx1 rest at_ i) (mx1 rest at_ i) = true := mm _ (by unfold mx1; omega) (by unfold mx1; omega)
  have g2 : mulOk (mx2 rest at_ i) (mx2 rest at_ i) = true := mm _ (by unfold mx2; omega) (by unfold mx2; omega)
  simp [nb_body, w_app, appR, hs, e48, e69, e16, e40, e30, f1, f2, f3, g1, g2]
theorem nb_step (hn : n ≤ 1000000) {great : Bool} : ∀ i ρ d, (rangeL 0 n)[i]? = some d → NI c at_ n great i ρ → ∃ ρ', (stepF F w (.inl 6) nb_body ρ d = .ok (.nx ρ') ∨ stepF F w (.inl 6) nb_body ρ d = .ok (.ct ρ')) ∧ NI c at_ n great (i + 1) ρ' := by
  rintro i ρ d hd ⟨xs, rest, k, m, rfl, hl, hx⟩
  have hi : i < n := by
    have := (List.getElem?_eq_some_iff.mp hd).1
    rw [rangeL_len] at this
    omega
  have hd' := range_at hd
  rw [Int.zero_add] at hd'
  subst hd'
  have hs : xs.length < sizeLine := by rw [sizeLine_eq]; omega
  have more : ∀ y : Int, 0 ≤ y → y < 1000 → ∀ x ∈ xs ++ [y], 0 ≤ x ∧ x < 1000 := fun y h0 h1 x hx' => by
    rcases List.mem_append.mp hx' with h | h
    · exact hx x h
    · rw [List.mem_singleton] at h
      subst h
      exact ⟨h0, h1⟩
  cases great with
  | true => exact ⟨_, .inl (nb_t hs), _, _, _, _, rfl, by simp [hl], more _ (by omega) (by omega)⟩
  | false => exact ⟨_, .inl (nb_f hs), _, _, _, _, rfl, by simp [hl], more _ (by omega) (by omega)⟩
theorem nb_start (hn : n ≤ 1000000) : ∃ (great : Bool) (rest : Int), evD F w 8 b_numbers [.int c, .int at_, .int n] = ((forL (stepF F w (.inl 6) nb_body) [.val (.int c), .val (.int at_), .val (.int n), .val (.bool great), .val (.int rest), .own (.list []), .un, .un] (rangeL 0 n)).bind (thenS F w (.ret (.var 5) [5]))).bind endR := by
  have m2 : ∀ j : Int, mulOk 2 j = true := fun j => mulOk_l (by decide)
  have r : rngR (.int 0) (.int n) = .ok (.list (rangeL 0 n)) := rngR_int (by omega) (by omega) (by omega) (by omega)
  generalize hr : evD F w 8 b_numbers [.int c, .int at_, .int n] = q
  simp only [evD_is, b_numbers, List.map_cons, List.map_nil, List.length_cons, List.length_nil, List.cons_append, List.nil_append, w_seq, w_set, evK_f, frz_nil, vwN_cons, fix_val, v_cmp, v_bf, v_acons, v_var, List.getElem?_cons_zero, Res.bind_ok, v_anil, listR_l, f_int, f_abs, Res.ofO_some, v_bin, v_cst, c_ge] at hr
  simp [m2, w_for, r] at hr
  exact ⟨_, _, hr.symm⟩
theorem numbers_ok (c at_ : Int) (n : Nat) (hn : n ≤ 1000000) : ∃ ns, evD F w 8 b_numbers [.int c, .int at_, .int n] = .ok (.list (ns.map .int)) ∧ Nums n ns := by
  obtain ⟨great, rest, e⟩ := nb_start (F := F) (w := w) (c := c) (at_ := at_) hn
  obtain ⟨ρ', h1, xs, rest', k, m, rfl, h3, h4⟩ := forL_inv (NI c at_ n great) (nb_step (F := F) (w := w) hn) ⟨[], rest, .un, .un, rfl, rfl, fun x hx => by cases hx⟩
  rw [List.map_nil] at h1
  rw [e, h1]
  refine ⟨xs, by simp, ?_, h4⟩
  rw [h3, rangeL_len]
  omega
end
end Pe

set_option Elab.async false
set_option linter.all false
set_option maxRecDepth 100000
set_option maxHeartbeats 4000000
/-! DI: what changes things, as data: helps. -/
namespace Im
open PySem PySem.Spec PyProof.Rows L2 Pe
theorem runI_is {P : Tab} {PJ : TabJ} {w k : Nat} {x : Str} {d : DefJ} {ws : List W} {A : Hv} (h : PJ.lookup x = some d) : runI P PJ w (k + 1) x ws A = evDI (run P w k) (runI P PJ w k) w d.N.length d.body ws A := by
  show (match PJ.lookup x with
    | some d => evDI (run P w k) (runI P PJ w k) w d.N.length d.body ws A
    | none => .no) = _
  rw [h]
def DefJ.npT (d : DefJ) : Option Nat := if d.wh.isTop = true then some d.np else none
theorem ifns_of {TI : TblI} {P : TabJ} (h : TI.ifns.all (fun p => (P.lookup p.1).bind (·.npT) == some p.2) = true) (x : Str) (n : Nat) (e : TI.ifns.lookup x = some n) : ∃ d, P.lookup x = some d ∧ d.np = n ∧ d.wh = .top := by
  have h1 := List.all_eq_true.mp h _ (mem_look e)
  have h2 : (P.lookup x).bind (·.npT) = some n := eq_of_beq h1
  cases q : P.lookup x with
  | none => rw [q] at h2; cases h2
  | some d =>
    rw [q] at h2
    have h3 : (if d.wh.isTop = true then some d.np else none) = some n := h2
    obtain ⟨a, b⟩ := of_ite_some h3
    refine ⟨d, rfl, b, ?_⟩
    cases e2 : d.wh <;> first | rfl | (rw [e2] at a; cases a)
/-- a def of the top -/
theorem defJ_of {K : PySem.W.Frag} {mg : Str → Option Value} {h : Heap} {T : Tbl} {TI : TblI} {x : Str} {d : DefJ} {f : Addr} {oc : Value} {od an : Option Addr} {osl : Array (Option Value)} {kV doc pm cdv ct : Value} (X : K.In h) (G : h.Ns mainGlobals mg)
    (a : PySem.W.nsIn K mainGlobals x = some (some (.ref f))) (l : K.lookup f = some ⟨oc, od, .func (PySem.W.fnOf x x (defArgs d.st) (defBody d.st) (defScope d.st) .none kV doc pm an cdv ct), osl⟩) (c : PySem.W.codeIn K cdv x = true) (k : PySem.W.keepIn K (.ref f) = true)
    (bd : ∀ (kV doc pm : Value) (an : Option Addr) (cdv ct : Value) (us : List Value), us.length = d.ps.length → bindArgs (PySem.W.fnOf x x (defArgs d.st) (defBody d.st) (defScope d.st) .none kV doc pm an cdv ct) ⟨us, []⟩ = pure (d.ps.zip us))
    (sc : FnScope d.N d.ps (defScope d.st)) (cb : ∃ n ap k, cBI (cSI d.N n (defScope d.st) ap T TI k) (defBody d.st) = some d.body) (hw : d.wh = .top := by rfl) : DefJOk K mg T TI x d :=
  have F := fun_mk l c k
  ⟨⟨f, PySem.W.fnOf x x (defArgs d.st) (defBody d.st) (defScope d.st) .none kV doc pm an cdv ct, by rw [hw]; exact F, by rw [hw]; exact PySem.W.mg_of X G a, F.binds bd⟩, .inr ⟨sc, cb⟩⟩
end Im
namespace Im
open PySem L2 Pe
/-! ### equations -/
section
variable {F : FP} {I : FW} {ρ : Ro} {A : Hv} {w : Nat}
theorem mapO_dat {k : Nat} : ∀ ds : List D, mapO (deep k A) (ds.map .dat) = some ds
  | [] => rfl
  | d :: ds => by
    have e : deep k A (.dat d) = some d := by cases k <;> rfl
    simp only [List.map_cons, mapO, e, mapO_dat ds, Option.map_some]
theorem deep_l {n : Nat} {ds : List D} (h : A[n]? = some (.lst (ds.map .dat))) : deep dpF A (.ref n) = some (.list ds) := by
  unfold dpF deep
  rw [h]
  show (mapO (deep 7 A) (ds.map .dat)).map PyData.list = _
  rw [mapO_dat]
  rfl
@[simp] theorem deep_d {d : D} : deep dpF A (.dat d) = some d := id rfl
@[simp] theorem vwN_nil : Im.vwN [] = [] := id rfl
@[simp] theorem vwN_dat {d : D} {r : Ro} : Im.vwN (some (.dat d) :: r) = some d :: Im.vwN r := id rfl
@[simp] theorem vwN_ref {n : Nat} {r : Ro} : Im.vwN (some (.ref n) :: r) = none :: Im.vwN r := id rfl
@[simp] theorem vwN_none {r : Ro} : Im.vwN (none :: r) = none :: Im.vwN r := id rfl
@[simp] theorem vwW_nil : vwW A [] = [] := id rfl
@[simp] theorem vwW_some {u : W} {r : Ro} : vwW A (some u :: r) = deep dpF A u :: vwW A r := id rfl
@[simp] theorem vwW_none {r : Ro} : vwW A (none :: r) = none :: vwW A r := id rfl
def isRf : Option (Option W) → Bool
  | some (some (.ref _)) => true
  | _ => false
@[simp] theorem isRf_ref {n : Nat} : isRf (some (some (.ref n))) = true := id rfl
@[simp] theorem isRf_dat {d : D} : isRf (some (some (.dat d))) = false := id rfl
@[simp] theorem isRf_no : isRf (some none) = false := id rfl
@[simp] theorem isRf_none : isRf none = false := id rfl
@[simp] theorem allD_nil : allD ρ [] = true := id rfl
@[simp] theorem allD_cons {i : Nat} {vs : List Nat} : allD ρ (i :: vs) = (!isRf ρ[i]? && allD ρ vs) := by
  unfold allD
  rw [List.all_cons]
  congr 1
  cases ρ[i]? with
  | none => rfl
  | some o => cases o with
    | none => rfl
    | some u => cases u <;> rfl
@[simp] theorem puW_is {x : Ex} {vs : List Nat} : puW F A ρ x vs = if allD ρ vs = true then fin A true (evE F (Im.vwN ρ) x) else fin A false (evE F (vwW A ρ) x) := id rfl
@[simp] theorem nuW_is {x : Ex} {vs : List Nat} : nuW F A ρ x vs = if allD ρ vs = true then newL A true (evE F (Im.vwN ρ) x) else newL A false (evE F (vwW A ρ) x) := id rfl
@[simp] theorem fin_t {d : D} : fin A true (.ok d) = .ok (.dat d) A := id rfl
@[simp] theorem fin_f {d : D} : fin A false (.ok d) = if noL d = true then .ok (.dat d) A else .no := by
  show (if false = true ∨ noL d = true then Ri.ok (Im.W.dat d) A else .no) = _
  simp
@[simp] theorem noL_int {i : Int} : noL (.int i) = true := id rfl
@[simp] theorem noL_bool {i : Bool} : noL (.bool i) = true := id rfl
@[simp] theorem noL_str {i : Str} : noL (.str i) = true := id rfl
@[simp] theorem noL_none : noL .none = true := id rfl
@[simp] theorem newL_t {ds : List D} : newL A true (.ok (.list ds)) = .ok (.ref A.length) (A ++ [.lst (ds.map .dat)]) := id rfl
@[simp] theorem x_pu' {x : Ex} {vs : List Nat} : evX F I ρ A (.pu x vs) = puW F A ρ x vs := by simp only [evX]
@[simp] theorem x_nu' {x : Ex} {vs : List Nat} : evX F I ρ A (.nu x vs) = nuW F A ρ x vs := by simp only [evX]
def atR (A : Hv) : Option (Option W) → Ri W
  | some (some w) => .ok w A
  | _ => .no
@[simp] theorem atR_s {u : W} : atR A (some (some u)) = .ok u A := id rfl
@[simp] theorem x_var' {i : Nat} : evX F I ρ A (.var i) = atR A ρ[i]? := by
  simp only [evX]
  unfold atR
  rfl
@[simp] theorem x_callI' {g : Str} {as : Ia} : evX F I ρ A (.callI g as) = (evIa F I ρ A as).bind fun ws A1 => I g ws A1 := by simp only [evX]
@[simp] theorem a_nil : evIa F I ρ A .nil = .ok [] A := by simp only [evIa]
@[simp] theorem a_cons {a : Ix} {r : Ia} : evIa F I ρ A (.cons a r) = (evX F I ρ A a).bind fun w A1 => (evIa F I ρ A1 r).bind fun ws A2 => .ok (w :: ws) A2 := by simp only [evIa]
@[simp] theorem s_set' {i : Nat} {x : Ix} : evI F I w ρ A (.set i x) = (evX F I ρ A x).bind fun u A1 => .ok (.nx (ρ.set i (some u))) A1 := by simp only [evI]
@[simp] theorem s_dro' {x : Ix} : evI F I w ρ A (.dro x) = (evX F I ρ A x).bind fun _ A1 => .ok (.nx ρ) A1 := by simp only [evI]
@[simp] theorem s_ret' {x : Ix} : evI F I w ρ A (.ret x) = (evX F I ρ A x).bind fun u A1 => .ok (.rt u) A1 := by simp only [evI]
@[simp] theorem s_pass' : evI F I w ρ A .pass = .ok (.nx ρ) A := by simp only [evI]
@[simp] theorem s_ife' {c : Tt} {a b : Si} : evI F I w ρ A (.ife c a b) = (evTt F I ρ A c).bind fun k A1 => if k = true then evI F I w ρ A1 a else evI F I w ρ A1 b := by simp only [evI]
@[simp] theorem s_sto' {o i v : Ix} : evI F I w ρ A (.sto o i v) = (evX F I ρ A v).bind fun u A1 => (evX F I ρ A1 o).bind fun ow A2 => (evX F I ρ A2 i).bind fun iw A3 => (stoW A3 ow iw u).bind fun _ A4 => .ok (.nx ρ) A4 := by simp only [evI]
def puR (A : Hv) : Res Bool → Ri Bool
  | .ok b => .ok b A
  | .err e => if e.args.all noL = true then .err e A else .no
  | .no => .no
@[simp] theorem puR_ok {b : Bool} : puR A (.ok b) = .ok b A := id rfl
@[simp] theorem t_pu' {x : Ex} {vs : List Nat} : evTt F I ρ A (.pu x vs) = puR A ((evE F (vwW A ρ) x).bind fun d => Res.ofO (truD d)) := by
  simp only [evTt]
  rfl
theorem seq_nx {ρ' : Ro} {A' : Hv} {a b : Si} (h : evI F I w ρ A a = .ok (.nx ρ') A') : evI F I w ρ A (.seq a b) = evI F I w ρ' A' b := by
  simp only [evI]
  rw [h]
  rfl
theorem s_forR' {tg : Sum Nat (List Nat)} {a b : Ix} {body : Si} : evI F I w ρ A (.forR tg a b body) = (evX F I ρ A a).bind fun u A1 => (evX F I ρ A1 b).bind fun v A2 => (rngW u v).bindW fun ds => forI (stepI F I w tg body) ρ A2 ds := by
  simp only [evI]
  rfl
@[simp] theorem stepI_one {i : Nat} {b : Si} {d : W} : stepI F I w (.inl i) b ρ A d = evI F I w (ρ.set i (some d)) A b := id rfl
theorem forI_nx {g : Ro → Hv → W → Ri OutI} {d : W} {ds : List W} {ρ' : Ro} {A' : Hv} (h : g ρ A d = .ok (.nx ρ') A') : forI g ρ A (d :: ds) = forI g ρ' A' ds := by
  show (g ρ A d).bind (nextI fun ρ' A' => forI g ρ' A' ds) = _
  rw [h]
  rfl
theorem forI_inv {g : Ro → Hv → W → Ri OutI} {ds : List W} (J : Nat → Ro → Hv → Prop) (step : ∀ i ρ A d, ds[i]? = some d → J i ρ A → ∃ ρ' A', g ρ A d = .ok (.nx ρ') A' ∧ J (i + 1) ρ' A') {ρ : Ro} {A : Hv} (h : J 0 ρ A) : ∃ ρ' A', forI g ρ A ds = .ok (.nx ρ') A' ∧ J ds.length ρ' A' := by
  induction ds generalizing ρ A J with
  | nil => exact ⟨ρ, A, rfl, h⟩
  | cons d ds ih =>
    obtain ⟨ρ1, A1, h1, h2⟩ := step 0 ρ A d rfl h
    obtain ⟨ρ2, A2, h3, h4⟩ := ih (fun i => J (i + 1)) (fun i ρ A d e hi => step (i + 1) ρ A d (by simpa using e) hi) h2
    exact ⟨ρ2, A2, (forI_nx h1).trans h3, h4⟩
def endI : OutI → Hv → Ri W
  | .rt u, A => .ok u A
  | .nx _, A => .ok (.dat .none) A
  | _, _ => .no
@[simp] theorem endI_rt {u : W} : endI (.rt u) A = .ok u A := id rfl
@[simp] theorem endI_nx : endI (.nx ρ) A = .ok (.dat .none) A := id rfl
theorem evDI_is {n : Nat} {b : Si} {ws : List W} : evDI F I w n b ws A = (evI F I w (ws.map some ++ List.replicate (n - ws.length) none) A b).bind endI := by
  unfold evDI
  congr 1
  funext o A'
  cases o <;> rfl
theorem compL_at {f : D → Res (Option D)} : ∀ {ds : List D} {os : List (Option D)}, ds.length = os.length → (∀ (i : Nat) (d : D) (o : Option D), ds[i]? = some d → os[i]? = some o → f d = .ok o) → compL f ds = .ok (os.filterMap id)
  | [], [], _, _ => rfl
  | [], _ :: _, h, _ => by cases h
  | _ :: _, [], h, _ => by cases h
  | d :: ds, o :: os, h, k => by
    have ih := compL_at (f := f) (ds := ds) (os := os) (by simpa using h) fun i d o h1 h2 => k (i + 1) d o (by simpa using h1) (by simpa using h2)
    unfold compL
    rw [k 0 d o rfl rfl, ih]
    cases o <;> rfl
end
end Im

set_option Elab.async false
set_option linter.all false
set_option maxRecDepth 100000
set_option maxHeartbeats 4000000
/-! Tq: own errors and classes, seen at the top. -/
namespace Pe
open PySem L2
def headS : List Stmt → Stmt → Stmt
  | s :: _, _ => s
  | [], s => s
def initS (s : Stmt) : Stmt := match s with
  | .ClassDef (body := b) .. => headS b s
  | s => s
theorem co_of {K : PySem.W.Frag} {T : Tbl} {c : Str} {inf : ErI} {C : Addr} (el : T.ers.lookup c = some inf) (aC : PySem.W.nsIn K mainGlobals c = some (some (.ref C))) : coOf K T c inf.fs inf.ups = some C := by
  unfold coOf
  rw [el, aC]
  simp
theorem ert_of {K : PySem.W.Frag} {mg : Str → Option Value} {h : Heap} {T : Tbl} {c : Str} {inf : ErI} {C fI N : Addr} {f : Str} {fs : List Str} {st : Stmt} {qual nm q : Str} {bs bm : List Value} {sn : List Str} {sub : List Value} {ab : Bool} {col : Option Bool} {dd : Option Addr} {k0 k1 k2 k3 k5 : Option Value}
    {oc : Value} {od an : Option Addr} {osl : Array (Option Value)} {kV doc pm cdv ct : Value} (X : K.In h) (G : h.Ns mainGlobals mg) (el : T.ers.lookup c = some inf) (ef : inf.fs = f :: fs)
    (aC : PySem.W.nsIn K mainGlobals c = some (some (.ref C)))
    (xL : K.lookup C = some (excClassObj nm q C N bs bm true sn sub ab col dd k0 k1 k2 k3 k5 "ValueError.__new__")) (rv : HandSPX.refsVE bm = true)
    (sa : PySem.W.findIn K (.ref C) "__setattr__" = some (some (.builtin "object.__setattr__"))) (ex : PySem.W.subIn K (.ref C) (.type "BaseException") = some true) (kC : PySem.W.keepIn K (.ref C) = true)
    (iC : PySem.W.findIn K (.ref C) "__init__" = some (some (.ref fI))) (tI : PySem.W.typeIn K (.ref fI) = some (.type "function"))
    (l : K.lookup fI = some ⟨oc, od, .func (PySem.W.fnOf "__init__" qual (defArgs st) (defBody st) (defScope st) .none kV doc pm an cdv ct), osl⟩) (c1 : PySem.W.codeIn K cdv qual = true) (kI : PySem.W.keepIn K (.ref fI) = true)
    (bd : ∀ (kV doc pm : Value) (an : Option Addr) (cdv ct : Value) (us : List Value), us.length = (("self" : Str) :: f :: fs).length → bindArgs (PySem.W.fnOf "__init__" qual (defArgs st) (defBody st) (defScope st) .none kV doc pm an cdv ct) ⟨us, []⟩ = pure ((("self" : Str) :: f :: fs).zip us))
    (sc : FnScope (("self" : Str) :: f :: fs) (("self" : Str) :: f :: fs) (defScope st)) (ib : initB (f :: fs) (defBody st) = true) (nd : (f :: fs).Nodup) (ng : ∀ g ∈ ("self" : Str) :: f :: fs, g ≠ "__debug__" ∧ g ≠ "__classdict__") (ln : fs.length ≤ 800) : ErT K mg (coOf K T) c inf :=
  have F := fun_mk l c1 kI
  have ty : PySem.W.typeIn K (.ref C) = some (.type "type") := by
    show (K.lookup C).map _ = _
    rw [xL]; rfl
  ⟨⟨C, fI, _, st, qual, f, fs, ef, PySem.W.mg_of X G aC, co_of el aC, ⟨⟨_, _, _, _, _, _, _, _, _, _, _, _, _, _, _, xL, rv⟩, sa, ex, ty, kC⟩, iC, tI, F, sc, ib, nd, ng, ln, F.binds bd⟩⟩
structure Fine (K : PySem.W.Frag) (u : Value) : Prop where
  bx : PySem.W.subIn K u (.type "BaseException") = some true
  kc : ∀ t, PySem.W.kitCls K t u = PySem.W.subIn K t u
theorem clsE_own {K : PySem.W.Frag} {mg : Str → Option Value} {h : Heap} {c : Str} {C : Addr} (X : K.In h) (G : h.Ns mainGlobals mg) (nd : c ≠ "__debug__") (a : PySem.W.nsIn K mainGlobals c = some (some (.ref C))) (hc : PySem.W.isClsIn K C = true) (ht : PySem.W.typeIn K (.ref C) = some (.type "type")) (hx : PySem.W.subIn K (.ref C) (.type "BaseException") = some true) : ClsN mg c (.ref C) ∧ Fine K (.ref C) := by
  refine ⟨⟨.inl ⟨PySem.W.mg_of X G a, C, rfl⟩, nd⟩, hx, fun t => ?_⟩
  show (if ((PySem.W.clsIn K C).isSome && PySem.W.typeIn K (Value.ref C) == some (Value.type "type")) = true then PySem.W.subIn K t (Value.ref C) else none) = _
  rw [show (PySem.W.clsIn K C).isSome = true from hc, ht]
  rfl
theorem clsE_blt {K : PySem.W.Frag} {mg : Str → Option Value} {h : Heap} {c : Str} {n : String} (X : K.In h) (G : h.Ns mainGlobals mg) (nd : c ≠ "__debug__") (nn : c ≠ "__name__") (b : bootBuiltins c = some (.type n)) (m : PySem.W.kitMeta n = true) (a : PySem.W.nsIn K mainGlobals c = some none) (hx : PySem.W.subIn K (.type n) (.type "BaseException") = some true) : ClsN mg c (.type n) ∧ Fine K (.type n) := by
  refine ⟨⟨.inr ⟨PySem.W.mg_none_of X G a, b, nn, n, rfl⟩, nd⟩, hx, fun t => ?_⟩
  show (if PySem.W.kitMeta n = true then PySem.W.subIn K t (Value.type n) else none) = _
  rw [if_pos m]
def cnL (l : List (Str × Value)) (c : Str) : Value := (l.lookup c).getD .none
def NF (K : PySem.W.Frag) (C : Addr) : List Str → Prop
  | [] => True
  | f :: r => PySem.W.findIn K (.ref C) f = some none ∧ NF K C r
theorem nf_all {K : PySem.W.Frag} {C : Addr} : ∀ {fs : List Str}, NF K C fs → ∀ f ∈ fs, PySem.W.findIn K (.ref C) f = some none
  | f :: r, h, g, m => by
    rcases List.mem_cons.mp m with rfl | m
    · exact h.1
    · exact nf_all h.2 g m
theorem erc_of {K : PySem.W.Frag} {cn : Str → Value} {cls fs ups : List Str} {C N : Addr} {nm q : Str} {bs bm : List Value} {sn : List Str} {sub : List Value} {ab : Bool} {col : Option Bool} {dd : Option Addr} {k0 k1 k2 k3 k5 : Option Value}
    (xL : K.lookup C = some (excClassObj nm q C N bs bm true sn sub ab col dd k0 k1 k2 k3 k5 "ValueError.__new__"))
    (hn : PySem.W.specialIn K (.builtin "object.__class__") "__get__" = some (some (.builtin "getset_descriptor.__get__"))) (ht : PySem.W.takesIn K (.builtin "object.__class__") = some true)
    (ga : PySem.W.findIn K (.ref C) "__getattribute__" = some (some (.builtin "BaseException.__getattribute__"))) (gg : PySem.W.findIn K (.ref C) "__getattr__" = some none) (ha : PySem.W.findIn K (.ref C) "__class__" = some (some (.builtin "object.__class__")))
    (ho : (Value.ref C :: bm).contains (.type "object") = true) (hb : (Value.ref C :: bm).contains (.type "BaseException") = true)
    (nf : NF K C fs) (F : ∀ c ∈ cls, Fine K (cn c)) (mt : ∀ c ∈ cls, (Value.ref C :: bm).contains (cn c) = ups.contains c) : ErC K cn cls C fs ups := by
  have hc : PySem.W.clsIn K C = some { name := nm, bases := bs, mro := .ref C :: bm, ns := N, qualname := q, hasDict := true, slotNames := sn, subclasses := sub, abstract := ab, collection := col } := by
    unfold PySem.W.clsIn
    rw [xL]
  have hm : ∀ u, PySem.W.mroIn K C u = some ((Value.ref C :: bm).contains u) := fun u => by
    unfold PySem.W.mroIn
    rw [hc]
    rfl
  have hd : PySem.W.hasDictIn K C = true := by
    unfold PySem.W.hasDictIn
    rw [hc]
    rfl
  have hs : PySem.W.subIn K (.ref C) (.type "BaseException") = some true := by
    show PySem.W.mroIn K C _ = _
    rw [hm, hb]
  have hk : ∀ c ∈ cls, PySem.W.kitCls K (.ref C) (cn c) = some (ups.contains c) := fun c m => by
    rw [(F c m).kc]
    show PySem.W.mroIn K C _ = _
    rw [hm, mt c m]
  refine ⟨⟨ga, gg, hs, hd, ha, hn, ht, by rw [hm, ho]⟩, ⟨ga, gg, hs, hd⟩, nf_all nf, fun c m => ?_, fun c m => ?_⟩
  · unfold PySem.W.exmOne
    rw [(F c m).bx, hk c m]
    rfl
  · unfold PySem.W.kitOne
    by_cases e : (Value.ref C == cn c) = true
    · rw [if_pos e, ← mt c m, ← eq_of_beq e, List.contains_cons, beq_self_eq_true]
      rfl
    · rw [if_neg e, hk c m]
theorem cls_of {K : PySem.W.Frag} {mg : Str → Option Value} {T : Tbl} (l : List (Str × Value)) (hl : T.cls = l.map Prod.fst) (N : AllL (fun p => ClsN mg p.1 p.2 ∧ Fine K p.2) l)
    (E : (∀ c ∈ T.cls, Fine K (cnL l c)) → AllL (fun p : Str × ErI => ∃ C, PySem.W.nsIn K mainGlobals p.1 = some (some (.ref C)) ∧ ErC K (cnL l) T.cls C p.2.fs p.2.ups) T.ers) :
    ∃ cn : Str → Value, (∀ c ∈ T.cls, ClsN mg c (cn c)) ∧ ∀ c fs ups C, coOf K T c fs ups = some C → ErC K cn T.cls C fs ups := by
  have at_ : ∀ c ∈ T.cls, ClsN mg c (cnL l c) ∧ Fine K (cnL l c) := fun c m => by
    rw [hl] at m
    have key : ∀ l : List (Str × Value), AllL (fun p => ClsN mg p.1 p.2 ∧ Fine K p.2) l → c ∈ l.map Prod.fst → ClsN mg c (cnL l c) ∧ Fine K (cnL l c) := by
      intro l
      induction l with
      | nil => intro _ m; cases m
      | cons p r ih =>
        intro N m
        unfold cnL
        rw [List.lookup_cons]
        by_cases e : c = p.1
        · subst e
          rw [beq_self_eq_true]
          exact N.1
        · rw [beq_eq_false_iff_ne.mpr e]
          rw [List.map_cons, List.mem_cons] at m
          exact ih N.2 (m.resolve_left e)
    exact key l N m
  refine ⟨cnL l, fun c m => (at_ c m).1, fun c fs ups C h => ?_⟩
  unfold coOf at h
  cases e : T.ers.lookup c with
  | none => rw [e] at h; cases h
  | some inf =>
    rw [e] at h
    obtain ⟨C', hC, hE⟩ := allL_look (E fun c m => (at_ c m).2) c inf e
    dsimp only at h hC hE
    split at h
    · rename_i q
      obtain ⟨rfl, rfl⟩ := q
      rw [hC] at h
      cases h
      exact hE
    · cases h
theorem cls_of2 {K : PySem.W.Frag} {mg : Str → Option Value} {T : Tbl} {l : List (Str × Value)} (hl : T.cls = l.map Prod.fst)
    (hn : PySem.W.specialIn K (.builtin "object.__class__") "__get__" = some (some (.builtin "getset_descriptor.__get__"))) (ht : PySem.W.takesIn K (.builtin "object.__class__") = some true)
    (N : AllL (fun p => ClsN mg p.1 p.2 ∧ Fine K p.2) l)
    (E : (∀ c ∈ T.cls, Fine K (cnL l c)) → PySem.W.specialIn K (.builtin "object.__class__") "__get__" = some (some (.builtin "getset_descriptor.__get__")) → PySem.W.takesIn K (.builtin "object.__class__") = some true → AllL (fun p : Str × ErI => ∃ C, PySem.W.nsIn K mainGlobals p.1 = some (some (.ref C)) ∧ ErC K (cnL l) T.cls C p.2.fs p.2.ups) T.ers) :
    ∃ cn : Str → Value, (∀ c ∈ T.cls, ClsN mg c (cn c)) ∧ ∀ c fs ups C, coOf K T c fs ups = some C → ErC K cn T.cls C fs ups := cls_of l hl N fun F => E F hn ht
end Pe

set_option Elab.async false
set_option linter.all false
set_option maxRecDepth 100000
set_option maxHeartbeats 4000000
/-! K2m0: small helps for texts and lists. -/
namespace Pe
open PySem L2
theorem ofS_inj {a b : String} : Str.ofString a = Str.ofString b ↔ a = b := by
  constructor
  · intro h
    rw [Str.ofString_eq_toList, Str.ofString_eq_toList] at h
    have h1 : (a.toList.map Char.toNat) = (b.toList.map Char.toNat) := by
      have := congrArg (fun s : Str => s.cps.toList) h
      simpa using this
    have inj : Function.Injective Char.toNat := fun x y e => by
      apply Char.ext
      apply UInt32.toNat_inj.mp
      exact e
    have h2 := (List.map_inj_right (fun x y e => inj e)).mp h1
    exact String.toList_inj.mp h2
  · intro h; rw [h]
@[simp] theorem beq_lit {a b : String} : (Str.ofString a == Str.ofString b) = (a == b) := by
  by_cases h : a = b
  · subst h; simp
  · rw [beq_eq_false_iff_ne.mpr h, beq_eq_false_iff_ne.mpr fun e => h (ofS_inj.mp e)]
theorem le_size {n : Nat} (h : n ≤ 1000) : (n ≤ sizeLine) = True := eq_true (by rw [sizeLine_eq]; omega)
theorem shaped_s {z : Str} (h : ∀ c ∈ z.cps.toList, c < 55296) : SeqAt.shaped (.str z) = true := by
  simp [SeqAt.shaped, PyData.canLay0, PyData.depth, PyData.strOk]
  intro i hi
  have := h z.cps[i] (by simp)
  omega
theorem in_strs {n : Str} {as : List Str} (h : SeqAt.shaped (.str n) = true) (h2 : SeqAt.shaped (.tuple (as.map .str)) = true) : inB (.str n) (.tuple (as.map .str)) = some (as.any fun a => a == n) := by
  show (if _ then some _ else none) = _
  rw [if_pos ⟨h, h2⟩, List.any_map]
  refine congrArg some (congrArg (List.any as) (funext fun a => ?_))
  simp [PyData.eqv]
theorem cut_head {α : Type} {x : α} {xs : List α} : cutL (x :: xs) none (some 1) = [x] := by
  unfold cutL
  have h1 : HT.sIx (x :: xs).length (x :: xs).length (some 1) = min 1 (x :: xs).length := HT.sIx_nat _ _ 1
  have h0 : HT.sIx (x :: xs).length 0 none = 0 := rfl
  rw [h1, h0, List.length_cons, Nat.min_eq_left (by omega)]
  rfl
theorem cut_two {α : Type} {x y : α} {xs : List α} : cutL (x :: y :: xs) (some 2) none = xs := by
  unfold cutL
  have h1 : HT.sIx (x :: y :: xs).length 0 (some 2) = min 2 (x :: y :: xs).length := HT.sIx_nat _ _ 2
  have h0 : HT.sIx (x :: y :: xs).length (x :: y :: xs).length none = (x :: y :: xs).length := rfl
  rw [h1, h0, List.length_cons, List.length_cons, Nat.min_eq_left (by omega)]
  show List.take _ xs = xs
  exact List.take_of_length_le (by omega)
theorem ev_rais {F : Str → List D → Res D} {w : Nat} {ρ : List Sl} {c : Str} {inf : ErI} {as : Ex} {m : List Nat} : evS F w ρ (.rais c inf as m) = (evE F (vwN (frz m ρ)) as).bind fun v => listR v fun ds => .err ⟨c, inf.fs, inf.ups, ds⟩ := by simp only [evS]
def tryR (F : Str → List D → Res D) (w : Nat) (i : Nat) (c : Str) (h : Sm) : TR → Res Out
  | .out o => .ok o
  | .exc e ρ' => if e.ups.contains c = true then (evS (Fx e F) w (ρ'.set i .un) h).noErr.bind fun o => .ok (o.drop i) else .err e
  | .no => .no
theorem ev_try {F : Str → List D → Res D} {w : Nat} {ρ : List Sl} {b : Tb} {i : Nat} {c : Str} {h : Sm} : evS F w ρ (.try_ b i c h) = tryR F w i c h (evT F ρ b) := by
  simp only [evS]
  cases evT F ρ b <;> rfl
end Pe

set_option Elab.async false
set_option linter.all false
set_option maxRecDepth 100000
set_option maxHeartbeats 4000000
/-! DM: a law's numbers, one by one; common small defs. -/
namespace Pe
open PySem L2
def num (ns : List Int) (i : Nat) : Int := ns.getD i 0
theorem num_at {ns : List Int} {n : Nat} (h : Nums n ns) {i : Int} (h0 : 0 ≤ i) (h1 : i < n) : atI (ns.map PyData.int) i = some (.int (num ns i.toNat)) := by
  obtain ⟨x, e, e2⟩ := atI_ok (xs := ns.map PyData.int) h0 (by simpa [h.1] using h1)
  rw [e]
  rw [List.getElem?_map] at e2
  unfold num
  rw [List.getD_eq_getElem?_getD]
  cases e3 : ns[i.toNat]? with
  | none => rw [e3] at e2; cases e2
  | some y => rw [e3] at e2; cases e2; rfl
theorem num_in {ns : List Int} {n : Nat} (h : Nums n ns) {i : Nat} (h1 : i < n) : 0 ≤ num ns i ∧ num ns i < 1000 := by
  have hl : i < ns.length := by rw [h.1]; exact h1
  have e : num ns i = ns[i] := by
    unfold num
    rw [List.getD_eq_getElem?_getD, List.getElem?_eq_getElem hl]
    rfl
  rw [e]
  exact h.2 _ (List.getElem_mem _)
/-- the number at a place that is reckoned -/
theorem num_at' {ns : List Int} {n : Nat} (h : Nums n ns) {i : Int} (h0 : 0 ≤ i) (h1 : i < n) : ∃ x, atI (ns.map PyData.int) i = some (.int x) ∧ 0 ≤ x ∧ x < 1000 :=
  ⟨_, num_at h h0 h1, num_in h (by omega)⟩
theorem bne_is {i j : Int} : (i != j) = !decide (i = j) := by
  by_cases h : i = j
  · subst h; simp
  · simp [h]
/-- the cells of a script -/
theorem cell_at {ns : List Int} {i : Int} (h0 : 0 ≤ i) (h1 : i < ns.length) : ∃ c, atI (ns.map PyData.int) i = some (.int c) := by
  obtain ⟨x, e, e2⟩ := atI_ok (xs := ns.map PyData.int) h0 (by simpa using h1)
  rw [List.getElem?_map] at e2
  cases e3 : ns[i.toNat]? with
  | none => rw [e3] at e2; cases e2
  | some y => rw [e3] at e2; cases e2; exact ⟨y, e⟩
mutual
theorem lv_lay : ∀ d : D, lv d = true → d.canLay0 = true ∧ PyData.eqv d d = true
  | .none, _ => ⟨rfl, rfl⟩
  | .bool b, _ => ⟨rfl, by cases b <;> rfl⟩
  | .int i, _ => ⟨rfl, by show (i == i) = true; simp⟩
  | .str x, h => by
    refine ⟨?_, by show (x == x) = true; simp⟩
    have h' : x.cps.toList.all (fun c => decide (c < 55296)) = true := h
    simp [PyData.canLay0, PyData.strOk]
    intro i hi
    have := of_decide_eq_true (List.all_eq_true.mp h' x.cps[i] (by simp))
    omega
  | .list xs, h => lvAll_lay xs h
  | .tuple xs, h => lvAll_lay xs h
  | .dict _, h => by cases h
theorem lvAll_lay : ∀ ds : List D, lvAll ds = true → PyData.canLayAll0 ds = true ∧ PyData.eqvAll ds ds = true
  | [], _ => ⟨rfl, rfl⟩
  | x :: xs, h => by
    have h' : (lv x && lvAll xs) = true := h
    rw [Bool.and_eq_true] at h'
    obtain ⟨a1, a2⟩ := lv_lay x h'.1
    obtain ⟨b1, b2⟩ := lvAll_lay xs h'.2
    refine ⟨?_, ?_⟩
    · show (x.canLay0 && PyData.canLayAll0 xs) = true
      rw [a1, b1]; rfl
    · show (PyData.eqv x x && PyData.eqvAll xs xs) = true
      rw [a2, b2]; rfl
end
theorem W.shaped {k b : Nat} {d : D} (h : W k b d) (hk : k ≤ 64) : SeqAt.shaped d = true := by
  unfold SeqAt.shaped
  rw [(lv_lay d h.l).1, Bool.true_and]
  exact decide_eq_true (Nat.le_trans h.dp hk)
theorem W.eqv {k b : Nat} {d : D} (h : W k b d) : PyData.eqv d d = true := (lv_lay d h.l).2
/-- a list is equal to itself -/
theorem eq_self {k b : Nat} {d : D} (h : W k b d) (hk : k ≤ 64) : eqB d d = some true := by
  unfold eqB
  by_cases q : scalD d d = true
  · rw [if_pos q, h.eqv]
  · rw [if_neg q, if_pos ⟨h.shaped hk, h.shaped hk⟩, h.eqv]
theorem intsOf_map {α : Type} {f : α → Int} : ∀ {xs : List α}, intsOf (xs.map fun x => PyData.int (f x)) = some (xs.map f)
  | [] => rfl
  | x :: xs => by
    show (intsOf (xs.map fun x => PyData.int (f x))).map (f x :: ·) = _
    rw [intsOf_map]; rfl
theorem at_mem {α : Type} {xs : List α} {i : Int} (h0 : 0 ≤ i) (h : i < xs.length) : ∃ x, atI xs i = some x ∧ x ∈ xs := by
  obtain ⟨x, e, e2⟩ := atI_ok h0 h
  exact ⟨x, e, List.mem_of_getElem? e2⟩
/-- ints at a place -/
theorem at_ints {xs : List Int} {i : Int} (h0 : 0 ≤ i) (h : i < xs.length) : ∃ x, atI (xs.map PyData.int) i = some (.int x) ∧ x ∈ xs := by
  obtain ⟨d, e, m⟩ := at_mem (xs := xs.map PyData.int) h0 (by simpa using h)
  obtain ⟨x, hx, rfl⟩ := List.mem_map.mp m
  exact ⟨x, e, hx⟩
section
variable {F : Str → List D → Res D} {w : Nat} {ρ ρ' : List Sl} {a b : Sm}
theorem forL_nx {g : List Sl → D → Res Out} {d : D} {ds : List D} (h : g ρ d = .ok (.nx ρ')) : forL g ρ (d :: ds) = forL g ρ' ds := by rw [forL_cons, h]; rfl
/-- one statement, then the others -/
theorem seq_nx (h : evS F w ρ a = .ok (.nx ρ')) : evS F w ρ (.seq a b) = evS F w ρ' b := by rw [w_seq, h]; rfl
end
end Pe

set_option Elab.async false
set_option linter.all false
set_option maxRecDepth 100000
set_option maxHeartbeats 4000000
/-! the defs of oncecoin_k08_refunds_stay_below, as data -/
namespace K08
open PySem L2 Pe
def top (i : Nat) : Stmt := PySem.Challenge.pw_oncecoin_k08_refunds_stay_below.main.body.getD i (.Pass ⟨0, 0, 0, 0⟩)
def T : Tbl := { fns := [(("goods_value" : Str), 1), (("share" : Str), 3), (("_law_numbers" : Str), 3), (("_law_goods" : Str), 1), (("_law_value" : Str), 1)], cons := [], dcts := [], ftabs := [], ers := [], cls := [], frs := [] }
def c_goods_value_0 : Sm := (.ret (.bf .sum (.acons (.comp (.bin .Mult (.var 2) (.var 3)) (.seqD 0) (.cst (.bool true)) (.inr [2, 3]) [1, 2, 3]) .anil)) [])
def b_goods_value : Sm := c_goods_value_0
def d_goods_value : DefI := ⟨top 1, ["pairs", ".0", "count", "price"], ["pairs"], b_goods_value, .top⟩
def c_share_0 : Sm := (.ife (.cmp .Eq (.var 2) (.cst (.int 0))) (.ret (.cst (.int 0)) []) .pass)
def c_share_1 : Sm := (.ret (.bin .FloorDiv (.bin .Mult (.var 0) (.var 1)) (.var 2)) [])
def b_share : Sm := (.seq c_share_0 c_share_1)
def d_share : DefI := ⟨top 2, ["total", "part", "whole"], ["total", "part", "whole"], b_share, .top⟩
def c_law_numbers_0 : Sm := (.set 3 (.cmp .GtE (.bf .abs (.acons (.bf .int (.acons (.var 0) .anil)) .anil)) (.bin .Pow (.cst (.int 10)) (.cst (.int 18)))) false [])
def c_law_numbers_1 : Sm := (.set 4 (.bin .Add (.bin .Mult (.cst (.int 2)) (.bf .abs (.acons (.bf .int (.acons (.var 0) .anil)) .anil))) (.bf .int (.acons (.cmp .Lt (.var 0) (.cst (.int 0))) .anil))) false [])
def c_law_numbers_3ba_0 : Sm := (.app 5 (.bin .Mod (.bf .int (.acons (.var 4) .anil)) (.cst (.int 1000))) false [])
def c_law_numbers_3ba_1 : Sm := (.set 4 (.bin .FloorDiv (.var 4) (.cst (.int 1000))) false [])
def c_law_numbers_3ba : Sm := (.seq c_law_numbers_3ba_0 c_law_numbers_3ba_1)
def c_law_numbers_3bb_0 : Sm := (.set 7 (.bin .Mod (.bf .int (.acons (.bin .Add (.bin .Add (.bin .Add (.bin .Mult (.var 4) (.cst (.int 48271))) (.bin .Mult (.var 1) (.cst (.int 69621)))) (.bin .Mult (.var 6) (.cst (.int 16807)))) (.cst (.int 7))) .anil)) (.cst (.int 2147483647))) false [])
def c_law_numbers_3bb_1 : Sm := (.set 7 (.bin .Mod (.bf .int (.acons (.bin .Add (.bin .Add (.bin .Mult (.var 7) (.var 7)) (.bin .Mult (.var 6) (.cst (.int 40692)))) (.cst (.int 3))) .anil)) (.cst (.int 2147483629))) false [])
def c_law_numbers_3bb_2 : Sm := (.set 7 (.bin .Mod (.bf .int (.acons (.bin .Add (.bin .Add (.bin .Mult (.var 7) (.var 7)) (.bin .Mult (.var 1) (.cst (.int 30269)))) (.cst (.int 5))) .anil)) (.cst (.int 2147483587))) false [])
def c_law_numbers_3bb_3 : Sm := (.app 5 (.bin .Mod (.bf .int (.acons (.bin .FloorDiv (.var 7) (.cst (.int 5))) .anil)) (.cst (.int 1000))) false [])
def c_law_numbers_3bb : Sm := (.seq c_law_numbers_3bb_0 (.seq c_law_numbers_3bb_1 (.seq c_law_numbers_3bb_2 c_law_numbers_3bb_3)))
def c_law_numbers_3 : Sm := (.for_ (.inl 6) (.rng (.cst (.int 0)) (.var 2)) [] (.ife (.var 3) c_law_numbers_3ba c_law_numbers_3bb))
def b__law_numbers : Sm := (.seq c_law_numbers_0 (.seq c_law_numbers_1 (.seq (.new 5 (.lst .anil) false []) (.seq c_law_numbers_3 (.ret (.var 5) [5])))))
def d__law_numbers : DefI := ⟨top 4, ["cell", "at", "many", "great", "rest", "numbers", "k", "mixed"], ["cell", "at", "many"], b__law_numbers, .top⟩
def c_law_goods_1b_0 : Sm := (.set 3 (.bin .Mod (.bf .int (.acons (.bin .Add (.bin .Mult (.idx (.var 0) (.bin .Add (.cst (.int 6)) (.bin .Mult (.cst (.int 3)) (.var 2)))) (.cst (.int 1000))) (.idx (.var 0) (.bin .Add (.cst (.int 7)) (.bin .Mult (.cst (.int 3)) (.var 2))))) .anil)) (.cst (.int 100000))) false [])
def c_law_goods_1b_1a : Sm := (.set 3 (.idx (.lst (.acons (.cst (.int 0)) (.acons (.cst (.int 1)) (.acons (.cst (.int 99999)) .anil)))) (.bin .Mod (.bf .int (.acons (.idx (.var 0) (.bin .Add (.cst (.int 6)) (.bin .Mult (.cst (.int 3)) (.var 2)))) .anil)) (.cst (.int 3)))) false [])
def c_law_goods_1b_1 : Sm := (.ife (.cmp .Eq (.bin .Mod (.bf .int (.acons (.idx (.var 0) (.bin .Add (.cst (.int 8)) (.bin .Mult (.cst (.int 3)) (.var 2)))) .anil)) (.cst (.int 4))) (.cst (.int 0))) c_law_goods_1b_1a .pass)
def c_law_goods_1b_2 : Sm := (.app 1 (.tup (.acons (.bin .Add (.cst (.int 1)) (.bin .Mod (.bf .int (.acons (.bin .FloorDiv (.idx (.var 0) (.bin .Add (.cst (.int 8)) (.bin .Mult (.cst (.int 3)) (.var 2)))) (.cst (.int 4))) .anil)) (.cst (.int 99)))) (.acons (.var 3) .anil))) false [])
def c_law_goods_1b : Sm := (.seq c_law_goods_1b_0 (.seq c_law_goods_1b_1 c_law_goods_1b_2))
def c_law_goods_1 : Sm := (.for_ (.inl 2) (.rng (.cst (.int 0)) (.bin .Add (.cst (.int 1)) (.bin .Mod (.bf .int (.acons (.idx (.var 0) (.cst (.int 0))) .anil)) (.cst (.int 8))))) [] c_law_goods_1b)
def b__law_goods : Sm := (.seq (.new 1 (.lst .anil) false []) (.seq c_law_goods_1 (.ret (.var 1) [1])))
def d__law_goods : DefI := ⟨top 5, ["numbers", "goods", "k", "price"], ["numbers"], b__law_goods, .top⟩
def c_law_value_1b : Sm := (.set 1 (.bin .Add (.var 1) (.bin .Mult (.idx (.var 2) (.cst (.int 0))) (.idx (.var 2) (.cst (.int 1))))) false [])
def b__law_value : Sm := (.seq (.set 1 (.cst (.int 0)) false []) (.seq (.for_ (.inl 2) (.seq (.var 0)) [] c_law_value_1b) (.ret (.var 1) [])))
def d__law_value : DefI := ⟨top 7, ["pairs", "value", "pair"], ["pairs"], b__law_value, .top⟩
theorem cb_goods_value : ∃ n ap ow k, cB (appsOf d_goods_value.N 20) (cS d_goods_value.N n (defScope d_goods_value.st) ap ow k T) (cPair d_goods_value.N (defScope d_goods_value.st).names T (cE d_goods_value.N T n (defScope d_goods_value.st)) ow) [] (defBody d_goods_value.st) = some d_goods_value.body := ⟨20, [], [], 20, by kernel_rfl⟩
theorem sc_goods_value : FnScope d_goods_value.N d_goods_value.ps (defScope d_goods_value.st) := ⟨rfl, rfl, rfl, by decide +kernel, rfl, by decide +kernel, by decide +kernel⟩
theorem bd_goods_value (kV doc pm : Value) (an : Option Addr) (cdv ct : Value) (us : List Value) (hl : us.length = d_goods_value.ps.length) : bindArgs (PySem.W.fnOf "goods_value" "goods_value" (defArgs d_goods_value.st) (defBody d_goods_value.st) (defScope d_goods_value.st) .none kV doc pm an cdv ct) ⟨us, []⟩ = pure (d_goods_value.ps.zip us) := match us, hl with | [_], _ => rfl
theorem cb_share : ∃ n ap ow k, cB (appsOf d_share.N 20) (cS d_share.N n (defScope d_share.st) ap ow k T) (cPair d_share.N (defScope d_share.st).names T (cE d_share.N T n (defScope d_share.st)) ow) [] (defBody d_share.st) = some d_share.body := ⟨20, [], [], 20, by kernel_rfl⟩
theorem sc_share : FnScope d_share.N d_share.ps (defScope d_share.st) := ⟨rfl, rfl, rfl, by decide +kernel, rfl, by decide +kernel, by decide +kernel⟩
theorem bd_share (kV doc pm : Value) (an : Option Addr) (cdv ct : Value) (us : List Value) (hl : us.length = d_share.ps.length) : bindArgs (PySem.W.fnOf "share" "share" (defArgs d_share.st) (defBody d_share.st) (defScope d_share.st) .none kV doc pm an cdv ct) ⟨us, []⟩ = pure (d_share.ps.zip us) := match us, hl with | [_, _, _], _ => rfl
theorem cb__law_numbers : ∃ n ap ow k, cB (appsOf d__law_numbers.N 20) (cS d__law_numbers.N n (defScope d__law_numbers.st) ap ow k T) (cPair d__law_numbers.N (defScope d__law_numbers.st).names T (cE d__law_numbers.N T n (defScope d__law_numbers.st)) ow) [] (defBody d__law_numbers.st) = some d__law_numbers.body := ⟨20, [5], [5], 20, by kernel_rfl⟩
theorem sc__law_numbers : FnScope d__law_numbers.N d__law_numbers.ps (defScope d__law_numbers.st) := ⟨rfl, rfl, rfl, by decide +kernel, rfl, by decide +kernel, by decide +kernel⟩
theorem bd__law_numbers (kV doc pm : Value) (an : Option Addr) (cdv ct : Value) (us : List Value) (hl : us.length = d__law_numbers.ps.length) : bindArgs (PySem.W.fnOf "_law_numbers" "_law_numbers" (defArgs d__law_numbers.st) (defBody d__law_numbers.st) (defScope d__law_numbers.st) .none kV doc pm an cdv ct) ⟨us, []⟩ = pure (d__law_numbers.ps.zip us) := match us, hl with | [_, _, _], _ => rfl
theorem cb__law_goods : ∃ n ap ow k, cB (appsOf d__law_goods.N 20) (cS d__law_goods.N n (defScope d__law_goods.st) ap ow k T) (cPair d__law_goods.N (defScope d__law_goods.st).names T (cE d__law_goods.N T n (defScope d__law_goods.st)) ow) [] (defBody d__law_goods.st) = some d__law_goods.body := ⟨20, [1], [1], 20, by kernel_rfl⟩
theorem sc__law_goods : FnScope d__law_goods.N d__law_goods.ps (defScope d__law_goods.st) := ⟨rfl, rfl, rfl, by decide +kernel, rfl, by decide +kernel, by decide +kernel⟩
theorem bd__law_goods (kV doc pm : Value) (an : Option Addr) (cdv ct : Value) (us : List Value) (hl : us.length = d__law_goods.ps.length) : bindArgs (PySem.W.fnOf "_law_goods" "_law_goods" (defArgs d__law_goods.st) (defBody d__law_goods.st) (defScope d__law_goods.st) .none kV doc pm an cdv ct) ⟨us, []⟩ = pure (d__law_goods.ps.zip us) := match us, hl with | [_], _ => rfl
theorem cb__law_value : ∃ n ap ow k, cB (appsOf d__law_value.N 20) (cS d__law_value.N n (defScope d__law_value.st) ap ow k T) (cPair d__law_value.N (defScope d__law_value.st).names T (cE d__law_value.N T n (defScope d__law_value.st)) ow) [] (defBody d__law_value.st) = some d__law_value.body := ⟨20, [], [], 20, by kernel_rfl⟩
theorem sc__law_value : FnScope d__law_value.N d__law_value.ps (defScope d__law_value.st) := ⟨rfl, rfl, rfl, by decide +kernel, rfl, by decide +kernel, by decide +kernel⟩
theorem bd__law_value (kV doc pm : Value) (an : Option Addr) (cdv ct : Value) (us : List Value) (hl : us.length = d__law_value.ps.length) : bindArgs (PySem.W.fnOf "_law_value" "_law_value" (defArgs d__law_value.st) (defBody d__law_value.st) (defScope d__law_value.st) .none kV doc pm an cdv ct) ⟨us, []⟩ = pure (d__law_value.ps.zip us) := match us, hl with | [_], _ => rfl
def P : Tab := [(("goods_value" : Str), d_goods_value), (("share" : Str), d_share), (("_law_numbers" : Str), d__law_numbers), (("_law_goods" : Str), d__law_goods), (("_law_value" : Str), d__law_value)]
theorem fns_ok : T.fns.all (fun p => (P.lookup p.1).bind (·.npT) == some p.2) = true := by decide +kernel
theorem r_goods_value {w k : Nat} {ds : List D} : run P w (k + 1) "goods_value" ds = evD (run P w k) w 4 b_goods_value ds := run_is (P := P) (d := d_goods_value) (by kernel_rfl)
theorem r_share {w k : Nat} {ds : List D} : run P w (k + 1) "share" ds = evD (run P w k) w 3 b_share ds := run_is (P := P) (d := d_share) (by kernel_rfl)
theorem r__law_numbers {w k : Nat} {ds : List D} : run P w (k + 1) "_law_numbers" ds = evD (run P w k) w 8 b__law_numbers ds := run_is (P := P) (d := d__law_numbers) (by kernel_rfl)
theorem r__law_goods {w k : Nat} {ds : List D} : run P w (k + 1) "_law_goods" ds = evD (run P w k) w 4 b__law_goods ds := run_is (P := P) (d := d__law_goods) (by kernel_rfl)
theorem r__law_value {w k : Nat} {ds : List D} : run P w (k + 1) "_law_value" ds = evD (run P w k) w 3 b__law_value ds := run_is (P := P) (d := d__law_value) (by kernel_rfl)
def TI : Im.TblI := ⟨[(("_law_turn" : Str), 4), (("law" : Str), 1)], []⟩
def cj_law_turn_0 : Im.Si := (.set 4 (.pu (.bin .Mod (.bf .int (.acons (.idx (.var 0) (.cst (.int 0))) .anil)) (.bf .len (.acons (.var 1) .anil))) [0, 1]))
def cj_law_turn_1ba_0 : Im.Si := (.set 5 (.pu (.bin .Sub (.idx (.idx (.var 1) (.var 4)) (.cst (.int 0))) (.idx (.var 3) (.var 4))) [1, 4, 3, 4]))
def cj_law_turn_1ba_1 : Im.Si := (.sto (.var 3) (.var 4) (.pu (.bin .Add (.idx (.var 3) (.var 4)) (.idx (.lst (.acons (.cst (.int 1)) (.acons (.var 5) (.acons (.bin .Add (.cst (.int 1)) (.bin .Mod (.bf .int (.acons (.idx (.var 0) (.cst (.int 1))) .anil)) (.var 5))) .anil)))) (.bin .Mod (.bf .int (.acons (.idx (.var 0) (.cst (.int 2))) .anil)) (.cst (.int 3))))) [3, 4, 5, 0, 5, 0]))
def cj_law_turn_1ba : Im.Si := (.seq cj_law_turn_1ba_0 cj_law_turn_1ba_1)
def cj_law_turn_1b : Im.Si := (.ife (.pu (.cmp .Lt (.idx (.var 3) (.var 4)) (.idx (.idx (.var 1) (.var 4)) (.cst (.int 0)))) [3, 4, 1, 4]) cj_law_turn_1ba .pass)
def cj_law_turn_1 : Im.Si := (.ife (.pu (.not (.idx (.var 2) (.var 4))) [2, 4]) (.sto (.var 2) (.var 4) (.pu (.cst (.bool true)) [])) cj_law_turn_1b)
def jb__law_turn : Im.Si := (.seq cj_law_turn_0 cj_law_turn_1)
def j__law_turn : Im.DefJ := ⟨top 6, ["numbers", "goods", "sent", "back", "k", "rest"], ["numbers", "goods", "sent", "back"], jb__law_turn, .top⟩
def cj_law_0 : Im.Si := (.set 1 (.pu (.call "_law_numbers" (.acons (.ite (.cmp .Gt (.bf .len (.acons (.var 0) .anil)) (.cst (.int 0))) (.idx (.var 0) (.cst (.int 0))) (.cst (.int 0))) (.acons (.cst (.int 0)) (.acons (.cst (.int 30)) .anil)))) [0, 0]))
def cj_law_1 : Im.Si := (.set 2 (.pu (.call "_law_goods" (.acons (.var 1) .anil)) [1]))
def cj_law_2 : Im.Si := (.set 3 (.pu (.call "goods_value" (.acons (.bf .list (.acons (.var 2) .anil)) .anil)) [2]))
def cj_law_3 : Im.Si := (.ife (.pu (.or (.not (.isi (.var 3) .int)) (.or (.isi (.var 3) .bool) (.cmp .NotEq (.var 3) (.call "_law_value" (.acons (.var 2) .anil))))) [3, 3, 3, 2]) (.ret (.pu (.cst (.bool false)) [])) .pass)
def cj_law_4 : Im.Si := (.set 4 (.pu (.idx (.lst (.acons (.cst (.int 0)) (.acons (.cst (.int 1)) (.acons (.var 3) (.acons (.bin .Add (.var 3) (.bin .FloorDiv (.var 3) (.cst (.int 10)))) (.acons (.bin .Add (.bin .Add (.bin .Mult (.idx (.var 1) (.cst (.int 1))) (.bin .Pow (.cst (.int 10)) (.cst (.int 6)))) (.bin .Mult (.idx (.var 1) (.cst (.int 2))) (.cst (.int 1000)))) (.idx (.var 1) (.cst (.int 3)))) .anil)))))) (.bin .Mod (.bf .int (.acons (.idx (.var 1) (.cst (.int 4))) .anil)) (.cst (.int 5)))) [3, 3, 3, 1, 1, 1, 1]))
def cj_law_5 : Im.Si := (.set 5 (.nu (.bin .Mult (.lst (.acons (.cst (.bool false)) .anil)) (.bf .len (.acons (.var 2) .anil))) [2]))
def cj_law_6 : Im.Si := (.set 6 (.nu (.bin .Mult (.lst (.acons (.cst (.int 0)) .anil)) (.bf .len (.acons (.var 2) .anil))) [2]))
def cj_law_9b_0 : Im.Si := (.dro (.callI "_law_turn" (.cons (.pu (.call "_law_numbers" (.acons (.idx (.var 0) (.var 9)) (.acons (.var 9) (.acons (.cst (.int 3)) .anil)))) [0, 9, 9]) (.cons (.var 2) (.cons (.var 5) (.cons (.var 6) .nil))))))
def cj_law_9b_1 : Im.Si := (.set 10 (.pu (.call "_law_value" (.acons (.comp (.idx (.var 2) (.var 15)) (.rng (.cst (.int 0)) (.bf .len (.acons (.var 2) .anil))) (.idx (.var 5) (.var 15)) (.inl 15) [14, 15]) .anil)) [2, 15, 2, 5, 15]))
def cj_law_9b_2 : Im.Si := (.set 11 (.pu (.call "_law_value" (.acons (.comp (.tup (.acons (.idx (.var 6) (.var 15)) (.acons (.idx (.idx (.var 2) (.var 15)) (.cst (.int 1))) .anil))) (.rng (.cst (.int 0)) (.bf .len (.acons (.var 2) .anil))) (.cst (.bool true)) (.inl 15) [14, 15]) .anil)) [6, 15, 2, 15, 2]))
def cj_law_9b_3 : Im.Si := (.set 12 (.pu (.call "share" (.acons (.var 4) (.acons (.var 10) (.acons (.var 3) .anil)))) [4, 10, 3]))
def cj_law_9b_4 : Im.Si := (.set 13 (.pu (.call "share" (.acons (.var 4) (.acons (.var 11) (.acons (.var 3) .anil)))) [4, 11, 3]))
def cj_law_9b_5 : Im.Si := (.ife (.pu (.or (.not (.isi (.var 12) .int)) (.or (.isi (.var 12) .bool) (.not (.isi (.var 13) .int)))) [12, 12, 13]) (.ret (.pu (.cst (.bool false)) [])) .pass)
def cj_law_9b_6 : Im.Si := (.ife (.pu (.or (.isi (.var 13) .bool) (.or (.cmp .Lt (.var 12) (.var 7)) (.or (.cmp .Lt (.var 13) (.var 8)) (.or (.cmp .Gt (.var 13) (.var 12)) (.cmp .Gt (.var 12) (.var 4)))))) [13, 12, 7, 13, 8, 13, 12, 12, 4]) (.ret (.pu (.cst (.bool false)) [])) .pass)
def cj_law_9b_7 : Im.Si := (.ife (.pu (.and (.cmp .Gt (.var 3) (.cst (.int 0))) (.or (.and (.cmp .Eq (.var 10) (.var 3)) (.cmp .NotEq (.var 12) (.var 4))) (.and (.cmp .Eq (.var 11) (.var 3)) (.cmp .NotEq (.var 13) (.var 4))))) [3, 10, 3, 12, 4, 11, 3, 13, 4]) (.ret (.pu (.cst (.bool false)) [])) .pass)
def cj_law_9b : Im.Si := (.seq cj_law_9b_0 (.seq cj_law_9b_1 (.seq cj_law_9b_2 (.seq cj_law_9b_3 (.seq cj_law_9b_4 (.seq cj_law_9b_5 (.seq cj_law_9b_6 (.seq cj_law_9b_7 (.seq (.set 7 (.var 12)) (.set 8 (.var 13)))))))))))
def cj_law_9 : Im.Si := (.forR (.inl 9) (.pu (.cst (.int 1)) []) (.pu (.bf .min2 (.acons (.bf .len (.acons (.var 0) .anil)) (.acons (.cst (.int 61)) .anil))) [0]) cj_law_9b)
def jb_law : Im.Si := (.seq cj_law_0 (.seq cj_law_1 (.seq cj_law_2 (.seq cj_law_3 (.seq cj_law_4 (.seq cj_law_5 (.seq cj_law_6 (.seq (.set 7 (.pu (.cst (.int 0)) [])) (.seq (.set 8 (.pu (.cst (.int 0)) [])) (.seq cj_law_9 (.ret (.pu (.cst (.bool true)) []))))))))))))
def j_law : Im.DefJ := ⟨top 8, ["script", "head", "goods", "whole", "total", "sent", "back", "charged", "given_back", "at", "gone", "home", "now", "now_back", ".0", "k"], ["script"], jb_law, .top⟩
theorem cj__law_turn : ∃ n ap k, Im.cBI (Im.cSI j__law_turn.N n (defScope j__law_turn.st) ap T TI k) (defBody j__law_turn.st) = some j__law_turn.body := ⟨20, [2, 3], 20, by kernel_rfl⟩
theorem scj__law_turn : FnScope j__law_turn.N j__law_turn.ps (defScope j__law_turn.st) := ⟨rfl, rfl, rfl, by decide +kernel, rfl, by decide +kernel, by decide +kernel⟩
theorem bdj__law_turn (kV doc pm : Value) (an : Option Addr) (cdv ct : Value) (us : List Value) (hl : us.length = j__law_turn.ps.length) : bindArgs (PySem.W.fnOf "_law_turn" "_law_turn" (defArgs j__law_turn.st) (defBody j__law_turn.st) (defScope j__law_turn.st) .none kV doc pm an cdv ct) ⟨us, []⟩ = pure (j__law_turn.ps.zip us) := match us, hl with | [_, _, _, _], _ => rfl
theorem cj_law : ∃ n ap k, Im.cBI (Im.cSI j_law.N n (defScope j_law.st) ap T TI k) (defBody j_law.st) = some j_law.body := ⟨20, [2, 5, 6], 20, by kernel_rfl⟩
theorem scj_law : FnScope j_law.N j_law.ps (defScope j_law.st) := ⟨rfl, rfl, rfl, by decide +kernel, rfl, by decide +kernel, by decide +kernel⟩
theorem bdj_law (kV doc pm : Value) (an : Option Addr) (cdv ct : Value) (us : List Value) (hl : us.length = j_law.ps.length) : bindArgs (PySem.W.fnOf "law" "law" (defArgs j_law.st) (defBody j_law.st) (defScope j_law.st) .none kV doc pm an cdv ct) ⟨us, []⟩ = pure (j_law.ps.zip us) := match us, hl with | [_], _ => rfl
def PJ : Im.TabJ := [(("_law_turn" : Str), j__law_turn), (("law" : Str), j_law)]
theorem ifns_ok : TI.ifns.all (fun p => (PJ.lookup p.1).bind (·.npT) == some p.2) = true := by decide +kernel
theorem rj__law_turn {w k : Nat} {ws : List Im.W} {A : Im.Hv} : Im.runI P PJ w (k + 1) "_law_turn" ws A = Im.evDI (run P w k) (Im.runI P PJ w k) w 6 jb__law_turn ws A := Im.runI_is (P := P) (PJ := PJ) (d := j__law_turn) (by kernel_rfl)
theorem rj_law {w k : Nat} {ws : List Im.W} {A : Im.Hv} : Im.runI P PJ w (k + 1) "law" ws A = Im.evDI (run P w k) (Im.runI P PJ w k) w 16 jb_law ws A := Im.runI_is (P := P) (PJ := PJ) (d := j_law) (by kernel_rfl)
end K08

set_option Elab.async false
set_option linter.all false
set_option maxRecDepth 100000
set_option maxHeartbeats 4000000
namespace K08
open PySem L2 Pe
variable {w k : Nat} {ns : List Int}
theorem e_numbers (c at_ : Int) (n : Nat) (hn : n ≤ 1000000) : ∃ ns, run P w (k + 1) "_law_numbers" [.int c, .int at_, .int n] = .ok (.list (ns.map .int)) ∧ Nums n ns := by
  rw [r__law_numbers]
  exact numbers_ok c at_ n hn
def shr (t p wh : Int) : Int := if wh = 0 then 0 else t * p / wh
theorem e_share {t p wh : Int} (m : mulOk t p = true) (h0 : 0 ≤ wh) (h1 : wh < 1000000000000) : run P w (k + 1) "share" [.int t, .int p, .int wh] = .ok (.int (shr t p wh)) := by
  rw [r_share]
  by_cases c : wh = 0
  · subst c; simp [evD_is, b_share, c_share_0, shr]
  · have c' : (wh == 0) = false := beq_eq_false_iff_ne.mpr c
    have h2 : 0 < wh := by omega
    have h3 : wh.natAbs.log2 < 9000 := of_eq_true (log_lt (by omega))
    simp [evD_is, b_share, c_share_0, c_share_1, shr, c', c, m, h2, h3]
theorem shr_mono {t a b wh : Int} (ht : 0 ≤ t) (hw : 0 ≤ wh) (h : a ≤ b) : shr t a wh ≤ shr t b wh := by
  unfold shr
  by_cases c : wh = 0
  · simp [c]
  · rw [if_neg c, if_neg c]
    exact Int.ediv_le_ediv (by omega) (Int.mul_le_mul_of_nonneg_left h ht)
theorem shr_zero {t wh : Int} : shr t 0 wh = 0 := by unfold shr; split <;> simp
theorem shr_all {t wh : Int} (h : 0 < wh) : shr t wh wh = t := by
  unfold shr
  rw [if_neg (by omega)]
  exact Int.mul_ediv_cancel _ (by omega)
theorem shr_le {t a wh : Int} (ht : 0 ≤ t) (hw : 0 ≤ wh) (h : a ≤ wh) : shr t a wh ≤ t := by
  by_cases c : wh = 0
  · unfold shr; rw [if_pos c]; exact ht
  · have := shr_mono ht hw h
    rwa [shr_all (by omega)] at this
def pr (p : Int × Int) : D := .tuple [.int p.1, .int p.2]
def val : List (Int × Int) → Int
  | [] => 0
  | p :: ps => p.1 * p.2 + val ps
def Sm' (ps : List (Int × Int)) : Prop := ps.length ≤ 12 ∧ ∀ p ∈ ps, 0 ≤ p.1 ∧ p.1 ≤ 99 ∧ 0 ≤ p.2 ∧ p.2 ≤ 99999
theorem mul_ok {a b : Int} (h0 : 0 ≤ a) (h : a ≤ 99) : mulOk a b = true := mulOk_l (small_of (by omega))
theorem v_loop : ∀ {ps : List (Int × Int)} {x : D} {u : Int} {s : Sl}, (∀ p ∈ ps, 0 ≤ p.1 ∧ p.1 ≤ 99) → ∃ s', forL (stepF (run P w k) w (.inl 2) c_law_value_1b) [.val x, .val (.int u), s] (ps.map pr) = .ok (.nx [.val x, .val (.int (u + val ps)), s'])
  | [], x, u, s, _ => ⟨s, by simp [val]⟩
  | p :: ps, x, u, s, h => by
    obtain ⟨s', e⟩ := v_loop (x := x) (u := u + p.1 * p.2) (s := .val (pr p)) fun q hq => h q (List.mem_cons_of_mem _ hq)
    refine ⟨s', ?_⟩
    have hp := h p List.mem_cons_self
    have m := mul_ok (b := p.2) hp.1 hp.2
    have st : stepF (run P w k) w (.inl 2) c_law_value_1b [.val x, .val (.int u), s] (pr p) = .ok (.nx [.val x, .val (.int (u + p.1 * p.2)), .val (pr p)]) := by
      simp [c_law_value_1b, pr, m, atI, ixN]
    rw [List.map_cons, forL_nx st, e]
    simp [val, Int.add_assoc]
theorem e_value {ps : List (Int × Int)} (h : ∀ p ∈ ps, 0 ≤ p.1 ∧ p.1 ≤ 99) : run P w (k + 1) "_law_value" [.list (ps.map pr)] = .ok (.int (val ps)) := by
  obtain ⟨s', e⟩ := v_loop (w := w) (k := k) (x := .list (ps.map pr)) (u := 0) (s := .un) h
  rw [r__law_value]
  simp [evD_is, b__law_value, w_for, e]
theorem val_sum : ∀ ps : List (Int × Int), (ps.map fun p => p.1 * p.2).sum = val ps
  | [] => rfl
  | p :: ps => by simp [val, val_sum ps]
theorem e_goodsv {ps : List (Int × Int)} (hl : ps.length ≤ 12) (h : ∀ p ∈ ps, 0 ≤ p.1 ∧ p.1 ≤ 99) : run P w (k + 1) "goods_value" [.list (ps.map pr)] = .ok (.int (val ps)) := by
  rw [r_goods_value]
  have hz : ps.length ≤ sizeLine := by rw [sizeLine_eq]; omega
  have cm : ∀ ν : List (Option D), 4 ≤ ν.length → compL (itemR (run P w k) ν (.bin .Mult (.var 2) (.var 3)) (.cst (.bool true)) (.inr [2, 3]) [1, 2, 3]) (ps.map pr) = .ok (ps.map fun p => .int (p.1 * p.2)) := fun ν hν => by
    have := compL_map (f := itemR (run P w k) ν (.bin .Mult (.var 2) (.var 3)) (.cst (.bool true)) (.inr [2, 3]) [1, 2, 3]) (g := fun d => match d with
      | .tuple [.int a, .int b] => .int (a * b)
      | d => d) (ds := ps.map pr) fun d hd => by
        obtain ⟨p, hp, rfl⟩ := List.mem_map.mp hd
        have hp' := h p hp
        have m := mul_ok (b := p.2) hp'.1 hp'.2
        unfold pr
        rw [item_two]
        match ν, hν with
        | a :: b :: c :: d :: r, _ => simp [m]
    rw [this, List.map_map]
    rfl
  simp [evD_is, b_goods_value, c_goods_value_0, hz, cm, intsOf_map, val_sum]
theorem e_goods (h : Nums 30 ns) : ∃ ps : List (Int × Int), run P w (k + 1) "_law_goods" [.list (ns.map .int)] = .ok (.list (ps.map pr)) ∧ 1 ≤ ps.length ∧ ps.length ≤ 8 ∧ ∀ p ∈ ps, 1 ≤ p.1 ∧ p.1 ≤ 99 ∧ 0 ≤ p.2 ∧ p.2 ≤ 99999 := by
  rw [r__law_goods]
  obtain ⟨x, e0, x0, x1⟩ := num_at' h (i := 0) (by omega) (by omega)
  have hr : rngR (.int 0) (.int (1 + x % 8)) = .ok (.list (rangeL 0 (1 + x % 8))) := rngR_int (by omega) (by omega) (by omega) (by omega)
  obtain ⟨ρ', e, ps, s2, s3, rfl, h1, h2⟩ := forL_inv (g := stepF (run P w k) w (.inl 2) c_law_goods_1b) (ds := rangeL 0 (1 + x % 8)) (fun i ρ => ∃ (ps : List (Int × Int)) (s2 s3 : Sl), ρ = [.val (.list (ns.map .int)), .own (.list (ps.map pr)), s2, s3] ∧ ps.length = i ∧ ∀ p ∈ ps, 1 ≤ p.1 ∧ p.1 ≤ 99 ∧ 0 ≤ p.2 ∧ p.2 ≤ 99999)
    (fun i ρ d hd ⟨ps, s2, s3, hρ, hl, hb⟩ => by
      subst hρ
      have hi : i < (rangeL 0 (1 + x % 8)).length := (List.getElem?_eq_some_iff.mp hd).1
      rw [rangeL_len] at hi
      have hd' := range_at hd
      rw [Int.zero_add] at hd'
      subst hd'
      have m3 : mulOk 3 (i : Int) = true := mulOk_l (by decide)
      obtain ⟨a, ea, a0, a1⟩ := num_at' h (i := 6 + 3 * (i : Int)) (by omega) (by omega)
      obtain ⟨b, eb, b0, b1⟩ := num_at' h (i := 7 + 3 * (i : Int)) (by omega) (by omega)
      obtain ⟨c, ec, c0, c1⟩ := num_at' h (i := 8 + 3 * (i : Int)) (by omega) (by omega)
      have ma : mulOk a 1000 = true := mulOk_r (by decide)
      have hs : ps.length < sizeLine := by rw [sizeLine_eq]; omega
      rw [stepF_one]
      unfold c_law_goods_1b
      have t0 : evS (run P w k) w ([Sl.val (.list (ns.map .int)), .own (.list (ps.map pr)), s2, s3].set 2 (.val (.int i))) c_law_goods_1b_0 = .ok (.nx [.val (.list (ns.map .int)), .own (.list (ps.map pr)), .val (.int i), .val (.int ((a * 1000 + b) % 100000))]) := by
        simp [c_law_goods_1b_0, m3, ea, eb, ma]
      rw [seq_nx t0]
      have t1 : ∃ y, evS (run P w k) w [Sl.val (.list (ns.map .int)), .own (.list (ps.map pr)), .val (.int i), .val (.int ((a * 1000 + b) % 100000))] c_law_goods_1b_1 = .ok (.nx [.val (.list (ns.map .int)), .own (.list (ps.map pr)), .val (.int i), .val (.int y)]) ∧ 0 ≤ y ∧ y ≤ 99999 := by
        by_cases q : c % 4 = 0
        · obtain ⟨y, ey, my⟩ := at_ints (xs := [0, 1, 99999]) (i := a % 3) (by omega) (by simp; omega)
          have ey' : atI [PyData.int 0, .int 1, .int 99999] (a % 3) = some (.int y) := ey
          refine ⟨y, by simp [c_law_goods_1b_1, c_law_goods_1b_1a, m3, ec, q, ea, ey', le_size], ?_⟩
          simp at my
          omega
        · have q' : (c % 4 == 0) = false := beq_eq_false_iff_ne.mpr q
          exact ⟨(a * 1000 + b) % 100000, by simp [c_law_goods_1b_1, m3, ec, q'], by omega, by omega⟩
      obtain ⟨y, t1, y0, y1⟩ := t1
      rw [seq_nx t1]
      refine ⟨_, .inl ?_, ps ++ [(1 + c / 4 % 99, y)], .val (.int i), .val (.int y), rfl, by simp [hl], fun p hp => ?_⟩
      rotate_left
      · rcases List.mem_append.mp hp with q | q
        · exact hb p q
        · rw [List.mem_singleton] at q
          subst q
          refine ⟨?_, ?_, y0, y1⟩ <;> simp only <;> omega
      · simp [c_law_goods_1b_2, w_app, appR, m3, ec, hs, le_size, pr])
    (ρ := [.val (.list (ns.map .int)), .own (.list []), .un, .un]) ⟨[], .un, .un, rfl, rfl, fun p hp => by cases hp⟩
  refine ⟨ps, ?_, by rw [h1, rangeL_len]; omega, by rw [h1, rangeL_len]; omega, h2⟩
  have e' : forL (stepF (run P w k) w (.inl 2) c_law_goods_1b) [.val (.list (ns.map .int)), .own (.list []), .un, .un] (rangeL 0 (1 + x % 8)) = _ := e
  simp [evD_is, b__law_goods, c_law_goods_1, w_for, e0, hr, e', le_size]
end K08

set_option Elab.async false
set_option linter.all false
set_option maxRecDepth 100000
set_option maxHeartbeats 4000000
namespace K08
open PySem L2 Pe Im
variable {w k : Nat} {ns : List Int}
/-- one of the goods: how many, its price, whether it was sent, how many came back -/
structure Gd where
  c : Int
  p : Int
  s : Bool
  b : Int
def gD (x : Gd) : D := pr (x.c, x.p)
structure GOk (x : Gd) : Prop where
  c1 : 1 ≤ x.c
  c2 : x.c ≤ 99
  p1 : 0 ≤ x.p
  p2 : x.p ≤ 99999
  b1 : 0 ≤ x.b
  b2 : x.b ≤ x.c
  s1 : x.s = false → x.b = 0
/-- one turn later -/
structure GLe (x y : Gd) : Prop where
  c : y.c = x.c
  p : y.p = x.p
  s : x.s = true → y.s = true
  b : x.b ≤ y.b
theorem GLe.refl (x : Gd) : GLe x x := ⟨rfl, rfl, id, Int.le_refl _⟩
def sD (xs : List Gd) : List D := xs.map fun x => .bool x.s
def bD' (xs : List Gd) : List D := xs.map fun x => .int x.b
def A8 (xs : List Gd) : Hv := [.lst ((sD xs).map .dat), .lst ((bD' xs).map .dat)]
theorem d0 {xs : List Gd} : deep dpF (A8 xs) (.ref 0) = some (.list (sD xs)) := deep_l rfl
theorem d1 {xs : List Gd} : deep dpF (A8 xs) (.ref 1) = some (.list (bD' xs)) := deep_l rfl
theorem at_map {α : Type} {f : α → D} {xs : List α} {i : Nat} {x : α} (h : xs[i]? = some x) : atI (xs.map f) (i : Int) = some (f x) := by
  obtain ⟨hi, e⟩ := List.getElem?_eq_some_iff.mp h
  rw [atI_nat (by rw [List.length_map]; exact hi)]
  simp [e]
theorem ixN_nat {n i : Nat} (h : i < n) : ixN n (i : Int) = some i := by
  unfold ixN
  rw [if_pos (by omega), if_pos (by omega)]
  simp
theorem set_same {β : Type} {f : Gd → β} {xs : List Gd} {i : Nat} {x y : Gd} (h : xs[i]? = some x) (e : f y = f x) : (xs.set i y).map f = xs.map f := by
  rw [List.map_set]
  refine List.ext_getElem? fun j => ?_
  by_cases hj : i = j
  · subst hj
    obtain ⟨hi, _⟩ := List.getElem?_eq_some_iff.mp h
    rw [List.getElem?_set_self (by rw [List.length_map]; exact hi), List.getElem?_map, h, e]
    rfl
  · rw [List.getElem?_set_ne hj]
theorem sto0 {xs : List Gd} {i : Nat} {x y : Gd} {d : Bool} (h : xs[i]? = some x) (e1 : y.s = d) (e2 : y.b = x.b) : stoW (A8 xs) (.ref 0) (.dat (.int i)) (.dat (.bool d)) = .ok () (A8 (xs.set i y)) := by
  obtain ⟨hi, _⟩ := List.getElem?_eq_some_iff.mp h
  have ix0 : ixN ((sD xs).map Im.W.dat).length (i : Int) = some i := ixN_nat (by simpa [sD] using hi)
  subst e1
  have h1 : ((sD xs).map Im.W.dat).set i (.dat (.bool y.s)) = (sD (xs.set i y)).map .dat := by unfold sD; rw [List.map_set, List.map_set]
  have h2 : bD' (xs.set i y) = bD' xs := set_same h (by rw [e2])
  show (match ixN ((sD xs).map Im.W.dat).length (i : Int) with
    | some k => Ri.ok () ((A8 xs).set 0 (.lst (((sD xs).map Im.W.dat).set k (.dat (.bool y.s)))))
    | none => .no) = _
  rw [ix0]
  show Ri.ok () ((A8 xs).set 0 (.lst (((sD xs).map Im.W.dat).set i (.dat (.bool y.s))))) = _
  rw [h1]
  unfold A8
  rw [h2]
  rfl
theorem sto1 {xs : List Gd} {i : Nat} {x y : Gd} {d : Int} (h : xs[i]? = some x) (e1 : y.b = d) (e2 : y.s = x.s) : stoW (A8 xs) (.ref 1) (.dat (.int i)) (.dat (.int d)) = .ok () (A8 (xs.set i y)) := by
  obtain ⟨hi, _⟩ := List.getElem?_eq_some_iff.mp h
  have ix0 : ixN ((bD' xs).map Im.W.dat).length (i : Int) = some i := ixN_nat (by simpa [bD'] using hi)
  subst e1
  have h1 : ((bD' xs).map Im.W.dat).set i (.dat (.int y.b)) = (bD' (xs.set i y)).map .dat := by unfold bD'; rw [List.map_set, List.map_set]
  have h2 : sD (xs.set i y) = sD xs := set_same h (by rw [e2])
  show (match ixN ((bD' xs).map Im.W.dat).length (i : Int) with
    | some k => Ri.ok () ((A8 xs).set 1 (.lst (((bD' xs).map Im.W.dat).set k (.dat (.int y.b)))))
    | none => .no) = _
  rw [ix0]
  show Ri.ok () ((A8 xs).set 1 (.lst (((bD' xs).map Im.W.dat).set i (.dat (.int y.b))))) = _
  rw [h1]
  unfold A8
  rw [h2]
  rfl
theorem e_turn (h : Nums 3 ns) {xs : List Gd} (h0 : xs ≠ []) (hl : xs.length ≤ 8) (ok : ∀ x ∈ xs, GOk x) : ∃ (i : Nat) (x y : Gd), xs[i]? = some x ∧ GLe x y ∧ GOk y ∧
    runI P PJ w (k + 1) "_law_turn" [.dat (.list (ns.map .int)), .dat (.list (xs.map gD)), .ref 0, .ref 1] (A8 xs) = .ok (.dat .none) (A8 (xs.set i y)) := by
  obtain ⟨a, ea, a0, a1⟩ := num_at' h (i := 0) (by omega) (by omega)
  obtain ⟨b, eb, b0, b1⟩ := num_at' h (i := 1) (by omega) (by omega)
  obtain ⟨c, ec, c0, c1⟩ := num_at' h (i := 2) (by omega) (by omega)
  have hp : 0 < xs.length := List.length_pos_iff.mpr h0
  have hm0 := Int.emod_nonneg a (show (xs.length : Int) ≠ 0 by omega)
  have hm1 := Int.emod_lt_of_pos a (show (0 : Int) < xs.length by omega)
  obtain ⟨i, ei⟩ : ∃ i : Nat, a % (xs.length : Int) = i := ⟨(a % (xs.length : Int)).toNat, by omega⟩
  have hi : i < xs.length := by omega
  have hx : xs[i]? = some xs[i] := List.getElem?_eq_getElem hi
  generalize xs[i] = x at hx
  have gx := ok x (List.mem_of_getElem? hx)
  have s0 : atI (sD xs) (i : Int) = some (.bool x.s) := at_map hx
  have s1 : atI (bD' xs) (i : Int) = some (.int x.b) := at_map hx
  have s2 : atI (xs.map gD) (i : Int) = some (.tuple [.int x.c, .int x.p]) := at_map hx
  have hpos : (0 : Int) < xs.length := by omega
  have t0 : evI (run P w k) (runI P PJ w k) w [some (.dat (.list (ns.map .int))), some (.dat (.list (xs.map gD))), some (.ref 0), some (.ref 1), none, none] (A8 xs) cj_law_turn_0 = .ok (.nx [some (.dat (.list (ns.map .int))), some (.dat (.list (xs.map gD))), some (.ref 0), some (.ref 1), some (.dat (.int i)), none]) (A8 xs) := by
    simp [cj_law_turn_0, ea, hp, ei]
  rw [rj__law_turn, evDI_is]
  unfold jb__law_turn
  refine ⟨i, x, ?_⟩
  cases es : x.s with
  | false =>
    refine ⟨{ x with s := true }, hx, ⟨rfl, rfl, fun _ => rfl, Int.le_refl _⟩, ⟨gx.c1, gx.c2, gx.p1, gx.p2, gx.b1, gx.b2, fun z => by cases z⟩, ?_⟩
    have st := sto0 (d := true) hx (y := { x with s := true }) rfl rfl
    have t1 : evI (run P w k) (runI P PJ w k) w [some (.dat (.list (ns.map .int))), some (.dat (.list (xs.map gD))), some (.ref 0), some (.ref 1), some (.dat (.int i)), none] (A8 xs) cj_law_turn_1 = .ok (.nx [some (.dat (.list (ns.map .int))), some (.dat (.list (xs.map gD))), some (.ref 0), some (.ref 1), some (.dat (.int i)), none]) (A8 (xs.set i { x with s := true })) := by
      simp [cj_law_turn_1, d0, s0, es, st]
    refine (congrArg (fun r => Ri.bind r endI) (Im.seq_nx t0)).trans ?_
    show (evI _ _ _ _ _ cj_law_turn_1).bind endI = _
    rw [t1]
    rfl
  | true =>
    by_cases q : x.b < x.c
    · have hr0 := Int.emod_nonneg b (show x.c - x.b ≠ 0 by omega)
      have hr1 := Int.emod_lt_of_pos b (show 0 < x.c - x.b by omega)
      obtain ⟨z, ez, mz⟩ := at_ints (xs := [1, x.c - x.b, 1 + b % (x.c - x.b)]) (i := c % 3) (by omega) (by simp; omega)
      have ez' : atI [PyData.int 1, .int (x.c - x.b), .int (1 + b % (x.c - x.b))] (c % 3) = some (.int z) := ez
      have hz : 1 ≤ z ∧ z ≤ x.c - x.b := by simp at mz; omega
      refine ⟨{ x with b := x.b + z }, hx, ⟨rfl, rfl, fun _ => es, by show x.b ≤ x.b + z; omega⟩, ⟨gx.c1, gx.c2, gx.p1, gx.p2, by have := gx.b1; show 0 ≤ x.b + z; omega, by show x.b + z ≤ x.c; omega, fun h => by rw [show ({ x with b := x.b + z } : Gd).s = x.s from rfl, es] at h; cases h⟩, ?_⟩
      have st := sto1 (d := x.b + z) hx (y := { x with b := x.b + z }) rfl rfl
      have hpc : 0 < x.c - x.b := by omega
      have hbc : x.b < x.c := q
      have t1 : evI (run P w k) (runI P PJ w k) w [some (.dat (.list (ns.map .int))), some (.dat (.list (xs.map gD))), some (.ref 0), some (.ref 1), some (.dat (.int i)), none] (A8 xs) cj_law_turn_1 = .ok (.nx [some (.dat (.list (ns.map .int))), some (.dat (.list (xs.map gD))), some (.ref 0), some (.ref 1), some (.dat (.int i)), some (.dat (.int (x.c - x.b)))]) (A8 (xs.set i { x with b := x.b + z })) := by
        have u1 : evI (run P w k) (runI P PJ w k) w [some (.dat (.list (ns.map .int))), some (.dat (.list (xs.map gD))), some (.ref 0), some (.ref 1), some (.dat (.int i)), none] (A8 xs) cj_law_turn_1ba_0 = .ok (.nx [some (.dat (.list (ns.map .int))), some (.dat (.list (xs.map gD))), some (.ref 0), some (.ref 1), some (.dat (.int i)), some (.dat (.int (x.c - x.b)))]) (A8 xs) := by
          simp [cj_law_turn_1ba_0, d0, d1, s1, s2]
        have u2 : evI (run P w k) (runI P PJ w k) w [some (.dat (.list (ns.map .int))), some (.dat (.list (xs.map gD))), some (.ref 0), some (.ref 1), some (.dat (.int i)), some (.dat (.int (x.c - x.b)))] (A8 xs) cj_law_turn_1ba_1 = .ok (.nx [some (.dat (.list (ns.map .int))), some (.dat (.list (xs.map gD))), some (.ref 0), some (.ref 1), some (.dat (.int i)), some (.dat (.int (x.c - x.b)))]) (A8 (xs.set i { x with b := x.b + z })) := by
          simp [cj_law_turn_1ba_1, d0, d1, s1, eb, ec, hpc, hbc, ez', le_size, st]
        have u3 : evI (run P w k) (runI P PJ w k) w [some (.dat (.list (ns.map .int))), some (.dat (.list (xs.map gD))), some (.ref 0), some (.ref 1), some (.dat (.int i)), none] (A8 xs) cj_law_turn_1ba = .ok (.nx [some (.dat (.list (ns.map .int))), some (.dat (.list (xs.map gD))), some (.ref 0), some (.ref 1), some (.dat (.int i)), some (.dat (.int (x.c - x.b)))]) (A8 (xs.set i { x with b := x.b + z })) := (Im.seq_nx u1).trans u2
        simp [cj_law_turn_1, cj_law_turn_1b, d0, d1, s0, s1, s2, es, hbc, u3]
      refine (congrArg (fun r => Ri.bind r endI) (Im.seq_nx t0)).trans ?_
      show (evI _ _ _ _ _ cj_law_turn_1).bind endI = _
      rw [t1]
      rfl
    · refine ⟨x, hx, GLe.refl x, gx, ?_⟩
      have same : xs.set i x = xs := by
        obtain ⟨hi, e⟩ := List.getElem?_eq_some_iff.mp hx
        rw [← e]
        exact List.set_getElem_self hi
      have t1 : evI (run P w k) (runI P PJ w k) w [some (.dat (.list (ns.map .int))), some (.dat (.list (xs.map gD))), some (.ref 0), some (.ref 1), some (.dat (.int i)), none] (A8 xs) cj_law_turn_1 = .ok (.nx [some (.dat (.list (ns.map .int))), some (.dat (.list (xs.map gD))), some (.ref 0), some (.ref 1), some (.dat (.int i)), none]) (A8 xs) := by
        simp [cj_law_turn_1, cj_law_turn_1b, d0, d1, s0, s1, s2, es, q]
      rw [same]
      refine (congrArg (fun r => Ri.bind r endI) (Im.seq_nx t0)).trans ?_
      show (evI _ _ _ _ _ cj_law_turn_1).bind endI = _
      rw [t1]
      rfl
end K08

set_option Elab.async false
set_option linter.all false
set_option maxRecDepth 100000
set_option maxHeartbeats 4000000
namespace K08
open PySem L2 Pe Im
variable {w k : Nat} {ns : List Int}
def cp (x : Gd) : Int × Int := (x.c, x.p)
def bp (x : Gd) : Int × Int := (x.b, x.p)
def gone (xs : List Gd) : Int := val ((xs.filter (·.s)).map cp)
def home (xs : List Gd) : Int := val (xs.map bp)
def whole (xs : List Gd) : Int := val (xs.map cp)
theorem gone_cons {x : Gd} {xs : List Gd} : gone (x :: xs) = (if x.s = true then x.c * x.p else 0) + gone xs := by
  unfold gone
  by_cases h : x.s = true
  · rw [List.filter_cons_of_pos (by simpa using h), if_pos h]; rfl
  · rw [List.filter_cons_of_neg (by simpa using h), if_neg h]; omega
theorem home_cons {x : Gd} {xs : List Gd} : home (x :: xs) = x.b * x.p + home xs := rfl
theorem whole_cons {x : Gd} {xs : List Gd} : whole (x :: xs) = x.c * x.p + whole xs := rfl
theorem le_mul {a b p : Int} (h : a ≤ b) (hp : 0 ≤ p) : a * p ≤ b * p := Int.mul_le_mul_of_nonneg_right h hp
theorem sums : ∀ {xs : List Gd}, (∀ x ∈ xs, GOk x) → 0 ≤ home xs ∧ home xs ≤ gone xs ∧ gone xs ≤ whole xs ∧ whole xs ≤ xs.length * 9899901
  | [], _ => by simp [gone, home, whole, val]
  | x :: xs, h => by
    obtain ⟨a, b, c, d⟩ := sums fun y hy => h y (List.mem_cons_of_mem _ hy)
    have g := h x List.mem_cons_self
    have h1 := le_mul g.b1 g.p1
    have h2 := le_mul g.b2 g.p1
    have h3 := le_mul g.c2 g.p1
    have h4 : (99 : Int) * x.p ≤ 99 * 99999 := Int.mul_le_mul_of_nonneg_left g.p2 (by decide)
    have hs : x.s = false → x.b * x.p = 0 := fun z => by rw [g.s1 z]; omega
    rw [gone_cons, home_cons, whole_cons, List.length_cons]
    push_cast
    cases e : x.s with
    | true =>
      rw [if_pos rfl]
      refine ⟨?_, ?_, ?_, ?_⟩ <;> omega
    | false =>
      rw [if_neg (by simp)]
      have := hs e
      refine ⟨?_, ?_, ?_, ?_⟩ <;> omega
theorem mono : ∀ {xs ys : List Gd}, Al GLe xs ys → (∀ x ∈ xs, GOk x) → gone xs ≤ gone ys ∧ home xs ≤ home ys
  | _, _, .nil, _ => ⟨Int.le_refl _, Int.le_refl _⟩
  | x :: xs, y :: ys, .cons r t, h => by
    obtain ⟨a, b⟩ := mono t fun z hz => h z (List.mem_cons_of_mem _ hz)
    have g := h x List.mem_cons_self
    have h1 := le_mul r.b g.p1
    have h2 : 0 ≤ x.c * x.p := Int.mul_nonneg (by have := g.c1; omega) g.p1
    rw [gone_cons, gone_cons, home_cons, home_cons, r.c, r.p]
    refine ⟨?_, by omega⟩
    cases e : x.s with
    | true => rw [r.s e]; omega
    | false => cases y.s <;> simp <;> omega
theorem al_refl : ∀ xs : List Gd, Al GLe xs xs
  | [] => .nil
  | x :: xs => .cons (GLe.refl x) (al_refl xs)
theorem al_set {xs : List Gd} {i : Nat} {x y : Gd} (h : xs[i]? = some x) (r : GLe x y) : Al GLe xs (xs.set i y) := by
  have := Al.set r i (al_refl xs)
  obtain ⟨hi, e⟩ := List.getElem?_eq_some_iff.mp h
  rw [← e, List.set_getElem_self hi] at this
  exact this
theorem al_cp : ∀ {xs ys : List Gd}, Al GLe xs ys → ys.map cp = xs.map cp
  | _, _, .nil => rfl
  | x :: xs, y :: ys, .cons r t => by
    rw [List.map_cons, List.map_cons, al_cp t]
    unfold cp
    rw [r.c, r.p]
theorem set_ok {xs : List Gd} {i : Nat} {y : Gd} (h : ∀ x ∈ xs, GOk x) (g : GOk y) : ∀ x ∈ xs.set i y, GOk x := fun x hx => by
  rcases List.mem_or_eq_of_mem_set hx with h1 | rfl
  · exact h x h1
  · exact g
/-! ### the two walks -/
theorem rng_at {n : Nat} {i : Nat} {d : D} (h : (rangeL 0 (n : Int))[i]? = some d) : d = .int i ∧ i < n := by
  have h1 := range_at h
  have h2 := (List.getElem?_eq_some_iff.mp h).1
  rw [rangeL_len] at h2
  exact ⟨by rw [h1, Int.zero_add], by omega⟩
theorem filt : ∀ xs : List Gd, (xs.map fun x => if x.s = true then some (gD x) else none).filterMap id = ((xs.filter (·.s)).map cp).map pr
  | [] => rfl
  | x :: xs => by
    have ih := filt xs
    by_cases h : x.s = true
    · rw [List.filter_cons_of_pos (by simpa using h), List.map_cons, if_pos h]
      simp only [List.filterMap_cons, id, List.map_cons, ih]
      rfl
    · rw [List.filter_cons_of_neg (by simpa using h), List.map_cons, if_neg h]
      simp only [List.filterMap_cons, id, ih]
theorem cm1 {F : Str → List D → Res D} {xs : List Gd} (ν : List (Option D)) (h2 : ν[2]? = some (some (.list (xs.map gD)))) (h5 : ν[5]? = some (some (.list (sD xs)))) (hl : ν.length = 16) :
    compL (itemR F ν (.idx (.var 2) (.var 15)) (.idx (.var 5) (.var 15)) (.inl 15) [14, 15]) (rangeL 0 (xs.length : Int)) = .ok (((xs.filter (·.s)).map cp).map pr) := by
  rw [← filt]
  refine compL_at (by rw [rangeL_len, List.length_map]; omega) fun i d o e1 e2 => ?_
  obtain ⟨rfl, hi⟩ := rng_at e1
  rw [List.getElem?_map] at e2
  have hx : xs[i]? = some xs[i] := List.getElem?_eq_getElem hi
  rw [hx] at e2
  generalize xs[i] = x at hx e2
  cases e2
  have s0 : atI (sD xs) (i : Int) = some (.bool x.s) := at_map hx
  have s2 : atI (xs.map gD) (i : Int) = some (gD x) := at_map hx
  have a2 : (((ν.set 15 none).set 14 none).set 15 (some (.int (i : Int))))[2]? = some (some (.list (xs.map gD))) := by simp [h2]
  have a5 : (((ν.set 15 none).set 14 none).set 15 (some (.int (i : Int))))[5]? = some (some (.list (sD xs))) := by simp [h5]
  have a15 : (((ν.set 15 none).set 14 none).set 15 (some (.int (i : Int))))[15]? = some (some (.int (i : Int))) := by simp [hl]
  unfold itemR
  simp only [wipe_cons, wipe_nil, setTg, v_idx, v_var, a2, a5, a15, Res.bind_ok, i_list, s0, s2, Res.ofO_some, Res.noErr_ok, truD]
  cases x.s <;> rfl
theorem cm2 {F : Str → List D → Res D} {xs : List Gd} (ν : List (Option D)) (h2 : ν[2]? = some (some (.list (xs.map gD)))) (h6 : ν[6]? = some (some (.list (bD' xs)))) (hl : ν.length = 16) :
    compL (itemR F ν (.tup (.acons (.idx (.var 6) (.var 15)) (.acons (.idx (.idx (.var 2) (.var 15)) (.cst (.int 1))) .anil))) (.cst (.bool true)) (.inl 15) [14, 15]) (rangeL 0 (xs.length : Int)) = .ok ((xs.map bp).map pr) := by
  have e0 : (xs.map bp).map pr = (xs.map fun x => some (pr (bp x))).filterMap id := by
    clear h2 h6
    induction xs with
    | nil => rfl
    | cons x xs ih =>
      rw [List.map_cons, List.map_cons, List.map_cons, ih]
      rfl
  rw [e0]
  refine compL_at (by rw [rangeL_len, List.length_map]; omega) fun i d o e1 e2 => ?_
  obtain ⟨rfl, hi⟩ := rng_at e1
  rw [List.getElem?_map] at e2
  have hx : xs[i]? = some xs[i] := List.getElem?_eq_getElem hi
  rw [hx] at e2
  generalize xs[i] = x at hx e2
  cases e2
  have s0 : atI (bD' xs) (i : Int) = some (.int x.b) := at_map hx
  have s2 : atI (xs.map gD) (i : Int) = some (gD x) := at_map hx
  have s3 : atI [PyData.int x.c, .int x.p] 1 = some (.int x.p) := rfl
  have a2 : (((ν.set 15 none).set 14 none).set 15 (some (.int (i : Int))))[2]? = some (some (.list (xs.map gD))) := by simp [h2]
  have a6 : (((ν.set 15 none).set 14 none).set 15 (some (.int (i : Int))))[6]? = some (some (.list (bD' xs))) := by simp [h6]
  have a15 : (((ν.set 15 none).set 14 none).set 15 (some (.int (i : Int))))[15]? = some (some (.int (i : Int))) := by simp [hl]
  rw [item_one]
  simp [a2, a6, a15, s0, s2, s3, gD, pr, bp, le_size]
end K08

set_option Elab.async false
set_option linter.all false
set_option maxRecDepth 100000
set_option maxHeartbeats 4000000
namespace K08
open PySem L2 Pe Im
variable {w k : Nat} {ns : List Int}
@[simp] theorem isT_i {i : Int} : isTO .int (.int i) = some (.bool true) := id rfl
@[simp] theorem isT_b {i : Int} : isTO .bool (.int i) = some (.bool false) := id rfl
theorem vwW_c {A : Hv} {o : Option Im.W} {r : Ro} : vwW A (o :: r) = o.bind (deep dpF A) :: vwW A r := rfl
abbrev R8 (sc hd : D) (xs : List Gd) (wh tot ch gv : Int) (s9 s10 s11 s12 s13 : Option Im.W) : Ro := [some (.dat sc), some (.dat hd), some (.dat (.list (xs.map gD))), some (.dat (.int wh)), some (.dat (.int tot)), some (.ref 0), some (.ref 1), some (.dat (.int ch)), some (.dat (.int gv)), s9, s10, s11, s12, s13, none, none]
theorem gD_cp {xs : List Gd} : xs.map gD = (xs.map cp).map pr := by rw [List.map_map]; rfl
theorem e_step {sc : List Int} {hd : D} {xs : List Gd} {tot : Int} {a : Int} {s9 s10 s11 s12 s13 : Option Im.W} (h0 : xs ≠ []) (hl : xs.length ≤ 8) (ok : ∀ x ∈ xs, GOk x) (t0 : 0 ≤ tot) (t1 : tot < 1000000000) (a0 : 0 ≤ a) (a1 : a < sc.length) :
    ∃ (ys : List Gd) (s9' s10' s11' s12' s13' : Option Im.W), evI (run P w (k + 1)) (runI P PJ w (k + 1)) w ((R8 (.list (sc.map .int)) hd xs (whole xs) tot (shr tot (gone xs) (whole xs)) (shr tot (home xs) (whole xs)) s9 s10 s11 s12 s13).set 9 (some (.dat (.int a)))) (A8 xs) cj_law_9b =
      .ok (.nx (R8 (.list (sc.map .int)) hd ys (whole xs) tot (shr tot (gone ys) (whole xs)) (shr tot (home ys) (whole xs)) s9' s10' s11' s12' s13')) (A8 ys) ∧ (∀ x ∈ ys, GOk x) ∧ ys.map cp = xs.map cp := by
  obtain ⟨c, ec⟩ := cell_at (ns := sc) a0 a1
  obtain ⟨n3, en, hn⟩ := e_numbers (w := w) (k := k) c a 3 (by decide)
  have en : run P w (k + 1) "_law_numbers" [.int c, .int a, .int 3] = .ok (.list (n3.map .int)) := en
  obtain ⟨i, x, y, hx, r, gy, et⟩ := e_turn (w := w) (k := k) hn h0 hl ok
  have al := al_set hx r
  have oky := set_ok (i := i) ok gy
  have hcp := al_cp al
  generalize xs.set i y = ys at et al oky hcp
  have hw : whole ys = whole xs := by unfold whole; rw [hcp]
  have hlen : ys.length = xs.length := by simpa using congrArg List.length hcp
  have hgD : ys.map gD = xs.map gD := by rw [gD_cp, gD_cp, hcp]
  obtain ⟨p1, p2, p3, p4⟩ := sums oky
  obtain ⟨q1, q2, q3, q4⟩ := sums ok
  obtain ⟨m1, m2⟩ := mono al ok
  have hwb : whole ys ≤ 8 * 9899901 := by rw [hlen] at p4; omega
  have mo : ∀ p, mulOk tot p = true := fun p => mulOk_l (small_of (by omega))
  have sh1 := e_share (w := w) (k := k) (t := tot) (p := gone ys) (wh := whole xs) (mo _) (by omega) (by omega)
  have sh2 := e_share (w := w) (k := k) (t := tot) (p := home ys) (wh := whole xs) (mo _) (by omega) (by omega)
  have hr : rngR (.int 0) (.int (ys.length : Int)) = .ok (.list (rangeL 0 (ys.length : Int))) := rngR_int (by omega) (by omega) (by omega) (by omega)
  have hz : (rangeL 0 (ys.length : Int)).length ≤ sizeLine := by rw [rangeL_len, sizeLine_eq]; omega
  have v1 : run P w (k + 1) "_law_value" [.list (((ys.filter (·.s)).map cp).map pr)] = .ok (.int (gone ys)) := e_value fun p hp => by
    obtain ⟨z, hz, rfl⟩ := List.mem_map.mp hp
    have g := oky z (List.mem_filter.mp hz).1
    exact ⟨by have := g.c1; show 0 ≤ z.c; omega, g.c2⟩
  have v2 : run P w (k + 1) "_law_value" [.list ((ys.map bp).map pr)] = .ok (.int (home ys)) := e_value fun p hp => by
    obtain ⟨z, hz, rfl⟩ := List.mem_map.mp hp
    have g := oky z hz
    exact ⟨g.b1, by have := g.b2; have := g.c2; show z.b ≤ 99; omega⟩
  have c1 := cm1 (F := run P w (k + 1)) (xs := ys)
  have c2 := cm2 (F := run P w (k + 1)) (xs := ys)
  generalize ((ys.filter (·.s)).map cp).map pr = L1 at v1 c1
  generalize (ys.map bp).map pr = L2' at v2 c2
  rw [← hgD] at et
  -- the values
  have g1 : shr tot (gone xs) (whole xs) ≤ shr tot (gone ys) (whole xs) := shr_mono t0 (by omega) m1
  have g2 : shr tot (home xs) (whole xs) ≤ shr tot (home ys) (whole xs) := shr_mono t0 (by omega) m2
  have g3 : shr tot (home ys) (whole xs) ≤ shr tot (gone ys) (whole xs) := shr_mono t0 (by omega) p2
  have g4 : shr tot (gone ys) (whole xs) ≤ tot := shr_le t0 (by omega) (by omega)
  have g5 : 0 < whole xs → gone ys = whole xs → shr tot (gone ys) (whole xs) = tot := fun a b => by rw [b]; exact shr_all a
  have g6 : 0 < whole xs → home ys = whole xs → shr tot (home ys) (whole xs) = tot := fun a b => by rw [b]; exact shr_all a
  refine ⟨ys, some (.dat (.int a)), some (.dat (.int (gone ys))), some (.dat (.int (home ys))), some (.dat (.int (shr tot (gone ys) (whole xs)))), some (.dat (.int (shr tot (home ys) (whole xs)))), ?_, oky, hcp⟩
  generalize shr tot (gone ys) (whole xs) = n12 at *
  generalize shr tot (home ys) (whole xs) = n13 at *
  generalize shr tot (gone xs) (whole xs) = ch at *
  generalize shr tot (home xs) (whole xs) = gv at *
  generalize whole xs = wh at *
  generalize gone ys = go at *
  generalize home ys = ho at *
  have et' : runI P PJ w (k + 1) "_law_turn" [.dat (.list (n3.map .int)), .dat (.list (xs.map gD)), .ref 0, .ref 1] (A8 xs) = .ok (.dat .none) (A8 ys) := by rw [← hgD]; exact et
  unfold cj_law_9b
  have u0 : evI (run P w (k + 1)) (runI P PJ w (k + 1)) w (R8 (.list (sc.map .int)) hd xs wh tot ch gv (some (.dat (.int a))) s10 s11 s12 s13) (A8 xs) cj_law_9b_0 = .ok (.nx (R8 (.list (sc.map .int)) hd xs wh tot ch gv (some (.dat (.int a))) s10 s11 s12 s13)) (A8 ys) := by
    simp [cj_law_9b_0, ec, en, et']
  refine (Im.seq_nx u0).trans ?_
  unfold R8
  rw [← hgD]
  have u1 : evI (run P w (k + 1)) (runI P PJ w (k + 1)) w (R8 (.list (sc.map .int)) hd ys wh tot ch gv (some (.dat (.int a))) s10 s11 s12 s13) (A8 ys) cj_law_9b_1 = .ok (.nx (R8 (.list (sc.map .int)) hd ys wh tot ch gv (some (.dat (.int a))) (some (.dat (.int go))) s11 s12 s13)) (A8 ys) := by
    simp [cj_law_9b_1, vwW_c, d0, d1, hr, hz, c1, v1]
  refine (Im.seq_nx u1).trans ?_
  have u2 : evI (run P w (k + 1)) (runI P PJ w (k + 1)) w (R8 (.list (sc.map .int)) hd ys wh tot ch gv (some (.dat (.int a))) (some (.dat (.int go))) s11 s12 s13) (A8 ys) cj_law_9b_2 = .ok (.nx (R8 (.list (sc.map .int)) hd ys wh tot ch gv (some (.dat (.int a))) (some (.dat (.int go))) (some (.dat (.int ho))) s12 s13)) (A8 ys) := by
    simp [cj_law_9b_2, vwW_c, d0, d1, hr, hz, c2, v2]
  refine (Im.seq_nx u2).trans ?_
  have u3 : evI (run P w (k + 1)) (runI P PJ w (k + 1)) w (R8 (.list (sc.map .int)) hd ys wh tot ch gv (some (.dat (.int a))) (some (.dat (.int go))) (some (.dat (.int ho))) s12 s13) (A8 ys) cj_law_9b_3 = .ok (.nx (R8 (.list (sc.map .int)) hd ys wh tot ch gv (some (.dat (.int a))) (some (.dat (.int go))) (some (.dat (.int ho))) (some (.dat (.int n12))) s13)) (A8 ys) := by
    simp [cj_law_9b_3, sh1]
  refine (Im.seq_nx u3).trans ?_
  have u4 : evI (run P w (k + 1)) (runI P PJ w (k + 1)) w (R8 (.list (sc.map .int)) hd ys wh tot ch gv (some (.dat (.int a))) (some (.dat (.int go))) (some (.dat (.int ho))) (some (.dat (.int n12))) s13) (A8 ys) cj_law_9b_4 = .ok (.nx (R8 (.list (sc.map .int)) hd ys wh tot ch gv (some (.dat (.int a))) (some (.dat (.int go))) (some (.dat (.int ho))) (some (.dat (.int n12))) (some (.dat (.int n13))))) (A8 ys) := by
    simp [cj_law_9b_4, sh2]
  refine (Im.seq_nx u4).trans ?_
  have u5 : evI (run P w (k + 1)) (runI P PJ w (k + 1)) w (R8 (.list (sc.map .int)) hd ys wh tot ch gv (some (.dat (.int a))) (some (.dat (.int go))) (some (.dat (.int ho))) (some (.dat (.int n12))) (some (.dat (.int n13)))) (A8 ys) cj_law_9b_5 = .ok (.nx (R8 (.list (sc.map .int)) hd ys wh tot ch gv (some (.dat (.int a))) (some (.dat (.int go))) (some (.dat (.int ho))) (some (.dat (.int n12))) (some (.dat (.int n13))))) (A8 ys) := by
    simp [cj_law_9b_5, d0, d1]
  refine (Im.seq_nx u5).trans ?_
  have u6 : evI (run P w (k + 1)) (runI P PJ w (k + 1)) w (R8 (.list (sc.map .int)) hd ys wh tot ch gv (some (.dat (.int a))) (some (.dat (.int go))) (some (.dat (.int ho))) (some (.dat (.int n12))) (some (.dat (.int n13)))) (A8 ys) cj_law_9b_6 = .ok (.nx (R8 (.list (sc.map .int)) hd ys wh tot ch gv (some (.dat (.int a))) (some (.dat (.int go))) (some (.dat (.int ho))) (some (.dat (.int n12))) (some (.dat (.int n13))))) (A8 ys) := by
    have b1 : ¬ n12 < ch := by omega
    have b2 : ¬ n13 < gv := by omega
    have b3 : ¬ n12 < n13 := by omega
    have b4 : ¬ tot < n12 := by omega
    simp [cj_law_9b_6, d0, d1, b1, b2, b3, b4]
  refine (Im.seq_nx u6).trans ?_
  have u7 : evI (run P w (k + 1)) (runI P PJ w (k + 1)) w (R8 (.list (sc.map .int)) hd ys wh tot ch gv (some (.dat (.int a))) (some (.dat (.int go))) (some (.dat (.int ho))) (some (.dat (.int n12))) (some (.dat (.int n13)))) (A8 ys) cj_law_9b_7 = .ok (.nx (R8 (.list (sc.map .int)) hd ys wh tot ch gv (some (.dat (.int a))) (some (.dat (.int go))) (some (.dat (.int ho))) (some (.dat (.int n12))) (some (.dat (.int n13))))) (A8 ys) := by
    by_cases c0 : 0 < wh
    · by_cases c1 : go = wh
      · have := g5 c0 c1
        subst this
        by_cases c2 : ho = wh
        · have := g6 c0 c2
          subst this
          simp [cj_law_9b_7, d0, d1, c0, c1, c2]
        · have c2' : (ho == wh) = false := beq_eq_false_iff_ne.mpr c2
          simp [cj_law_9b_7, d0, d1, c0, c1, c2']
      · have c1' : (go == wh) = false := beq_eq_false_iff_ne.mpr c1
        by_cases c2 : ho = wh
        · have := g6 c0 c2
          subst this
          simp [cj_law_9b_7, d0, d1, c0, c1', c2]
        · have c2' : (ho == wh) = false := beq_eq_false_iff_ne.mpr c2
          simp [cj_law_9b_7, d0, d1, c0, c1', c2']
    · simp [cj_law_9b_7, d0, d1, c0]
  refine (Im.seq_nx u7).trans ?_
  have u8 : evI (run P w (k + 1)) (runI P PJ w (k + 1)) w (R8 (.list (sc.map .int)) hd ys wh tot ch gv (some (.dat (.int a))) (some (.dat (.int go))) (some (.dat (.int ho))) (some (.dat (.int n12))) (some (.dat (.int n13)))) (A8 ys) (.set 7 (.var 12)) = .ok (.nx (R8 (.list (sc.map .int)) hd ys wh tot n12 gv (some (.dat (.int a))) (some (.dat (.int go))) (some (.dat (.int ho))) (some (.dat (.int n12))) (some (.dat (.int n13))))) (A8 ys) := by
    simp
  refine (Im.seq_nx u8).trans ?_
  simp
end K08

set_option Elab.async false
set_option linter.all false
set_option maxRecDepth 100000
set_option maxHeartbeats 4000000
namespace K08
open PySem L2 Pe Im
variable {w k : Nat}
def g0 (p : Int × Int) : Gd := ⟨p.1, p.2, false, 0⟩
theorem g0_cp (ps : List (Int × Int)) : (ps.map g0).map cp = ps := by
  induction ps with
  | nil => rfl
  | cons p ps ih => rw [List.map_cons, List.map_cons, ih]; rfl
theorem g0_gone (ps : List (Int × Int)) : gone (ps.map g0) = 0 := by
  induction ps with
  | nil => rfl
  | cons p ps ih => rw [List.map_cons, gone_cons, ih]; rfl
theorem g0_home (ps : List (Int × Int)) : home (ps.map g0) = 0 := by
  induction ps with
  | nil => rfl
  | cons p ps ih => rw [List.map_cons, home_cons, ih]; show (0 : Int) * p.2 + 0 = 0; omega
theorem rep_flat {n : Nat} {d : D} : (List.replicate n [d]).flatten = List.replicate n d := by
  induction n with
  | zero => rfl
  | succ n ih => rw [List.replicate_succ, List.flatten_cons, ih, List.replicate_succ]; rfl
theorem g0_s (ps : List (Int × Int)) : List.replicate ps.length (PyData.bool false) = sD (ps.map g0) := by
  induction ps with
  | nil => rfl
  | cons p ps ih => rw [List.length_cons, List.replicate_succ, ih]; rfl
theorem g0_b (ps : List (Int × Int)) : List.replicate ps.length (PyData.int 0) = bD' (ps.map g0) := by
  induction ps with
  | nil => rfl
  | cons p ps ih => rw [List.length_cons, List.replicate_succ, ih]; rfl
theorem rep_D {ps : List (Int × Int)} (h : ps.length ≤ 8) (d : D) : mulD (.list [d]) (.int (ps.length : Int)) = some (.list (List.replicate ps.length d)) := by
  show (if -(9223372036854775808) ≤ (ps.length : Int) ∧ (ps.length : Int) < 9223372036854775808 ∧ [d].length * ((ps.length : Int)).toNat ≤ sizeLine then some (PyData.list (List.replicate ((ps.length : Int)).toNat [d]).flatten) else none) = _
  rw [if_pos ⟨by omega, by omega, by rw [sizeLine_eq]; simp; omega⟩, Int.toNat_natCast, rep_flat]
theorem e_total {ns : List Int} (h : Nums 30 ns) {wh : Int} (w0 : 0 ≤ wh) (w1 : wh ≤ 80000000) : ∃ tot : Int, 0 ≤ tot ∧ tot < 1000000000 ∧ ∀ (F : FP) (I : FW) (a c : D) (A : Hv) (r : Ro), evI F I w (some (.dat a) :: some (.dat (.list (ns.map .int))) :: some (.dat c) :: some (.dat (.int wh)) :: none :: r) A cj_law_4 = .ok (.nx (some (.dat a) :: some (.dat (.list (ns.map .int))) :: some (.dat c) :: some (.dat (.int wh)) :: some (.dat (.int tot)) :: r)) A := by
  obtain ⟨a, ea, a0, a1⟩ := num_at' h (i := 1) (by omega) (by omega)
  obtain ⟨b, eb, b0, b1⟩ := num_at' h (i := 2) (by omega) (by omega)
  obtain ⟨c, ec, c0, c1⟩ := num_at' h (i := 3) (by omega) (by omega)
  obtain ⟨d, ed, d0', d1'⟩ := num_at' h (i := 4) (by omega) (by omega)
  obtain ⟨z, ez, mz⟩ := at_ints (xs := [0, 1, wh, wh + wh / 10, a * 1000000 + b * 1000 + c]) (i := d % 5) (by omega) (by simp; omega)
  have ez' : atI [PyData.int 0, .int 1, .int wh, .int (wh + wh / 10), .int (a * 1000000 + b * 1000 + c)] (d % 5) = some (.int z) := ez
  have ma : mulOk a 1000000 = true := mulOk_r (by decide)
  have mb : mulOk b 1000 = true := mulOk_r (by decide)
  refine ⟨z, ?_, ?_, fun F I a' c' A r => ?_⟩
  · simp at mz; omega
  · simp at mz; omega
  · simp [cj_law_4, ea, eb, ec, ed, ma, mb, ez', le_size]
def JJ (sc : List Int) (hd : D) (ps : List (Int × Int)) (tot : Int) (_ : Nat) (ρ : Ro) (A : Hv) : Prop := ∃ (xs : List Gd) (s9 s10 s11 s12 s13 : Option Im.W), ρ = R8 (.list (sc.map .int)) hd xs (val ps) tot (shr tot (gone xs) (val ps)) (shr tot (home xs) (val ps)) s9 s10 s11 s12 s13 ∧ A = A8 xs ∧ (∀ x ∈ xs, GOk x) ∧ xs.map cp = ps
theorem e_loop {sc : List Int} {hd : D} {ps : List (Int × Int)} {tot m : Int} (h1 : 1 ≤ ps.length) (h8 : ps.length ≤ 8) (t0 : 0 ≤ tot) (t1 : tot < 1000000000) (hm : m ≤ sc.length) {ρ : Ro} {A : Hv} (h : JJ sc hd ps tot 0 ρ A) :
    ∃ ρ' A', forI (stepI (run P w (k + 1)) (runI P PJ w (k + 1)) w (.inl 9) cj_law_9b) ρ A ((rangeL 1 m).map .dat) = .ok (.nx ρ') A' := by
  obtain ⟨ρ', A', e, _⟩ := forI_inv (g := stepI (run P w (k + 1)) (runI P PJ w (k + 1)) w (.inl 9) cj_law_9b) (ds := (rangeL 1 m).map Im.W.dat) (JJ sc hd ps tot) (fun i ρ A d hd' ⟨xs, s9, s10, s11, s12, s13, e1, e2, ok, hcp⟩ => by
    subst e1 e2
    rw [List.getElem?_map] at hd'
    cases er : (rangeL 1 m)[i]? with
    | none => rw [er] at hd'; cases hd'
    | some d1 =>
      rw [er] at hd'
      cases hd'
      have hi := (List.getElem?_eq_some_iff.mp er).1
      rw [rangeL_len] at hi
      have := range_at er
      subst this
      have hl : xs.length = ps.length := by simpa using congrArg List.length hcp
      have hw : whole xs = val ps := by unfold whole; rw [hcp]
      obtain ⟨ys, a9, a10, a11, a12, a13, es, ok', hcp'⟩ := e_step (w := w) (k := k) (sc := sc) (hd := hd) (xs := xs) (tot := tot) (a := 1 + (i : Int)) (s9 := s9) (s10 := s10) (s11 := s11) (s12 := s12) (s13 := s13) (by intro z; rw [z] at hl; simp at hl; omega) (by omega) ok t0 t1 (by omega) (by omega)
      rw [hw] at es
      exact ⟨_, _, es, ys, a9, a10, a11, a12, a13, rfl, rfl, ok', by rw [hcp', hcp]⟩) h
  exact ⟨ρ', A', e⟩
theorem holds_at (wid : Nat) (ns : List Int) (hn : ns.length ≤ 63) : ∃ A, runI P PJ wid 40 "law" [.dat (.list (ns.map .int))] [] = .ok (.dat (.bool true)) A := by
  -- the first cell
  have hc : ∃ c : Int, ∀ (ν : List (Option D)), ν[0]? = some (some (.list (ns.map .int))) → evE (run P wid 39) ν (.ite (.cmp .Gt (.bf .len (.acons (.var 0) .anil)) (.cst (.int 0))) (.idx (.var 0) (.cst (.int 0))) (.cst (.int 0))) = .ok (.int c) := by
    by_cases h0 : 0 < ns.length
    · obtain ⟨c, ec⟩ := cell_at (ns := ns) (i := 0) (by omega) (by omega)
      exact ⟨c, fun ν h => by simp [h, h0, ec]⟩
    · exact ⟨0, fun ν h => by simp [h, h0]⟩
  obtain ⟨c, hc⟩ := hc
  obtain ⟨hs, eh, hN⟩ := e_numbers (w := wid) (k := 38) c 0 30 (by decide)
  have eh : run P wid 39 "_law_numbers" [.int c, .int 0, .int 30] = .ok (.list (hs.map .int)) := eh
  obtain ⟨ps, eg, l1, l8, hp⟩ := e_goods (w := wid) (k := 38) hN
  have hp' : ∀ p ∈ ps, 0 ≤ p.1 ∧ p.1 ≤ 99 := fun p m => by have := hp p m; omega
  have ev := e_goodsv (w := wid) (k := 38) (ps := ps) (by omega) hp'
  have ev2 := e_value (w := wid) (k := 38) hp'
  have ok0 : ∀ x ∈ ps.map g0, GOk x := fun x hx => by
    obtain ⟨p, m, rfl⟩ := List.mem_map.mp hx
    obtain ⟨a, b, c, d⟩ := hp p m
    exact ⟨a, b, c, d, Int.le_refl _, by show (0 : Int) ≤ p.1; omega, fun _ => rfl⟩
  obtain ⟨q1, q2, q3, q4⟩ := sums ok0
  have hw : whole (ps.map g0) = val ps := by unfold whole; rw [g0_cp]
  rw [hw] at q3 q4
  rw [List.length_map] at q4
  obtain ⟨tot, t0, t1, et⟩ := e_total (w := wid) hN (wh := val ps) (by omega) (by omega)
  have gds : (ps.map g0).map gD = ps.map pr := by rw [gD_cp, g0_cp]
  have m1 := rep_D l8 (.bool false)
  have m2 := rep_D l8 (.int 0)
  rw [g0_s] at m1
  rw [g0_b] at m2
  have m1 : binD .Mult (.list [.bool false]) (.int (ps.length : Int)) = some (.list (sD (ps.map g0))) := m1
  have m2 : binD .Mult (.list [.int 0]) (.int (ps.length : Int)) = some (.list (bD' (ps.map g0))) := m2
  -- the walk
  obtain ⟨m, em, hm⟩ : ∃ m : Int, (if (61 : Int) < (ns.length : Int) then (61 : Int) else (ns.length : Int)) = m ∧ 0 ≤ m ∧ m ≤ ns.length := by
    refine ⟨_, rfl, ?_, ?_⟩ <;> split <;> omega
  obtain ⟨ρ', A', el⟩ := e_loop (w := wid) (k := 38) (sc := ns) (hd := .list (hs.map .int)) (m := m) l1 l8 t0 t1 hm.2 (ρ := R8 (.list (ns.map .int)) (.list (hs.map .int)) (ps.map g0) (val ps) tot 0 0 none none none none none) (A := A8 (ps.map g0)) ⟨ps.map g0, none, none, none, none, none, by rw [g0_gone, g0_home, shr_zero], rfl, ok0, g0_cp ps⟩
  refine ⟨A', ?_⟩
  rw [rj_law, evDI_is]
  unfold jb_law
  have u0 : evI (run P wid 39) (runI P PJ wid 39) wid [some (.dat (.list (ns.map .int))), none, none, none, none, none, none, none, none, none, none, none, none, none, none, none] [] cj_law_0 = .ok (.nx [some (.dat (.list (ns.map .int))), some (.dat (.list (hs.map .int))), none, none, none, none, none, none, none, none, none, none, none, none, none, none]) [] := by
    simp [cj_law_0, hc, eh]
  have u1 : evI (run P wid 39) (runI P PJ wid 39) wid [some (.dat (.list (ns.map .int))), some (.dat (.list (hs.map .int))), none, none, none, none, none, none, none, none, none, none, none, none, none, none] [] cj_law_1 = .ok (.nx [some (.dat (.list (ns.map .int))), some (.dat (.list (hs.map .int))), some (.dat (.list (ps.map pr))), none, none, none, none, none, none, none, none, none, none, none, none, none]) [] := by
    simp [cj_law_1, eg]
  have u2 : evI (run P wid 39) (runI P PJ wid 39) wid [some (.dat (.list (ns.map .int))), some (.dat (.list (hs.map .int))), some (.dat (.list (ps.map pr))), none, none, none, none, none, none, none, none, none, none, none, none, none] [] cj_law_2 = .ok (.nx [some (.dat (.list (ns.map .int))), some (.dat (.list (hs.map .int))), some (.dat (.list (ps.map pr))), some (.dat (.int (val ps))), none, none, none, none, none, none, none, none, none, none, none, none]) [] := by
    simp [cj_law_2, ev]
  have u3 : evI (run P wid 39) (runI P PJ wid 39) wid [some (.dat (.list (ns.map .int))), some (.dat (.list (hs.map .int))), some (.dat (.list (ps.map pr))), some (.dat (.int (val ps))), none, none, none, none, none, none, none, none, none, none, none, none] [] cj_law_3 = .ok (.nx [some (.dat (.list (ns.map .int))), some (.dat (.list (hs.map .int))), some (.dat (.list (ps.map pr))), some (.dat (.int (val ps))), none, none, none, none, none, none, none, none, none, none, none, none]) [] := by
    simp [cj_law_3, ev2]
  have u4 := et (run P wid 39) (runI P PJ wid 39) (.list (ns.map .int)) (.list (ps.map pr)) [] [none, none, none, none, none, none, none, none, none, none, none]
  have u5 : evI (run P wid 39) (runI P PJ wid 39) wid [some (.dat (.list (ns.map .int))), some (.dat (.list (hs.map .int))), some (.dat (.list (ps.map pr))), some (.dat (.int (val ps))), some (.dat (.int tot)), none, none, none, none, none, none, none, none, none, none, none] [] cj_law_5 = .ok (.nx [some (.dat (.list (ns.map .int))), some (.dat (.list (hs.map .int))), some (.dat (.list (ps.map pr))), some (.dat (.int (val ps))), some (.dat (.int tot)), some (.ref 0), none, none, none, none, none, none, none, none, none, none]) [.lst ((sD (ps.map g0)).map .dat)] := by
    simp [cj_law_5, m1, le_size, -List.map_map]
  have u6 : evI (run P wid 39) (runI P PJ wid 39) wid [some (.dat (.list (ns.map .int))), some (.dat (.list (hs.map .int))), some (.dat (.list (ps.map pr))), some (.dat (.int (val ps))), some (.dat (.int tot)), some (.ref 0), none, none, none, none, none, none, none, none, none, none] [.lst ((sD (ps.map g0)).map .dat)] cj_law_6 = .ok (.nx [some (.dat (.list (ns.map .int))), some (.dat (.list (hs.map .int))), some (.dat (.list (ps.map pr))), some (.dat (.int (val ps))), some (.dat (.int tot)), some (.ref 0), some (.ref 1), none, none, none, none, none, none, none, none, none]) (A8 (ps.map g0)) := by
    simp [cj_law_6, m2, le_size, A8, -List.map_map]
  refine (congrArg (fun r => Ri.bind r endI) ((Im.seq_nx u0).trans ((Im.seq_nx u1).trans ((Im.seq_nx u2).trans ((Im.seq_nx u3).trans ((Im.seq_nx u4).trans ((Im.seq_nx u5).trans (Im.seq_nx u6)))))))).trans ?_
  have u7 : evI (run P wid 39) (runI P PJ wid 39) wid [some (.dat (.list (ns.map .int))), some (.dat (.list (hs.map .int))), some (.dat (.list (ps.map pr))), some (.dat (.int (val ps))), some (.dat (.int tot)), some (.ref 0), some (.ref 1), none, none, none, none, none, none, none, none, none] (A8 (ps.map g0)) (.set 7 (.pu (.cst (.int 0)) [])) = .ok (.nx [some (.dat (.list (ns.map .int))), some (.dat (.list (hs.map .int))), some (.dat (.list (ps.map pr))), some (.dat (.int (val ps))), some (.dat (.int tot)), some (.ref 0), some (.ref 1), some (.dat (.int 0)), none, none, none, none, none, none, none, none]) (A8 (ps.map g0)) := by
    simp
  have u8 : evI (run P wid 39) (runI P PJ wid 39) wid [some (.dat (.list (ns.map .int))), some (.dat (.list (hs.map .int))), some (.dat (.list (ps.map pr))), some (.dat (.int (val ps))), some (.dat (.int tot)), some (.ref 0), some (.ref 1), some (.dat (.int 0)), none, none, none, none, none, none, none, none] (A8 (ps.map g0)) (.set 8 (.pu (.cst (.int 0)) [])) = .ok (.nx (R8 (.list (ns.map .int)) (.list (hs.map .int)) (ps.map g0) (val ps) tot 0 0 none none none none none)) (A8 (ps.map g0)) := by
    rw [← gds]
    simp [-List.map_map]
  refine (congrArg (fun r => Ri.bind r endI) ((Im.seq_nx u7).trans (Im.seq_nx u8))).trans ?_
  have nr : rngW (.dat (.int 1)) (.dat (.int m)) = some ((rangeL 1 m).map .dat) := by
    show (if near 1 = true ∧ near m = true then _ else _) = _
    rw [if_pos ⟨by decide, decide_eq_true (by omega)⟩]
  have u9 : evI (run P wid 39) (runI P PJ wid 39) wid (R8 (.list (ns.map .int)) (.list (hs.map .int)) (ps.map g0) (val ps) tot 0 0 none none none none none) (A8 (ps.map g0)) cj_law_9 = .ok (.nx ρ') A' := by
    unfold cj_law_9
    rw [s_forR']
    have e1 : evX (run P wid 39) (runI P PJ wid 39) (R8 (.list (ns.map .int)) (.list (hs.map .int)) (ps.map g0) (val ps) tot 0 0 none none none none none) (A8 (ps.map g0)) (.pu (.cst (.int 1)) []) = .ok (.dat (.int 1)) (A8 (ps.map g0)) := by simp
    have e2 : evX (run P wid 39) (runI P PJ wid 39) (R8 (.list (ns.map .int)) (.list (hs.map .int)) (ps.map g0) (val ps) tot 0 0 none none none none none) (A8 (ps.map g0)) (.pu (.bf .min2 (.acons (.bf .len (.acons (.var 0) .anil)) (.acons (.cst (.int 61)) .anil))) [0]) = .ok (.dat (.int m)) (A8 (ps.map g0)) := by
      rw [← em]
      simp
    rw [e1, Ri.bind_ok, e2, Ri.bind_ok, nr]
    exact el
  refine (congrArg (fun r => Ri.bind r endI) (Im.seq_nx u9)).trans ?_
  simp
end K08

set_option Elab.async false
set_option maxRecDepth 100000
namespace K08
open PySem L2 Pe
def dep : Nat := 40
def wid : Nat := 0
theorem holds : ∀ ns : List Int, ns.length ≤ 63 → ∃ A, Im.runI P PJ wid dep "law" [.dat (.list (ns.map .int))] [] = .ok (.dat (.bool true)) A := fun ns h => holds_at wid ns h
end K08
open PySem PySem.W PyProof.Rows
set_option maxRecDepth 100000 in
set_option maxHeartbeats 0 in
theorem PySem.Challenge.cw_oncecoin_k08_refunds_stay_below_holds : PySem.Challenge.rw_oncecoin_k08_refunds_stay_below.Holds := by
  w_on; o_law; k_head; (case hw => w_witness2)
  k_fill
  refine Im.walk_I (l := PySem.Challenge.rw_oncecoin_k08_refunds_stay_below) (n := 63) (k := K08.dep) (w := K08.wid) (x := "script") (T := K08.T) (TI := K08.TI) (P := K08.P) (PJ := K08.PJ) (di := K08.j_law) rfl (by decide) rfl ⟨rfl, by decide, by decide⟩ (fun w h Y => PySem.W.kIn_of Y) rfl rfl rfl ?top ?bind K08.holds
  case bind =>
    intro K fa fd F s u
    obtain ⟨oc, od, kV, doc, pm, an, cdv, ct, osl, rfl, lk, hcd⟩ := F.ex
    exact .of_eq rfl
  case top =>
    intro wo mg h X G
    refine ⟨⟨Pe.allL_mem (l := Pe.bltNames) ?blt, Pe.allL_look (P := K08.T.cons) (Q := fun p => ∃ u v, mg p.1 = some u ∧ L2.RelV v u ∧ ∀ G, Pe.Dq _ G v p.2) ?gl, Pe.fns_of K08.fns_ok, (fun c oc h => by cases h), Pe.allL_look (P := K08.P) (Q := fun p => Pe.DefOk _ mg K08.T p.1 p.2) ?defs, Pe.allL_look (P := K08.T.dcts) (Q := fun p => ∃ d : Addr, mg p.1 = some (.ref d) ∧ Pe.TabD _ wo d p.2) ?dct, Pe.allL_look (P := K08.T.ftabs) (Q := fun p => ∃ d : Addr, mg p.1 = some (.ref d) ∧ Pe.TabF _ mg wo d p.2) ?ftb, ?ers, ?cls, rfl, rfl, by decide +kernel⟩, Im.ifns_of K08.ifns_ok, Pe.allL_look (P := K08.PJ) (Q := fun p => Im.DefJOk _ mg K08.T K08.TI p.1 p.2) ?jdefs, (fun c ic h => by cases h)⟩
    case blt =>
      refine ⟨?_, ?_, ?_, ?_, ?_, ?_, ?_, ?_, ?_, ?_, ?_, ?_, ?_, ?_, ?_, ?_, ?_, ?_, trivial⟩
      all_goals (refine PySem.W.mg_none_of X G ?a; (case a => k_is))
    case gl =>
      exact trivial
    case defs =>
      refine ⟨?_, ?_, ?_, ?_, ?_, trivial⟩
      · refine' Pe.def_of (x := "goods_value") (d := K08.d_goods_value) X G ?a ?l ?c ?k K08.bd_goods_value K08.sc_goods_value K08.cb_goods_value; (case a => k_is); (case l => k_is); (case c => k_is); (case k => k_is)
      · refine' Pe.def_of (x := "share") (d := K08.d_share) X G ?a ?l ?c ?k K08.bd_share K08.sc_share K08.cb_share; (case a => k_is); (case l => k_is); (case c => k_is); (case k => k_is)
      · refine' Pe.def_of (x := "_law_numbers") (d := K08.d__law_numbers) X G ?a ?l ?c ?k K08.bd__law_numbers K08.sc__law_numbers K08.cb__law_numbers; (case a => k_is); (case l => k_is); (case c => k_is); (case k => k_is)
      · refine' Pe.def_of (x := "_law_goods") (d := K08.d__law_goods) X G ?a ?l ?c ?k K08.bd__law_goods K08.sc__law_goods K08.cb__law_goods; (case a => k_is); (case l => k_is); (case c => k_is); (case k => k_is)
      · refine' Pe.def_of (x := "_law_value") (d := K08.d__law_value) X G ?a ?l ?c ?k K08.bd__law_value K08.sc__law_value K08.cb__law_value; (case a => k_is); (case l => k_is); (case c => k_is); (case k => k_is)
    case jdefs =>
      refine ⟨?_, ?_, trivial⟩
      · refine' Im.defJ_of (x := "_law_turn") (d := K08.j__law_turn) X G ?a ?l ?c ?k K08.bdj__law_turn K08.scj__law_turn K08.cj__law_turn; (case a => k_is); (case l => k_is); (case c => k_is); (case k => k_is)
      · refine' Im.defJ_of (x := "law") (d := K08.j_law) X G ?a ?l ?c ?k K08.bdj_law K08.scj_law K08.cj_law; (case a => k_is); (case l => k_is); (case c => k_is); (case k => k_is)
    case dct =>
      exact trivial
    case ftb =>
      exact trivial
    case ers =>
      intro c inf hc
      exact nomatch (show List.lookup c [] = some inf from hc)
    case cls => exact ⟨fun _ => .none, ⟨(fun c hc => nomatch (show c ∈ ([] : List PySem.Str) from hc)), (fun c fs ups C hc => nomatch (show (none : Option Addr) = some C from hc))⟩⟩

