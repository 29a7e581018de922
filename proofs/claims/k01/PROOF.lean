import PyProof.Rows.All
import Wide.All
import OpenK.AllK
import Wide.FinOn
import HandS.ForMost
import HandS.ForExc
import HandS.Walk
import HandS.Gcd
import HandS.Wide
import HandS.TupMul
import KE.KDictKeyed
import KE.KeyNested
import HandS.Lambda
import HandS.Property
import HandS.IsInst
import KE.KTupSum
import KE.KMathGC
import HandS.Zip
import KE.GoesEnum
import KE.GoesZip
import KE.GoesMore
import HandS.DictEq
import HandS.Style
import KE.KMinKey
import HandS.FromBytesMap
import HandS.NamedTupGet
import HandS.EndOwn
import PySem.Challenge.RW_saywhat_k01_whole_tellings
section
set_option Elab.async false
set_option linter.all false
set_option maxRecDepth 100000
set_option autoImplicit false
/-! VM1: values as trees, a result type, the frozen part of the abstract heap; what an expression is worth. -/
namespace VM
open PySem PySem.Spec L2

/-- a value as a tree; an instance by the number of its class -/
inductive D where
  | non
  | bl (b : Bool)
  | int (i : Int)
  | str (x : Str)
  | tup (xs : List D)
  | lst (xs : List D)
  | dct (kvs : List (D × D))
  | ins (c : Nat) (fs : List (Str × D))

/-- what a piece of code comes to: a value, an error of an own class, or nothing that is claimed -/
inductive R (α : Type) where
  | ok (a : α)
  | exc (c : Nat) (fs : List (Str × D))
  | stuck
def R.bind {α β : Type} (r : R α) (f : α → R β) : R β := match r with
  | .ok a => f a
  | .exc c fs => .exc c fs
  | .stuck => .stuck
@[simp] theorem R.bind_ok {α β : Type} (a : α) (f : α → R β) : (R.ok a).bind f = f a := rfl
@[simp] theorem R.bind_exc {α β : Type} (c : Nat) (fs : List (Str × D)) (f : α → R β) : (R.exc c fs).bind f = .exc c fs := rfl
@[simp] theorem R.bind_stuck {α β : Type} (f : α → R β) : (R.stuck).bind f = .stuck := rfl
def R.Sat {α : Type} (r : R α) (p : α → Prop) (e : Nat → List (Str × D) → Prop) : Prop := match r with
  | .ok a => p a
  | .exc c fs => e c fs
  | .stuck => False
theorem R.Sat.mono {α : Type} {r : R α} {p p' : α → Prop} {e e' : Nat → List (Str × D) → Prop} (h : r.Sat p e) (hp : ∀ a, p a → p' a) (he : ∀ c fs, e c fs → e' c fs) : r.Sat p' e' := by
  cases r with
  | ok a => exact hp a h
  | exc c fs => exact he c fs h
  | stuck => exact h
theorem R.Sat.of_bind {α β : Type} {r : R α} {f : α → R β} {p : β → Prop} {e : Nat → List (Str × D) → Prop} (h : (r.bind f).Sat p e) : r.Sat (fun a => (f a).Sat p e) e := by
  cases r with
  | ok a => exact h
  | exc c fs => exact h
  | stuck => exact h

/-! ### keys of dicts: tuples of numbers, truth values, texts, None, nested -/
mutual
def D.nk : D → Option NestedKey
  | .non => some .none
  | .bl b => some (.num (if b = true then 1 else 0))
  | .int i => some (.num i)
  | .str x => some (.text x)
  | .tup xs => (nkAll xs).map .tup
  | .lst _ => none
  | .dct _ => none
  | .ins _ _ => none
def nkAll : List D → Option (List NestedKey)
  | [] => some []
  | x :: xs => match x.nk, nkAll xs with
    | some k, some ks => some (k :: ks)
    | _, _ => none
end
def D.key : D → Option NestedKey
  | .tup xs => (match (D.tup xs).nk with
    | some k => if k.depth ≤ 8 then some k else none
    | none => none)
  | _ => none
/-- the dict at a has the entries xs -/
def DxAt (w : World) (a : Addr) (xs : List (NestedKey × Addr × Value)) : Heap → Prop := fun h => (a == sysModules) = false ∧ xs.length ≤ sizeLine ∧
  ∃ o es ep, h.get? a = some o ∧ o.ExactDict ∧ o.data = .dict es ep ∧ es.toList = xs.map fun x => (⟨x.1.hash w, .ref x.2.1, x.2.2⟩ : DictEntry)
/-- where the classes stand; the world -/
structure Gm where
  at_ : Nat → Addr
  w : World
  /-- the tables of code objects that lambdas stand in -/
  T : List Addr
instance : CoeFun Gm fun _ => Nat → Addr := ⟨Gm.at_⟩

/-! ### what stands for a tree -/
section
variable (K : PySem.W.Frag) (Cs : Gm)
mutual
/-- v stands for the tree in the frozen part F -/
inductive Rep : Hp → V → D → Prop
  | non {F : Hp} : Rep F .non .non
  | bl {F : Hp} (b : Bool) : Rep F (.bl b) (.bl b)
  | int {F : Hp} (i : Int) : Rep F (.int i) (.int i)
  | str {F : Hp} (x : Str) : Rep F (.str x) (.str x)
  | tup {F : Hp} {a : Addr} {vs : List V} {ds : List D} : SqT K F a vs → Reps F vs ds → Rep F (.ref a) (.tup ds)
  | lst {F : Hp} {a : Addr} {vs : List V} {ds : List D} : SqL K F a vs → Reps F vs ds → Rep F (.ref a) (.lst ds)
  | ins {F : Hp} {a dx : Addr} {c : Nat} {fs : List (Str × V)} {gs : List (Str × D)} : F a = some (.ins (Cs c) dx fs) → RepF F fs gs → Rep F (.ref a) (.ins c gs)
  | dct {F : Hp} {a : Addr} {xs : List (NestedKey × Addr × Value)} {kvs : List (D × D)} : F a = some (.ext (DxAt Cs.w a xs)) → (xs.map (·.1)).Nodup → RepK F xs kvs → Rep F (.ref a) (.dct kvs)
inductive RepK : Hp → List (NestedKey × Addr × Value) → List (D × D) → Prop
  | nil {F : Hp} : RepK F [] []
  | cons {F : Hp} {k : NestedKey} {b : Addr} {u : Value} {v : V} {dk dv : D} {xs : List (NestedKey × Addr × Value)} {kvs : List (D × D)} : dk.key = some k → Rep F (.ref b) dk → RelV v u → Rep F v dv → RepK F xs kvs → RepK F ((k, b, u) :: xs) ((dk, dv) :: kvs)
inductive Reps : Hp → List V → List D → Prop
  | nil {F : Hp} : Reps F [] []
  | cons {F : Hp} {v : V} {vs : List V} {d : D} {ds : List D} : Rep F v d → Reps F vs ds → Reps F (v :: vs) (d :: ds)
inductive RepF : Hp → List (Str × V) → List (Str × D) → Prop
  | nil {F : Hp} : RepF F [] []
  | cons {F : Hp} {n : Str} {v : V} {vs : List (Str × V)} {d : D} {ds : List (Str × D)} : Rep F v d → RepF F vs ds → RepF F ((n, v) :: vs) ((n, d) :: ds)
end
end
theorem sqT_mono {K : PySem.W.Frag} {F F' : Hp} {a : Addr} {xs : List V} (e : Same F F') (h : SqT K F a xs) : SqT K F' a xs := by
  rcases h with (h | ⟨o, h⟩) | h
  · exact .inl (.inl (e _ _ h))
  · exact .inl (.inr ⟨o, e _ _ h⟩)
  · exact .inr h
section
variable {K : PySem.W.Frag} {Cs : Gm} {F F' H H' : Hp}
mutual
theorem Rep.mono (e : Same F F') : ∀ {v : V} {d : D}, Rep K Cs F v d → Rep K Cs F' v d
  | _, _, .non => .non
  | _, _, .bl b => .bl b
  | _, _, .int i => .int i
  | _, _, .str x => .str x
  | _, _, .tup h r => .tup (sqT_mono e h) (Reps.mono e r)
  | _, _, .lst h r => .lst (e.seq h) (Reps.mono e r)
  | _, _, .ins h r => .ins (e _ _ h) (RepF.mono e r)
  | _, _, .dct h n r => .dct (e _ _ h) n (RepK.mono e r)
theorem RepK.mono (e : Same F F') : ∀ {v : List (NestedKey × Addr × Value)} {d : List (D × D)}, RepK K Cs F v d → RepK K Cs F' v d
  | _, _, .nil => .nil
  | _, _, .cons h1 h2 h3 h4 r => .cons h1 (Rep.mono e h2) h3 (Rep.mono e h4) (RepK.mono e r)
theorem Reps.mono (e : Same F F') : ∀ {v : List V} {d : List D}, Reps K Cs F v d → Reps K Cs F' v d
  | _, _, .nil => .nil
  | _, _, .cons h r => .cons (Rep.mono e h) (Reps.mono e r)
theorem RepF.mono (e : Same F F') : ∀ {v : List (Str × V)} {d : List (Str × D)}, RepF K Cs F v d → RepF K Cs F' v d
  | _, _, .nil => .nil
  | _, _, .cons h r => .cons (Rep.mono e h) (RepF.mono e r)
end
theorem Reps.length : ∀ {vs : List V} {ds : List D}, Reps K Cs F vs ds → vs.length = ds.length
  | _, _, .nil => rfl
  | _, _, .cons _ r => by simp [Reps.length r]
theorem Reps.get : ∀ {vs : List V} {ds : List D} {i : Nat} {d : D}, Reps K Cs F vs ds → ds[i]? = some d → ∃ v, vs[i]? = some v ∧ Rep K Cs F v d
  | _, _, _, _, .nil, e => by simp at e
  | _, _, 0, _, .cons r _, e => by simp at e; subst e; exact ⟨_, rfl, r⟩
  | _, _, i + 1, d, .cons _ t, e => by
    obtain ⟨v, h1, h2⟩ := Reps.get (i := i) (d := d) t (by simpa using e)
    exact ⟨v, by simpa using h1, h2⟩
theorem Reps.get' : ∀ {vs : List V} {ds : List D} {i : Nat} {v : V}, Reps K Cs F vs ds → vs[i]? = some v → ∃ d, ds[i]? = some d ∧ Rep K Cs F v d
  | _, _, _, _, .nil, e => by simp at e
  | _, _, 0, _, .cons r _, e => by simp at e; subst e; exact ⟨_, rfl, r⟩
  | _, _, i + 1, d, .cons _ t, e => by
    obtain ⟨v, h1, h2⟩ := Reps.get' (i := i) (v := d) t (by simpa using e)
    exact ⟨v, by simpa using h1, h2⟩
theorem Reps.append : ∀ {vs ws : List V} {ds es : List D}, Reps K Cs F vs ds → Reps K Cs F ws es → Reps K Cs F (vs ++ ws) (ds ++ es)
  | _, _, _, _, .nil, s => s
  | _, _, _, _, .cons r t, s => .cons r (Reps.append t s)
theorem Reps.set {v : V} {d : D} (r : Rep K Cs F v d) : ∀ {vs : List V} {ds : List D} (i : Nat), Reps K Cs F vs ds → Reps K Cs F (vs.set i v) (ds.set i d)
  | _, _, _, .nil => .nil
  | _, _, 0, .cons _ t => .cons r t
  | _, _, i + 1, .cons q t => .cons q (Reps.set r i t)
theorem Reps.take : ∀ {vs : List V} {ds : List D} (n : Nat), Reps K Cs F vs ds → Reps K Cs F (vs.take n) (ds.take n)
  | _, _, 0, _ => .nil
  | _, _, _ + 1, .nil => .nil
  | _, _, n + 1, .cons r t => .cons r (Reps.take n t)
theorem Reps.drop : ∀ {vs : List V} {ds : List D} (n : Nat), Reps K Cs F vs ds → Reps K Cs F (vs.drop n) (ds.drop n)
  | _, _, 0, r => r
  | _, _, _ + 1, .nil => .nil
  | _, _, n + 1, .cons _ t => Reps.drop n t
theorem Reps.rep {vs : List V} {ds : List D} (h : Reps K Cs F vs ds) : ∀ k : Nat, Reps K Cs F (List.replicate k vs).flatten (List.replicate k ds).flatten
  | 0 => .nil
  | k + 1 => by
    rw [List.replicate_succ, List.replicate_succ, List.flatten_cons, List.flatten_cons]
    exact Reps.append h (Reps.rep h k)
theorem RepF.look : ∀ {vs : List (Str × V)} {ds : List (Str × D)} {n : Str} {d : D}, RepF K Cs F vs ds → ds.lookup n = some d → ∃ v, vs.lookup n = some v ∧ Rep K Cs F v d
  | _, _, _, _, .nil, e => by simp [List.lookup] at e
  | _, _, m, d, .cons (n := n) r t, e => by
    by_cases h : m = n
    · subst h
      simp [List.lookup] at e ⊢
      subst e
      exact r
    · have hb : (m == n) = false := by simpa using h
      simp [List.lookup, hb] at e ⊢
      exact RepF.look t e
theorem RepF.no : ∀ {vs : List (Str × V)} {ds : List (Str × D)} {n : Str}, RepF K Cs F vs ds → ds.lookup n = none → vs.lookup n = none
  | _, _, _, .nil, _ => by simp [List.lookup]
  | _, _, m, .cons (n := n) r t, e => by
    by_cases h : m = n
    · subst h
      simp [List.lookup] at e
    · have hb : (m == n) = false := by simpa using h
      simp only [List.lookup, hb] at e ⊢
      exact RepF.no t e
end

/-! ### how the heaps go on -/
/-- at P stands a table of code objects, each of them known -/
def TabA (H : Hp) (P : Addr) : Prop := ∃ ps : Array Value, H P = some (.tbl ps) ∧ PySem.TriplesOk ps.toList ∧ ∀ (pos : Pos) (cv : Value), codeAmong pos ps.toList = some cv → ∃ c q, cv = .ref c ∧ H c = some (LamX.CodeO c q)
/-- nothing tracked is changed, but tables may grow -/
structure Keep (H H' : Hp) : Prop where
  at_ : ∀ b o, H b = some o → (∀ ps, o ≠ .tbl ps) → H' b = some o
  tb : ∀ b ps, H b = some (.tbl ps) → ∃ ps', H' b = some (.tbl ps')
  ok : ∀ P, TabA H P → TabA H' P
/-- neither a table nor a code object -/
def NotT (H : Hp) (a : Addr) : Prop := ∀ o, H a = some o → (∀ ps, o ≠ .tbl ps) ∧ ∀ c q, o ≠ LamX.CodeO c q
section
variable {H H' H1 H2 : Hp} {a : Addr} {u : HO}
theorem Keep.get (k : Keep H H') {o : HO} (h : H a = some o) (n : ∀ ps, o ≠ .tbl ps := by intro ps z; cases z) : H' a = some o := k.at_ a o h n
theorem Keep.free (k : Keep H H') (h : H' a = none) : H a = none := by
  cases q : H a with
  | none => rfl
  | some o =>
    by_cases t : ∃ ps, o = .tbl ps
    · obtain ⟨ps, rfl⟩ := t
      obtain ⟨ps', z⟩ := k.tb a ps q
      rw [h] at z; cases z
    · have z := k.get q fun ps e => t ⟨ps, e⟩
      rw [h] at z; cases z
theorem TabA.of_same (s : Same H H') {P : Addr} (t : TabA H P) : TabA H' P := by
  obtain ⟨ps, h1, h2, h3⟩ := t
  refine ⟨ps, s _ _ h1, h2, fun pos cv h => ?_⟩
  obtain ⟨c, q, e, hc⟩ := h3 pos cv h
  exact ⟨c, q, e, s _ _ hc⟩
theorem Keep.of_same (s : Same H H') : Keep H H' := ⟨fun b o h _ => s b o h, fun b ps h => ⟨ps, s _ _ h⟩, fun P t => t.of_same s⟩
theorem Keep.refl (H : Hp) : Keep H H := Keep.of_same (Same.refl H)
theorem Keep.trans (k : Keep H H1) (l : Keep H1 H2) : Keep H H2 := ⟨fun b o h n => l.at_ b o (k.at_ b o h n) n, fun b ps h => let ⟨ps', z⟩ := k.tb b ps h; l.tb b ps' z, fun P t => l.ok P (k.ok P t)⟩
theorem TabA.but {P : Addr} (t : TabA H P) (n : NotT H a) (hb : ∀ b, b ≠ a → H' b = H b) : TabA H' P := by
  obtain ⟨ps, h1, h2, h3⟩ := t
  have nP : P ≠ a := by
    rintro rfl
    exact (n _ h1).1 ps rfl
  refine ⟨ps, (hb P nP).trans h1, h2, fun pos cv h => ?_⟩
  obtain ⟨c, q, e, hc⟩ := h3 pos cv h
  refine ⟨c, q, e, (hb c ?_).trans hc⟩
  rintro rfl
  exact (n _ hc).2 c q rfl
/-- what stands at a, and was not there in H, is changed -/
theorem Keep.but (k : Keep H H1) (h0 : H a = none) (n : NotT H1 a) (hb : ∀ b, b ≠ a → H2 b = H1 b) : Keep H H2 :=
  ⟨fun b o h t => (hb b (ne_of_none h h0)).trans (k.at_ b o h t), fun b ps h => let ⟨ps', z⟩ := k.tb b ps h; ⟨ps', (hb b (ne_of_none h h0)).trans z⟩, fun P t => (k.ok P t).but n hb⟩
theorem NotT.none (h : H a = none) : NotT H a := fun o e => by rw [h] at e; cases e
theorem NotT.lst {xs : List V} (h : H a = some (.lst xs)) : NotT H a := fun o e => by
  rw [h] at e; cases e
  exact ⟨(fun ps z => by cases z), (fun c q z => by unfold LamX.CodeO at z; cases z)⟩
theorem NotT.ins {C dx : Addr} {xs : List (Str × V)} (h : H a = some (.ins C dx xs)) : NotT H a := fun o e => by
  rw [h] at e; cases e
  exact ⟨(fun ps z => by cases z), (fun c q z => by unfold LamX.CodeO at z; cases z)⟩
end
/-- from the frozen part F of H to F' of H': nothing tracked is changed (tables may grow), what is newly frozen is new -/
structure Ext (F H F' H' : Hp) : Prop where
  hh : Keep H H'
  ff : Same F F'
  nw : ∀ a o, F' a = some o → F a = some o ∨ H a = none
  sub : Same F' H'
section
variable {F H F' H' F1 H1 F2 H2 : Hp}
theorem Ext.refl (s : Same F H) : Ext F H F H := ⟨Keep.refl _, Same.refl _, fun _ _ h => .inl h, s⟩
theorem Ext.trans (a : Ext F H F1 H1) (b : Ext F1 H1 F2 H2) : Ext F H F2 H2 :=
  ⟨a.hh.trans b.hh, a.ff.trans b.ff, fun x o h => (b.nw x o h).elim (a.nw x o) fun z => .inr (a.hh.free z), b.sub⟩
theorem Same.updNew {p : Addr} {o : HO} (s : Same F H) (hp : H p = none) : Same F (upd H p o) := fun a u h => by
  have := s a u h
  rw [upd_ne (ne_of_none this hp)]
  exact this
/-- a new object, frozen at once -/
theorem Ext.new {p : Addr} {o : HO} (s : Same F H) (hp : H p = none) : Ext F H (upd F p o) (upd H p o) := by
  refine ⟨Keep.of_same fun a u h => by rw [upd_ne (ne_of_none h hp)]; exact h, fun a u h => ?_, fun a u h => ?_, fun a u h => ?_⟩
  · rw [upd_ne (ne_of_none (s a u h) hp)]; exact h
  · by_cases e : a = p
    · subst e; exact .inr hp
    · rw [upd_ne e] at h; exact .inl h
  · by_cases e : a = p
    · subst e
      rw [upd_same] at h ⊢
      exact h
    · rw [upd_ne e] at h ⊢
      exact s a u h
/-- a new object that is not frozen -/
theorem Ext.grow {p : Addr} {o : HO} (s : Same F H) (hp : H p = none) : Ext F H F (upd H p o) :=
  ⟨Keep.of_same fun a u h => by rw [upd_ne (ne_of_none h hp)]; exact h, Same.refl _, fun _ _ h => .inl h, Same.updNew s hp⟩
end

/-! ### the slots -/
/-- none: not stored; frz: a value that nobody changes; own: a list (dict, instance) that this body alone holds; its flag: it is the instance that an __init__ was handed -/
inductive Slot where
  | none
  | frz (d : D)
  | own (b : Bool) (d : D)
abbrev Fr0 := List Slot
section
variable (K : PySem.W.Frag) (Cs : Gm)
def OwnAt (H0 F H : Hp) (a : Addr) (d : D) : Prop := H0 a = none ∧ F a = none ∧ match d with
  | .lst ds => ∃ vs, H a = some (.lst vs) ∧ Reps K Cs F vs ds
  | .ins c gs => ∃ dx fs, H a = some (.ins (Cs c) dx fs) ∧ RepF K Cs F fs gs
  | .dct kvs => ∃ xs, H a = some (.ext (DxAt Cs.w a xs)) ∧ (xs.map (·.1)).Nodup ∧ RepK K Cs F xs kvs
  | _ => False
/-- the entry: what is frozen there, and the instance that an __init__ was handed -/
structure Ent where
  fz : Hp
  y : Addr
def SlotOk (y : Addr) (H0 F H : Hp) (s : Slot) (o : Option (Option V)) : Prop := match s with
  | .none => True
  | .frz d => ∃ v, o = some (some v) ∧ Rep K Cs F v d
  | .own b d => ∃ a, o = some (some (.ref a)) ∧ (b = true → a = y) ∧ OwnAt K Cs H0 F H a d
/-- the tables are known, and not in the frozen part -/
def TabsA (F H : Hp) : Prop := ∀ P ∈ Cs.T, TabA H P ∧ F P = none
structure Sim (F0 : Ent) (H0 : Hp) (ρ : Fr0) (F : Hp) (σ : St) (H : Hp) : Prop where
  ext : Ext F0.fz H0 F H
  tabs : TabsA Cs F H
  len : ρ.length = σ.length
  slots : ∀ (i : Nat) (s : Slot), ρ[i]? = some s → SlotOk K Cs F0.y H0 F H s σ[i]?
  apart : ∀ (i j : Nat) (b c : Bool) (d e : D) (a : Addr), ρ[i]? = some (.own b d) → ρ[j]? = some (.own c e) → σ[i]? = some (some (.ref a)) → σ[j]? = some (some (.ref a)) → i = j
end
section
variable {K : PySem.W.Frag} {Cs : Gm} {F0 : Ent} {H0 F H F' H' : Hp} {ρ : Fr0} {σ : St}
theorem OwnAt.go {a : Addr} {d : D} (o : OwnAt K Cs H0 F H a d) (e : Ext F H F' H') : OwnAt K Cs H0 F' H' a d := by
  obtain ⟨h0, hf, h⟩ := o
  have nf : ∀ u, H a = some u → F' a = none := fun u hu => by
    cases q : F' a with
    | none => rfl
    | some x =>
      rcases e.nw a x q with z | z
      · rw [hf] at z; cases z
      · rw [hu] at z; cases z
  cases d with
  | lst ds =>
    obtain ⟨vs, h1, h2⟩ := h
    exact ⟨h0, nf _ h1, vs, e.hh.get h1, h2.mono e.ff⟩
  | ins c gs =>
    obtain ⟨dx, fs, h1, h2⟩ := h
    exact ⟨h0, nf _ h1, dx, fs, e.hh.get h1, h2.mono e.ff⟩
  | dct kvs =>
    obtain ⟨xs, h1, hn, h2⟩ := h
    exact ⟨h0, nf _ h1, xs, e.hh.get h1, hn, h2.mono e.ff⟩
  | _ => exact h.elim
theorem SlotOk.go {y : Addr} {s : Slot} {o : Option (Option V)} (h : SlotOk K Cs y H0 F H s o) (e : Ext F H F' H') : SlotOk K Cs y H0 F' H' s o := by
  cases s with
  | none => trivial
  | frz d => obtain ⟨v, h1, h2⟩ := h; exact ⟨v, h1, h2.mono e.ff⟩
  | own b d => obtain ⟨a, h1, hy, h2⟩ := h; exact ⟨a, h1, hy, h2.go e⟩
theorem TabsA.go (t : TabsA Cs F H) (e : Ext F H F' H') : TabsA Cs F' H' := fun P hP => by
  obtain ⟨h1, h2⟩ := t P hP
  refine ⟨e.hh.ok P h1, ?_⟩
  cases q : F' P with
  | none => rfl
  | some o =>
    rcases e.nw P o q with z | z
    · rw [h2] at z; cases z
    · obtain ⟨ps, h, _⟩ := h1
      rw [h] at z; cases z
theorem TabsA.keep (t : TabsA Cs F H) (k : Keep H H') : TabsA Cs F H' := fun P hP => ⟨k.ok P (t P hP).1, (t P hP).2⟩
theorem Sim.go (S : Sim K Cs F0 H0 ρ F σ H) (e : Ext F H F' H') : Sim K Cs F0 H0 ρ F' σ H' :=
  ⟨S.ext.trans e, S.tabs.go e, S.len, fun i s h => (S.slots i s h).go e, S.apart⟩
theorem Sim.sub (S : Sim K Cs F0 H0 ρ F σ H) : Same F H := S.ext.sub
/-- a name is stored, a frozen value -/
theorem Sim.setFrz (S : Sim K Cs F0 H0 ρ F σ H) {i : Nat} {v : V} {d : D} (r : Rep K Cs F v d) : Sim K Cs F0 H0 (ρ.set i (.frz d)) F (σ.set i (some v)) H := by
  refine ⟨S.ext, S.tabs, by simp [S.len], fun j s h => ?_, fun j k b1 b2 e1 e2 a h1 h2 h3 h4 => ?_⟩
  · by_cases hj : i = j
    · subst hj
      have hl : i < ρ.length := by
        have := (List.getElem?_eq_some_iff.mp h).1
        simpa using this
      rw [List.getElem?_set_self hl] at h
      cases h
      rw [List.getElem?_set_self (by rw [← S.len]; exact hl)]
      exact ⟨v, rfl, r⟩
    · rw [List.getElem?_set_ne hj] at h ⊢
      exact S.slots j s h
  · have n1 : i ≠ j := by
      rintro rfl
      have hl : i < ρ.length := by
        have := (List.getElem?_eq_some_iff.mp h1).1
        simpa using this
      rw [List.getElem?_set_self hl] at h1; cases h1
    have n2 : i ≠ k := by
      rintro rfl
      have hl : i < ρ.length := by
        have := (List.getElem?_eq_some_iff.mp h2).1
        simpa using this
      rw [List.getElem?_set_self hl] at h2; cases h2
    rw [List.getElem?_set_ne n1] at h1 h3
    rw [List.getElem?_set_ne n2] at h2 h4
    exact S.apart j k b1 b2 e1 e2 a h1 h2 h3 h4
/-- .. a new list that this body alone holds -/
theorem Sim.setOwn (S : Sim K Cs F0 H0 ρ F σ H) {i : Nat} {a : Addr} {d : D} (o : OwnAt K Cs H0 F H a d) (fr : ∀ (j : Nat) (b : Bool) (e : D), ρ[j]? = some (.own b e) → σ[j]? ≠ some (some (.ref a))) : Sim K Cs F0 H0 (ρ.set i (.own false d)) F (σ.set i (some (.ref a))) H := by
  refine ⟨S.ext, S.tabs, by simp [S.len], fun j s h => ?_, fun j k b1 b2 e1 e2 b h1 h2 h3 h4 => ?_⟩
  · by_cases hj : i = j
    · subst hj
      have hl : i < ρ.length := by
        have := (List.getElem?_eq_some_iff.mp h).1
        simpa using this
      rw [List.getElem?_set_self hl] at h
      cases h
      rw [List.getElem?_set_self (by rw [← S.len]; exact hl)]
      exact ⟨a, rfl, (fun z => Bool.noConfusion z), o⟩
    · rw [List.getElem?_set_ne hj] at h ⊢
      exact S.slots j s h
  · by_cases n1 : i = j
    · by_cases n2 : i = k
      · exact n1.symm.trans n2
      · subst n1
        have hl : i < ρ.length := by
          have := (List.getElem?_eq_some_iff.mp h1).1
          simpa using this
        rw [List.getElem?_set_self (by rw [← S.len]; exact hl)] at h3
        cases h3
        rw [List.getElem?_set_ne n2] at h2 h4
        exact absurd h4 (fr k _ _ h2)
    · by_cases n2 : i = k
      · subst n2
        have hl : i < ρ.length := by
          have := (List.getElem?_eq_some_iff.mp h2).1
          simpa using this
        rw [List.getElem?_set_self (by rw [← S.len]; exact hl)] at h4
        cases h4
        rw [List.getElem?_set_ne n1] at h1 h3
        exact absurd h3 (fr j _ _ h1)
      · rw [List.getElem?_set_ne n1] at h1 h3
        rw [List.getElem?_set_ne n2] at h2 h4
        exact S.apart j k b1 b2 e1 e2 b h1 h2 h3 h4
end

/-! ### what is wanted of a result -/
section
variable (K : PySem.W.Frag) (Cs : Gm)
/-- the error of class c with the fields fs -/
def ExcAt (F' H' : Hp) (u : Value) (dx : Option Addr) (c : Nat) (fs : List (Str × D)) : Prop :=
  u = .ref (Cs c) ∧ ((fs = [] ∧ dx = none) ∨ ∃ d vs, dx = some d ∧ H' d = some (.xd vs) ∧ RepF K Cs F' vs fs)
def ExW (F H : Hp) (E : XK) (c : Nat) (fs : List (Str × D)) : Prop := ∀ u dx F' H', Ext F H F' H' → ExcAt K Cs F' H' u dx c fs → E u dx H'
/-- the value is frozen -/
def Wp (F H : Hp) (Q : VK) (E : XK) (r : R D) : Prop := r.Sat (fun d => ∀ v F' H', Ext F H F' H' → Rep K Cs F' v d → Q v H') (ExW K Cs F H E)
/-- the value is a new list (dict, instance) that nobody holds -/
def WpO (F H : Hp) (Q : VK) (E : XK) (r : R D) : Prop := r.Sat (fun d => ∀ a F' H', Ext F H F' H' → OwnAt K Cs H F' H' a d → Q (.ref a) H') (ExW K Cs F H E)
/-- a test's -/
def WpB (F H : Hp) (Q : Bool → Hp → Prop) (E : XK) (r : R Bool) : Prop := r.Sat (fun b => ∀ F' H', Ext F H F' H' → Q b H') (ExW K Cs F H E)
/-- several -/
def WpA (F H : Hp) (Q : List V → Hp → Prop) (E : XK) (r : R (List D)) : Prop := r.Sat (fun ds => ∀ vs F' H', Ext F H F' H' → Reps K Cs F' vs ds → Q vs H') (ExW K Cs F H E)
end
section
variable {K : PySem.W.Frag} {Cs : Gm} {F H F1 H1 : Hp} {E : XK} {Q : VK} {c : Nat} {fs : List (Str × D)}
theorem ExW.go (h : ExW K Cs F H E c fs) (e : Ext F H F1 H1) : ExW K Cs F1 H1 E c fs := fun u dx F' H' e' x => h u dx F' H' (e.trans e') x
/-- the first part of a sequence -/
theorem Wp.seq {r : R D} {β : Type} {g : D → R β} {p : β → Prop} (h : (r.bind g).Sat p (ExW K Cs F H E)) {Q1 : VK}
    (k : ∀ x d F1 H1, Ext F H F1 H1 → Rep K Cs F1 x d → (g d).Sat p (ExW K Cs F1 H1 E) → Q1 x H1) : Wp K Cs F H Q1 E r :=
  h.of_bind.mono (fun d hd v F' H' e rv => k v d F' H' e rv (hd.mono (fun _ z => z) fun _ _ z => z.go e)) fun _ _ z => z
theorem WpB.seq {r : R Bool} {β : Type} {g : Bool → R β} {p : β → Prop} (h : (r.bind g).Sat p (ExW K Cs F H E)) {Q1 : Bool → Hp → Prop}
    (k : ∀ b F1 H1, Ext F H F1 H1 → (g b).Sat p (ExW K Cs F1 H1 E) → Q1 b H1) : WpB K Cs F H Q1 E r :=
  h.of_bind.mono (fun d hd F' H' e => k d F' H' e (hd.mono (fun _ z => z) fun _ _ z => z.go e)) fun _ _ z => z
theorem WpA.seq {r : R (List D)} {β : Type} {g : List D → R β} {p : β → Prop} (h : (r.bind g).Sat p (ExW K Cs F H E)) {Q1 : List V → Hp → Prop}
    (k : ∀ vs ds F1 H1, Ext F H F1 H1 → Reps K Cs F1 vs ds → (g ds).Sat p (ExW K Cs F1 H1 E) → Q1 vs H1) : WpA K Cs F H Q1 E r :=
  h.of_bind.mono (fun d hd vs F' H' e rv => k vs d F' H' e rv (hd.mono (fun _ z => z) fun _ _ z => z.go e)) fun _ _ z => z
theorem Wp.go {r : R D} (h : Wp K Cs F H Q E r) (e : Ext F H F1 H1) : Wp K Cs F1 H1 Q E r :=
  h.mono (fun d hd v F' H' e' rv => hd v F' H' (e.trans e') rv) fun _ _ z => z.go e
theorem WpB.go {r : R Bool} {Q : Bool → Hp → Prop} (h : WpB K Cs F H Q E r) (e : Ext F H F1 H1) : WpB K Cs F1 H1 Q E r :=
  h.mono (fun d hd F' H' e' => hd F' H' (e.trans e')) fun _ _ z => z.go e
theorem WpA.go {r : R (List D)} {Q : List V → Hp → Prop} (h : WpA K Cs F H Q E r) (e : Ext F H F1 H1) : WpA K Cs F1 H1 Q E r :=
  h.mono (fun d hd v F' H' e' rv => hd v F' H' (e.trans e') rv) fun _ _ z => z.go e
theorem OwnAt.low {H0 H0' F H : Hp} {a : Addr} {d : D} (o : OwnAt K Cs H0 F H a d) (s : Keep H0' H0) : OwnAt K Cs H0' F H a d := ⟨s.free o.1, o.2⟩
theorem WpO.go {r : R D} (h : WpO K Cs F H Q E r) (e : Ext F H F1 H1) : WpO K Cs F1 H1 Q E r :=
  h.mono (fun d hd a F' H' e' o => hd a F' H' (e.trans e') (o.low e.hh)) fun _ _ z => z.go e
/-- results at hand -/
theorem Wp.non (h : Wp K Cs F H Q E (.ok .non)) (s : Same F H) : Q .non H := h _ F H (Ext.refl s) .non
theorem Wp.bl {b : Bool} (h : Wp K Cs F H Q E (.ok (.bl b))) (s : Same F H) : Q (.bl b) H := h _ F H (Ext.refl s) (.bl b)
theorem Wp.int {i : Int} (h : Wp K Cs F H Q E (.ok (.int i))) (s : Same F H) : Q (.int i) H := h _ F H (Ext.refl s) (.int i)
theorem Wp.str {i : Str} (h : Wp K Cs F H Q E (.ok (.str i))) (s : Same F H) : Q (.str i) H := h _ F H (Ext.refl s) (.str i)
theorem Wp.at {d : D} {v : V} (h : Wp K Cs F H Q E (.ok d)) (s : Same F H) (r : Rep K Cs F v d) : Q v H := h _ F H (Ext.refl s) r
theorem Wp.newTup {vs : List V} {ds : List D} (h : Wp K Cs F H Q E (.ok (.tup ds))) (s : Same F H) (r : Reps K Cs F vs ds) {p : Addr} (hp : H p = none) : Q (.ref p) (upd H p (.tup vs)) :=
  h _ _ _ (Ext.new s hp) (.tup (.of upd_same) (r.mono (Ext.new s hp).ff))
theorem Wp.newLst {vs : List V} {ds : List D} (h : Wp K Cs F H Q E (.ok (.lst ds))) (s : Same F H) (r : Reps K Cs F vs ds) {p : Addr} (hp : H p = none) : Q (.ref p) (upd H p (.lst vs)) :=
  h _ _ _ (Ext.new s hp) (.lst (.of upd_same) (r.mono (Ext.new s hp).ff))
theorem WpO.newLst {vs : List V} {ds : List D} (h : WpO K Cs F H Q E (.ok (.lst ds))) (s : Same F H) (r : Reps K Cs F vs ds) {p : Addr} (hp : H p = none) : Q (.ref p) (upd H p (.lst vs)) :=
  h p F _ (Ext.grow s hp) ⟨hp, s.free hp, vs, upd_same, r⟩
/-- what nobody holds may be frozen -/
theorem WpO.of_wp {r : R D} (h : Wp K Cs F H Q E r) : WpO K Cs F H Q E r := by
  refine h.mono (fun d hd a F' H' e o => ?_) fun _ _ z => z
  obtain ⟨h0, hf, o⟩ := o
  have frz : ∀ u, H' a = some u → Ext F H (upd F' a u) H' := fun u hu => by
    refine ⟨e.hh, e.ff.trans (fun b x z => ?_), fun b x z => ?_, fun b x z => ?_⟩
    · rw [upd_ne (by rintro rfl; rw [hf] at z; cases z)]; exact z
    · by_cases q : b = a
      · subst q; exact .inr h0
      · rw [upd_ne q] at z; exact e.nw b x z
    · by_cases q : b = a
      · subst q; rw [upd_same] at z; cases z; exact hu
      · rw [upd_ne q] at z; exact e.sub b x z
  have up : ∀ u, Same F' (upd F' a u) := fun u b x z => by rw [upd_ne (by rintro rfl; rw [hf] at z; cases z)]; exact z
  cases d with
  | lst ds =>
    obtain ⟨vs, h1, h2⟩ := o
    exact hd _ _ _ (frz _ h1) (.lst (.of upd_same) (h2.mono (up _)))
  | ins c gs =>
    obtain ⟨dx, fs, h1, h2⟩ := o
    exact hd _ _ _ (frz _ h1) (.ins upd_same (h2.mono (up _)))
  | dct kvs =>
    obtain ⟨xs, h1, hn, h2⟩ := o
    exact hd _ _ _ (frz _ h1) (.dct upd_same hn (h2.mono (up _)))
  | _ => exact o.elim
end

/-! ### the judgements -/
section
variable (X : Cx) (Cs : Gm) (E : XK)
def SE (e : Expr) (m : Fr0 → R D) : Prop := ∃ t, PE X e t ∧ ∀ F0 H0 ρ F σ H Q, Sim X.K Cs F0 H0 ρ F σ H → Wp X.K Cs F H Q E (m ρ) → t σ H Q
/-- .. the value is new and nobody holds it -/
def SO (e : Expr) (m : Fr0 → R D) : Prop := ∃ t, PE X e t ∧ ∀ F0 H0 ρ F σ H Q, Sim X.K Cs F0 H0 ρ F σ H → WpO X.K Cs F H Q E (m ρ) → t σ H Q
def ST (e : Expr) (m : Fr0 → R Bool) : Prop := ∃ t, PT X e t ∧ ∀ F0 H0 ρ F σ H Q, Sim X.K Cs F0 H0 ρ F σ H → WpB X.K Cs F H Q E (m ρ) → t σ H Q
def SW (e : Expr) (m : Fr0 → R Bool) : Prop := ∃ t, PW X e t ∧ ∀ F0 H0 ρ F σ H Q, Sim X.K Cs F0 H0 ρ F σ H → WpB X.K Cs F H Q E (m ρ) → t σ H Q
def SA (es : List Expr) (m : Fr0 → R (List D)) : Prop := ∃ t, PA X es t ∧ ∀ F0 H0 ρ F σ H Q, Sim X.K Cs F0 H0 ρ F σ H → WpA X.K Cs F H Q E (m ρ) → t σ H Q
end

/-! ### names, constants, operators -/
def vVar (i : Nat) : Fr0 → R D := fun ρ => match ρ[i]? with
  | some (.frz d) => .ok d
  | _ => .stuck
def vC (d : D) : Fr0 → R D := fun _ => .ok d
def vBin (f : D → D → R D) (ma mb : Fr0 → R D) : Fr0 → R D := fun ρ => (ma ρ).bind fun x => (mb ρ).bind fun y => f x y
def vUn (f : D → R D) (ma : Fr0 → R D) : Fr0 → R D := fun ρ => (ma ρ).bind f
/-- of two numbers -/
def dI2 (f : Int → Int → D) : D → D → R D := fun x y => match x, y with
  | .int i, .int j => .ok (f i j)
  | _, _ => .stuck
def dI2c (c : Int → Int → Bool) (f : Int → Int → D) : D → D → R D := fun x y => match x, y with
  | .int i, .int j => if c i j then .ok (f i j) else .stuck
  | _, _ => .stuck
section
variable {X : Cx} {Cs : Gm} {E : XK} {e a b c : Expr} {m ma mb mc : Fr0 → R D} {pos : Pos}
theorem SO.se (h : SO X Cs E e m) : SE X Cs E e m := let ⟨t, p, q⟩ := h; ⟨t, p, fun F0 H0 ρ F σ H Q S w => q F0 H0 ρ F σ H Q S (WpO.of_wp w)⟩
theorem se_var (i : Nat) {x : Str} (hN : X.N[i]? = some x := by rfl) (hv : Vis X.env.scope x := by first | exact Or.inl rfl | exact Or.inr (Or.inl rfl) | exact Or.inr (Or.inr rfl)) (hd : (x == ("__debug__" : Str)) = false := by decide)
    (hcd : (x == ("__classdict__" : Str)) = false := by decide) : SE X Cs E (.Name x pos) (vVar i) := by
  refine ⟨_, pe_var hN hv hd hcd, fun F0 H0 ρ F σ H Q S w => ?_⟩
  unfold vVar at w
  cases q : ρ[i]? with
  | none => rw [q] at w; exact w.elim
  | some s =>
    rw [q] at w
    cases s with
    | none => exact w.elim
    | own b d => exact w.elim
    | frz d =>
      obtain ⟨v, h1, h2⟩ := S.slots i _ q
      exact ⟨v, h1, Wp.at w S.sub h2⟩
theorem se_int {i : Int} {j} : SE X Cs E (.Constant (.int i) j pos) (vC (.int i)) := ⟨_, pe_int, fun F0 H0 ρ F σ H Q S w => Wp.int w S.sub⟩
theorem se_bl {i : Bool} {j} : SE X Cs E (.Constant (.bool i) j pos) (vC (.bl i)) := ⟨_, pe_bl, fun F0 H0 ρ F σ H Q S w => Wp.bl w S.sub⟩
theorem se_non {j} : SE X Cs E (.Constant .none j pos) (vC .non) := ⟨_, pe_non, fun F0 H0 ρ F σ H Q S w => Wp.non w S.sub⟩
theorem se_str {x : Str} {j} : SE X Cs E (.Constant (.str x) j pos) (vC (.str x)) := ⟨_, pe_str, fun F0 H0 ρ F σ H Q S w => Wp.str w S.sub⟩
/-- a number of the module -/
theorem se_gint {x : Str} {i : Int} (hm : ∃ t, X.mg x = some (.int i t)) (hg : Gl X x := by rfl) (hd : (x == ("__debug__" : Str)) = false := by decide) : SE X Cs E (.Name x pos) (vC (.int i)) :=
  let ⟨t, h⟩ := hm; ⟨_, pe_glob (v := .int i) hg h ⟨t, rfl⟩ hd, fun F0 H0 ρ F σ H Q S w => Wp.int w S.sub⟩
/-- an operator's rule and what it does with trees -/
def OpOk (X : Cx) (Cs : Gm) (E : XK) (r : R2) (f : D → D → R D) : Prop := ∀ F H x y dx dy Q, Same F H → Rep X.K Cs F x dx → Rep X.K Cs F y dy → Wp X.K Cs F H Q E (f dx dy) → r x y H Q
theorem opOk_I0 {g : Int → Int → V} {f : Int → Int → D} (hg : ∀ (i j : Int) (F : Hp), Rep X.K Cs F (g i j) (f i j)) : OpOk X Cs E (rI0 g) (dI2 f) := by
  intro F H x y dx dy Q s rx ry w
  unfold dI2 at w
  cases rx with
  | int i =>
    cases ry with
    | int j => exact ⟨i, j, rfl, rfl, Wp.at w s (hg i j F)⟩
    | _ => exact w.elim
  | _ => exact w.elim
theorem opOk_I {C : Int → Int → Prop} {c : Int → Int → Bool} {g : Int → Int → V} {f : Int → Int → D} (hg : ∀ (i j : Int) (F : Hp), Rep X.K Cs F (g i j) (f i j)) (hc : ∀ i j, c i j = true → C i j) : OpOk X Cs E (rI C g) (dI2c c f) := by
  intro F H x y dx dy Q s rx ry w
  unfold dI2c at w
  cases rx with
  | int i =>
    cases ry with
    | int j =>
      dsimp only at w
      by_cases h : c i j = true
      · rw [if_pos h] at w
        exact ⟨i, j, rfl, rfl, hc i j h, Wp.at w s (hg i j F)⟩
      · rw [if_neg h] at w
        exact w.elim
    | _ => exact w.elim
  | _ => exact w.elim
theorem se_bin {op : Operator} {r : R2} {f : D → D → R D} (ho : OpR X (binaryOp op) r) (hk : OpOk X Cs E r f) (ha : SE X Cs E a ma) (hb : SE X Cs E b mb) : SE X Cs E (.BinOp a op b pos) (vBin f ma mb) := by
  obtain ⟨ta, pa, qa⟩ := ha
  obtain ⟨tb, pb, qb⟩ := hb
  refine ⟨_, pe_op ho pa pb, fun F0 H0 ρ F σ H Q S w => ?_⟩
  exact qa _ _ _ _ _ _ _ S (Wp.seq w fun x dx F1 H1 e1 rx w1 => qb _ _ _ _ _ _ _ (S.go e1) (Wp.seq w1 fun y dy F2 H2 e2 ry w2 =>
    hk F2 H2 x y dx dy Q e2.sub (rx.mono e2.ff) ry (w2.mono (fun d hd v F' H' e' rv => hd v F' H' ((e1.trans e2).trans e') rv) fun _ _ z => z)))
end
end VM
end
section
set_option Elab.async false
set_option linter.all false
set_option maxRecDepth 100000
set_option autoImplicit false
/-! VM2: more expressions. -/
namespace VM
open PySem PySem.Spec L2
section
variable {X : Cx} {Cs : Gm} {E : XK} {e a b c : Expr} {m ma mb mc : Fr0 → R D} {pos : Pos}

/-! ### arithmetic -/
def oAdd : D → D → R D := dI2 fun i j => .int (i + j)
def oSub : D → D → R D := dI2 fun i j => .int (i - j)
/-- one factor below 2^64, or both below 2^9000 -/
def mulFits (i j : Int) : Bool := decide (i.natAbs < 2 ^ 63) || decide (j.natAbs < 2 ^ 63) || (decide (i.natAbs < 2 ^ 9000) && decide (j.natAbs < 2 ^ 9000))
def oMul : D → D → R D := dI2c mulFits fun i j => .int (i * j)
/-- a divisor from 1 on, below 2^9000 -/
def divFits (j : Int) : Bool := decide (0 < j) && decide (j.natAbs < 2 ^ 9000)
def oDiv : D → D → R D := dI2c (fun _ j => divFits j) fun i j => .int (i / j)
def oMod : D → D → R D := dI2c (fun _ j => decide (0 < j)) fun i j => .int (i % j)
theorem se_add (ha : SE X Cs E a ma) (hb : SE X Cs E b mb) : SE X Cs E (.BinOp a .Add b pos) (vBin oAdd ma mb) := se_bin op_add (opOk_I0 fun i j F => .int _) ha hb
theorem se_sub (ha : SE X Cs E a ma) (hb : SE X Cs E b mb) : SE X Cs E (.BinOp a .Sub b pos) (vBin oSub ma mb) := se_bin op_sub (opOk_I0 fun i j F => .int _) ha hb
theorem mulFits_ok {i j : Int} (h : mulFits i j = true) : IntMulOk i j := by
  unfold mulFits at h
  simp only [Bool.or_eq_true, Bool.and_eq_true, decide_eq_true_eq] at h
  have p : (2 : Nat) ^ 63 = 9223372036854775808 := by decide
  have p' : (2 : Int) ^ 64 = 18446744073709551616 := by decide
  rcases h with (h | h) | ⟨h1, h2⟩
  · exact CMul.ok (.inl ⟨by omega, by omega⟩)
  · exact CMul.ok (.inr ⟨by omega, by omega⟩)
  · exact (wide_mul h1 h2 (by decide) (by decide) (by decide)).ok
theorem op_mulA : OpR X (binaryOp .Mult) (rI (fun i j => IntMulOk i j) fun i j => .int (i * j)) := opI fun _ _ _ _ _ _ _ hc q => PyProof.Rows.mul_int q hc
theorem se_mul (ha : SE X Cs E a ma) (hb : SE X Cs E b mb) : SE X Cs E (.BinOp a .Mult b pos) (vBin oMul ma mb) := se_bin op_mulA (opOk_I (fun i j F => .int _) fun i j h => mulFits_ok h) ha hb
theorem divFits_ok {j : Int} (h : divFits j = true) : ∀ i : Int, CDivW i j := fun i => by
  unfold divFits at h
  simp only [Bool.and_eq_true, decide_eq_true_eq] at h
  exact wide_div h.1 h.2 (by decide) (by decide)
theorem se_div (ha : SE X Cs E a ma) (hb : SE X Cs E b mb) : SE X Cs E (.BinOp a .FloorDiv b pos) (vBin oDiv ma mb) := se_bin op_fdivW (opOk_I (fun i j F => .int _) fun i j h => divFits_ok h i) ha hb
theorem se_mod (ha : SE X Cs E a ma) (hb : SE X Cs E b mb) : SE X Cs E (.BinOp a .Mod b pos) (vBin oMod ma mb) := se_bin op_mod (opOk_I (fun i j F => .int _) fun i j h => of_decide_eq_true h) ha hb

/-! ### what is == what -/
mutual
def D.pd : D → Option PyData
  | .non => some .none
  | .bl b => some (.bool b)
  | .int i => some (.int i)
  | .str x => some (.str x)
  | .tup xs => (pdAll xs).map .tuple
  | .lst xs => (pdAll xs).map .list
  | .dct _ => none
  | .ins _ _ => none
def pdAll : List D → Option (List PyData)
  | [] => some []
  | x :: xs => match x.pd, pdAll xs with
    | some y, some ys => some (y :: ys)
    | _, _ => none
end
variable {F : Hp}
mutual
theorem Rep.dp : ∀ {v : V} {d : D} {p : PyData}, Rep X.K Cs F v d → d.pd = some p → Dp X.K F v p
  | _, _, _, .non, h => by simp only [D.pd, Option.some.injEq] at h; subst h; exact .non
  | _, _, _, .bl b, h => by simp only [D.pd, Option.some.injEq] at h; subst h; exact .bl _
  | _, _, _, .int b, h => by simp only [D.pd, Option.some.injEq] at h; subst h; exact .int _
  | _, _, _, .str b, h => by simp only [D.pd, Option.some.injEq] at h; subst h; exact .str _
  | _, _, _, .tup q r, h => by
    simp only [D.pd, Option.map_eq_some_iff] at h
    obtain ⟨ps, h1, rfl⟩ := h
    exact .tup q (Reps.dp r h1)
  | _, _, _, .lst q r, h => by
    simp only [D.pd, Option.map_eq_some_iff] at h
    obtain ⟨ps, h1, rfl⟩ := h
    exact .lst q (Reps.dp r h1)
  | _, _, _, .ins _ _, h => by simp [D.pd] at h
  | _, _, _, .dct _ _ _, h => by simp [D.pd] at h
theorem Reps.dp : ∀ {vs : List V} {ds : List D} {ps : List PyData}, Reps X.K Cs F vs ds → pdAll ds = some ps → DpAll X.K F vs ps
  | _, _, _, .nil, h => by simp only [pdAll, Option.some.injEq] at h; subst h; exact .nil
  | _, _, _, .cons (d := d) (ds := ds) r t, h => by
    simp only [pdAll] at h
    cases h1 : d.pd with
    | none => rw [h1] at h; simp at h
    | some p =>
      cases h2 : pdAll ds with
      | none => rw [h1, h2] at h; simp at h
      | some ps =>
        rw [h1, h2] at h
        simp only [Option.some.injEq] at h
        subst h
        exact .cons (Rep.dp r h1) (Reps.dp t h2)
end
end
def oEq : D → D → R D := fun x y => match x.pd, y.pd with
  | some p, some q => if SeqAt.shaped p && SeqAt.shaped q then .ok (.bl (PyData.eqv p q)) else .stuck
  | _, _ => .stuck
def oNe : D → D → R D := fun x y => match x.pd, y.pd with
  | some p, some q => if SeqAt.shaped p && SeqAt.shaped q then .ok (.bl (!PyData.eqv p q)) else .stuck
  | _, _ => .stuck
section
variable {X : Cx} {Cs : Gm} {E : XK} {e a b c : Expr} {m ma mb mc : Fr0 → R D} {pos : Pos}
theorem opOk_eq : OpOk X Cs E (rEqD X.K) oEq := by
  intro F H x y dx dy Q s rx ry w
  unfold oEq at w
  cases h1 : dx.pd with
  | none => rw [h1] at w; exact w.elim
  | some p =>
    cases h2 : dy.pd with
    | none => rw [h1, h2] at w; exact w.elim
    | some q =>
      rw [h1, h2] at w
      dsimp only at w
      by_cases h : (SeqAt.shaped p && SeqAt.shaped q) = true
      · rw [if_pos h] at w
        simp only [Bool.and_eq_true] at h
        exact ⟨p, q, (rx.mono s).dp h1, (ry.mono s).dp h2, h.1, h.2, Wp.bl w s⟩
      · rw [if_neg h] at w; exact w.elim
theorem opOk_ne : OpOk X Cs E (rNeD X.K) oNe := by
  intro F H x y dx dy Q s rx ry w
  unfold oNe at w
  cases h1 : dx.pd with
  | none => rw [h1] at w; exact w.elim
  | some p =>
    cases h2 : dy.pd with
    | none => rw [h1, h2] at w; exact w.elim
    | some q =>
      rw [h1, h2] at w
      dsimp only at w
      by_cases h : (SeqAt.shaped p && SeqAt.shaped q) = true
      · rw [if_pos h] at w
        simp only [Bool.and_eq_true] at h
        exact ⟨p, q, (rx.mono s).dp h1, (ry.mono s).dp h2, h.1, h.2, Wp.bl w s⟩
      · rw [if_neg h] at w; exact w.elim
def oLt : D → D → R D := dI2 fun i j => .bl (decide (i < j))
def oLe : D → D → R D := dI2 fun i j => .bl (decide (i ≤ j))
def oGt : D → D → R D := dI2 fun i j => .bl (decide (j < i))
def oGe : D → D → R D := dI2 fun i j => .bl (decide (j ≤ i))
theorem okLt : OpOk X Cs E (rI0 fun i j => .bl (decide (i < j))) oLt := opOk_I0 fun i j F => .bl _
theorem okLe : OpOk X Cs E (rI0 fun i j => .bl (decide (i ≤ j))) oLe := opOk_I0 fun i j F => .bl _
theorem okGt : OpOk X Cs E (rI0 fun i j => .bl (decide (j < i))) oGt := opOk_I0 fun i j F => .bl _
theorem okGe : OpOk X Cs E (rI0 fun i j => .bl (decide (j ≤ i))) oGe := opOk_I0 fun i j F => .bl _
def D.isNon : D → Bool
  | .non => true
  | _ => false
theorem Rep.isNon {F : Hp} {v : V} {d : D} (r : Rep X.K Cs F v d) : decide (v = .non) = d.isNon := by cases r <;> simp [D.isNon]
/-- is None, is not None -/
def oIsN : D → D → R D := fun x y => match y with
  | .non => .ok (.bl x.isNon)
  | _ => .stuck
def oNotN : D → D → R D := fun x y => match y with
  | .non => .ok (.bl (!x.isNon))
  | _ => .stuck
theorem okIsN : OpOk X Cs E (fun x y H Q => y = .non ∧ Q (.bl (decide (x = .non))) H) oIsN := by
  intro F H x y dx dy Q s rx ry w
  cases ry with
  | non => exact ⟨rfl, by rw [rx.isNon]; exact Wp.bl w s⟩
  | _ => exact w.elim
theorem okNotN : OpOk X Cs E (fun x y H Q => y = .non ∧ Q (.bl (!decide (x = .non))) H) oNotN := by
  intro F H x y dx dy Q s rx ry w
  cases ry with
  | non => exact ⟨rfl, by rw [rx.isNon]; exact Wp.bl w s⟩
  | _ => exact w.elim
/-- one comparison -/
theorem se_cmp {op : CmpOp} {r : R2} {f : D → D → R D} (ho : OpR X (compareOp op) r) (hk : OpOk X Cs E r f) (ha : SE X Cs E a ma) (hb : SE X Cs E b mb) (hm : behindInMarks op b = false) : SE X Cs E (.Compare a [op] [b] pos) (vBin f ma mb) := by
  obtain ⟨ta, pa, qa⟩ := ha
  obtain ⟨tb, pb, qb⟩ := hb
  refine ⟨_, pe_cmpR ho pa pb hm, fun F0 H0 ρ F σ H Q S w => ?_⟩
  exact qa _ _ _ _ _ _ _ S (Wp.seq w fun x dx F1 H1 e1 rx w1 => qb _ _ _ _ _ _ _ (S.go e1) (Wp.seq w1 fun y dy F2 H2 e2 ry w2 =>
    hk F2 H2 x y dx dy Q e2.sub (rx.mono e2.ff) ry (w2.mono (fun d hd v F' H' e' rv => hd v F' H' ((e1.trans e2).trans e') rv) fun _ _ z => z)))
/-- a value that is True or False, as a test -/
def vTest (m : Fr0 → R D) : Fr0 → R Bool := fun ρ => (m ρ).bind fun d => match d with
  | .bl b => .ok b
  | _ => .stuck
theorem test_of {F H : Hp} {r : R D} {Q : Bool → Hp → Prop} (w : WpB X.K Cs F H Q E (r.bind fun d => match d with | .bl b => .ok b | _ => .stuck)) : Wp X.K Cs F H (fun x H' => ∃ k, x = .bl k ∧ Q k H') E r := by
  refine Wp.seq w fun x d F1 H1 e1 rx w1 => ?_
  cases rx with
  | bl k => exact ⟨k, rfl, (show ∀ F' H', Ext F H F' H' → Q k H' from w1) F1 H1 e1⟩
  | _ => exact w1.elim
theorem st_cmp {op : CmpOp} {r : R2} {f : D → D → R D} (ho : OpR X (compareOp op) r) (hk : OpOk X Cs E r f) (ha : SE X Cs E a ma) (hb : SE X Cs E b mb) (hm : behindInMarks op b = false) : ST X Cs E (.Compare a [op] [b] pos) (vTest (vBin f ma mb)) := by
  obtain ⟨ta, pa, qa⟩ := ha
  obtain ⟨tb, pb, qb⟩ := hb
  refine ⟨_, pt_cmpR ho pa pb hm, fun F0 H0 ρ F σ H Q S w => ?_⟩
  have w' := test_of w
  exact qa _ _ _ _ _ _ _ S (Wp.seq w' fun x dx F1 H1 e1 rx w1 => qb _ _ _ _ _ _ _ (S.go e1) (Wp.seq w1 fun y dy F2 H2 e2 ry w2 =>
    hk F2 H2 x y dx dy _ e2.sub (rx.mono e2.ff) ry (w2.mono (fun d hd v F' H' e' rv => hd v F' H' ((e1.trans e2).trans e') rv) fun _ _ z => z)))
theorem st_val (h : SE X Cs E e m) (he : ∀ whole, isTrue e X.env whole = (do let v ← whole; standAt e.pos; holding [v] (truthy v)) := by intro _; rfl) : ST X Cs E e (vTest m) := by
  obtain ⟨t, p, q⟩ := h
  exact ⟨_, pt_val p he, fun F0 H0 ρ F σ H Q S w => q _ _ _ _ _ _ _ S (test_of w)⟩
/-- a < b < c -/
def vChain (f g : D → D → R D) (ma mb mc : Fr0 → R D) : Fr0 → R D := fun ρ => (ma ρ).bind fun x => (mb ρ).bind fun y => (f x y).bind fun z => match z with
  | .bl true => (mc ρ).bind fun u => g y u
  | .bl false => .ok (.bl false)
  | _ => .stuck
end
end VM
end
section
set_option Elab.async false
set_option linter.all false
set_option maxRecDepth 100000
set_option autoImplicit false
/-! VM3: chains, and/or/not, displays, items, calls. -/
namespace VM
open PySem PySem.Spec L2
section
variable {X : Cx} {Cs : Gm} {E : XK} {e a b c : Expr} {es : List Expr} {m ma mb mc : Fr0 → R D} {pos : Pos} {F H F1 H1 : Hp} {Q : VK}
theorem Wp.re {r : R D} (e : Ext F H F1 H1) (h : r.Sat (fun d => ∀ v F' H', Ext F H F' H' → Rep X.K Cs F' v d → Q v H') (ExW X.K Cs F1 H1 E)) : Wp X.K Cs F1 H1 Q E r :=
  h.mono (fun d hd v F' H' e' rv => hd v F' H' (e.trans e') rv) fun _ _ z => z
theorem WpB.re {r : R Bool} {Q : Bool → Hp → Prop} (e : Ext F H F1 H1) (h : r.Sat (fun d => ∀ F' H', Ext F H F' H' → Q d H') (ExW X.K Cs F1 H1 E)) : WpB X.K Cs F1 H1 Q E r :=
  h.mono (fun d hd F' H' e' => hd F' H' (e.trans e')) fun _ _ z => z
theorem WpA.re {r : R (List D)} {Q : List V → Hp → Prop} (e : Ext F H F1 H1) (h : r.Sat (fun d => ∀ v F' H', Ext F H F' H' → Reps X.K Cs F' v d → Q v H') (ExW X.K Cs F1 H1 E)) : WpA X.K Cs F1 H1 Q E r :=
  h.mono (fun d hd v F' H' e' rv => hd v F' H' (e.trans e') rv) fun _ _ z => z
theorem WpO.re {r : R D} (e : Ext F H F1 H1) (h : r.Sat (fun d => ∀ a F' H', Ext F H F' H' → OwnAt X.K Cs H F' H' a d → Q (.ref a) H') (ExW X.K Cs F1 H1 E)) : WpO X.K Cs F1 H1 Q E r :=
  h.mono (fun d hd v F' H' e' rv => hd v F' H' (e.trans e') (rv.low e.hh)) fun _ _ z => z

theorem chain_sem {op op' : CmpOp} {r r' : R2} {f g : D → D → R D} {ta tb tc : TE} (hk : OpOk X Cs E r f) (hk' : OpOk X Cs E r' g)
    (qa : ∀ F0 H0 ρ F σ H Q, Sim X.K Cs F0 H0 ρ F σ H → Wp X.K Cs F H Q E (ma ρ) → ta σ H Q) (qb : ∀ F0 H0 ρ F σ H Q, Sim X.K Cs F0 H0 ρ F σ H → Wp X.K Cs F H Q E (mb ρ) → tb σ H Q)
    (qc : ∀ F0 H0 ρ F σ H Q, Sim X.K Cs F0 H0 ρ F σ H → Wp X.K Cs F H Q E (mc ρ) → tc σ H Q) {F0 : Ent} {H0 : Hp} {ρ : Fr0} {σ : L2.St} (S : Sim X.K Cs F0 H0 ρ F σ H) (w : Wp X.K Cs F H Q E (vChain f g ma mb mc ρ)) : tChain r r' ta tb tc σ H Q := by
  refine qa _ _ _ _ _ _ _ S (Wp.seq w fun x dx F1 H1 e1 rx w1 => qb _ _ _ _ _ _ _ (S.go e1) (Wp.seq w1 fun y dy F2 H2 e2 ry w2 => ?_))
  refine hk F2 H2 x y dx dy _ e2.sub (rx.mono e2.ff) ry (Wp.seq w2 fun z dz F3 H3 e3 rz w3 => ?_)
  cases rz with
  | bl k =>
    refine ⟨k, rfl, ?_⟩
    cases k with
    | false => rw [if_neg Bool.false_ne_true]; exact Wp.bl (Wp.re ((e1.trans e2).trans e3) w3) e3.sub
    | true =>
      rw [if_pos rfl]
      refine qc _ _ _ _ _ _ _ (((S.go e1).go e2).go e3) (Wp.seq w3 fun u du F4 H4 e4 ru w4 => ?_)
      exact hk' F4 H4 y u dy du Q e4.sub (ry.mono (e3.trans e4).ff) ru (Wp.re (((e1.trans e2).trans e3).trans e4) w4)
  | _ => exact w3.elim
theorem se_chain {op op' : CmpOp} {r r' : R2} {f g : D → D → R D} (ho : OpR X (compareOp op) r) (hk : OpOk X Cs E r f) (ho' : OpR X (compareOp op') r') (hk' : OpOk X Cs E r' g) (ha : SE X Cs E a ma) (hb : SE X Cs E b mb) (hc : SE X Cs E c mc)
    (hm : lastMarks [op, op'] [b, c] = false := by with_unfolding_all rfl) : SE X Cs E (.Compare a [op, op'] [b, c] pos) (vChain f g ma mb mc) := by
  obtain ⟨ta, pa, qa⟩ := ha
  obtain ⟨tb, pb, qb⟩ := hb
  obtain ⟨tc, pc, qc⟩ := hc
  exact ⟨_, pe_chain ho ho' pa pb pc hm, fun F0 H0 ρ F σ H Q S w => chain_sem (op := op) (op' := op') hk hk' qa qb qc S w⟩
theorem st_chain {op op' : CmpOp} {r r' : R2} {f g : D → D → R D} (ho : OpR X (compareOp op) r) (hk : OpOk X Cs E r f) (ho' : OpR X (compareOp op') r') (hk' : OpOk X Cs E r' g) (ha : SE X Cs E a ma) (hb : SE X Cs E b mb) (hc : SE X Cs E c mc)
    (hm : lastMarks [op, op'] [b, c] = false := by with_unfolding_all rfl) : ST X Cs E (.Compare a [op, op'] [b, c] pos) (vTest (vChain f g ma mb mc)) := by
  obtain ⟨ta, pa, qa⟩ := ha
  obtain ⟨tb, pb, qb⟩ := hb
  obtain ⟨tc, pc, qc⟩ := hc
  exact ⟨_, pt_chain ho ho' pa pb pc hm, fun F0 H0 ρ F σ H Q S w => chain_sem (op := op) (op' := op') hk hk' qa qb qc S (test_of w)⟩

/-! ### truth of a value -/
def D.tru : D → R Bool
  | .non => .ok false
  | .bl b => .ok b
  | .int i => .ok (i != 0)
  | .lst xs => .ok (!xs.isEmpty)
  | .tup xs => .ok (!xs.isEmpty)
  | _ => .stuck
def vTruth (m : Fr0 → R D) : Fr0 → R Bool := fun ρ => (m ρ).bind D.tru
theorem Reps.isEmpty {vs : List V} {ds : List D} (r : Reps X.K Cs F vs ds) : vs.isEmpty = ds.isEmpty := by cases r <;> rfl
theorem st_truth (h : SE X Cs E e m) (he : ∀ whole, isTrue e X.env whole = (do let v ← whole; standAt e.pos; holding [v] (truthy v)) := by intro _; rfl) : ST X Cs E e (vTruth m) := by
  obtain ⟨t, p, q⟩ := h
  refine ⟨_, pt_truth p he, fun F0 H0 ρ F σ H Q S w => q _ _ _ _ _ _ _ S (Wp.seq w fun x d F1 H1 e1 rx w1 => ?_)⟩
  have fin : ∀ k, R.Sat (.ok k) (fun d => ∀ F' H', Ext F H F' H' → Q d H') (ExW X.K Cs F1 H1 E) → Q k H1 := fun k h => (show ∀ F' H', Ext F H F' H' → Q k H' from h) F1 H1 e1
  cases rx with
  | non => exact ⟨_, rfl, fin _ w1⟩
  | bl k => exact ⟨_, rfl, fin _ w1⟩
  | int k => exact ⟨_, rfl, fin _ w1⟩
  | tup hq r => exact ⟨_, .inr (.inl ⟨_, sqT_mono e1.sub hq, rfl⟩), by rw [r.isEmpty]; exact fin _ w1⟩
  | lst hq r => exact ⟨_, .inl ⟨_, e1.sub.seq hq, rfl⟩, by rw [r.isEmpty]; exact fin _ w1⟩
  | _ => exact w1.elim

/-! ### and, or, not, if-else -/
def bAnd (ma mb : Fr0 → R Bool) : Fr0 → R Bool := fun ρ => (ma ρ).bind fun k => if k then mb ρ else .ok false
def bOr (ma mb : Fr0 → R Bool) : Fr0 → R Bool := fun ρ => (ma ρ).bind fun k => if k then .ok true else mb ρ
def bNot (ma : Fr0 → R Bool) : Fr0 → R Bool := fun ρ => (ma ρ).bind fun k => .ok (!k)
variable {rest : List Expr} {na nb : Fr0 → R Bool}
theorem SW.st (h : SW X Cs E e na) : ST X Cs E e na := let ⟨t, p, q⟩ := h; ⟨t, p.pt, q⟩
theorem sw_and1 (ha : ST X Cs E a na) : SW X Cs E (.BoolOp .And [a] pos) na := let ⟨t, p, q⟩ := ha; ⟨t, pw_and1 p, q⟩
theorem sw_or1 (ha : ST X Cs E a na) : SW X Cs E (.BoolOp .Or [a] pos) na := let ⟨t, p, q⟩ := ha; ⟨t, pw_or1 p, q⟩
theorem sw_and (ha : ST X Cs E a na) (hb : SW X Cs E (.BoolOp .And (b :: rest) pos) nb) : SW X Cs E (.BoolOp .And (a :: b :: rest) pos) (bAnd na nb) := by
  obtain ⟨ta, pa, qa⟩ := ha
  obtain ⟨tb, pb, qb⟩ := hb
  refine ⟨_, pw_and pa pb, fun F0 H0 ρ F σ H Q S w => qa _ _ _ _ _ _ _ S (WpB.seq w fun k F1 H1 e1 w1 => ?_)⟩
  cases k with
  | true => rw [if_pos rfl]; exact qb _ _ _ _ _ _ _ (S.go e1) (WpB.re e1 w1)
  | false => rw [if_neg Bool.false_ne_true]; exact (show ∀ F' H', Ext F H F' H' → Q false H' from w1) F1 H1 e1
theorem sw_or (ha : ST X Cs E a na) (hb : SW X Cs E (.BoolOp .Or (b :: rest) pos) nb) : SW X Cs E (.BoolOp .Or (a :: b :: rest) pos) (bOr na nb) := by
  obtain ⟨ta, pa, qa⟩ := ha
  obtain ⟨tb, pb, qb⟩ := hb
  refine ⟨_, pw_or pa pb, fun F0 H0 ρ F σ H Q S w => qa _ _ _ _ _ _ _ S (WpB.seq w fun k F1 H1 e1 w1 => ?_)⟩
  cases k with
  | false => rw [if_neg Bool.false_ne_true]; exact qb _ _ _ _ _ _ _ (S.go e1) (WpB.re e1 w1)
  | true => rw [if_pos rfl]; exact (show ∀ F' H', Ext F H F' H' → Q true H' from w1) F1 H1 e1
theorem st_not (ha : ST X Cs E a na) : ST X Cs E (.UnaryOp .Not a pos) (bNot na) := by
  obtain ⟨ta, pa, qa⟩ := ha
  exact ⟨_, pt_not pa, fun F0 H0 ρ F σ H Q S w => qa _ _ _ _ _ _ _ S (WpB.seq w fun k F1 H1 e1 w1 => (show ∀ F' H', Ext F H F' H' → Q (!k) H' from w1) F1 H1 e1)⟩
/-- as values, of True and False -/
def vAnd (ma mb : Fr0 → R D) : Fr0 → R D := fun ρ => (ma ρ).bind fun x => match x with
  | .bl true => mb ρ
  | .bl false => .ok (.bl false)
  | _ => .stuck
def vOr (ma mb : Fr0 → R D) : Fr0 → R D := fun ρ => (ma ρ).bind fun x => match x with
  | .bl false => mb ρ
  | .bl true => .ok (.bl true)
  | _ => .stuck
def vNot (ma : Fr0 → R D) : Fr0 → R D := fun ρ => (ma ρ).bind fun x => match x with
  | .bl k => .ok (.bl (!k))
  | _ => .stuck
theorem se_one {op} (ha : SE X Cs E a ma) : SE X Cs E (.BoolOp op [a] pos) ma := let ⟨t, p, q⟩ := ha; ⟨t, pe_one p, q⟩
theorem se_and (ha : SE X Cs E a ma) (hb : SE X Cs E (.BoolOp .And (b :: rest) pos) mb) : SE X Cs E (.BoolOp .And (a :: b :: rest) pos) (vAnd ma mb) := by
  obtain ⟨ta, pa, qa⟩ := ha
  obtain ⟨tb, pb, qb⟩ := hb
  refine ⟨_, pe_and pa pb, fun F0 H0 ρ F σ H Q S w => qa _ _ _ _ _ _ _ S (Wp.seq w fun x d F1 H1 e1 rx w1 => ?_)⟩
  cases rx with
  | bl k =>
    refine ⟨k, rfl, ?_⟩
    cases k with
    | true => rw [if_pos rfl]; exact qb _ _ _ _ _ _ _ (S.go e1) (Wp.re e1 w1)
    | false => rw [if_neg Bool.false_ne_true]; exact Wp.bl (Wp.re e1 w1) e1.sub
  | _ => exact w1.elim
theorem se_or (ha : SE X Cs E a ma) (hb : SE X Cs E (.BoolOp .Or (b :: rest) pos) mb) : SE X Cs E (.BoolOp .Or (a :: b :: rest) pos) (vOr ma mb) := by
  obtain ⟨ta, pa, qa⟩ := ha
  obtain ⟨tb, pb, qb⟩ := hb
  refine ⟨_, pe_or pa pb, fun F0 H0 ρ F σ H Q S w => qa _ _ _ _ _ _ _ S (Wp.seq w fun x d F1 H1 e1 rx w1 => ?_)⟩
  cases rx with
  | bl k =>
    refine ⟨k, rfl, ?_⟩
    cases k with
    | false => rw [if_neg Bool.false_ne_true]; exact qb _ _ _ _ _ _ _ (S.go e1) (Wp.re e1 w1)
    | true => rw [if_pos rfl]; exact Wp.bl (Wp.re e1 w1) e1.sub
  | _ => exact w1.elim
theorem se_not (ha : SE X Cs E a ma) : SE X Cs E (.UnaryOp .Not a pos) (vNot ma) := by
  obtain ⟨ta, pa, qa⟩ := ha
  refine ⟨_, pe_not pa, fun F0 H0 ρ F σ H Q S w => qa _ _ _ _ _ _ _ S (Wp.seq w fun x d F1 H1 e1 rx w1 => ?_)⟩
  cases rx with
  | bl k => exact ⟨k, rfl, Wp.bl (Wp.re e1 w1) e1.sub⟩
  | _ => exact w1.elim
def vIf (n : Fr0 → R Bool) (ma mb : Fr0 → R D) : Fr0 → R D := fun ρ => (n ρ).bind fun k => if k then ma ρ else mb ρ
theorem se_ifExp (hc : ST X Cs E c na) (ha : SE X Cs E a ma) (hb : SE X Cs E b mb) : SE X Cs E (.IfExp c a b pos) (vIf na ma mb) := by
  obtain ⟨tc, pc, qc⟩ := hc
  obtain ⟨ta, pa, qa⟩ := ha
  obtain ⟨tb, pb, qb⟩ := hb
  refine ⟨_, pe_ifExp pc pa pb, fun F0 H0 ρ F σ H Q S w => qc _ _ _ _ _ _ _ S (WpB.seq w fun k F1 H1 e1 w1 => ?_)⟩
  cases k with
  | true => rw [if_pos rfl]; exact qa _ _ _ _ _ _ _ (S.go e1) (Wp.re e1 w1)
  | false => rw [if_neg Bool.false_ne_true]; exact qb _ _ _ _ _ _ _ (S.go e1) (Wp.re e1 w1)

/-! ### several, displays -/
def aNil : Fr0 → R (List D) := fun _ => .ok []
def aCons (ma : Fr0 → R D) (mr : Fr0 → R (List D)) : Fr0 → R (List D) := fun ρ => (ma ρ).bind fun x => (mr ρ).bind fun xs => .ok (x :: xs)
variable {mr : Fr0 → R (List D)}
theorem sa_nil : SA X Cs E [] aNil := ⟨_, pa_nil, fun F0 H0 ρ F σ H Q S w => (show ∀ vs F' H', Ext F H F' H' → Reps X.K Cs F' vs [] → Q vs H' from w) [] F H (Ext.refl S.sub) .nil⟩
theorem sa_cons (ha : SE X Cs E e ma) (hr : SA X Cs E es mr) (hs : starEach (e :: es) X.env = (false, eval e X.env) :: starEach es X.env := by rfl) : SA X Cs E (e :: es) (aCons ma mr) := by
  obtain ⟨ta, pa, qa⟩ := ha
  obtain ⟨tr, pr, qr⟩ := hr
  refine ⟨_, pa_cons pa pr hs, fun F0 H0 ρ F σ H Q S w => qa _ _ _ _ _ _ _ S (Wp.seq w fun x d F1 H1 e1 rx w1 => qr _ _ _ _ _ _ _ (S.go e1) (WpA.seq w1 fun vs ds F2 H2 e2 rs w2 => ?_))⟩
  exact (show ∀ vs F' H', Ext F H F' H' → Reps X.K Cs F' vs (d :: ds) → Q vs H' from w2) _ F2 H2 (e1.trans e2) (.cons (rx.mono e2.ff) rs)
def oTup (ds : List D) : R D := if ds.length ≤ 1000 then .ok (.tup ds) else .stuck
def oLst (ds : List D) : R D := if ds.length ≤ 1000 then .ok (.lst ds) else .stuck
def vTup (mr : Fr0 → R (List D)) : Fr0 → R D := fun ρ => (mr ρ).bind oTup
def vLst (mr : Fr0 → R (List D)) : Fr0 → R D := fun ρ => (mr ρ).bind oLst
theorem line1000 {n : Nat} (h : n ≤ 1000) : n ≤ sizeLine := Nat.le_of_lt (small1000 h)
theorem se_tup {x1} (h : SA X Cs E es mr) : SE X Cs E (.Tuple es x1 pos) (vTup mr) := by
  obtain ⟨t, p, q⟩ := h
  refine ⟨_, pe_tup p, fun F0 H0 ρ F σ H Q S w => q _ _ _ _ _ _ _ S (WpA.seq w fun vs ds F1 H1 e1 rs w1 => ?_)⟩
  unfold oTup at w1
  by_cases hl : ds.length ≤ 1000
  · rw [if_pos hl] at w1
    exact ⟨line1000 (by rw [rs.length]; exact hl), fun p hp => Wp.newTup (Wp.re e1 w1) e1.sub rs hp⟩
  · rw [if_neg hl] at w1; exact w1.elim
theorem so_lst (h : SA X Cs E es mr) : SO X Cs E (.List es pos) (vLst mr) := by
  obtain ⟨t, p, q⟩ := h
  refine ⟨_, pe_lst p, fun F0 H0 ρ F σ H Q S w => q _ _ _ _ _ _ _ S (WpA.seq w fun vs ds F1 H1 e1 rs w1 => ?_)⟩
  unfold oLst at w1
  by_cases hl : ds.length ≤ 1000
  · rw [if_pos hl] at w1
    exact ⟨line1000 (by rw [rs.length]; exact hl), fun p hp => WpO.newLst (WpO.re e1 w1) e1.sub rs hp⟩
  · rw [if_neg hl] at w1; exact w1.elim

/-! ### items -/
def oIdx : D → D → R D := fun x y => match x, y with
  | .lst xs, .int i => (match atI xs i with | some d => .ok d | none => .stuck)
  | .tup xs, .int i => (match atI xs i with | some d => .ok d | none => .stuck)
  | _, _ => .stuck
theorem Reps.atI {vs : List V} {ds : List D} {i : Int} {d : D} (r : Reps X.K Cs F vs ds) (h : L2.atI ds i = some d) : ∃ v, L2.atI vs i = some v ∧ Rep X.K Cs F v d := by
  unfold L2.atI at h ⊢
  rw [r.length]
  cases q : ixN ds.length i with
  | none => rw [q] at h; cases h
  | some j =>
    rw [q] at h
    obtain ⟨v, h1, h2⟩ := r.get (i := j) h
    exact ⟨v, h1, h2⟩
def rIx2 (K : PySem.W.Frag) : R2 := fun x y H Q => rIxL K x y H Q ∨ rIxT K x y H Q
theorem ix_two : IxR X (rIx2 X.K) := ix_list.or ix_tup
theorem okIdx : OpOk X Cs E (rIx2 X.K) oIdx := by
  intro F H x y dx dy Q s rx ry w
  cases rx with
  | lst hq rs =>
    cases ry with
    | int i =>
      rename_i ds
      cases h : L2.atI ds i with
      | none => simp only [oIdx, h] at w; exact w.elim
      | some d =>
        simp only [oIdx, h] at w
        obtain ⟨v, h1, h2⟩ := rs.atI h
        exact .inl ⟨_, _, i, v, rfl, rfl, s.seq hq, h1, Wp.at w s h2⟩
    | _ => exact w.elim
  | tup hq rs =>
    cases ry with
    | int i =>
      rename_i ds
      cases h : L2.atI ds i with
      | none => simp only [oIdx, h] at w; exact w.elim
      | some d =>
        simp only [oIdx, h] at w
        obtain ⟨v, h1, h2⟩ := rs.atI h
        exact .inr ⟨_, _, i, v, rfl, rfl, sqT_mono s hq, h1, Wp.at w s h2⟩
    | _ => exact w.elim
  | _ => exact w.elim
theorem se_idx (ha : SE X Cs E a ma) (hb : SE X Cs E b mb) (hs : PlainIx b := by intro _ _; rfl) : SE X Cs E (.Subscript a b pos) (vBin oIdx ma mb) := by
  obtain ⟨ta, pa, qa⟩ := ha
  obtain ⟨tb, pb, qb⟩ := hb
  refine ⟨_, pe_ix ix_two pa pb hs, fun F0 H0 ρ F σ H Q S w => ?_⟩
  exact qa _ _ _ _ _ _ _ S (Wp.seq w fun x dx F1 H1 e1 rx w1 => qb _ _ _ _ _ _ _ (S.go e1) (Wp.seq w1 fun y dy F2 H2 e2 ry w2 =>
    okIdx F2 H2 x y dx dy Q e2.sub (rx.mono e2.ff) ry (Wp.re (e1.trans e2) w2)))
end
end VM
end
section
set_option Elab.async false
set_option linter.all false
set_option maxRecDepth 100000
set_option autoImplicit false
set_option exponentiation.threshold 20000
/-! VM4: calls of built-in functions. -/
namespace VM
open PySem PySem.Spec L2
/-! ### lists of numbers, of truth values -/
def ints? : List D → Option (List Int)
  | [] => some []
  | .int i :: ds => (ints? ds).map (i :: ·)
  | _ :: _ => none
def bools? : List D → Option (List Bool)
  | [] => some []
  | .bl i :: ds => (bools? ds).map (i :: ·)
  | _ :: _ => none
/-- the truth of numbers, truth values and None -/
def trus? : List D → Option (List Bool)
  | [] => some []
  | .bl i :: ds => (trus? ds).map (i :: ·)
  | .int i :: ds => (trus? ds).map ((i != 0) :: ·)
  | .non :: ds => (trus? ds).map (false :: ·)
  | _ :: _ => none
@[simp] theorem ints?_map (ns : List Int) : ints? (ns.map D.int) = some ns := by
  induction ns with
  | nil => rfl
  | cons n ns ih => simp [ints?, ih]
@[simp] theorem bools?_map (ns : List Bool) : bools? (ns.map D.bl) = some ns := by
  induction ns with
  | nil => rfl
  | cons n ns ih => simp [bools?, ih]
section
variable {X : Cx} {Cs : Gm} {E : XK} {e a b c : Expr} {es : List Expr} {m ma mb mc : Fr0 → R D} {mr : Fr0 → R (List D)} {pos : Pos} {F H F1 H1 : Hp} {Q : VK}
theorem Reps.ints : ∀ {vs : List V} {ds : List D} {ns : List Int}, Reps X.K Cs F vs ds → ints? ds = some ns → vs = ns.map V.int
  | _, _, _, .nil, h => by simp only [ints?, Option.some.injEq] at h; subst h; rfl
  | _, _, _, .cons (d := d) r t, h => by
    cases r with
    | int i =>
      simp only [ints?, Option.map_eq_some_iff] at h
      obtain ⟨ms, h1, rfl⟩ := h
      rw [Reps.ints t h1]; rfl
    | _ => simp [ints?] at h
theorem Reps.bools : ∀ {vs : List V} {ds : List D} {ns : List Bool}, Reps X.K Cs F vs ds → bools? ds = some ns → vs = ns.map V.bl
  | _, _, _, .nil, h => by simp only [bools?, Option.some.injEq] at h; subst h; rfl
  | _, _, _, .cons (d := d) r t, h => by
    cases r with
    | bl i =>
      simp only [bools?, Option.map_eq_some_iff] at h
      obtain ⟨ms, h1, rfl⟩ := h
      rw [Reps.bools t h1]; rfl
    | _ => simp [bools?] at h
/-- the truth of an item -/
def TrI : Value → Bool → Prop
  | .bool b, k => k = b
  | .int i _, k => k = (i != 0)
  | .none, k => k = false
  | _, _ => False
theorem Reps.trus : ∀ {vs : List V} {ds : List D} {ks : List Bool} {us : List Value}, Reps X.K Cs F vs ds → trus? ds = some ks → Vals vs us → us.length = ks.length ∧ ∀ (i : Nat) (u : Value), us[i]? = some u → TrI u (ks.getD i false)
  | _, _, _, [], .nil, h, .nil => by simp only [trus?, Option.some.injEq] at h; subst h; exact ⟨rfl, fun i u e => by simp at e⟩
  | _ :: vs0, _ :: ds0, _, u0 :: us0, .cons (d := d) r t, h, .cons rv rt => by
    have key : ∀ (k : Bool) (ms : List Bool), TrI u0 k → trus? ds0 = some ms → (u0 :: us0).length = (k :: ms).length ∧ ∀ (i : Nat) (u : Value), (u0 :: us0)[i]? = some u → TrI u ((k :: ms).getD i false) := fun k ms h0 hm => by
      obtain ⟨l, q⟩ := Reps.trus t hm rt
      refine ⟨by simp [l], fun i u e => ?_⟩
      cases i with
      | zero => simp at e; subst e; simpa using h0
      | succ i => simpa using q i u (by simpa using e)
    cases r with
    | bl i =>
      simp only [trus?, Option.map_eq_some_iff] at h
      obtain ⟨ms, h1, rfl⟩ := h
      cases rv
      exact key _ _ (show i = i from rfl) h1
    | int i =>
      simp only [trus?, Option.map_eq_some_iff] at h
      obtain ⟨ms, h1, rfl⟩ := h
      obtain ⟨t', rfl⟩ := rv
      exact key _ _ (show (i != 0) = (i != 0) from rfl) h1
    | non =>
      simp only [trus?, Option.map_eq_some_iff] at h
      obtain ⟨ms, h1, rfl⟩ := h
      cases rv
      exact key _ _ (show false = false from rfl) h1
    | _ => simp [trus?] at h

/-! ### built-in functions -/
def CallOk (X : Cx) (Cs : Gm) (E : XK) (r : List V → Hp → VK → Prop) (f : List D → R D) : Prop := ∀ F H vs ds Q, Same F H → Reps X.K Cs F vs ds → Wp X.K Cs F H Q E (f ds) → r vs H Q
def CallOkO (X : Cx) (Cs : Gm) (E : XK) (r : List V → Hp → VK → Prop) (f : List D → R D) : Prop := ∀ F H vs ds Q, Same F H → Reps X.K Cs F vs ds → WpO X.K Cs F H Q E (f ds) → r vs H Q
def vCall (f : List D → R D) (mr : Fr0 → R (List D)) : Fr0 → R D := fun ρ => (mr ρ).bind f
variable {x : Str} {bid T : String} {p : Pos} {r : List V → Hp → VK → Prop} {f : List D → R D}
theorem se_callB (hc : CallR X (.builtin bid) r) (hk : CallOk X Cs E r f) (hm : X.mg x = none) (hv : bootBuiltins x = some (.builtin bid)) (ha : SA X Cs E (e :: es) mr) (hg : Gl X x := by rfl) (hn : x ≠ "__name__" := by decide) (hdb : (x == ("__debug__" : Str)) = false := by decide)
    (he : starEach (e :: es) X.env = (false, eval e X.env) :: starEach es X.env := by rfl) (hpl : (backTo pos (starEach es X.env)).any (·.1) = false := by rfl) : SE X Cs E (.Call (.Name x p) (e :: es) [] pos) (vCall f mr) := by
  obtain ⟨t, pa, q⟩ := ha
  exact ⟨_, pe_callB hc hg hm hv pa hn hdb he hpl, fun F0 H0 ρ F σ H Q S w => q _ _ _ _ _ _ _ S (WpA.seq w fun vs ds F1 H1 e1 rs w1 => hk F1 H1 vs ds Q e1.sub rs (Wp.re e1 w1))⟩
theorem se_callTy (hc : CallR X (.type T) r) (hk : CallOk X Cs E r f) (hm : X.mg x = none) (hv : bootBuiltins x = some (.type T)) (ha : SA X Cs E (e :: es) mr) (hg : Gl X x := by rfl) (hn : x ≠ "__name__" := by decide) (hdb : (x == ("__debug__" : Str)) = false := by decide)
    (he : starEach (e :: es) X.env = (false, eval e X.env) :: starEach es X.env := by rfl) (hpl : (backTo pos (starEach es X.env)).any (·.1) = false := by rfl) : SE X Cs E (.Call (.Name x p) (e :: es) [] pos) (vCall f mr) := by
  obtain ⟨t, pa, q⟩ := ha
  exact ⟨_, pe_callTy hc hg hm hv pa hn hdb he hpl, fun F0 H0 ρ F σ H Q S w => q _ _ _ _ _ _ _ S (WpA.seq w fun vs ds F1 H1 e1 rs w1 => hk F1 H1 vs ds Q e1.sub rs (Wp.re e1 w1))⟩
theorem so_callTy (hc : CallR X (.type T) r) (hk : CallOkO X Cs E r f) (hm : X.mg x = none) (hv : bootBuiltins x = some (.type T)) (ha : SA X Cs E (e :: es) mr) (hg : Gl X x := by rfl) (hn : x ≠ "__name__" := by decide) (hdb : (x == ("__debug__" : Str)) = false := by decide)
    (he : starEach (e :: es) X.env = (false, eval e X.env) :: starEach es X.env := by rfl) (hpl : (backTo pos (starEach es X.env)).any (·.1) = false := by rfl) : SO X Cs E (.Call (.Name x p) (e :: es) [] pos) (vCall f mr) := by
  obtain ⟨t, pa, q⟩ := ha
  exact ⟨_, pe_callTy hc hg hm hv pa hn hdb he hpl, fun F0 H0 ρ F σ H Q S w => q _ _ _ _ _ _ _ S (WpA.seq w fun vs ds F1 H1 e1 rs w1 => hk F1 H1 vs ds Q e1.sub rs (WpO.re e1 w1))⟩
/-- a module's name for a built-in function (math.gcd) -/
theorem se_callM (hc : CallR X (.builtin bid) r) (hk : CallOk X Cs E r f) (hm : X.mg x = some (.builtin bid)) (ha : SA X Cs E (e :: es) mr) (hg : Gl X x := by rfl) (hdb : (x == ("__debug__" : Str)) = false := by decide)
    (he : starEach (e :: es) X.env = (false, eval e X.env) :: starEach es X.env := by rfl) (hpl : (backTo pos (starEach es X.env)).any (·.1) = false := by rfl) : SE X Cs E (.Call (.Name x p) (e :: es) [] pos) (vCall f mr) := by
  obtain ⟨t, pa, q⟩ := ha
  exact ⟨_, pe_callBfun hc hg hm pa hdb he hpl, fun F0 H0 ρ F σ H Q S w => q _ _ _ _ _ _ _ S (WpA.seq w fun vs ds F1 H1 e1 rs w1 => hk F1 H1 vs ds Q e1.sub rs (Wp.re e1 w1))⟩

def fLen : List D → R D
  | [.lst xs] => .ok (.int xs.length)
  | [.tup xs] => .ok (.int xs.length)
  | [.str y] => if y.length ≤ 1000000 then .ok (.int y.length) else .stuck
  | _ => .stuck
theorem okLen : CallOk X Cs E (fun xs H Q => ∃ x n, xs = [x] ∧ LenV X.K x H n ∧ Q (.int n) H) fLen := by
  intro F H vs ds Q s rs w
  cases rs with
  | nil => exact w.elim
  | cons r t =>
    cases t with
    | cons r2 t2 => cases r <;> exact w.elim
    | nil =>
      cases r with
      | lst hq q => exact ⟨_, _, rfl, .inl ⟨_, s.seq hq, rfl⟩, by rw [q.length]; exact Wp.int w s⟩
      | tup hq q => exact ⟨_, _, rfl, .inr ⟨_, sqT_mono s hq, rfl⟩, by rw [q.length]; exact Wp.int w s⟩
      | str y =>
        simp only [fLen] at w
        by_cases h : y.length ≤ 1000000
        · rw [if_pos h] at w
          exact ⟨_, _, rfl, ⟨Nat.le_trans h (by rw [sizeLine_eq]; decide), rfl⟩, Wp.int w s⟩
        · rw [if_neg h] at w; exact w.elim
      | _ => exact w.elim
def fAbs : List D → R D
  | [.int i] => .ok (.int (if i < 0 then -i else i))
  | _ => .stuck
theorem okAbs : CallOk X Cs E (fun xs H Q => ∃ i, xs = [.int i] ∧ Q (.int (if i < 0 then -i else i)) H) fAbs := by
  intro F H vs ds Q s rs w
  cases rs with
  | nil => exact w.elim
  | cons r t =>
    cases t with
    | cons r2 t2 => cases r <;> exact w.elim
    | nil =>
      cases r with
      | int i => exact ⟨i, rfl, Wp.int w s⟩
      | _ => exact w.elim
def fInt : List D → R D
  | [.int i] => .ok (.int i)
  | [.bl k] => .ok (.int (if k then 1 else 0))
  | _ => .stuck
theorem okInt : CallOk X Cs E (fun xs H Q => (∃ i, xs = [.int i] ∧ Q (.int i) H) ∨ ∃ k, xs = [.bl k] ∧ Q (.int (if k then 1 else 0)) H) fInt := by
  intro F H vs ds Q s rs w
  cases rs with
  | nil => exact w.elim
  | cons r t =>
    cases t with
    | cons r2 t2 => cases r <;> exact w.elim
    | nil =>
      cases r with
      | int i => exact .inl ⟨i, rfl, Wp.int w s⟩
      | bl k => exact .inr ⟨k, rfl, Wp.int w s⟩
      | _ => exact w.elim
def d2 (g : Int → Int → R D) : List D → R D
  | [.int i, .int j] => g i j
  | _ => .stuck
def fGcd : List D → R D := d2 fun i j => .ok (.int ((Nat.gcd i.natAbs j.natAbs : Nat) : Int))
theorem two_ints {g : Int → Int → R D} {rl : List V → Hp → VK → Prop} (h : ∀ F H i j Q, Same F H → Wp X.K Cs F H Q E (g i j) → rl [.int i, .int j] H Q) : CallOk X Cs E rl (d2 g) := by
  intro F H vs ds Q s rs w
  cases rs with
  | nil => exact w.elim
  | cons r t =>
    cases t with
    | nil => cases r <;> exact w.elim
    | cons r2 t2 =>
      cases t2 with
      | cons _ _ => cases r <;> cases r2 <;> exact w.elim
      | nil =>
        cases r with
        | int i =>
          cases r2 with
          | int j => exact h F H i j Q s w
          | _ => exact w.elim
        | _ => exact w.elim
theorem okGcd : CallOk X Cs E rGcd fGcd := two_ints fun F H i j Q s w => ⟨i, j, rfl, Wp.int w s⟩
def lcmFits (i j : Int) : Bool := decide (i.natAbs < 2 ^ 9000) && decide (j.natAbs < 2 ^ 9000)
def rLcm : List V → Hp → VK → Prop := fun vs H Q => ∃ a b : Int, vs = [.int a, .int b] ∧ lcmFits a b = true ∧ Q (.int ((Nat.lcm a.natAbs b.natAbs : Nat) : Int)) H
theorem log2_le {n k : Nat} (hk : 0 < k) (h : n < 2 ^ k) : n.log2 < k := by
  by_cases h0 : n = 0
  · subst h0; simpa using hk
  · exact (Nat.log2_lt h0).mpr h
theorem cr_lcm : CallR X (.builtin "math.lcm") rLcm := by
  intro pins s σ H vs us Q I r h
  obtain ⟨a, b, rfl, hf, q⟩ := h
  obtain ⟨t, u, rfl⟩ := Vals.int2 r
  unfold lcmFits at hf
  simp only [Bool.and_eq_true, decide_eq_true_eq] at hf
  obtain ⟨ha, hb⟩ := hf
  have p1 : (1 : Nat) < 2 ^ 9000 := Nat.one_lt_two_pow (by decide)
  have h1 : (max 1 a.natAbs).log2 < 9000 := log2_le (by decide) (Nat.max_lt.mpr ⟨p1, ha⟩)
  have h2 : (max a.natAbs b.natAbs).log2 < 9000 := log2_le (by decide) (Nat.max_lt.mpr ⟨ha, hb⟩)
  have hl : (Nat.lcm a.natAbs b.natAbs) < 2 ^ 18000 := by
    refine Nat.lt_of_le_of_lt (PySem.W.mc_lcm_le _ _) ?_
    have : (2 : Nat) ^ 18000 = 2 ^ 9000 * 2 ^ 9000 := by rw [← Nat.pow_add]
    rw [this]
    exact Nat.mul_lt_mul'' ha hb
  have e1 : Nat.lcm 1 a.natAbs = a.natAbs := PySem.W.mc_lcm_one _
  refine PySem.call_function_meets PySem.W.MGF.kind_lcm PySem.W.MGF.plain_lcm PySem.W.MGF.entry_lcm (PySem.W.MGF.args_lcm _ _) (PySem.W.mg_run_lcm a t b u (by omega) (by omega) ?_).meets ?_
  · rw [e1, Int.natAbs_natCast]
    exact Nat.lt_trans (log2_le (by decide) hl) (by decide)
  · rw [e1]
    exact ⟨.int _, H, I.tok _, ⟨_, rfl⟩, q⟩
def fLcm : List D → R D := d2 fun i j => if lcmFits i j then .ok (.int ((Nat.lcm i.natAbs j.natAbs : Nat) : Int)) else .stuck
theorem okLcm : CallOk X Cs E rLcm fLcm := two_ints fun F H i j Q s w => by
  by_cases h : lcmFits i j = true
  · rw [if_pos h] at w
    exact ⟨i, j, rfl, h, Wp.int w s⟩
  · rw [if_neg h] at w; exact w.elim
/-- sum of a list or a tuple of numbers -/
def rSumA (K : PySem.W.Frag) : List V → Hp → VK → Prop := fun vs H Q => ∃ (a : Addr) (ns : List Int), vs = [V.ref a] ∧ (SqL K H a (ns.map V.int) ∨ SqT K H a (ns.map V.int)) ∧ Q (.int ns.sum) H
theorem cr_sumA (hc : X.calm = true) : CallR X (.builtin "sum") (rSumA X.K) := by
  intro pins s σ H vs us Q I r h
  obtain ⟨a, ns, rfl, hs, q⟩ := h
  rw [Vals.ref1 r]
  rcases hs with hs | hs
  · obtain ⟨its, rv, hl, _⟩ := I.list hs
    exact sum_raw (I.ok.hd hc) hl.isList rv.ints fun h' tk t' hk => ⟨.int _, H, I.kept hk, ⟨_, rfl⟩, q⟩
  · obtain ⟨its, rv, ht, _⟩ := I.tuple hs
    have hi := rv.ints
    obtain ⟨xs, e⟩ := hi.allInts.items
    have hn : numsOf (intItems xs).toList = ns := by rw [← e]; exact hi.numsOf
    rw [nums_intItems] at hn
    have ht' : s.heap.IsTuple a (intItems xs) := by rw [← e]; exact ht
    refine PySem.W.ktm_sumG (I.ok.hd hc) ht' fun h' tk t' hk => ?_
    rw [preSum_eq, List.take_of_length_le (by simp), hn]
    exact ⟨.int _, H, I.kept hk, ⟨_, rfl⟩, q⟩
def fSum : List D → R D
  | [.lst xs] => (match ints? xs with | some ns => .ok (.int ns.sum) | none => .stuck)
  | [.tup xs] => (match ints? xs with | some ns => .ok (.int ns.sum) | none => .stuck)
  | _ => .stuck
theorem okSum : CallOk X Cs E (rSumA X.K) fSum := by
  intro F H vs ds Q s rs w
  cases rs with
  | nil => exact w.elim
  | cons r t =>
    cases t with
    | cons r2 t2 => cases r <;> exact w.elim
    | nil =>
      cases r with
      | lst hq q =>
        rename_i xs
        cases h : ints? xs with
        | none => simp only [fSum, h] at w; exact w.elim
        | some ns =>
          simp only [fSum, h] at w
          have := q.ints h
          subst this
          exact ⟨_, ns, rfl, .inl (s.seq hq), Wp.int w s⟩
      | tup hq q =>
        rename_i xs
        cases h : ints? xs with
        | none => simp only [fSum, h] at w; exact w.elim
        | some ns =>
          simp only [fSum, h] at w
          have := q.ints h
          subst this
          exact ⟨_, ns, rfl, .inr (sqT_mono s hq), Wp.int w s⟩
      | _ => exact w.elim
/-- all of a list of truth values -/
def fAll : List D → R D
  | [.lst xs] => (match bools? xs with | some ns => .ok (.bl (ns.all id)) | none => .stuck)
  | _ => .stuck
theorem okAll : CallOk X Cs E (rAll X.K) fAll := by
  intro F H vs ds Q s rs w
  cases rs with
  | nil => exact w.elim
  | cons r t =>
    cases t with
    | cons r2 t2 => cases r <;> exact w.elim
    | nil =>
      cases r with
      | lst hq q =>
        rename_i xs
        cases h : bools? xs with
        | none => simp only [fAll, h] at w; exact w.elim
        | some ns =>
          simp only [fAll, h] at w
          have := q.bools h
          subst this
          exact ⟨_, ns, rfl, s.seq hq, Wp.bl w s⟩
      | _ => exact w.elim
/-- any of a list of truth values, numbers, None -/
def rAnyT (K : PySem.W.Frag) : List V → Hp → VK → Prop := fun vs H Q => ∃ (a : Addr) (xs : List V) (ks : List Bool), vs = [V.ref a] ∧ SqL K H a xs ∧ (∀ us : List Value, Vals xs us → us.length = ks.length ∧ ∀ (i : Nat) (u : Value), us[i]? = some u → TrI u (ks.getD i false)) ∧ Q (.bl (ks.any id)) H
theorem cr_anyT (hc : X.calm = true) : CallR X (.builtin "any") (rAnyT X.K) := by
  intro pins s σ H vs us Q I r h
  obtain ⟨a, xs, ks, rfl, hs, ht, q⟩ := h
  obtain ⟨its, rv, hl, _⟩ := I.list hs
  rw [Vals.ref1 r]
  obtain ⟨hlen, ht⟩ := ht its rv
  refine call_any_walk (iter_any hl.isList fun s₂ e2 st hne => ?_)
  subst e2
  refine ⟨_, _, _, _, _, _, fun i => ks.getD i false, rfl, Walks.list (A := X.A.in1) (I.ok.hd hc) _ a hne its.toArray, st, fun i v s Q E hv hq => ?_, fun h' tk hk => ?_⟩
  · have hv' : its[i]? = some v := by simpa using hv
    have z := ht i v hv'
    cases v with
    | bool b =>
      have z : ks.getD i false = b := z
      have hq' : Q (ks.getD i false) s := hq
      rw [z] at hq'
      exact wpAny_truthy_bool hq'
    | int j t =>
      have z : ks.getD i false = (j != 0) := z
      have hq' : Q (ks.getD i false) s := hq
      rw [z] at hq'
      exact PySem.P.truthy_int hq'
    | none =>
      have z : ks.getD i false = false := z
      have hq' : Q (ks.getD i false) s := hq
      rw [z] at hq'
      exact PyProof.Rows.truthy_none hq'
    | _ => exact z.elim
  · refine ⟨.bl _, H, I.kept fun b o eo => hk b o (fun hmem => ?_) (Heap.get?_push_of_some _ eo), ?_, q⟩
    · rcases List.mem_cons.mp hmem with e1 | hmem
      · exact absurd (e1 ▸ Heap.lt_size eo) (Nat.lt_irrefl _)
      · cases hmem
    · show Value.bool _ = Value.bool _
      rw [← any_range, List.size_toArray, hlen]
def fAny : List D → R D
  | [.lst xs] => (match trus? xs with | some ns => .ok (.bl (ns.any id)) | none => .stuck)
  | _ => .stuck
theorem okAny : CallOk X Cs E (rAnyT X.K) fAny := by
  intro F H vs ds Q s rs w
  cases rs with
  | nil => exact w.elim
  | cons r t =>
    cases t with
    | cons r2 t2 => cases r <;> exact w.elim
    | nil =>
      cases r with
      | lst hq q =>
        rename_i xs
        cases h : trus? xs with
        | none => simp only [fAny, h] at w; exact w.elim
        | some ns =>
          simp only [fAny, h] at w
          exact ⟨_, _, ns, rfl, s.seq hq, fun us rv => q.trus h rv, Wp.bl w s⟩
      | _ => exact w.elim
/-- max of a list of numbers -/
def listMax : List Int → Option Int
  | [] => none
  | n :: ns => some (ns.foldl max n)
theorem foldl_max : ∀ (ns : List Int) (n : Int), n ≤ ns.foldl max n ∧ (∀ y ∈ ns, y ≤ ns.foldl max n) ∧ (ns.foldl max n = n ∨ ns.foldl max n ∈ ns)
  | [], n => ⟨Int.le_refl _, fun y h => by simp at h, .inl rfl⟩
  | k :: ns, n => by
    obtain ⟨h1, h2, h3⟩ := foldl_max ns (max n k)
    simp only [List.foldl_cons]
    refine ⟨by omega, fun y hy => ?_, ?_⟩
    · rcases List.mem_cons.mp hy with rfl | hy
      · omega
      · exact h2 y hy
    · rcases h3 with h3 | h3
      · by_cases h : k ≤ n
        · left; omega
        · right; rw [h3]; have : max n k = k := by omega
          rw [this]; exact List.mem_cons_self
      · exact .inr (List.mem_cons_of_mem _ h3)
theorem listMax_iff {ns : List Int} {m k : Int} (h : listMax ns = some m) (hk : k ∈ ns) (hl : ∀ y, y ∈ ns → y ≤ k) : k = m := by
  cases ns with
  | nil => cases h
  | cons n ns =>
    simp only [listMax, Option.some.injEq] at h
    obtain ⟨h1, h2, h3⟩ := foldl_max ns n
    rw [h] at h1 h2 h3
    have a1 : k ≤ m := by
      rcases List.mem_cons.mp hk with rfl | hk
      · exact h1
      · exact h2 k hk
    have a2 : m ≤ k := by
      rcases h3 with h3 | h3
      · rw [h3]; exact hl _ List.mem_cons_self
      · exact hl _ (List.mem_cons_of_mem _ h3)
    omega
def fMax : List D → R D
  | [.lst xs] => (match (ints? xs).bind listMax with | some m => .ok (.int m) | none => .stuck)
  | _ => .stuck
theorem okMax : CallOk X Cs E (rMax X.K) fMax := by
  intro F H vs ds Q s rs w
  cases rs with
  | nil => exact w.elim
  | cons r t =>
    cases t with
    | cons r2 t2 => cases r <;> exact w.elim
    | nil =>
      cases r with
      | lst hq q =>
        rename_i xs
        cases h : ints? xs with
        | none => simp only [fMax, h] at w; exact w.elim
        | some ns =>
          cases h2 : listMax ns with
          | none => simp only [fMax, h, Option.bind_some, h2] at w; exact w.elim
          | some m =>
            simp only [fMax, h, Option.bind_some, h2] at w
            have := q.ints h
            subst this
            refine ⟨_, ns, rfl, s.seq hq, ?_, fun k hk hl => ?_⟩
            · cases ns with
              | nil => cases h2
              | cons _ _ => simp
            · rw [listMax_iff h2 hk hl]; exact Wp.int w s
      | _ => exact w.elim
def fTuple : List D → R D
  | [.lst xs] => .ok (.tup xs)
  | [.tup xs] => .ok (.tup xs)
  | _ => .stuck
theorem okTuple : CallOk X Cs E (fun xs H Q => ∃ p ys, xs = [.ref p] ∧ ((SqL X.K H p ys ∧ ∀ l, H l = none → Q (.ref l) (upd H l (.tup ys))) ∨ (SqT X.K H p ys ∧ Q (.ref p) H))) fTuple := by
  intro F H vs ds Q s rs w
  cases rs with
  | nil => exact w.elim
  | cons r t =>
    cases t with
    | cons r2 t2 => cases r <;> exact w.elim
    | nil =>
      cases r with
      | lst hq q => exact ⟨_, _, rfl, .inl ⟨s.seq hq, fun l hl => Wp.newTup w s q hl⟩⟩
      | tup hq q => exact ⟨_, _, rfl, .inr ⟨sqT_mono s hq, Wp.at w s (.tup hq q)⟩⟩
      | _ => exact w.elim
def fList : List D → R D
  | [.lst xs] => .ok (.lst xs)
  | [.tup xs] => .ok (.lst xs)
  | _ => .stuck
theorem okList : CallOkO X Cs E (fun xs H Q => ∃ p ys, xs = [.ref p] ∧ (SqL X.K H p ys ∨ SqT X.K H p ys) ∧ ∀ l, H l = none → Q (.ref l) (upd H l (.lst ys))) fList := by
  intro F H vs ds Q s rs w
  cases rs with
  | nil => exact w.elim
  | cons r t =>
    cases t with
    | cons r2 t2 => cases r <;> exact w.elim
    | nil =>
      cases r with
      | lst hq q => exact ⟨_, _, rfl, .inl (s.seq hq), fun l hl => WpO.newLst w s q hl⟩
      | tup hq q => exact ⟨_, _, rfl, .inr (sqT_mono s hq), fun l hl => WpO.newLst w s q hl⟩
      | _ => exact w.elim
/-- a tuple some times over -/
def oRepT : D → D → R D := fun x y => match x, y with
  | .tup xs, .int k => if !xs.isEmpty && decide (2 ≤ k) && decide (k ≤ 1000) && decide (xs.length ≤ 1000) then .ok (.tup (List.replicate k.toNat xs).flatten) else .stuck
  | _, _ => .stuck
theorem okRepT : OpOk X Cs E (rRepT X.K) oRepT := by
  intro F H x y dx dy Q s rx ry w
  cases rx with
  | tup hq q =>
    cases ry with
    | int k =>
      rename_i vs ds
      simp only [oRepT] at w
      by_cases h : (!ds.isEmpty && decide (2 ≤ k) && decide (k ≤ 1000) && decide (ds.length ≤ 1000)) = true
      · rw [if_pos h] at w
        simp only [Bool.and_eq_true, decide_eq_true_eq, Bool.not_eq_true'] at h
        obtain ⟨⟨⟨h1, h2⟩, h3⟩, h4⟩ := h
        have hv : vs ≠ [] := by
          rintro rfl
          cases q
          simp at h1
        exact ⟨_, k, vs, rfl, rfl, sqT_mono s hq, hv, h2, h3, by rw [q.length]; exact h4, fun p hp => Wp.newTup w s (q.rep _) hp⟩
      · rw [if_neg h] at w; exact w.elim
    | _ => exact w.elim
  | _ => exact w.elim
end
end VM
end
section
set_option Elab.async false
set_option linter.all false
set_option maxRecDepth 100000
set_option autoImplicit false
/-! VM5: defs and their promises, instances, statements. -/
namespace VM
open PySem PySem.Spec L2
section
variable (K : PySem.W.Frag) (Cs : Gm)
/-- what a def hands back: frozen, or (o) new and held by nobody -/
def ResAt (o : Bool) (H0 F' H' : Hp) (v : V) (d : D) : Prop := if o = true then ∃ a, v = .ref a ∧ OwnAt K Cs H0 F' H' a d else Rep K Cs F' v d
/-- the promise of a def of n parameters whose value m tells -/
def spM (n : Nat) (o : Bool) (m : List D → R D) : Sp := fun vs H Q E => ∃ F ds, Same F H ∧ TabsA Cs F H ∧ Reps K Cs F vs ds ∧ ds.length = n ∧
  (m ds).Sat (fun d => ∀ v F' H', Ext F H F' H' → ResAt K Cs o H F' H' v d → Q v H') (ExW K Cs F H E)
/-- the heap without x -/
def del (H : Hp) (x : Addr) : Hp := fun b => if b = x then none else H b
/-- the promise of an __init__: the instance of class c (at x, new, without attributes) gets the attributes that m tells -/
def spI (n c : Nat) (m : List D → R D) : Sp := fun vs H Q E => ∃ F x dx us ds, vs = .ref x :: us ∧ H x = some (.ins (Cs c) dx []) ∧ F x = none ∧ Same F H ∧ TabsA Cs F (del H x) ∧ Reps K Cs F us ds ∧ ds.length = n ∧
  (m ds).Sat (fun d => ∀ F' H', Ext F (del H x) F' H' → OwnAt K Cs (del H x) F' H' x d → Q .non H') (ExW K Cs F (del H x) E)
end
theorem del_ne {H : Hp} {a x : Addr} (h : a ≠ x) : del H x a = H a := by unfold del; rw [if_neg h]
theorem del_same {H : Hp} {x : Addr} : del H x x = none := by unfold del; rw [if_pos rfl]
section
variable {X : Cx} {Cs : Gm} {E : XK} {e a b c : Expr} {es : List Expr} {m ma mb mc : Fr0 → R D} {mr : Fr0 → R (List D)} {pos : Pos} {F H F1 H1 : Hp} {Q : VK}
abbrev CXx (X : Cx) : CXT := L2.CX X.prog X.w
/-- a def's value at its arguments; dds the defaults that fill up -/
def vFn (n : Nat) (dds : List D) (g : List D → R D) (mr : Fr0 → R (List D)) : Fr0 → R D := fun ρ => (mr ρ).bind fun ds => if (ds ++ dds).length = n then g (ds ++ dds) else .stuck
variable {x : Str} {p : Pos} {k n : Nat} {f : Addr} {fd : FuncData} {ps : List Str} {dvs : List V} {dsv : List Value} {dds : List D} {g : List D → R D}
theorem sp_of {o : Bool} {vs : List V} {ds : List D} {F H F1 H1 : Hp} {Q : VK} (e1 : Ext F H F1 H1) (tb : TabsA Cs F H) (rs : Reps X.K Cs F1 vs ds) (hdv : ∀ F, Reps X.K Cs F dvs dds) {P : D → Prop}
    (w1 : R.Sat (if (ds ++ dds).length = n then g (ds ++ dds) else .stuck) P (ExW X.K Cs F1 H1 E)) (hP : ∀ d, P d → ∀ v F' H', Ext F1 H1 F' H' → ResAt X.K Cs o H1 F' H' v d → Q v H') : spM X.K Cs n o g (vs ++ dvs) H1 Q E := by
  by_cases hl : (ds ++ dds).length = n
  · rw [if_pos hl] at w1
    exact ⟨F1, ds ++ dds, e1.sub, tb.go e1, rs.append (hdv F1), hl, w1.mono hP fun _ _ z => z⟩
  · rw [if_neg hl] at w1; exact w1.elim
theorem se_call (G : FnOk X.prog X.w X.K X.mg X.base (CXx X) k f fd ps (spM X.K Cs n false g)) (hr : Room k X.A) (hm : X.mg x = some (.ref f)) (hk : PySem.W.keepIn X.K (.ref f) = true) (hb : Binds X.K fd ps dsv) (hd : Vals dvs dsv) (hdv : ∀ F, Reps X.K Cs F dvs dds)
    (hx : Passes (CXx X) X E) (ha : SA X Cs E (e :: es) mr) (hg : Gl X x := by rfl) (hdb : (x == ("__debug__" : Str)) = false := by decide) (he : starEach (e :: es) X.env = (false, eval e X.env) :: starEach es X.env := by rfl)
    (hpl : (backTo pos (starEach es X.env)).any (·.1) = false := by rfl) : SE X Cs E (.Call (.Name x p) (e :: es) [] pos) (vFn n dds g mr) := by
  obtain ⟨t, pa, q⟩ := ha
  exact ⟨_, pe_call G hr hg hm hk hb hd hx pa hdb he hpl, fun F0 H0 ρ F σ H Q S w => q _ _ _ _ _ _ _ S (WpA.seq w fun vs ds F1 H1 e1 rs w1 => sp_of e1 S.tabs rs hdv w1 fun d hd v F' H' e' rv => hd v F' H' (e1.trans e') rv)⟩
theorem se_call0 (G : FnOk X.prog X.w X.K X.mg X.base (CXx X) k f fd ps (spM X.K Cs n false g)) (hr : Room k X.A) (hm : X.mg x = some (.ref f)) (hk : PySem.W.keepIn X.K (.ref f) = true) (hb : Binds X.K fd ps dsv) (hd : Vals dvs dsv) (hdv : ∀ F, Reps X.K Cs F dvs dds)
    (hx : Passes (CXx X) X E) (hg : Gl X x := by rfl) (hdb : (x == ("__debug__" : Str)) = false := by decide) : SE X Cs E (.Call (.Name x p) [] [] pos) (vFn n dds g aNil) :=
  ⟨_, pe_call0 G hr hg hm hk hb hd hx hdb, fun F0 H0 ρ F σ H Q S w => sp_of (vs := []) (ds := []) (Ext.refl S.sub) S.tabs .nil hdv w fun d hd v F' H' e' rv => hd v F' H' e' rv⟩
theorem so_call (G : FnOk X.prog X.w X.K X.mg X.base (CXx X) k f fd ps (spM X.K Cs n true g)) (hr : Room k X.A) (hm : X.mg x = some (.ref f)) (hk : PySem.W.keepIn X.K (.ref f) = true) (hb : Binds X.K fd ps dsv) (hd : Vals dvs dsv) (hdv : ∀ F, Reps X.K Cs F dvs dds)
    (hx : Passes (CXx X) X E) (ha : SA X Cs E (e :: es) mr) (hg : Gl X x := by rfl) (hdb : (x == ("__debug__" : Str)) = false := by decide) (he : starEach (e :: es) X.env = (false, eval e X.env) :: starEach es X.env := by rfl)
    (hpl : (backTo pos (starEach es X.env)).any (·.1) = false := by rfl) : SO X Cs E (.Call (.Name x p) (e :: es) [] pos) (vFn n dds g mr) := by
  obtain ⟨t, pa, q⟩ := ha
  refine ⟨_, pe_call G hr hg hm hk hb hd hx pa hdb he hpl, fun F0 H0 ρ F σ H Q S w => q _ _ _ _ _ _ _ S (WpA.seq w fun vs ds F1 H1 e1 rs w1 => sp_of e1 S.tabs rs hdv w1 fun d hd v F' H' e' rv => ?_)⟩
  obtain ⟨a, rfl, oa⟩ := rv
  exact hd a F' H' (e1.trans e') (oa.low e1.hh)

/-! ### instances -/
/-- an attribute of an instance of class c -/
def vFld (c : Nat) (f : Str) (m : Fr0 → R D) : Fr0 → R D := fun ρ => (m ρ).bind fun d => match d with
  | .ins c' fs => if c' = c then (match fs.lookup f with | some v => .ok v | none => .stuck) else .stuck
  | _ => .stuck
theorem se_fld {c : Nat} {f : Str} (hc : Cls X.K (Cs c)) (hn : NoAttr X.K (Cs c) f) (he : SE X Cs E e m) (hb : attributeBase e f X.env (eval e X.env) = eval e X.env := by rfl) : SE X Cs E (.Attribute e f pos) (vFld c f m) := by
  obtain ⟨t, p, q⟩ := he
  refine ⟨_, pe_fld p hb, fun F0 H0 ρ F σ H Q S w => q _ _ _ _ _ _ _ S (Wp.seq w fun x d F1 H1 e1 rx w1 => ?_)⟩
  cases rx with
  | ins ha rf =>
    rename_i a dx c' vs gs
    dsimp only at w1
    by_cases h : c' = c
    · subst h
      rw [if_pos rfl] at w1
      cases h2 : gs.lookup f with
      | none => rw [h2] at w1; exact w1.elim
      | some d =>
        rw [h2] at w1
        obtain ⟨v, h3, h4⟩ := rf.look h2
        exact ⟨a, Cs c', dx, vs, v, rfl, e1.sub _ _ ha, hc, hn, h3, Wp.at (Wp.re e1 w1) e1.sub h4⟩
    · rw [if_neg h] at w1; exact w1.elim
  | _ => exact w1.elim
/-- a property of class c, whose getter's value g tells; no error leaves it -/
def noExc {α : Type} (r : R α) : R α := match r with
  | .ok a => .ok a
  | _ => .stuck
theorem noExc_sat {α : Type} {r : R α} {p : α → Prop} {e e' : Nat → List (Str × D) → Prop} (h : (noExc r).Sat p e) : r.Sat p e' := by
  cases r with
  | ok a => exact h
  | exc _ _ => exact h.elim
  | stuck => exact h
def vProp (c : Nat) (g : List D → R D) (m : Fr0 → R D) : Fr0 → R D := fun ρ => (m ρ).bind fun d => match d with
  | .ins c' fs => if c' = c then noExc (g [.ins c' fs]) else .stuck
  | _ => .stuck
theorem se_prop {c : Nat} {nm : Str} {pa ga : Addr} (hc : Cls X.K (Cs c)) (hp : PropOf X.K (Cs c) nm pa ga) (G : FnOk X.prog X.w X.K X.mg X.base (CXx X) k ga fd ps (spM X.K Cs 1 false g)) (hr : Room (k + 1) X.A) (hb : Binds X.K fd ps []) (he : SE X Cs E e m)
    (hab : attributeBase e nm X.env (eval e X.env) = eval e X.env := by rfl) : SE X Cs E (.Attribute e nm pos) (vProp c g m) := by
  obtain ⟨t, p, q⟩ := he
  refine ⟨_, pe_prop (dvs := []) p hc hp G hr hb .nil (passL (X := X.nox)) hab, fun F0 H0 ρ F σ H Q S w => q _ _ _ _ _ _ _ S (Wp.seq w fun x d F1 H1 e1 rx w1 => ?_)⟩
  cases rx with
  | ins ha rf =>
    rename_i a dx c' vs gs
    dsimp only at w1
    by_cases h : c' = c
    · subst h
      rw [if_pos rfl] at w1
      exact ⟨a, dx, vs, rfl, e1.sub _ _ ha, F1, _, e1.sub, S.tabs.go e1, .cons (.ins ha rf) .nil, rfl, (noExc_sat w1).mono (fun d hd v F' H' e' rv => hd v F' H' (e1.trans e') rv) fun _ _ z => z⟩
    · rw [if_neg h] at w1; exact w1.elim
  | _ => exact w1.elim
/-- C(..) -/
def vMk (n : Nat) (g : List D → R D) (mr : Fr0 → R (List D)) : Fr0 → R D := fun ρ => (mr ρ).bind fun ds => if ds.length = n then g ds else .stuck
theorem so_make {c : Nat} (M : Mk X.K (Cs c) f) (G : FnOk X.prog X.w X.K X.mg X.base (CXx X) k f fd ps (spI X.K Cs n c g)) (hr : Room (k + 1) X.A) (hm : X.mg x = some (.ref (Cs c))) (hb : Binds X.K fd ps [])
    (hx : Passes (CXx X) X E) (ha : SA X Cs E (e :: es) mr) (hg : Gl X x := by rfl) (hdb : (x == ("__debug__" : Str)) = false := by decide) (he : starEach (e :: es) X.env = (false, eval e X.env) :: starEach es X.env := by rfl)
    (hpl : (backTo pos (starEach es X.env)).any (·.1) = false := by rfl) : SO X Cs E (.Call (.Name x p) (e :: es) [] pos) (vMk n g mr) := by
  obtain ⟨t, pa, q⟩ := ha
  refine ⟨_, pe_make (dvs := []) M G hr hg hm hb .nil hx pa hdb he hpl, fun F0 H0 ρ F σ H Q S w => q _ _ _ _ _ _ _ S (WpA.seq w fun vs ds F1 H1 e1 rs w1 => ?_)⟩
  intro y dx hy hdx hne
  by_cases hl : ds.length = n
  · rw [if_pos hl] at w1
    generalize hH2 : upd (upd H1 dx (.own y)) y (.ins (Cs c) dx []) = H2
    have fy : F1 y = none := e1.sub.free hy
    have s2 : Same F1 H2 := by
      subst hH2
      exact Same.updNew (Same.updNew e1.sub hdx) (by rw [upd_ne (Ne.symm hne)]; exact hy)
    have h12 : Same H1 (del H2 y) := by
      subst hH2
      intro b o hb
      have n1 : b ≠ y := ne_of_none hb hy
      rw [del_ne n1, upd_ne n1, upd_ne (ne_of_none hb hdx)]
      exact hb
    have ext : ∀ {F' H' : Hp}, Ext F1 (del H2 y) F' H' → Ext F1 H1 F' H' := fun {F' H'} x =>
      ⟨(Keep.of_same h12).trans x.hh, x.ff, fun b o hb => (x.nw b o hb).elim .inl fun z => .inr (h12.free z), x.sub⟩
    refine ⟨F1, y, dx, vs, ds, by simp, by rw [← hH2]; exact upd_same, fy, s2, (S.tabs.go e1).keep (Keep.of_same h12), rs, hl, w1.mono (fun d hd F' H' x oa => ?_) fun e fs z u dx' F' H' x ea => z u dx' F' H' (ext x) ea⟩
    refine ⟨rfl, hd y F' H' (e1.trans (ext x)) ?_⟩
    obtain ⟨_, o2, o3⟩ := oa
    exact ⟨e1.hh.free hy, o2, o3⟩
  · rw [if_neg hl] at w1; exact w1.elim

/-! ### isinstance -/
def tyName : D → Option String
  | .non => some "NoneType"
  | .bl _ => some "bool"
  | .int _ => some "int"
  | .str _ => some "str"
  | .tup _ => some "tuple"
  | .lst _ => some "list"
  | .dct _ => none
  | .ins _ _ => none
def subTy (a b : String) : Bool := a == b || (a == "bool" && b == "int")
/-- isinstance(x, T), T one of int, bool, tuple, list, str, dict -/
def vIsi (T : String) (m : Fr0 → R D) : Fr0 → R D := fun ρ => (m ρ).bind fun d => match tyName d with
  | some n => .ok (.bl (subTy n T))
  | none => .stuck
theorem tyX_of {v : V} {d : D} {n : String} (s : Same F H) (r : Rep X.K Cs F v d) (h : tyName d = some n) : TyX X.K H v (.type n) := by
  cases r with
  | non => cases h; exact .base .non
  | bl b => cases h; exact .base (.bl b)
  | int b => cases h; exact .base (.int b)
  | str b => cases h; exact .base (.str b)
  | tup hq r =>
    cases h
    rcases sqT_mono s hq with (z | ⟨o, z⟩) | ⟨o, its, n, z, zc, _⟩
    · exact .base (.tup z)
    · exact .fTuple z
    · exact .kTuple z zc
  | lst hq r =>
    cases h
    rcases s.seq hq with (z | ⟨o, z⟩) | ⟨o, its, n, z, zc, _⟩
    · exact .base (.lst z)
    · exact .base (.frz z)
    · exact .kList z zc
  | ins _ _ => cases h
  | dct _ _ _ => cases h
theorem se_isi {T : String} {tn : Str} {p2 : Pos} (hm : X.mg "isinstance" = none) (hm2 : X.mg tn = none) (hv2 : bootBuiltins tn = some (.type T))
    (hk : ∀ d n, tyName d = some n → PySem.W.kitOne X.K (.type n) (.type T) = some (subTy n T)) (he : SE X Cs E e m) (hg : Gl X "isinstance" := by rfl) (hg2 : Gl X tn := by rfl) (hn2 : tn ≠ "__name__" := by decide) (hd2 : (tn == ("__debug__" : Str)) = false := by decide)
    (hst : starEach (e :: [.Name tn p2]) X.env = (false, eval e X.env) :: starEach [.Name tn p2] X.env := by rfl) (hst2 : starEach (.Name tn p2 :: []) X.env = (false, eval (.Name tn p2) X.env) :: starEach [] X.env := by rfl)
    (hpl : (backTo pos (starEach [.Name tn p2] X.env)).any (·.1) = false := by rfl) : SE X Cs E (.Call (.Name "isinstance" p) [e, .Name tn p2] [] pos) (vIsi T m) := by
  obtain ⟨t, pe, q⟩ := he
  refine ⟨_, pe_callB call_isi hg hm (by decide +kernel) (pa_cons pe (pa_cons (pe_bltn (v := .ty T) hg2 hm2 hv2 rfl hn2 hd2) pa_nil hst2) hst) (by decide) (by decide) hst hpl, fun F0 H0 ρ F σ H Q S w => q _ _ _ _ _ _ _ S (Wp.seq w fun x d F1 H1 e1 rx w1 => ?_)⟩
  cases h : tyName d with
  | none => simp only [h] at w1; exact w1.elim
  | some n =>
    simp only [h] at w1
    exact ⟨x, .ty T, .type n, .type T, _, rfl, .ty T, tyX_of e1.sub rx h, hk d n h, Wp.bl (Wp.re e1 w1) e1.sub⟩
/-- what isinstance asks of an own class -/
structure InsTy (K : PySem.W.Frag) (C : Addr) : Prop where
  ha : PySem.W.findIn K (.ref C) "__class__" = some (some (.builtin "object.__class__"))
  hn : PySem.W.specialIn K (.builtin "object.__class__") "__get__" = some (some (.builtin "getset_descriptor.__get__"))
  htk : PySem.W.takesIn K (.builtin "object.__class__") = some true
  hm : PySem.W.mroIn K C (.type "object") = some true
/-- isinstance(x, C) of an instance of C itself (other things: nothing is said) -/
def vIsC (c : Nat) (m : Fr0 → R D) : Fr0 → R D := fun ρ => (m ρ).bind fun d => match d with
  | .ins c' _ => if c' = c then .ok (.bl true) else .stuck
  | _ => .stuck
theorem se_isC {c : Nat} {tn : Str} {p2 : Pos} (hm : X.mg "isinstance" = none) (hm2 : X.mg tn = some (.ref (Cs c))) (hc : Cls X.K (Cs c)) (hi : InsTy X.K (Cs c)) (hk : PySem.W.kitOne X.K (.ref (Cs c)) (.ref (Cs c)) = some true) (he : SE X Cs E e m) (hg : Gl X "isinstance" := by rfl)
    (hg2 : Gl X tn := by rfl) (hd2 : (tn == ("__debug__" : Str)) = false := by decide) (hst : starEach (e :: [.Name tn p2]) X.env = (false, eval e X.env) :: starEach [.Name tn p2] X.env := by rfl)
    (hst2 : starEach (.Name tn p2 :: []) X.env = (false, eval (.Name tn p2) X.env) :: starEach [] X.env := by rfl) (hpl : (backTo pos (starEach [.Name tn p2] X.env)).any (·.1) = false := by rfl) :
    SE X Cs E (.Call (.Name "isinstance" p) [e, .Name tn p2] [] pos) (vIsC c m) := by
  obtain ⟨t, pe, q⟩ := he
  refine ⟨_, pe_callB call_isi hg hm (by decide +kernel) (pa_cons pe (pa_cons (pe_glob (v := .ref (Cs c)) hg2 hm2 rfl hd2) pa_nil hst2) hst) (by decide) (by decide) hst hpl, fun F0 H0 ρ F σ H Q S w => q _ _ _ _ _ _ _ S (Wp.seq w fun x d F1 H1 e1 rx w1 => ?_)⟩
  cases rx with
  | ins ha rf =>
    rename_i a dx c' vs gs
    dsimp only at w1
    by_cases h : c' = c
    · subst h
      rw [if_pos rfl] at w1
      exact ⟨.ref a, .ref (Cs c'), .ref (Cs c'), .ref (Cs c'), true, rfl, .own _, .base (.ins (e1.sub _ _ ha) hc hi.ha hi.hn hi.htk hi.hm), hk, Wp.bl (Wp.re e1 w1) e1.sub⟩
    · rw [if_neg h] at w1; exact w1.elim
  | _ => exact w1.elim
end
end VM
end
section
set_option Elab.async false
set_option linter.all false
set_option maxRecDepth 100000
set_option autoImplicit false
/-! VM6: statements. -/
namespace VM
open PySem PySem.Spec L2
/-- how a statement ends -/
inductive Out where
  | nx (ρ : Fr0)
  | ret (d : D)
  | brk (ρ : Fr0)
  | ct (ρ : Fr0)
section
variable (K : PySem.W.Frag) (Cs : Gm)
def OutOk (o : Bool) (F0 : Ent) (H0 F : Hp) (D0 : Ends) : Out → Prop
  | .nx ρ' => ∀ F' σ' H', Same F F' → Sim K Cs F0 H0 ρ' F' σ' H' → D0.nx σ' H'
  | .ret d => ∀ v F' H', Ext F0.fz H0 F' H' → ResAt K Cs o H0 F' H' v d → D0.rt v H'
  | .brk ρ' => ∀ F' σ' H', Same F F' → Sim K Cs F0 H0 ρ' F' σ' H' → D0.bk σ' H'
  | .ct ρ' => ∀ F' σ' H', Same F F' → Sim K Cs F0 H0 ρ' F' σ' H' → D0.ct σ' H'
def WpS (o : Bool) (F0 : Ent) (H0 F : Hp) (D0 : Ends) (E : XK) (r : R Out) : Prop := r.Sat (OutOk K Cs o F0 H0 F D0) (ExW K Cs F0.fz H0 E)
end
section
variable (X : Cx) (Cs : Gm) (E : XK) (o : Bool)
def SS (st : Stmt) (m : Fr0 → R Out) : Prop := ∃ t, PS X st t ∧ ∀ F0 H0 ρ F σ H D0, Sim X.K Cs F0 H0 ρ F σ H → WpS X.K Cs o F0 H0 F D0 E (m ρ) → t D0 σ H
def SSs (st : List Stmt) (m : Fr0 → R Out) : Prop := ∃ t, PSs X st t ∧ ∀ F0 H0 ρ F σ H D0, Sim X.K Cs F0 H0 ρ F σ H → WpS X.K Cs o F0 H0 F D0 E (m ρ) → t D0 σ H
end
section
variable {K : PySem.W.Frag} {Cs : Gm} {F0 : Ent} {H0 F H F' H' : Hp} {ρ : Fr0} {σ : L2.St}
theorem dxAt_ne {w : World} {a c : Addr} {xs : List (NestedKey × Addr × Value)} {q : Str} : HO.ext (DxAt w a xs) ≠ LamX.CodeO c q := fun z => by
  unfold LamX.CodeO at z
  injection z with z
  let ob : Obj := { cls := .none, data := .fields #[.none, .str q 0] }
  let hp : Heap := { objs := Array.replicate (c + 1) ob }
  have get : ∀ b o, hp.get? b = some o → o = ob := fun b o e => by
    unfold Heap.get? at e
    cases hb : hp.objs[b]? with
    | none => rw [hb] at e; cases e
    | some x =>
      rw [hb] at e
      have hx : x = ob := by
        have := Array.mem_of_getElem? hb
        exact Array.eq_of_mem_replicate this
      subst hx
      exact (Option.some.inj e).symm
  have at_c : hp.get? c = some ob := by
    have : hp.objs[c]? = some ob := by
      show (Array.replicate (c + 1) ob)[c]? = some ob
      rw [Array.getElem?_replicate, if_pos (Nat.lt_succ_self c)]
    unfold Heap.get?
    rw [this]
  have h2 : DxAt w a xs hp := by
    rw [z]
    exact ⟨ob, _, 0, at_c, rfl, rfl⟩
  obtain ⟨_, _, o, es, ep, ho, _, hd, _⟩ := h2
  rw [get _ _ ho] at hd
  cases hd
theorem OwnAt.notT {a : Addr} {d : D} (o : OwnAt K Cs H0 F H a d) : NotT H a := by
  obtain ⟨_, _, h⟩ := o
  cases d with
  | lst ds => obtain ⟨vs, h, _⟩ := h; exact .lst h
  | ins c gs => obtain ⟨dx, fs, h, _⟩ := h; exact .ins h
  | dct kvs =>
    obtain ⟨xs, h, _⟩ := h
    intro u e
    rw [h] at e
    cases e
    exact ⟨(fun ps z => by cases z), (fun c q => dxAt_ne)⟩
  | _ => exact h.elim
/-- the object at a, which this body alone holds, is changed -/
theorem Sim.mut (S : Sim K Cs F0 H0 ρ F σ H) {i : Nat} {a : Addr} {bb : Bool} {d d' : D} {u : HO} (h1 : ρ[i]? = some (.own bb d)) (h2 : σ[i]? = some (some (.ref a))) (o : OwnAt K Cs H0 F H a d) (o' : OwnAt K Cs H0 F (upd H a u) a d') :
    Sim K Cs F0 H0 (ρ.set i (.own bb d')) F σ (upd H a u) := by
  obtain ⟨a0, af, _⟩ := id o
  have hil : i < ρ.length := (List.getElem?_eq_some_iff.mp h1).1
  have nt : NotT H a := o.notT
  have kp : ∀ b, b ≠ a → upd H a u b = H b := fun b hb => upd_ne hb
  refine ⟨⟨S.ext.hh.but a0 nt kp, S.ext.ff, S.ext.nw, fun b x hb => ?_⟩, fun P hP => ⟨(S.tabs P hP).1.but nt kp, (S.tabs P hP).2⟩, by simpa using S.len, fun j s h => ?_, fun j k b1 b2 e1 e2 b g1 g2 g3 g4 => ?_⟩
  · rw [upd_ne (ne_of_none hb af)]; exact S.ext.sub b x hb
  · by_cases hj : i = j
    · subst hj
      rw [List.getElem?_set_self hil] at h
      cases h
      obtain ⟨a', q1, q2, _⟩ := S.slots i _ h1
      exact ⟨a, h2, (fun z => by rw [h2] at q1; cases q1; exact q2 z), o'⟩
    · rw [List.getElem?_set_ne hj] at h
      have q := S.slots j s h
      cases s with
      | none => trivial
      | frz d => exact q
      | own b1 e =>
        obtain ⟨b, hb, by1, b0, bf, br⟩ := q
        have nab : b ≠ a := by
          rintro rfl
          exact hj (S.apart i j _ _ d e b h1 h h2 hb)
        refine ⟨b, hb, by1, b0, bf, ?_⟩
        cases e with
        | lst ds => obtain ⟨vs, z1, z2⟩ := br; exact ⟨vs, by rw [upd_ne nab]; exact z1, z2⟩
        | ins c gs => obtain ⟨dx, fs, z1, z2⟩ := br; exact ⟨dx, fs, by rw [upd_ne nab]; exact z1, z2⟩
        | dct kvs => obtain ⟨xs, z1, zn, z2⟩ := br; exact ⟨xs, by rw [upd_ne nab]; exact z1, zn, z2⟩
        | _ => exact br.elim
  · have get : ∀ {j : Nat} {b : Bool} {e : D}, (ρ.set i (.own bb d'))[j]? = some (.own b e) → ∃ b' e', ρ[j]? = some (.own b' e') := fun {j b e} g => by
      by_cases hj : i = j
      · subst hj; exact ⟨_, d, h1⟩
      · rw [List.getElem?_set_ne hj] at g; exact ⟨_, e, g⟩
    obtain ⟨c1, e1', g1'⟩ := get g1
    obtain ⟨c2, e2', g2'⟩ := get g2
    exact S.apart j k c1 c2 e1' e2' b g1' g2' g3 g4
/-- what this body alone held is frozen -/
theorem Sim.freeze (S : Sim K Cs F0 H0 ρ F σ H) {i : Nat} {bb : Bool} {d : D} (h1 : ρ[i]? = some (.own bb d)) : ∃ F', Ext F0.fz H0 F' H ∧ Sim K Cs F0 H0 (ρ.set i (.frz d)) F' σ H ∧ Same F F' := by
  obtain ⟨a, h2, _, a0, af, ar⟩ := S.slots i _ h1
  have hil : i < ρ.length := (List.getElem?_eq_some_iff.mp h1).1
  have key : ∀ u, H a = some u → Rep K Cs (upd F a u) (.ref a) d → ∃ F', Ext F0.fz H0 F' H ∧ Sim K Cs F0 H0 (ρ.set i (.frz d)) F' σ H ∧ Same F F' := fun u hu rd => by
    have up : Same F (upd F a u) := fun b x z => by rw [upd_ne (by rintro rfl; rw [af] at z; cases z)]; exact z
    have ex : Ext F0.fz H0 (upd F a u) H := by
      refine ⟨S.ext.hh, S.ext.ff.trans up, fun b x z => ?_, fun b x z => ?_⟩
      · by_cases q : b = a
        · subst q; exact .inr a0
        · rw [upd_ne q] at z; exact S.ext.nw b x z
      · by_cases q : b = a
        · subst q; rw [upd_same] at z; cases z; exact hu
        · rw [upd_ne q] at z; exact S.ext.sub b x z
    have tb : TabsA Cs (upd F a u) H := fun P hP => by
      refine ⟨(S.tabs P hP).1, ?_⟩
      by_cases q : P = a
      · subst q
        obtain ⟨ps, hp, _⟩ := (S.tabs P hP).1
        exact absurd rfl ((OwnAt.notT ⟨a0, af, ar⟩ _ hp).1 ps)
      · rw [upd_ne q]; exact (S.tabs P hP).2
    refine ⟨_, ex, ⟨ex, tb, by simpa using S.len, fun j s h => ?_, fun j k b1 b2 e1 e2 b g1 g2 g3 g4 => ?_⟩, up⟩
    · by_cases hj : i = j
      · subst hj
        rw [List.getElem?_set_self hil] at h
        cases h
        exact ⟨.ref a, h2, rd⟩
      · rw [List.getElem?_set_ne hj] at h
        have q := S.slots j s h
        cases s with
        | none => trivial
        | frz e => obtain ⟨v, q1, q2⟩ := q; exact ⟨v, q1, q2.mono up⟩
        | own b1 e =>
          obtain ⟨b, hb, by1, b0, bf, br⟩ := q
          have nab : b ≠ a := by
            rintro rfl
            exact hj (S.apart i j _ _ d e b h1 h h2 hb)
          refine ⟨b, hb, by1, b0, by rw [upd_ne nab]; exact bf, ?_⟩
          cases e with
          | lst ds => obtain ⟨vs, z1, z2⟩ := br; exact ⟨vs, z1, z2.mono up⟩
          | ins c gs => obtain ⟨dx, fs, z1, z2⟩ := br; exact ⟨dx, fs, z1, z2.mono up⟩
          | dct kvs => obtain ⟨xs, z1, zn, z2⟩ := br; exact ⟨xs, z1, zn, z2.mono up⟩
          | _ => exact br.elim
    · have n1 : i ≠ j := by
        rintro rfl
        rw [List.getElem?_set_self hil] at g1; cases g1
      have n2 : i ≠ k := by
        rintro rfl
        rw [List.getElem?_set_self hil] at g2; cases g2
      rw [List.getElem?_set_ne n1] at g1
      rw [List.getElem?_set_ne n2] at g2
      exact S.apart j k b1 b2 e1 e2 b g1 g2 g3 g4
  cases d with
  | lst ds =>
    obtain ⟨vs, z1, z2⟩ := ar
    exact key _ z1 (.lst (.of upd_same) (z2.mono fun b x z => by rw [upd_ne (by rintro rfl; rw [af] at z; cases z)]; exact z))
  | ins c gs =>
    obtain ⟨dx, fs, z1, z2⟩ := ar
    exact key _ z1 (.ins upd_same (z2.mono fun b x z => by rw [upd_ne (by rintro rfl; rw [af] at z; cases z)]; exact z))
  | dct kvs =>
    obtain ⟨xs, z1, zn, z2⟩ := ar
    exact key _ z1 (.dct upd_same zn (z2.mono fun b x z => by rw [upd_ne (by rintro rfl; rw [af] at z; cases z)]; exact z))
  | _ => exact ar.elim
end
section
variable {X : Cx} {Cs : Gm} {E : XK} {o : Bool} {e a b c : Expr} {es : List Expr} {m ma mb mc : Fr0 → R D} {mr : Fr0 → R (List D)} {na : Fr0 → R Bool} {pos : Pos} {st : Stmt} {sts : List Stmt} {s1 s2 : Fr0 → R Out}
theorem OutOk.go {K : PySem.W.Frag} {F0 : Ent} {H0 F F1 : Hp} {D0 : Ends} {u : Out} (h : OutOk K Cs o F0 H0 F D0 u) (s : Same F F1) : OutOk K Cs o F0 H0 F1 D0 u := by
  cases u with
  | nx ρ' => exact fun F' σ' H' z S => h F' σ' H' (s.trans z) S
  | ret d => exact h
  | brk ρ' => exact fun F' σ' H' z S => h F' σ' H' (s.trans z) S
  | ct ρ' => exact fun F' σ' H' z S => h F' σ' H' (s.trans z) S
theorem WpS.go {K : PySem.W.Frag} {F0 : Ent} {H0 F F1 : Hp} {D0 : Ends} {r : R Out} (h : WpS K Cs o F0 H0 F D0 E r) (s : Same F F1) : WpS K Cs o F0 H0 F1 D0 E r := h.mono (fun _ z => z.go s) fun _ _ z => z
/-- from a statement's wish to that of an expression in it -/
theorem WpS.ex {F0 : Ent} {H0 F H : Hp} {D0 : Ends} {r : R D} {g : D → R Out} (x : Ext F0.fz H0 F H) (w : WpS X.K Cs o F0 H0 F D0 E (r.bind g)) {Q : VK}
    (k : ∀ v d F1 H1, Ext F H F1 H1 → Rep X.K Cs F1 v d → WpS X.K Cs o F0 H0 F1 D0 E (g d) → Q v H1) : Wp X.K Cs F H Q E r :=
  w.of_bind.mono (fun d hd v F1 H1 e rv => k v d F1 H1 e rv (WpS.go hd e.ff)) fun _ _ z => z.go x
theorem WpS.exB {F0 : Ent} {H0 F H : Hp} {D0 : Ends} {r : R Bool} {g : Bool → R Out} (x : Ext F0.fz H0 F H) (w : WpS X.K Cs o F0 H0 F D0 E (r.bind g)) {Q : Bool → Hp → Prop}
    (k : ∀ d F1 H1, Ext F H F1 H1 → WpS X.K Cs o F0 H0 F1 D0 E (g d) → Q d H1) : WpB X.K Cs F H Q E r :=
  w.of_bind.mono (fun d hd F1 H1 e => k d F1 H1 e (WpS.go hd e.ff)) fun _ _ z => z.go x
theorem WpS.exA {F0 : Ent} {H0 F H : Hp} {D0 : Ends} {r : R (List D)} {g : List D → R Out} (x : Ext F0.fz H0 F H) (w : WpS X.K Cs o F0 H0 F D0 E (r.bind g)) {Q : List V → Hp → Prop}
    (k : ∀ v d F1 H1, Ext F H F1 H1 → Reps X.K Cs F1 v d → WpS X.K Cs o F0 H0 F1 D0 E (g d) → Q v H1) : WpA X.K Cs F H Q E r :=
  w.of_bind.mono (fun d hd v F1 H1 e rv => k v d F1 H1 e rv (WpS.go hd e.ff)) fun _ _ z => z.go x
theorem WpS.exO {F0 : Ent} {H0 F H : Hp} {D0 : Ends} {r : R D} {g : D → R Out} (x : Ext F0.fz H0 F H) (w : WpS X.K Cs o F0 H0 F D0 E (r.bind g)) {Q : VK}
    (k : ∀ a d F1 H1, Ext F H F1 H1 → OwnAt X.K Cs H F1 H1 a d → WpS X.K Cs o F0 H0 F1 D0 E (g d) → Q (.ref a) H1) : WpO X.K Cs F H Q E r :=
  w.of_bind.mono (fun d hd v F1 H1 e rv => k v d F1 H1 e rv (WpS.go hd e.ff)) fun _ _ z => z.go x

/-! ### blocks -/
def bNil : Fr0 → R Out := fun ρ => .ok (.nx ρ)
def bSeq (s1 s2 : Fr0 → R Out) : Fr0 → R Out := fun ρ => (s1 ρ).bind fun out => match out with
  | .nx ρ' => s2 ρ'
  | u => .ok u
theorem sss_nil : SSs X Cs E o [] bNil := ⟨_, pss_nil, fun F0 H0 ρ F σ H D0 S w => (show ∀ F' σ' H', Same F F' → Sim X.K Cs F0 H0 ρ F' σ' H' → D0.nx σ' H' from w) F σ H (Same.refl _) S⟩
theorem sss_cons (h1 : SS X Cs E o st s1) (h2 : SSs X Cs E o sts s2) : SSs X Cs E o (st :: sts) (bSeq s1 s2) := by
  obtain ⟨t1, p1, q1⟩ := h1
  obtain ⟨t2, p2, q2⟩ := h2
  refine ⟨_, pss_cons p1 p2, fun F0 H0 ρ F σ H D0 S w => q1 F0 H0 ρ F σ H _ S (w.of_bind.mono (fun out hd => ?_) fun _ _ z => z)⟩
  cases out with
  | nx ρ' => exact fun F' σ' H' sf S' => q2 F0 H0 ρ' F' σ' H' D0 S' (WpS.go hd sf)
  | ret d => exact hd
  | brk ρ' => exact hd
  | ct ρ' => exact hd
theorem sss_one (h1 : SS X Cs E o st s1) : SSs X Cs E o [st] s1 := let ⟨t, p, q⟩ := h1; ⟨t, pss_one p, q⟩
/-- a name's list is frozen ahead of a statement (nothing happens in Python) -/
def bFrz (i : Nat) (s : Fr0 → R Out) : Fr0 → R Out := fun ρ => match ρ[i]? with
  | some (.own _ d) => s (ρ.set i (.frz d))
  | _ => s ρ
theorem ss_frz (i : Nat) (h : SS X Cs E o st s1) : SS X Cs E o st (bFrz i s1) := by
  obtain ⟨t, p, q⟩ := h
  refine ⟨t, p, fun F0 H0 ρ F σ H D0 S w => ?_⟩
  unfold bFrz at w
  cases h : ρ[i]? with
  | none => rw [h] at w; exact q _ _ _ _ _ _ _ S w
  | some s =>
    rw [h] at w
    cases s with
    | none => exact q _ _ _ _ _ _ _ S w
    | frz d => exact q _ _ _ _ _ _ _ S w
    | own bb d =>
      obtain ⟨F', _, S', sf⟩ := S.freeze h
      exact q _ _ _ _ _ _ _ S' (WpS.go w sf)
theorem sss_frz (i : Nat) (h : SSs X Cs E o sts s1) : SSs X Cs E o sts (bFrz i s1) := by
  obtain ⟨t, p, q⟩ := h
  refine ⟨t, p, fun F0 H0 ρ F σ H D0 S w => ?_⟩
  unfold bFrz at w
  cases h : ρ[i]? with
  | none => rw [h] at w; exact q _ _ _ _ _ _ _ S w
  | some s =>
    rw [h] at w
    cases s with
    | none => exact q _ _ _ _ _ _ _ S w
    | frz d => exact q _ _ _ _ _ _ _ S w
    | own bb d =>
      obtain ⟨F', _, S', sf⟩ := S.freeze h
      exact q _ _ _ _ _ _ _ S' (WpS.go w sf)
/-- a statement that is not reached, or of which nothing is said -/
def bStuck : Fr0 → R Out := fun _ => .stuck
theorem ss_stuck : SS X Cs E o st bStuck := ⟨_, ps_never, fun F0 H0 ρ F σ H D0 S w => w.elim⟩
theorem ss_pass : SS X Cs E o (.Pass pos) bNil := ⟨_, ps_pass, fun F0 H0 ρ F σ H D0 S w => (show ∀ F' σ' H', Same F F' → Sim X.K Cs F0 H0 ρ F' σ' H' → D0.nx σ' H' from w) F σ H (Same.refl _) S⟩
def bBrk : Fr0 → R Out := fun ρ => .ok (.brk ρ)
def bCt : Fr0 → R Out := fun ρ => .ok (.ct ρ)
theorem ss_break : SS X Cs E o (.Break pos) bBrk := ⟨_, ps_break, fun F0 H0 ρ F σ H D0 S w => (show ∀ F' σ' H', Same F F' → Sim X.K Cs F0 H0 ρ F' σ' H' → D0.bk σ' H' from w) F σ H (Same.refl _) S⟩
theorem ss_continue : SS X Cs E o (.Continue pos) bCt := ⟨_, ps_continue, fun F0 H0 ρ F σ H D0 S w => (show ∀ F' σ' H', Same F F' → Sim X.K Cs F0 H0 ρ F' σ' H' → D0.ct σ' H' from w) F σ H (Same.refl _) S⟩
theorem ss_doc {x j pos'} : SS X Cs E o (.Expr (.Constant (.str x) j pos) pos') bNil := ⟨_, ps_doc, fun F0 H0 ρ F σ H D0 S w => (show ∀ F' σ' H', Same F F' → Sim X.K Cs F0 H0 ρ F' σ' H' → D0.nx σ' H' from w) F σ H (Same.refl _) S⟩
/-- an expression, its value dropped -/
def bDrop (m : Fr0 → R D) : Fr0 → R Out := fun ρ => (m ρ).bind fun _ => .ok (.nx ρ)
theorem ss_drop (h : SE X Cs E e m) (hs : swapsWith e none pos.line X.env = pure false := by rfl) : SS X Cs E o (.Expr e pos) (bDrop m) := by
  obtain ⟨t, p, q⟩ := h
  exact ⟨_, ps_expr p hs, fun F0 H0 ρ F σ H D0 S w => q _ _ _ _ _ _ _ S (WpS.ex S.ext w fun v d F1 H1 e1 rv w1 => (show ∀ F' σ' H', Same F1 F' → Sim X.K Cs F0 H0 ρ F' σ' H' → D0.nx σ' H' from w1) F1 σ H1 (Same.refl _) (S.go e1))⟩
def bRet (m : Fr0 → R D) : Fr0 → R Out := fun ρ => (m ρ).bind fun d => .ok (.ret d)
theorem ss_ret (h : SE X Cs E e m) : SS X Cs E false (.Return (some e) pos) (bRet m) := by
  obtain ⟨t, p, q⟩ := h
  exact ⟨_, ps_ret p, fun F0 H0 ρ F σ H D0 S w => q _ _ _ _ _ _ _ S (WpS.ex S.ext w fun v d F1 H1 e1 rv w1 => (show ∀ v F' H', Ext F0.fz H0 F' H' → ResAt X.K Cs false H0 F' H' v d → D0.rt v H' from w1) v F1 H1 (S.ext.trans e1) rv)⟩
theorem ss_retO (h : SO X Cs E e m) : SS X Cs E true (.Return (some e) pos) (bRet m) := by
  obtain ⟨t, p, q⟩ := h
  exact ⟨_, ps_ret p, fun F0 H0 ρ F σ H D0 S w => q _ _ _ _ _ _ _ S (WpS.exO S.ext w fun a d F1 H1 e1 oa w1 => (show ∀ v F' H', Ext F0.fz H0 F' H' → ResAt X.K Cs true H0 F' H' v d → D0.rt v H' from w1) (.ref a) F1 H1 (S.ext.trans e1) ⟨a, rfl, oa.low S.ext.hh⟩)⟩
/-- return x, x a list that this body alone holds -/
def bRetV (i : Nat) : Fr0 → R Out := fun ρ => match ρ[i]? with
  | some (.own _ d) => .ok (.ret d)
  | _ => .stuck
theorem ss_retV (i : Nat) {x : Str} {p : Pos} (hN : X.N[i]? = some x := by rfl) (hv : Vis X.env.scope x := by first | exact Or.inl rfl | exact Or.inr (Or.inl rfl) | exact Or.inr (Or.inr rfl)) (hd : (x == ("__debug__" : Str)) = false := by decide)
    (hcd : (x == ("__classdict__" : Str)) = false := by decide) : SS X Cs E true (.Return (some (.Name x p)) pos) (bRetV i) := by
  refine ⟨_, ps_ret (pe_var hN hv hd hcd), fun F0 H0 ρ F σ H D0 S w => ?_⟩
  unfold bRetV at w
  cases h : ρ[i]? with
  | none => rw [h] at w; exact w.elim
  | some s =>
    rw [h] at w
    cases s with
    | none => exact w.elim
    | frz d => exact w.elim
    | own bb d =>
      obtain ⟨a, h1, _, h2⟩ := S.slots i _ h
      exact ⟨_, h1, (show ∀ v F' H', Ext F0.fz H0 F' H' → ResAt X.K Cs true H0 F' H' v d → D0.rt v H' from w) (.ref a) F H S.ext ⟨a, rfl, h2⟩⟩
def bRetN : Fr0 → R Out := fun _ => .ok (.ret .non)
theorem ss_retN : SS X Cs E false (.Return none pos) bRetN := ⟨_, ps_retN, fun F0 H0 ρ F σ H D0 S w => (show ∀ v F' H', Ext F0.fz H0 F' H' → ResAt X.K Cs false H0 F' H' v .non → D0.rt v H' from w) .non F H S.ext .non⟩
def bIf (n : Fr0 → R Bool) (s1 s2 : Fr0 → R Out) : Fr0 → R Out := fun ρ => (n ρ).bind fun k => if k then s1 ρ else s2 ρ
theorem ss_if {sa sb : List Stmt} (hc : ST X Cs E c na) (h1 : SSs X Cs E o sa s1) (h2 : SSs X Cs E o sb s2) : SS X Cs E o (.If c sa sb pos) (bIf na s1 s2) := by
  obtain ⟨t, p, q⟩ := hc
  obtain ⟨t1, p1, q1⟩ := h1
  obtain ⟨t2, p2, q2⟩ := h2
  refine ⟨_, ps_if p p1 p2, fun F0 H0 ρ F σ H D0 S w => q _ _ _ _ _ _ _ S (WpS.exB S.ext w fun k F1 H1 e1 w1 => ?_)⟩
  cases k with
  | true => rw [if_pos rfl]; exact q1 _ _ _ _ _ _ _ (S.go e1) w1
  | false => rw [if_neg Bool.false_ne_true]; exact q2 _ _ _ _ _ _ _ (S.go e1) w1

/-! ### stores -/
/-- the slots but those of is are the same -/
structure But (is : List Nat) (σ σ' : L2.St) : Prop where
  len : σ'.length = σ.length
  at_ : ∀ j, j ∉ is → σ'[j]? = σ[j]?
theorem But.trans {is js : List Nat} {σ σ1 σ2 : L2.St} (a : But is σ σ1) (b : But js σ1 σ2) : But (is ++ js) σ σ2 :=
  ⟨b.len.trans a.len, fun j h => by
    simp only [List.mem_append, not_or] at h
    exact (b.at_ j h.2).trans (a.at_ j h.1)⟩
/-- what a target (of the slots is) does with a frozen value -/
def SG (X : Cx) (Cs : Gm) (tg : Expr) (is : List Nat) (g : D → Fr0 → R Fr0) : Prop := ∃ t, PG X tg t ∧ ∀ F0 H0 ρ F σ H v d (Q : L2.St → Hp → Prop), Sim X.K Cs F0 H0 ρ F σ H → Rep X.K Cs F v d →
  (g d ρ).Sat (fun ρ' => ∀ F' σ' H', Ext F H F' H' → Sim X.K Cs F0 H0 ρ' F' σ' H' → But is σ σ' → Q σ' H') (fun _ _ => False) → t v σ H Q
def gSet (i : Nat) : D → Fr0 → R Fr0 := fun d ρ => .ok (ρ.set i (.frz d))
theorem sg_name (i : Nat) {x : Str} (hN : X.N.Nodup) (hi : X.N[i]? = some x := by rfl) (hx : Loc X.env.scope x := by first | exact Or.inl rfl | exact Or.inr rfl) (hf : X.fn x = true ∨ X.env.scope.names.lookup x = some .local := by first | exact .inl rfl | exact .inr rfl) : SG X Cs (.Name x pos) [i] (gSet i) :=
  ⟨_, pg_name hN hi hx hf, fun F0 H0 ρ F σ H v d Q S r w => (show ∀ F' σ' H', Ext F H F' H' → Sim X.K Cs F0 H0 (ρ.set i (.frz d)) F' σ' H' → But [i] σ σ' → Q σ' H' from w) F _ H (Ext.refl S.sub) (S.setFrz r)
    ⟨by simp, fun j hj => List.getElem?_set_ne (by simpa using fun e : i = j => hj (by simp [e]))⟩⟩
def SGs (X : Cx) (Cs : Gm) (tgs : List Expr) (is : List Nat) (g : List D → Fr0 → R Fr0) : Prop := ∃ t, PGs X tgs t ∧ ∀ F0 H0 ρ F σ H vs ds (Q : L2.St → Hp → Prop), Sim X.K Cs F0 H0 ρ F σ H → Reps X.K Cs F vs ds →
  (g ds ρ).Sat (fun ρ' => ∀ F' σ' H', Ext F H F' H' → Sim X.K Cs F0 H0 ρ' F' σ' H' → But is σ σ' → Q σ' H') (fun _ _ => False) → t vs σ H Q
def gsNil : List D → Fr0 → R Fr0 := fun ds ρ => match ds with
  | [] => .ok ρ
  | _ => .stuck
def gsCons (g : D → Fr0 → R Fr0) (gs : List D → Fr0 → R Fr0) : List D → Fr0 → R Fr0 := fun ds ρ => match ds with
  | d :: ds => (g d ρ).bind (gs ds)
  | _ => .stuck
theorem sgs_nil : SGs X Cs [] [] gsNil := by
  refine ⟨_, pgs_nil, fun F0 H0 ρ F σ H vs ds Q S r w => ?_⟩
  cases r with
  | nil => exact ⟨rfl, (show ∀ F' σ' H', Ext F H F' H' → Sim X.K Cs F0 H0 ρ F' σ' H' → But [] σ σ' → Q σ' H' from w) F σ H (Ext.refl S.sub) S ⟨rfl, fun _ _ => rfl⟩⟩
  | cons _ _ => exact w.elim
theorem sgs_cons {is js : List Nat} {g : D → Fr0 → R Fr0} {gs : List D → Fr0 → R Fr0} (h1 : SG X Cs e is g) (h2 : SGs X Cs es js gs) (hs : (assignEach (e :: es) X.env).map (·.2) = assign e X.env :: (assignEach es X.env).map (·.2) := by rfl) : SGs X Cs (e :: es) (is ++ js) (gsCons g gs) := by
  obtain ⟨t1, p1, q1⟩ := h1
  obtain ⟨t2, p2, q2⟩ := h2
  refine ⟨_, pgs_cons p1 p2 hs, fun F0 H0 ρ F σ H vs ds Q S r w => ?_⟩
  cases r with
  | nil => exact w.elim
  | cons rv rs =>
    refine ⟨_, _, rfl, q1 _ _ _ _ _ _ _ _ _ S rv (w.of_bind.mono (fun ρ' hd F' σ' H' e1 S' b1 => ?_) fun _ _ z => z)⟩
    exact q2 _ _ _ _ _ _ _ _ _ S' (rs.mono e1.ff) (hd.mono (fun ρ2 z F2 σ2 H2 e2 S2 b2 => z F2 σ2 H2 (e1.trans e2) S2 (b1.trans b2)) fun _ _ z => z)
def gTupD (n : Nat) (gs : List D → Fr0 → R Fr0) : D → Fr0 → R Fr0 := fun d ρ => match d with
  | .tup ds => if ds.length = n then gs ds ρ else .stuck
  | _ => .stuck
theorem sg_tup {is : List Nat} {k : Nat} {n : Nat} {gs : List D → Fr0 → R Fr0} (hc : X.calm = true) (h : SGs X Cs es is gs) (hn : (assignEach es X.env).length = n := by rfl) (hst : (assignEach es X.env).findIdx? (·.1) = none := by rfl) : SG X Cs (.Tuple es k pos) is (gTupD n gs) := by
  obtain ⟨t, p, q⟩ := h
  refine ⟨_, pg_tup hc p hn hst, fun F0 H0 ρ F σ H v d Q S r w => ?_⟩
  cases r with
  | tup hq rs =>
    rename_i ds
    simp only [gTupD] at w
    by_cases hl : ds.length = n
    · rw [if_pos hl] at w
      exact ⟨_, _, rfl, sqT_mono S.sub hq, by rw [rs.length]; exact hl, q _ _ _ _ _ _ _ _ _ S rs w⟩
    · rw [if_neg hl] at w; exact w.elim
  | _ => exact w.elim
/-- target = e -/
def bAsg (m : Fr0 → R D) (g : D → Fr0 → R Fr0) : Fr0 → R Out := fun ρ => (m ρ).bind fun d => (noExc (g d ρ)).bind fun ρ' => .ok (.nx ρ')
theorem noExc_bind {α β : Type} {r : R α} {f : α → R β} {p : β → Prop} {e : Nat → List (Str × D) → Prop} (h : ((noExc r).bind f).Sat p e) : r.Sat (fun a => (f a).Sat p e) (fun _ _ => False) := by
  cases r with
  | ok a => exact h
  | exc _ _ => exact h
  | stuck => exact h
theorem asg_sem {is : List Nat} {F0 : Ent} {H0 F H : Hp} {ρ : Fr0} {σ : L2.St} {D0 : Ends} {v : V} {d : D} {tg : Expr} {t : TG} {g : D → Fr0 → R Fr0} (S : Sim X.K Cs F0 H0 ρ F σ H) (rv : Rep X.K Cs F v d)
    (q : ∀ F0 H0 ρ F σ H v d (Q : L2.St → Hp → Prop), Sim X.K Cs F0 H0 ρ F σ H → Rep X.K Cs F v d → (g d ρ).Sat (fun ρ' => ∀ F' σ' H', Ext F H F' H' → Sim X.K Cs F0 H0 ρ' F' σ' H' → But is σ σ' → Q σ' H') (fun _ _ => False) → t v σ H Q)
    (w : WpS X.K Cs o F0 H0 F D0 E ((noExc (g d ρ)).bind fun ρ' => .ok (.nx ρ'))) : t v σ H D0.nx :=
  q _ _ _ _ _ _ _ _ _ S rv ((noExc_bind w).mono (fun ρ' z F' σ' H' e' S' _ => (show ∀ F' σ' H', Same F F' → Sim X.K Cs F0 H0 ρ' F' σ' H' → D0.nx σ' H' from z) F' σ' H' e'.ff S') fun _ _ z => z)
theorem ss_asg {is : List Nat} {tg : Expr} {g : D → Fr0 → R Fr0} (he : SE X Cs E e m) (hg : SG X Cs tg is g) (hs : swapsWithSole [tg] e pos.line X.env = pure false := by rfl) (hw : swappedStores [tg] e X.env = pure none := by rfl)
    (h1 : (assignEach [tg] X.env).map (·.2) = [assign tg X.env] := by rfl) : SS X Cs E o (.Assign [tg] e pos) (bAsg m g) := by
  obtain ⟨t, p, q⟩ := he
  obtain ⟨t1, p1, q1⟩ := hg
  exact ⟨_, ps_asg p p1 hs hw h1, fun F0 H0 ρ F σ H D0 S w => q _ _ _ _ _ _ _ S (WpS.ex S.ext w fun v d F1 H1 e1 rv w1 => asg_sem (is := is) (tg := tg) (S.go e1) rv q1 w1)⟩
def bSet (i : Nat) (m : Fr0 → R D) : Fr0 → R Out := fun ρ => (m ρ).bind fun d => .ok (.nx (ρ.set i (.frz d)))
theorem ss_set (i : Nat) {x : Str} {p' : Pos} (hN : X.N.Nodup) (he : SE X Cs E e m) (hi : X.N[i]? = some x := by rfl) (hx : Loc X.env.scope x := by first | exact Or.inl rfl | exact Or.inr rfl) (hs : swapsWith e (some (.Name x p')) pos.line X.env = pure false := by rfl)
    (hf : X.fn x = true ∨ X.env.scope.names.lookup x = some .local := by first | exact .inl rfl | exact .inr rfl) : SS X Cs E o (.Assign [.Name x p'] e pos) (bSet i m) := by
  obtain ⟨t, p, q⟩ := he
  exact ⟨_, ps_set hN hi hx p hs hf, fun F0 H0 ρ F σ H D0 S w => q _ _ _ _ _ _ _ S (WpS.ex S.ext w fun v d F1 H1 e1 rv w1 =>
    (show ∀ F' σ' H', Same F1 F' → Sim X.K Cs F0 H0 (ρ.set i (.frz d)) F' σ' H' → D0.nx σ' H' from w1) F1 _ H1 (Same.refl _) ((S.go e1).setFrz rv))⟩
/-- .. a new list (dict, instance) that this body holds from now on -/
def bSetO (i : Nat) (m : Fr0 → R D) : Fr0 → R Out := fun ρ => (m ρ).bind fun d => .ok (.nx (ρ.set i (.own false d)))
theorem Sim.newOwn {K : PySem.W.Frag} {F0 : Ent} {H0 F H F1 H1 : Hp} {ρ : Fr0} {σ : L2.St} (S : Sim K Cs F0 H0 ρ F σ H) (e1 : Ext F H F1 H1) {i : Nat} {a : Addr} {d : D} (oa : OwnAt K Cs H F1 H1 a d) : Sim K Cs F0 H0 (ρ.set i (.own false d)) F1 (σ.set i (some (.ref a))) H1 := by
  refine (S.go e1).setOwn (oa.low S.ext.hh) fun j bb e hj hσ => ?_
  obtain ⟨b, hb, _, _, _, br⟩ := S.slots j _ hj
  rw [hσ] at hb
  cases hb
  have := oa.1
  cases e with
  | lst ds => obtain ⟨vs, z, _⟩ := br; rw [this] at z; cases z
  | ins c gs => obtain ⟨dx, fs, z, _⟩ := br; rw [this] at z; cases z
  | dct kvs => obtain ⟨xs, z, _⟩ := br; rw [this] at z; cases z
  | _ => exact br.elim
theorem ss_setO (i : Nat) {x : Str} {p' : Pos} (hN : X.N.Nodup) (he : SO X Cs E e m) (hi : X.N[i]? = some x := by rfl) (hx : Loc X.env.scope x := by first | exact Or.inl rfl | exact Or.inr rfl) (hs : swapsWith e (some (.Name x p')) pos.line X.env = pure false := by rfl)
    (hf : X.fn x = true ∨ X.env.scope.names.lookup x = some .local := by first | exact .inl rfl | exact .inr rfl) : SS X Cs E o (.Assign [.Name x p'] e pos) (bSetO i m) := by
  obtain ⟨t, p, q⟩ := he
  exact ⟨_, ps_set hN hi hx p hs hf, fun F0 H0 ρ F σ H D0 S w => q _ _ _ _ _ _ _ S (WpS.exO S.ext w fun a d F1 H1 e1 oa w1 =>
    (show ∀ F' σ' H', Same F1 F' → Sim X.K Cs F0 H0 (ρ.set i (.own false d)) F' σ' H' → D0.nx σ' H' from w1) F1 _ H1 (Same.refl _) (S.newOwn e1 oa))⟩
/-- a, b = e1, e2 with plain names -/
def bPar (i j : Nat) (mr : Fr0 → R (List D)) : Fr0 → R Out := fun ρ => (mr ρ).bind fun ds => match ds with
  | [x, y] => .ok (.nx ((ρ.set i (.frz x)).set j (.frz y)))
  | _ => .stuck
theorem ss_par (i j : Nat) {x y : Str} {px py pt : Pos} {kt k2 pt2} (hN : X.N.Nodup) (ha : SA X Cs E [a, b] mr) (hc : X.calm = true := by rfl) (hi : X.N[i]? = some x := by rfl) (hj : X.N[j]? = some y := by rfl) (hij : i ≠ j := by decide)
    (hx : X.env.scope.names.lookup x = some .local := by rfl) (hy : X.env.scope.names.lookup y = some .local := by rfl) (hw : swappedStores [.Tuple [.Name x px, .Name y py] kt pt] (.Tuple [a, b] k2 pt2) X.env = pure (some [x, y]) := by rfl)
    (hs : swapsWithSole [.Tuple [.Name x px, .Name y py] kt pt] (.Tuple [a, b] k2 pt2) pos.line X.env = pure false := by rfl) :
    SS X Cs E o (.Assign [.Tuple [.Name x px, .Name y py] kt pt] (.Tuple [a, b] k2 pt2) pos) (bPar i j mr) := by
  obtain ⟨t, p, q⟩ := ha
  refine ⟨_, ps_par hc hN hi hj hij hx hy p hw hs, fun F0 H0 ρ F σ H D0 S w => q _ _ _ _ _ _ _ S (WpS.exA S.ext w fun vs ds F1 H1 e1 rs w1 => ?_)⟩
  cases rs with
  | nil => exact w1.elim
  | cons r1 rs =>
    cases rs with
    | nil => exact w1.elim
    | cons r2 rs =>
      cases rs with
      | cons _ _ => exact w1.elim
      | nil => exact ⟨_, _, rfl, (show ∀ F' σ' H', Same F1 F' → Sim X.K Cs F0 H0 _ F' σ' H' → D0.nx σ' H' from w1) F1 _ H1 (Same.refl _) (((S.go e1).setFrz r1).setFrz r2)⟩
/-- x += e, numbers -/
def bAug (i : Nat) (f : D → D → R D) (m : Fr0 → R D) : Fr0 → R Out := fun ρ => match ρ[i]? with
  | some (.frz x) => (m ρ).bind fun y => (f x y).bind fun z => .ok (.nx (ρ.set i (.frz z)))
  | _ => .stuck
theorem ss_aug (i : Nat) {op : Operator} {r : TIp} {f : D → D → R D} {x : Str} {p' : Pos} (hN : X.N.Nodup) (ho : PIp X op r) (hk : OpOk X Cs E r f) (he : SE X Cs E e m) (hi : X.N[i]? = some x := by rfl) (hx : Loc X.env.scope x := by first | exact Or.inl rfl | exact Or.inr rfl)
    (hf : X.fn x = true ∨ X.env.scope.names.lookup x = some .local := by first | exact .inl rfl | exact .inr rfl) : SS X Cs E o (.AugAssign (.Name x p') op e pos) (bAug i f m) := by
  obtain ⟨t, p, q⟩ := he
  refine ⟨_, ps_aug hN hi hx p ho hf, fun F0 H0 ρ F σ H D0 S w => ?_⟩
  unfold bAug at w
  cases h : ρ[i]? with
  | none => rw [h] at w; exact w.elim
  | some s =>
    rw [h] at w
    cases s with
    | none => exact w.elim
    | own bb d => exact w.elim
    | frz d =>
      obtain ⟨v, h1, h2⟩ := S.slots i _ h
      refine ⟨v, h1, q _ _ _ _ _ _ _ S (WpS.ex S.ext w fun y dy F1 H1 e1 ry w1 => ?_)⟩
      refine hk F1 H1 v y d dy _ e1.sub (h2.mono e1.ff) ry (WpS.ex (S.ext.trans e1) w1 fun z dz F2 H2 e2 rz w2 => ?_)
      exact (show ∀ F' σ' H', Same F2 F' → Sim X.K Cs F0 H0 (ρ.set i (.frz dz)) F' σ' H' → D0.nx σ' H' from w2) F2 _ H2 (Same.refl _) (((S.go e1).go e2).setFrz rz)
theorem okIpAdd : OpOk X Cs E (ipI fun i j => i + j) oAdd := by
  intro F H x y dx dy Q s rx ry w
  unfold oAdd dI2 at w
  cases rx with
  | int i =>
    cases ry with
    | int j => exact ⟨i, j, rfl, rfl, Wp.int w s⟩
    | _ => exact w.elim
  | _ => exact w.elim
theorem okIpSub : OpOk X Cs E (ipI fun i j => i - j) oSub := by
  intro F H x y dx dy Q s rx ry w
  unfold oSub dI2 at w
  cases rx with
  | int i =>
    cases ry with
    | int j => exact ⟨i, j, rfl, rfl, Wp.int w s⟩
    | _ => exact w.elim
  | _ => exact w.elim
/-- x.append(e), x a list that this body alone holds -/
def bApp (i : Nat) (m : Fr0 → R D) : Fr0 → R Out := fun ρ => match ρ[i]? with
  | some (.own b (.lst xs)) => (m ρ).bind fun d => if xs.length ≤ 1000000 then .ok (.nx (ρ.set i (.own b (.lst (xs ++ [d]))))) else .stuck
  | _ => .stuck
/-- x[k] = e, x a list that this body alone holds -/
def bPut (i : Nat) (mk m : Fr0 → R D) : Fr0 → R Out := fun ρ => match ρ[i]? with
  | some (.own b (.lst xs)) => (m ρ).bind fun d => (mk ρ).bind fun k => match k with
    | .int k => (match ixN xs.length k with | some j => .ok (.nx (ρ.set i (.own b (.lst (xs.set j d))))) | none => .stuck)
    | _ => .stuck
  | _ => .stuck
def putD (f : Str) (v : D) : List (Str × D) → List (Str × D)
  | [] => [(f, v)]
  | (n, u) :: r => if n = f then (n, v) :: r else (n, u) :: putD f v r
/-- self.f = e, self an instance of class c that this body alone holds -/
def bFld (i c : Nat) (f : Str) (m : Fr0 → R D) : Fr0 → R Out := fun ρ => match ρ[i]? with
  | some (.own b (.ins c' gs)) => (m ρ).bind fun d => if c' = c ∧ gs.length < 100 then .ok (.nx (ρ.set i (.own b (.ins c' (putD f d gs))))) else .stuck
  | _ => .stuck
end
end VM
end
section
set_option Elab.async false
set_option linter.all false
set_option maxRecDepth 100000
set_option autoImplicit false
/-! VM7: loops and comprehensions. -/
namespace VM
open PySem PySem.Spec L2
section
variable (K : PySem.W.Frag) (Cs : Gm)
/-- the iterator J gives the trees ds, one after another, wherever F1 stands -/
structure WalkD (J : It) (ds : List D) (F1 : Hp) : Prop where
  goes : ∀ i H, i < ds.length → Same F1 H → J.go i H
  stops : ∀ H, Same F1 H → J.stop ds.length H
  yields : ∀ i F H x H', Same F1 F → Same F H → i < ds.length → J.yld i H x H' → ∃ F' d, Ext F H F' H' ∧ ds[i]? = some d ∧ Rep K Cs F' x d
end
section
variable {X : Cx} {Cs : Gm} {E : XK} {o : Bool} {e a b c tg iter elt : Expr} {es ifs : List Expr} {m ma mb mc : Fr0 → R D} {mr mi : Fr0 → R (List D)} {na : Fr0 → R Bool} {pos : Pos} {st : Stmt} {sts body : List Stmt} {s1 s2 : Fr0 → R Out} {is : List Nat} {g : D → Fr0 → R Fr0}
/-- what a loop goes over -/
def SI (X : Cx) (Cs : Gm) (E : XK) (tg iter : Expr) (mi : Fr0 → R (List D)) : Prop := ∃ w, PI X tg iter w ∧ ∀ F0 H0 ρ F σ H (Rk : It → Hp → Prop), Sim X.K Cs F0 H0 ρ F σ H →
  (mi ρ).Sat (fun ds => ∀ J F' H', Ext F H F' H' → WalkD X.K Cs J ds F' → Rk J H') (ExW X.K Cs F H E) → w σ H Rk
/-- a list's or a tuple's items -/
def D.items : D → R (List D)
  | .lst xs => .ok xs
  | .tup xs => .ok xs
  | _ => .stuck
def iSeq (m : Fr0 → R D) : Fr0 → R (List D) := fun ρ => (m ρ).bind D.items
theorem walkD_of {J : It} {vs : List V} {ds : List D} {F1 : Hp} {G : Hp → Prop} (w : Walk J vs.length G (YAt vs)) (rs : Reps X.K Cs F1 vs ds) (hG : ∀ H, Same F1 H → G H) : WalkD X.K Cs J ds F1 := by
  have hl := rs.length
  refine ⟨fun i H hi s => w.goes i H (by omega) (hG H s), fun H s => by rw [← hl]; exact w.stops H (hG H s), fun i F H x H' s1 s hi y => ?_⟩
  obtain ⟨rfl, hx⟩ := w.yields i H x H' (by omega) (hG H (s1.trans s)) y
  obtain ⟨d, h1, h2⟩ := rs.get' hx
  exact ⟨F, d, Ext.refl s, h1, h2.mono s1⟩
/-- a list only (the for over a name whose list is known to be one) -/
def D.listItems : D → R (List D)
  | .lst xs => .ok xs
  | _ => .stuck
def D.tupItems : D → R (List D)
  | .tup xs => .ok xs
  | _ => .stuck
def iLst (m : Fr0 → R D) : Fr0 → R (List D) := fun ρ => (m ρ).bind D.listItems
def iTupl (m : Fr0 → R D) : Fr0 → R (List D) := fun ρ => (m ρ).bind D.tupItems
theorem si_list (h : SE X Cs E iter m) : SI X Cs E tg iter (iLst m) := by
  obtain ⟨t, p, q⟩ := h
  refine ⟨_, pi_list p, fun F0 H0 ρ F σ H Rk S w => q _ _ _ _ _ _ _ S (Wp.seq w fun x d F1 H1 e1 rx w1 => ?_)⟩
  cases rx with
  | lst hq rs => exact ⟨_, rfl, ⟨_, e1.sub.seq hq⟩, (show ∀ J F' H', Ext F H F' H' → WalkD X.K Cs J _ F' → Rk J H' from w1) _ F1 H1 e1 (walkD_of walk_list rs fun H s => s.seq hq)⟩
  | _ => exact w1.elim
theorem si_tup (h : SE X Cs E iter m) : SI X Cs E tg iter (iTupl m) := by
  obtain ⟨t, p, q⟩ := h
  refine ⟨_, pi_tup p, fun F0 H0 ρ F σ H Rk S w => q _ _ _ _ _ _ _ S (Wp.seq w fun x d F1 H1 e1 rx w1 => ?_)⟩
  cases rx with
  | tup hq rs => exact ⟨_, rfl, ⟨_, sqT_mono e1.sub hq⟩, (show ∀ J F' H', Ext F H F' H' → WalkD X.K Cs J _ F' → Rk J H' from w1) _ F1 H1 e1 (walkD_of walk_tup rs fun H s => sqT_mono s hq)⟩
  | _ => exact w1.elim
/-- either -/
def iEither (tl tt : TI) : TI := fun σ H R => tl σ H R ∨ tt σ H R
theorem PI.or {tg iter : Expr} {w1 w2 : TI} (h1 : PI X tg iter w1) (h2 : PI X tg iter w2) : PI X tg iter (iEither w1 w2) :=
  ⟨fun pins s σ H R I h => h.elim (h1.run pins s σ H R I) (h2.run pins s σ H R I)⟩
theorem si_seq (h : SE X Cs E iter m) : SI X Cs E tg iter (iSeq m) := by
  obtain ⟨t1, p1, q1⟩ := si_list (tg := tg) h
  obtain ⟨t2, p2, q2⟩ := si_tup (tg := tg) h
  refine ⟨_, PI.or p1 p2, fun F0 H0 ρ F σ H Rk S w => ?_⟩
  unfold iSeq at w
  cases hm : m ρ with
  | exc c fs =>
    rw [hm] at w
    exact .inl (q1 _ _ _ _ _ _ _ S (by unfold iLst; rw [hm]; exact w))
  | stuck => rw [hm] at w; exact w.elim
  | ok d =>
    rw [hm] at w
    cases d with
    | lst xs => exact .inl (q1 _ _ _ _ _ _ _ S (by unfold iLst; rw [hm]; exact w))
    | tup xs => exact .inr (q2 _ _ _ _ _ _ _ S (by unfold iTupl; rw [hm]; exact w))
    | _ => exact w.elim
def rangeD (lo : Int) (n : Nat) : List D := (List.range n).map fun i => D.int (lo + (i : Nat))
theorem walkD_range {lo : Int} {n : Nat} {F1 : Hp} : WalkD X.K Cs (Itr lo n) (rangeD lo n) F1 := by
  have hl : (rangeD lo n).length = n := by simp [rangeD]
  refine ⟨fun i H hi _ => by rw [hl] at hi; exact hi, fun H _ => by rw [hl]; exact Nat.le_refl _, fun i F H x H' s1 s hi y => ?_⟩
  obtain ⟨rfl, rfl⟩ := y
  refine ⟨F, .int (lo + (i : Nat)), Ext.refl s, ?_, .int _⟩
  rw [hl] at hi
  simp [rangeD, hi]
def rangeOk (i : Int) : Bool := decide (-1000000 ≤ i) && decide (i ≤ 1000000)
def iRange1 (mr : Fr0 → R (List D)) : Fr0 → R (List D) := fun ρ => (mr ρ).bind fun ds => match ds with
  | [.int j] => if rangeOk j then .ok (rangeD 0 j.toNat) else .stuck
  | _ => .stuck
def iRange2 (mr : Fr0 → R (List D)) : Fr0 → R (List D) := fun ρ => (mr ρ).bind fun ds => match ds with
  | [.int i, .int j] => if rangeOk i && rangeOk j then .ok (rangeD i (j - i).toNat) else .stuck
  | _ => .stuck
theorem rangeOk_of {i : Int} (h : rangeOk i = true) : -(2 ^ 62) ≤ i ∧ i < 2 ^ 62 := by
  unfold rangeOk at h
  simp only [Bool.and_eq_true, decide_eq_true_eq] at h
  have : (2 : Int) ^ 62 = 4611686018427387904 := by decide
  omega
theorem si_range1 {p : Pos} (hm : X.mg "range" = none) (ha : SA X Cs E [a] mr) (hg : Gl X "range" := by rfl) (hs : starEach [a] X.env = [(false, eval a X.env)] := by rfl) : SI X Cs E tg (.Call (.Name "range" p) [a] [] pos) (iRange1 mr) := by
  obtain ⟨t, pp, q⟩ := ha
  refine ⟨_, pi_range1 hg hm pp hs, fun F0 H0 ρ F σ H Rk S w => q _ _ _ _ _ _ _ S (WpA.seq w fun vs ds F1 H1 e1 rs w1 => ?_)⟩
  cases rs with
  | nil => exact w1.elim
  | cons r t =>
    cases t with
    | cons _ _ => cases r <;> exact w1.elim
    | nil =>
      cases r with
      | int j =>
        dsimp only at w1
        by_cases h : rangeOk j = true
        · rw [if_pos h] at w1
          obtain ⟨h1, h2⟩ := rangeOk_of h
          exact ⟨j, rfl, h1, h2, (show ∀ J F' H', Ext F H F' H' → WalkD X.K Cs J _ F' → Rk J H' from w1) _ F1 H1 e1 walkD_range⟩
        · rw [if_neg h] at w1; exact w1.elim
      | _ => exact w1.elim
theorem si_range2 {p : Pos} (hm : X.mg "range" = none) (ha : SA X Cs E [a, b] mr) (hg : Gl X "range" := by rfl) (hs : starEach [a, b] X.env = [(false, eval a X.env), (false, eval b X.env)] := by rfl) (hs2 : starEach [b] X.env = [(false, eval b X.env)] := by rfl) :
    SI X Cs E tg (.Call (.Name "range" p) [a, b] [] pos) (iRange2 mr) := by
  obtain ⟨t, pp, q⟩ := ha
  refine ⟨_, pi_range2 hg hm pp hs hs2, fun F0 H0 ρ F σ H Rk S w => q _ _ _ _ _ _ _ S (WpA.seq w fun vs ds F1 H1 e1 rs w1 => ?_)⟩
  cases rs with
  | nil => exact w1.elim
  | cons r t =>
    cases t with
    | nil => cases r <;> exact w1.elim
    | cons r2 t2 =>
      cases t2 with
      | cons _ _ => cases r <;> cases r2 <;> exact w1.elim
      | nil =>
        cases r with
        | int i =>
          cases r2 with
          | int j =>
            dsimp only at w1
            by_cases h : (rangeOk i && rangeOk j) = true
            · rw [if_pos h] at w1
              simp only [Bool.and_eq_true] at h
              obtain ⟨h1, h2⟩ := rangeOk_of h.1
              obtain ⟨h3, h4⟩ := rangeOk_of h.2
              exact ⟨i, j, rfl, ⟨h1, h2, h3, h4⟩, (show ∀ J F' H', Ext F H F' H' → WalkD X.K Cs J _ F' → Rk J H' from w1) _ F1 H1 e1 walkD_range⟩
            · rw [if_neg h] at w1; exact w1.elim
          | _ => exact w1.elim
        | _ => exact w1.elim

/-! ### for -/
def forL (s : D → Fr0 → R Out) : List D → Fr0 → R Out
  | [], ρ => .ok (.nx ρ)
  | d :: ds, ρ => (s d ρ).bind fun out => match out with
    | .nx ρ' => forL s ds ρ'
    | .ct ρ' => forL s ds ρ'
    | .brk ρ' => .ok (.nx ρ')
    | .ret v => .ok (.ret v)
def bTurn (g : D → Fr0 → R Fr0) (s : Fr0 → R Out) : D → Fr0 → R Out := fun d ρ => (noExc (g d ρ)).bind s
def bFor (mi : Fr0 → R (List D)) (g : D → Fr0 → R Fr0) (s : Fr0 → R Out) : Fr0 → R Out := fun ρ => (mi ρ).bind fun ds => forL (bTurn g s) ds ρ
theorem forL_sem {F0 : Ent} {H0 F1 : Hp} {D0 : Ends} {t : TG} {tb : TS} {J : It} {ds : List D} (wk : WalkD X.K Cs J ds F1)
    (qg : ∀ F0 H0 ρ F σ H v d (Q : L2.St → Hp → Prop), Sim X.K Cs F0 H0 ρ F σ H → Rep X.K Cs F v d → (g d ρ).Sat (fun ρ' => ∀ F' σ' H', Ext F H F' H' → Sim X.K Cs F0 H0 ρ' F' σ' H' → But is σ σ' → Q σ' H') (fun _ _ => False) → t v σ H Q)
    (qb : ∀ F0 H0 ρ F σ H D0, Sim X.K Cs F0 H0 ρ F σ H → WpS X.K Cs o F0 H0 F D0 E (s1 ρ) → tb D0 σ H)
    {ρ : Fr0} {σ : L2.St} {H1 : Hp} (S : Sim X.K Cs F0 H0 ρ F1 σ H1) (w : WpS X.K Cs o F0 H0 F1 D0 E (forL (bTurn g s1) ds ρ)) :
    ∃ W : Nat → Nat → L2.St → Hp → Prop, (∃ m, W 0 m σ H1) ∧ ∀ i m σ H, W i m σ H →
      (J.stop i H ∧ D0.nx σ H) ∨ (J.go i H ∧ ∃ N : L2.St → Hp → Prop, (∀ σ' H', N σ' H' → ∃ m', m' < m ∧ W (i + 1) m' σ' H') ∧ ∀ x H', J.yld i H x H' → t x σ H' fun σ2 H2 => tb { D0 with nx := N, ct := N, bk := D0.nx } σ2 H2) := by
  refine ⟨fun i m σ H => i ≤ ds.length ∧ m = ds.length - i ∧ ∃ ρ F, Sim X.K Cs F0 H0 ρ F σ H ∧ Same F1 F ∧ WpS X.K Cs o F0 H0 F D0 E (forL (bTurn g s1) (ds.drop i) ρ), ⟨ds.length, Nat.zero_le _, by simp, ρ, F1, S, Same.refl _, by rw [List.drop_zero]; exact w⟩, ?_⟩
  rintro i m σ H ⟨hi, rfl, ρ, F, S, sf, w⟩
  by_cases hlt : i < ds.length
  · refine .inr ⟨wk.goes i H hlt (sf.trans S.sub), fun σ' H' => ∃ ρ F, Sim X.K Cs F0 H0 ρ F σ' H' ∧ Same F1 F ∧ WpS X.K Cs o F0 H0 F D0 E (forL (bTurn g s1) (ds.drop (i + 1)) ρ), fun σ' H' p' => ⟨ds.length - (i + 1), by omega, hlt, rfl, p'⟩, fun x H' y => ?_⟩
    obtain ⟨F2, d, e2, hd, rx⟩ := wk.yields i F H x H' sf S.sub hlt y
    have hdrop : ds.drop i = d :: ds.drop (i + 1) := by
      rw [List.drop_eq_getElem_cons hlt]
      congr 1
      have := List.getElem?_eq_getElem hlt
      rw [this] at hd
      exact Option.some.inj hd
    rw [hdrop] at w
    have w2 : R.Sat ((bTurn g s1 d ρ).bind _) _ _ := w
    have w3 := w2.of_bind
    have w4 := noExc_bind w3
    refine qg _ _ _ _ _ _ _ _ _ (S.go e2) rx (w4.mono (fun ρ3 z F3 σ3 H3 e3 S3 _ => ?_) fun _ _ z => z)
    have sf3 : Same F1 F3 := (sf.trans e2.ff).trans e3.ff
    refine qb F0 H0 ρ3 F3 σ3 H3 _ S3 (z.mono (fun out hout => ?_) fun _ _ z => z)
    cases out with
    | nx ρ' => exact fun F' σ' H' sf' S' => ⟨ρ', F', S', sf3.trans sf', WpS.go hout ((e2.ff.trans e3.ff).trans sf')⟩
    | ct ρ' => exact fun F' σ' H' sf' S' => ⟨ρ', F', S', sf3.trans sf', WpS.go hout ((e2.ff.trans e3.ff).trans sf')⟩
    | brk ρ' => exact fun F' σ' H' sf' S' => (show ∀ F' σ' H', Same F F' → Sim X.K Cs F0 H0 ρ' F' σ' H' → D0.nx σ' H' from hout) F' σ' H' ((e2.ff.trans e3.ff).trans sf') S'
    | ret v => exact hout
  · have e : i = ds.length := by omega
    subst e
    rw [List.drop_length] at w
    exact .inl ⟨wk.stops H (sf.trans S.sub), (show ∀ F' σ' H', Same F F' → Sim X.K Cs F0 H0 ρ F' σ' H' → D0.nx σ' H' from w) F σ H (Same.refl _) S⟩
theorem ss_for (hp : PassesOwn (model X.prog X.w) X.A X.env X.xe) (hi : SI X Cs E tg iter mi) (hg : SG X Cs tg is g) (hb : SSs X Cs E o body s1) (hc : X.calm = true := by rfl)
    (hs : ∀ x, foldedSetIterable iter X.env x = pure x := by intro _; rfl) : SS X Cs E o (.For tg iter body [] pos) (bFor mi g s1) := by
  obtain ⟨ti, pi, qi⟩ := hi
  obtain ⟨tg', pg, qg⟩ := hg
  obtain ⟨tb, pb, qb⟩ := hb
  exact ⟨_, ps_for hp hc pi pg pb hs, fun F0 H0 ρ F σ H D0 S w => qi _ _ _ _ _ _ _ S (w.of_bind.mono (fun ds hd J F1 H1 e1 wk => forL_sem wk qg qb (S.go e1) (WpS.go hd e1.ff)) fun _ _ z => z.go S.ext)⟩

/-! ### while -/
def whileL (c : Fr0 → R Bool) (s : Fr0 → R Out) : Nat → Fr0 → R Out
  | 0, _ => .stuck
  | n + 1, ρ => (c ρ).bind fun k => if k then (s ρ).bind fun out => match out with
      | .nx ρ' => whileL c s n ρ'
      | .ct ρ' => whileL c s n ρ'
      | .brk ρ' => .ok (.nx ρ')
      | .ret v => .ok (.ret v)
    else .ok (.nx ρ)
/-- fuel: how many turns are looked at, by the slots ahead of the loop -/
def bWhile (fuel : Fr0 → Nat) (c : Fr0 → R Bool) (s : Fr0 → R Out) : Fr0 → R Out := fun ρ => whileL c s (fuel ρ) ρ
theorem ss_while (fuel : Fr0 → Nat) (hp : PassesOwn (model X.prog X.w) X.A X.env X.xe) (hc : ST X Cs E c na) (hb : SSs X Cs E o body s1) : SS X Cs E o (.While c body [] pos) (bWhile fuel na s1) := by
  obtain ⟨tc, pc, qc⟩ := hc
  obtain ⟨tb, pb, qb⟩ := hb
  refine ⟨_, ps_while hp pc pb, fun F0 H0 ρ F σ H D0 S w => ?_⟩
  refine ⟨fun m σ H => ∃ ρ F, Sim X.K Cs F0 H0 ρ F σ H ∧ WpS X.K Cs o F0 H0 F D0 E (whileL na s1 m ρ), ⟨fuel ρ, ρ, F, S, w⟩, ?_⟩
  rintro m σ H ⟨ρ, F, S, w⟩
  cases m with
  | zero => exact w.elim
  | succ m =>
    refine qc _ _ _ _ _ _ _ S (WpS.exB S.ext w fun k F1 H1 e1 w1 => ?_)
    cases k with
    | false =>
      rw [if_neg Bool.false_ne_true] at w1 ⊢
      exact (show ∀ F' σ' H', Same F1 F' → Sim X.K Cs F0 H0 ρ F' σ' H' → D0.nx σ' H' from w1) F1 σ H1 (Same.refl _) (S.go e1)
    | true =>
      rw [if_pos rfl] at w1 ⊢
      refine ⟨fun σ' H' => ∃ ρ F, Sim X.K Cs F0 H0 ρ F σ' H' ∧ WpS X.K Cs o F0 H0 F D0 E (whileL na s1 m ρ), fun σ' H' p => ⟨m, Nat.lt_succ_self _, p⟩, ?_⟩
      refine qb F0 H0 ρ F1 σ H1 _ (S.go e1) (w1.of_bind.mono (fun out hout => ?_) fun _ _ z => z)
      cases out with
      | nx ρ' => exact fun F' σ' H' sf' S' => ⟨ρ', F', S', WpS.go hout sf'⟩
      | ct ρ' => exact fun F' σ' H' sf' S' => ⟨ρ', F', S', WpS.go hout sf'⟩
      | brk ρ' => exact hout
      | ret v => exact hout

/-! ### comprehensions -/
def wipeR (ρ : Fr0) : List Nat → Fr0
  | [] => ρ
  | v :: vs => (wipeR ρ vs).set v .none
theorem Sim.wipe {K : PySem.W.Frag} {F0 : Ent} {H0 F H : Hp} {ρ : Fr0} {σ : L2.St} (S : Sim K Cs F0 H0 ρ F σ H) : ∀ vs : List Nat, Sim K Cs F0 H0 (wipeR ρ vs) F (L2.wipe σ vs) H
  | [] => S
  | v :: vs => by
    have S' := Sim.wipe S vs
    refine ⟨S'.ext, S'.tabs, by simp [wipeR, L2.wipe, S'.len], fun i s h => ?_, fun i j b1 b2 d e a h1 h2 h3 h4 => ?_⟩
    · by_cases hi : v = i
      · subst hi
        have hl : v < (wipeR ρ vs).length := by
          have := (List.getElem?_eq_some_iff.mp h).1
          simpa [wipeR] using this
        unfold wipeR at h
        rw [List.getElem?_set_self hl] at h
        cases h
        trivial
      · unfold wipeR at h
        unfold L2.wipe
        rw [List.getElem?_set_ne hi] at h ⊢
        exact S'.slots i s h
    · have n1 : v ≠ i := by
        rintro rfl
        have hl : v < (wipeR ρ vs).length := by
          have := (List.getElem?_eq_some_iff.mp h1).1
          simpa [wipeR] using this
        unfold wipeR at h1
        rw [List.getElem?_set_self hl] at h1; cases h1
      have n2 : v ≠ j := by
        rintro rfl
        have hl : v < (wipeR ρ vs).length := by
          have := (List.getElem?_eq_some_iff.mp h2).1
          simpa [wipeR] using this
        unfold wipeR at h2
        rw [List.getElem?_set_self hl] at h2; cases h2
      unfold wipeR at h1 h2
      unfold L2.wipe at h3 h4
      rw [List.getElem?_set_ne n1] at h1 h3
      rw [List.getElem?_set_ne n2] at h2 h4
      exact S'.apart i j b1 b2 d e a h1 h2 h3 h4
theorem wipe_get (σ : L2.St) : ∀ (vs : List Nat) (j : Nat), (L2.wipe σ vs)[j]? = if j ∈ vs ∧ j < σ.length then some none else σ[j]?
  | [], j => by simp [L2.wipe]
  | v :: vs, j => by
    have ih := wipe_get σ vs j
    unfold L2.wipe
    by_cases hj : v = j
    · subst hj
      by_cases hl : v < σ.length
      · rw [List.getElem?_set_self (by rw [wipe_length]; exact hl), if_pos ⟨List.mem_cons_self, hl⟩]
      · rw [List.getElem?_eq_none (by rw [List.length_set, wipe_length]; omega), if_neg (fun z => hl z.2), List.getElem?_eq_none (by omega)]
    · rw [List.getElem?_set_ne hj, ih]
      have : (j ∈ vs ∧ j < σ.length) ↔ (j ∈ v :: vs ∧ j < σ.length) := by
        constructor
        · exact fun z => ⟨List.mem_cons_of_mem _ z.1, z.2⟩
        · rintro ⟨z, z2⟩
          rcases List.mem_cons.mp z with rfl | z
          · exact absurd rfl hj
          · exact ⟨z, z2⟩
      simp only [this]
theorem But.wipe {is vs : List Nat} {σ σ' : L2.St} (b : But is (L2.wipe σ vs) σ') (h : ∀ i ∈ is, i ∈ vs) : L2.wipe σ' vs = L2.wipe σ vs := by
  have hl : σ'.length = σ.length := by rw [b.len, wipe_length]
  refine List.ext_getElem? fun j => ?_
  rw [wipe_get, wipe_get, hl]
  by_cases hj : j ∈ vs ∧ j < σ.length
  · rw [if_pos hj, if_pos hj]
  · rw [if_neg hj, if_neg hj]
    by_cases h1 : j < σ.length
    · have hjv : j ∉ vs := fun z => hj ⟨z, h1⟩
      rw [b.at_ j fun z => hjv (h j z), wipe_get, if_neg hj]
    · rw [List.getElem?_eq_none (by omega), List.getElem?_eq_none (by omega)]
/-- the items that a comprehension keeps -/
def compL (f : D → R (Option D)) : List D → R (List D)
  | [] => .ok []
  | d :: ds => (f d).bind fun x => (compL f ds).bind fun xs => .ok (match x with | some y => y :: xs | none => xs)
/-- one turn: the target, the test, the element -/
def cTurn (g : D → Fr0 → R Fr0) (nt : Fr0 → R Bool) (me : Fr0 → R D) (ρw : Fr0) : D → R (Option D) := fun d => (g d ρw).bind fun ρ1 => (nt ρ1).bind fun k => if k then (me ρ1).bind fun x => .ok (some x) else .ok none
def vComp (vs : List Nat) (mi : Fr0 → R (List D)) (g : D → Fr0 → R Fr0) (nt : Fr0 → R Bool) (me : Fr0 → R D) : Fr0 → R D := fun ρ => (mi ρ).bind fun ds => if ds.length ≤ 1000000 then (noExc (compL (cTurn g nt me (wipeR ρ vs)) ds)).bind fun xs => .ok (.lst xs) else .stuck
def tYesB : Fr0 → R Bool := fun _ => .ok true
/-- a clause's tests -/
def SP (X : Cx) (Cs : Gm) (E : XK) (ifs : List Expr) (m : Fr0 → R Bool) : Prop := ∃ t, PTs X ifs t ∧ ∀ F0 H0 ρ F σ H Q, Sim X.K Cs F0 H0 ρ F σ H → WpB X.K Cs F H Q E (m ρ) → t σ H Q
theorem sp_nil : SP X Cs E [] tYesB := ⟨_, pts_nil, fun F0 H0 ρ F σ H Q S w => (show ∀ F' H', Ext F H F' H' → Q true H' from w) F H (Ext.refl S.sub)⟩
theorem sp_one (h : ST X Cs E c na) : SP X Cs E [c] na := let ⟨t, p, q⟩ := h; ⟨t, pts_one p, q⟩
end
end VM
end
section
set_option Elab.async false
set_option linter.all false
set_option maxRecDepth 100000
set_option autoImplicit false
/-! VM8: comprehensions, their rules. -/
namespace VM
open PySem PySem.Spec L2
section
variable {X : Cx}
theorem PE.imp {e : Expr} {t t' : TE} (h : PE X e t) (k : ∀ σ H Q, t' σ H Q → t σ H Q) : PE X e t' := ⟨fun pins s σ H Q I z => h.run pins s σ H Q I (k σ H Q z)⟩
theorem PTs.imp {e : List Expr} {t t' : TT} (h : PTs X e t) (k : ∀ σ H Q, t' σ H Q → t σ H Q) : PTs X e t' := ⟨fun pins s σ H Q I z => h.run pins s σ H Q I (k σ H Q z)⟩
theorem PG.imp {e : Expr} {t t' : TG} (h : PG X e t) (k : ∀ v σ H Q, t' v σ H Q → t v σ H Q) : PG X e t' := ⟨fun pins s σ H v u Q I r z => h.run pins s σ H v u Q I r (k v σ H Q z)⟩
theorem PI.imp {tg e : Expr} {t t' : TI} (h : PI X tg e t) (k : ∀ σ H Q, t' σ H Q → t σ H Q) : PI X tg e t' := ⟨fun pins s σ H Q I z => h.run pins s σ H Q I (k σ H Q z)⟩
end
section
variable (K : PySem.W.Frag) (Cs : Gm)
/-- readings told by the trees alone -/
def tOfE (m : Fr0 → R D) : TE := fun σ H Q => ∃ F0 H0 ρ F, Sim K Cs F0 H0 ρ F σ H ∧ Wp K Cs F H Q E0 (m ρ)
def tOfP (m : Fr0 → R Bool) : TT := fun σ H Q => ∃ F0 H0 ρ F, Sim K Cs F0 H0 ρ F σ H ∧ WpB K Cs F H Q E0 (m ρ)
def tOfG (is : List Nat) (g : D → Fr0 → R Fr0) : TG := fun v σ H Q => ∃ F0 H0 ρ F d, Sim K Cs F0 H0 ρ F σ H ∧ Rep K Cs F v d ∧ (g d ρ).Sat (fun ρ' => ∀ F' σ' H', Ext F H F' H' → Sim K Cs F0 H0 ρ' F' σ' H' → But is σ σ' → Q σ' H') (fun _ _ => False)
def tOfI (mi : Fr0 → R (List D)) : TI := fun σ H Rk => ∃ F0 H0 ρ F, Sim K Cs F0 H0 ρ F σ H ∧ (mi ρ).Sat (fun ds => ∀ J F' H', Ext F H F' H' → WalkD K Cs J ds F' → Rk J H') (ExW K Cs F H E0)
end
section
variable {X : Cx} {Cs : Gm} {E : XK} {o : Bool} {e a b c tg iter elt tg1 iter1 : Expr} {es ifs ifs1 : List Expr} {m ma mb mc me : Fr0 → R D} {mr mi mi1 : Fr0 → R (List D)} {na nt nt1 : Fr0 → R Bool} {pos : Pos} {is is1 vs vs1 : List Nat} {g g1 : D → Fr0 → R Fr0}
theorem SE.of (h : SE X Cs E0 e m) : PE X e (tOfE X.K Cs m) := by
  obtain ⟨t, p, q⟩ := h
  exact PE.imp p fun σ H Q ⟨F0, H0, ρ, F, S, w⟩ => q F0 H0 ρ F σ H Q S w
theorem SP.of (h : SP X Cs E0 ifs na) : PTs X ifs (tOfP X.K Cs na) := by
  obtain ⟨t, p, q⟩ := h
  exact PTs.imp p fun σ H Q ⟨F0, H0, ρ, F, S, w⟩ => q F0 H0 ρ F σ H Q S w
theorem SG.of (h : SG X Cs tg is g) : PG X tg (tOfG X.K Cs is g) := by
  obtain ⟨t, p, q⟩ := h
  exact PG.imp p fun v σ H Q ⟨F0, H0, ρ, F, d, S, r, w⟩ => q F0 H0 ρ F σ H v d Q S r w
theorem SI.of (h : SI X Cs E0 tg iter mi) : PI X tg iter (tOfI X.K Cs mi) := by
  obtain ⟨t, p, q⟩ := h
  exact PI.imp p fun σ H Rk ⟨F0, H0, ρ, F, S, w⟩ => q F0 H0 ρ F σ H Rk S w
theorem noExc_bind2 {α β : Type} {r : R α} {f : α → R β} {p : β → Prop} {e : Nat → List (Str × D) → Prop} (h : (noExc (r.bind f)).Sat p e) : r.Sat (fun a => (noExc (f a)).Sat p e) (fun _ _ => False) := by
  cases r with
  | ok a => exact h
  | exc _ _ => exact h
  | stuck => exact h
theorem Ext.no {F H F' H' : Hp} {a : Addr} {u : HO} (e : Ext F H F' H') (hf : F a = none) (hu : H a = some u) : F' a = none := by
  cases q : F' a with
  | none => rfl
  | some x =>
    rcases e.nw a x q with z | z
    · rw [hf] at z; cases z
    · rw [hu] at z; cases z
/-- from where the walk stands, the list at A gets the items that are left -/
theorem lc_sem {wi : TI} (qi : ∀ F0 H0 ρ F σ H (Rk : It → Hp → Prop), Sim X.K Cs F0 H0 ρ F σ H → (mi ρ).Sat (fun ds => ∀ J F' H', Ext F H F' H' → WalkD X.K Cs J ds F' → Rk J H') (ExW X.K Cs F H E) → wi σ H Rk)
    (hv : ∀ i ∈ is, i ∈ vs) {F0 : Ent} {H0 F H : Hp} {ρ : Fr0} {σ : L2.St} {Q : VK} (S : Sim X.K Cs F0 H0 ρ F σ H) (w : WpO X.K Cs F H Q E (vComp vs mi g nt me ρ)) : tLc wi (tOfG X.K Cs is g) (tOfP X.K Cs nt) (tOfE X.K Cs me) vs σ H Q := by
  refine qi _ _ _ _ _ _ _ S (w.of_bind.mono (fun ds hd J F1 H1 e1 wk => ?_) fun _ _ z => z)
  by_cases hlen : ds.length ≤ 1000000
  case neg => rw [if_neg hlen] at hd; exact hd.elim
  rw [if_pos hlen] at hd
  have hd := noExc_bind hd
  intro A hA
  have fA : F1 A = none := e1.sub.free hA
  have S1 := (S.go e1).wipe vs
  generalize hf : cTurn g nt me (wipeR ρ vs) = f at hd
  refine ⟨fun i m H => i ≤ ds.length ∧ m = ds.length - i ∧ ∃ F2 acc xs, Ext F1 H1 F2 H ∧ F2 A = none ∧ H A = some (.lst acc) ∧ Reps X.K Cs F2 acc xs ∧ xs.length ≤ i ∧
    (noExc (compL f (ds.drop i))).Sat (fun ys => ∀ F' H' us, Ext F1 H1 F' H' → F' A = none → H' A = some (.lst us) → Reps X.K Cs F' us (xs ++ ys) → Q (.ref A) H') (fun _ _ => False),
    ⟨ds.length, Nat.zero_le _, by simp, F1, [], [], Ext.grow e1.sub hA, fA, upd_same, .nil, Nat.le_refl _, ?_⟩, ?_⟩
  · rw [List.drop_zero]
    have : (noExc (compL f ds)).Sat (fun ys => R.Sat (R.ok (D.lst ys)) (fun d => ∀ a F' H', Ext F H F' H' → OwnAt X.K Cs H F' H' a d → Q (.ref a) H') (ExW X.K Cs F H E)) (fun _ _ => False) := by
      cases h : compL f ds with
      | ok ys => rw [h] at hd; exact hd
      | exc _ _ => rw [h] at hd; exact hd
      | stuck => rw [h] at hd; exact hd
    refine this.mono (fun ys z F' H' us x hF hu r => ?_) fun _ _ z => z
    exact (show ∀ a F' H', Ext F H F' H' → OwnAt X.K Cs H F' H' a (D.lst ys) → Q (.ref a) H' from z) A F' H' (e1.trans x) ⟨e1.hh.free hA, hF, us, hu, r⟩
  rintro i m H2 ⟨hi, rfl, F2, acc, xs, x2, n2, h2, r2, hx, w2⟩
  by_cases hlt : i < ds.length
  · refine .inr ⟨wk.goes i H2 hlt (x2.ff.trans x2.sub), fun H' => i + 1 ≤ ds.length ∧ ∃ F2 acc xs, Ext F1 H1 F2 H' ∧ F2 A = none ∧ H' A = some (.lst acc) ∧ Reps X.K Cs F2 acc xs ∧ xs.length ≤ i + 1 ∧
      (noExc (compL f (ds.drop (i + 1)))).Sat (fun ys => ∀ F' H' us, Ext F1 H1 F' H' → F' A = none → H' A = some (.lst us) → Reps X.K Cs F' us (xs ++ ys) → Q (.ref A) H') (fun _ _ => False),
      fun H' p => ⟨ds.length - (i + 1), by omega, p.1, rfl, p.2⟩, fun x H3 y => ?_⟩
    obtain ⟨F3, d, e3, hd3, rx⟩ := wk.yields i F2 H2 x H3 x2.ff x2.sub hlt y
    have hdrop : ds.drop i = d :: ds.drop (i + 1) := by
      rw [List.drop_eq_getElem_cons hlt]
      congr 1
      have := List.getElem?_eq_getElem hlt
      rw [this] at hd3
      exact Option.some.inj hd3
    rw [hdrop] at w2
    have w3 : R.Sat (noExc ((f d).bind _)) _ _ := w2
    have w4 := noExc_bind2 w3
    rw [← hf] at w4
    have w5 := w4.of_bind
    have S3 := S1.go (x2.trans e3)
    refine ⟨_, _, _, F3, d, S3, rx, w5.mono (fun ρ4 z F4 σ4 H4 e4 S4 b4 => ⟨b4.wipe hv, ?_⟩) fun _ _ z => z⟩
    have z2 := z.of_bind
    refine ⟨_, _, ρ4, F4, S4, z2.mono (fun k hk F5 H5 e5 => ?_) fun _ _ z => z.elim⟩
    have e25 : Ext F2 H2 F5 H5 := (e3.trans e4).trans e5
    cases k with
    | false =>
      rw [if_neg Bool.false_ne_true] at hk
      refine iteF ?_
      have hk2 : (noExc ((compL (cTurn g nt me (wipeR ρ vs)) (ds.drop (i + 1))).bind fun ys => R.ok ys)).Sat (fun ys => ∀ F' H' us, Ext F1 H1 F' H' → F' A = none → H' A = some (.lst us) → Reps X.K Cs F' us (xs ++ ys) → Q (.ref A) H') (fun _ _ => False) := hk
      refine ⟨hlt, F5, acc, xs, x2.trans e25, Ext.no e25 n2 h2, e25.hh.get h2, r2.mono e25.ff, Nat.le_succ_of_le hx, ?_⟩
      rw [← hf]
      cases hc : compL (cTurn g nt me (wipeR ρ vs)) (ds.drop (i + 1)) with
      | ok ys => rw [hc] at hk2; exact hk2
      | exc _ _ => rw [hc] at hk2; exact hk2
      | stuck => rw [hc] at hk2; exact hk2
    | true =>
      rw [if_pos rfl] at hk
      refine iteT ?_
      have hk1 := hk.of_bind
      refine ⟨_, _, ρ4, F5, S4.go e5, hk1.mono (fun dy hy v F6 H6 e6 rv => ?_) fun _ _ z => z.elim⟩
      have e26 : Ext F2 H2 F6 H6 := e25.trans e6
      have hk2 : (noExc ((compL (cTurn g nt me (wipeR ρ vs)) (ds.drop (i + 1))).bind fun ys => R.ok (dy :: ys))).Sat (fun ys => ∀ F' H' us, Ext F1 H1 F' H' → F' A = none → H' A = some (.lst us) → Reps X.K Cs F' us (xs ++ ys) → Q (.ref A) H') (fun _ _ => False) := hy
      have n6 := Ext.no e26 n2 h2
      have h6 := e26.hh.get h2
      have l6 : acc.length = xs.length := r2.length
      refine ⟨acc, h6, ?_, hlt, F6, acc ++ [v], xs ++ [dy], ?_, n6, upd_same, (r2.mono e26.ff).append (.cons rv .nil), by rw [List.length_append, List.length_singleton]; omega, ?_⟩
      · rw [sizeLine_eq]; omega
      · have x6 := x2.trans e26
        refine ⟨x6.hh.but hA (.lst h6) (fun b hb => upd_ne hb), x6.ff, x6.nw, fun b u hb => ?_⟩
        · rw [upd_ne (ne_of_none hb n6)]; exact x6.sub b u hb
      · rw [← hf]
        cases hc : compL (cTurn g nt me (wipeR ρ vs)) (ds.drop (i + 1)) with
        | ok ys =>
          rw [hc] at hk2
          intro F' H' us q1 q2 q3 q4
          exact hk2 F' H' us q1 q2 q3 (by simpa using q4)
        | exc _ _ => rw [hc] at hk2; exact hk2
        | stuck => rw [hc] at hk2; exact hk2
  · have e : i = ds.length := by omega
    subst e
    rw [List.drop_length] at w2
    have w2' : ∀ F' H' us, Ext F1 H1 F' H' → F' A = none → H' A = some (.lst us) → Reps X.K Cs F' us (xs ++ []) → Q (.ref A) H' := w2
    exact .inl ⟨wk.stops H2 (x2.ff.trans x2.sub), w2' F2 H2 acc x2 n2 h2 (by rw [List.append_nil]; exact r2)⟩
/-- what a block's context is -/
abbrev Blk (X : Cx) (scope : Scope) (s : Shared) (H : Hp) (C : Addr) (cl : List (Str × Addr)) (fp : List Addr) : Cx := X.blk s H scope (compEnvC scope cl C X.env) fp
theorem so_lc {scope : Scope} (own : List (Str × Nat)) (hN : X.N.Nodup) (hi : SI X Cs E tg iter mi) (ok : BlkOk X.N X.env.scope scope own) (hv : ∀ i ∈ is, i ∈ own.map (·.2))
    (hg : ∀ s H C cl fp, SG (Blk X scope s H C cl fp) Cs tg is g) (ht : ∀ s H C cl fp, SP (Blk X scope s H C cl fp) Cs E0 ifs nt) (he : ∀ s H C cl fp, SE (Blk X scope s H C cl fp) Cs E0 elt me) (hc : X.calm = true := by rfl)
    (hs : ∀ x, foldedSetIterable iter X.env x = pure x := by intro _; rfl) : SO X Cs E (.ListComp elt [⟨tg, iter, ifs, 0⟩] scope pos) (vComp (own.map (·.2)) mi g nt me) := by
  obtain ⟨wi, pi, qi⟩ := hi
  exact ⟨_, pe_lc (g := tOfG X.K Cs is g) (tt := tOfP X.K Cs nt) (te := tOfE X.K Cs me) hc hN pi ok (fun s H C cl fp => (hg s H C cl fp).of) (fun s H C cl fp => (ht s H C cl fp).of) (fun s H C cl fp => (he s H C cl fp).of) hs, fun F0 H0 ρ F σ H Q S w => lc_sem qi hv S w⟩
/-- x = [..] on one line -/
theorem ss_setLcO (i : Nat) {y : Str} {py spos : Pos} {scope : Scope} (own : List (Str × Nat)) (hN : X.N.Nodup) (hi : SI X Cs E tg iter mi) (ok : BlkOk X.N X.env.scope scope own) (hv : ∀ i ∈ is, i ∈ own.map (·.2))
    (hg : ∀ s H C cl fp, SG (Blk X scope s H C cl fp) Cs tg is g) (ht : ∀ s H C cl fp, SP (Blk X scope s H C cl fp) Cs E0 ifs nt) (he : ∀ s H C cl fp, SE (Blk X scope s H C cl fp) Cs E0 elt me)
    (hsw : swapsWith (.ListComp elt [⟨tg, iter, ifs, 0⟩] scope pos) (some (.Name y py)) spos.line X.env = pure true) (hc : X.calm = true := by rfl) (hy : X.N[i]? = some y := by rfl) (hyl : X.env.scope.names.lookup y = some .local := by rfl)
    (hs : ∀ x, foldedSetIterable iter X.env x = pure x := by intro _; rfl) : SS X Cs E o (.Assign [.Name y py] (.ListComp elt [⟨tg, iter, ifs, 0⟩] scope pos) spos) (bSetO i (vComp (own.map (·.2)) mi g nt me)) := by
  obtain ⟨wi, pi, qi⟩ := hi
  refine ⟨_, ps_setLc (g := tOfG X.K Cs is g) (tt := tOfP X.K Cs nt) (te := tOfE X.K Cs me) hc hN hy hyl hsw pi ok (fun s H C cl fp => (hg s H C cl fp).of) (fun s H C cl fp => (ht s H C cl fp).of) (fun s H C cl fp => (he s H C cl fp).of) hs, fun F0 H0 ρ F σ H D0 S w => ?_⟩
  exact lc_sem qi hv S (WpS.exO S.ext w fun a d F1 H1 e1 oa w1 => (show ∀ F' σ' H', Same F1 F' → Sim X.K Cs F0 H0 (ρ.set i (.own false d)) F' σ' H' → D0.nx σ' H' from w1) F1 _ H1 (Same.refl _) (S.newOwn e1 oa))
theorem ss_setLc (i : Nat) {y : Str} {py spos : Pos} {scope : Scope} (own : List (Str × Nat)) (hN : X.N.Nodup) (hi : SI X Cs E tg iter mi) (ok : BlkOk X.N X.env.scope scope own) (hv : ∀ i ∈ is, i ∈ own.map (·.2))
    (hg : ∀ s H C cl fp, SG (Blk X scope s H C cl fp) Cs tg is g) (ht : ∀ s H C cl fp, SP (Blk X scope s H C cl fp) Cs E0 ifs nt) (he : ∀ s H C cl fp, SE (Blk X scope s H C cl fp) Cs E0 elt me)
    (hsw : swapsWith (.ListComp elt [⟨tg, iter, ifs, 0⟩] scope pos) (some (.Name y py)) spos.line X.env = pure true) (hc : X.calm = true := by rfl) (hy : X.N[i]? = some y := by rfl) (hyl : X.env.scope.names.lookup y = some .local := by rfl)
    (hs : ∀ x, foldedSetIterable iter X.env x = pure x := by intro _; rfl) : SS X Cs E o (.Assign [.Name y py] (.ListComp elt [⟨tg, iter, ifs, 0⟩] scope pos) spos) (bSet i (vComp (own.map (·.2)) mi g nt me)) := by
  obtain ⟨wi, pi, qi⟩ := hi
  refine ⟨_, ps_setLc (g := tOfG X.K Cs is g) (tt := tOfP X.K Cs nt) (te := tOfE X.K Cs me) hc hN hy hyl hsw pi ok (fun s H C cl fp => (hg s H C cl fp).of) (fun s H C cl fp => (ht s H C cl fp).of) (fun s H C cl fp => (he s H C cl fp).of) hs, fun F0 H0 ρ F σ H D0 S w => ?_⟩
  exact lc_sem qi hv S (WpO.of_wp (WpS.ex S.ext w fun v d F1 H1 e1 rv w1 => (show ∀ F' σ' H', Same F1 F' → Sim X.K Cs F0 H0 (ρ.set i (.frz d)) F' σ' H' → D0.nx σ' H' from w1) F1 _ H1 (Same.refl _) ((S.go e1).setFrz rv)))
end
end VM
end
section
set_option Elab.async false
set_option linter.all false
set_option maxRecDepth 100000
set_option autoImplicit false
/-! VM9: zip and enumerate over lists and tuples in any mix. -/
namespace VM
open PySem PySem.Spec L2
/-- a list (true) or a tuple (false) -/
def SqB (k : Bool) (K : PySem.W.Frag) (H : Hp) (a : Addr) (xs : List V) : Prop := match k with
  | true => SqL K H a xs
  | false => SqT K H a xs
def ItB (k : Bool) (h : Heap) (it a : Addr) (i : Nat) : Prop := match k with
  | true => h.IsListIter it a i
  | false => h.IsTupleIter it a i
def HasB (k : Bool) (h : Heap) (a : Addr) (its : Array Value) : Prop := match k with
  | true => h.IsList a its
  | false => h.IsTuple a its
def newItB (k : Bool) (a : Addr) : Obj := match k with
  | true => { cls := .type "list_iterator", data := .fields #[.ref a, .int 0 0] }
  | false => { cls := .type "tuple_iterator", data := .fields #[.ref a, .int 0 0] }
theorem SqB.inj {k : Bool} {X : Cx} {pins : List (Addr × Obj)} {σ : L2.St} {H : Hp} {s : Shared} {a : Addr} {xs ys : List V} (I : Inv X pins σ H s) (h : SqB k X.K H a xs) (h' : SqB k X.K H a ys) : xs = ys := by
  cases k with
  | true => exact I.list_inj h h'
  | false => exact I.tuple_inj h h'
theorem SqB.has {k : Bool} {X : Cx} {pins : List (Addr × Obj)} {σ : L2.St} {H : Hp} {s : Shared} {a : Addr} {xs : List V} (I : Inv X pins σ H s) (h : SqB k X.K H a xs) : ∃ its : List Value, Vals xs its ∧ HasB k s.heap a its.toArray ∧ a < s.heap.objs.size := by
  cases k with
  | true => obtain ⟨its, r, p, _⟩ := I.list h; exact ⟨its, r, p.isList, p.lt⟩
  | false => obtain ⟨its, r, p, _⟩ := I.tuple h; exact ⟨its, r, p, p.lt⟩
theorem ItB.obj {k : Bool} {h : Heap} {it a : Addr} {i : Nat} (x : ItB k h it a i) : ∃ o, h.get? it = some o ∧ ∀ v, o.data ≠ .cell v := by
  cases k with
  | true => obtain ⟨o, e, _, d⟩ := x; exact ⟨o, e, fun v q => by rw [d] at q; cases q⟩
  | false => obtain ⟨o, e, _, d⟩ := x; exact ⟨o, e, fun v q => by rw [d] at q; cases q⟩
theorem ItB.keep {k : Bool} {h h' : Heap} {it a : Addr} {i : Nat} (x : ItB k h it a i) (kp : ∀ o, h.get? it = some o → h'.get? it = some o) : ItB k h' it a i := by
  cases k with
  | true => exact Heap.IsListIter.at x kp
  | false => exact Heap.IsTupleIter.at x kp
theorem drawsB {prog : Program} {w : World} {A : Around} (hh : A.handled = none) (k : Bool) (it a : Addr) (hne : a ≠ it) (items : Array Value) :
    Draws prog w A it [it, a] items.size (fun i v => items[i]? = some v) (fun i h => ItB k h it a i ∧ HasB k h a items) := by
  cases k with
  | true => exact Draws.list hh it a hne items
  | false => exact Draws.tuple hh it a hne items
theorem beginsB (k : Bool) (a : Addr) (items : Array Value) : Begins (.ref a) (newItB k a) fun h => HasB k h a items := by
  cases k with
  | true => exact begins_list a items
  | false => exact begins_tuple a items
theorem newItB_it {k : Bool} {h : Heap} {it a : Addr} (e : h.get? it = some (newItB k a)) : ItB k h it a 0 := by
  cases k with
  | true => exact ⟨_, e, rfl, rfl⟩
  | false => exact ⟨_, e, rfl, rfl⟩

/-! ### zip -/
def ItzB (k1 k2 : Bool) (K : PySem.W.Frag) (a b : Addr) : It :=
  ⟨fun i H => ∃ (xs ys : List V) (x y : V), SqB k1 K H a xs ∧ SqB k2 K H b ys ∧ xs[i]? = some x ∧ ys[i]? = some y,
    fun i H v H' => ∃ T x y, v = .ref T ∧ H T = none ∧ H' = upd H T (.tup [x, y]) ∧ (∀ xs, SqB k1 K H a xs → xs[i]? = some x) ∧ ∀ ys, SqB k2 K H b ys → ys[i]? = some y,
    fun i H => ∃ xs ys : List V, SqB k1 K H a xs ∧ SqB k2 K H b ys ∧ i ≤ xs.length ∧ i ≤ ys.length ∧ (i = xs.length ∨ i = ys.length)⟩
structure Z5 (z TI TO i1 i2 a b : Addr) : Prop where
  sep : ZipSep2 z TI TO i1 i2 [i1, a] [i2, b]
  ne1 : a ≠ i1
  ne2 : b ≠ i2
theorem z5_new (N a b : Nat) (ha : a < N) (hb : b < N) : Z5 (N + 4) (N + 2) (N + 3) N (N + 1) a b :=
  ⟨zip_sep2 (fp1 := [a]) (fp2 := [b]) (fun c hc => by rw [List.mem_singleton.mp hc]; exact ha) (fun c hc => by rw [List.mem_singleton.mp hc]; exact hb), Nat.ne_of_lt ha, Nat.ne_of_lt (Nat.lt_succ_of_lt hb)⟩
theorem turn_zipB {P : Program} {w : World} {K : PySem.W.Frag} {elts : List Expr} {kk : Nat} {tpos : Pos} {k1 k2 : Bool} {a b z TI TO i1 i2 : Addr} (Z : Z5 z TI TO i1 i2 a b) :
    Turn P w K (.Tuple elts kk tpos) (ItzB k1 k2 K a b) [z, TI, TO, i1, i2] z (fun i h => IsZip h z TI TO .none ∧ IsTupOf2 h TI (.ref i1) (.ref i2) ∧ (∃ x y, IsTupOf2 h TO x y) ∧ ItB k1 h i1 a i ∧ ItB k2 h i2 b i) where
  mem := by simp
  obj := fun i h st c hc => by
    obtain ⟨hz, hTI, ⟨x, y, hTO⟩, h1, h2⟩ := st
    have five : c = z ∨ c = TI ∨ c = TO ∨ c = i1 ∨ c = i2 := by simpa using hc
    rcases five with rfl | rfl | rfl | rfl | rfl
    · exact ⟨_, hz, fun v q => nomatch q⟩
    · exact ⟨_, hTI, fun v q => nomatch q⟩
    · exact ⟨_, hTO, fun v q => nomatch q⟩
    · exact h1.obj
    · exact h2.obj
  keep := fun i h h' st kp => by
    obtain ⟨hz, hTI, ⟨x, y, hTO⟩, h1, h2⟩ := st
    exact ⟨kp z (by simp) _ hz, kp TI (by simp) _ hTI, ⟨x, y, kp TO (by simp) _ hTO⟩, h1.keep fun o q => kp i1 (by simp) o q, h2.keep fun o q => kp i2 (by simp) o q⟩
  item := by
    intro X hP hw hK hc i pins s σ H E I hf st hg
    subst hP hw hK
    obtain ⟨hz, hTI, ⟨x0, y0, hTO⟩, h1, h2⟩ := st
    obtain ⟨xs, ys, x, y, hqx, hqy, hx, hy⟩ := hg
    obtain ⟨its, rv, p, _⟩ := SqB.has I hqx
    obtain ⟨its2, rv2, p2, _⟩ := SqB.has I hqy
    obtain ⟨u, hu, ru⟩ := rv.get hx
    obtain ⟨u2, hu2, ru2⟩ := rv2.get hy
    have zlt : z < s.heap.objs.size := Heap.lt_size hz
    have il : i < its.toArray.size := by
      have := (List.getElem?_eq_some_iff.mp hu).1
      simpa using this
    have il2 : i < its2.toArray.size := by
      have := (List.getElem?_eq_some_iff.mp hu2).1
      simpa using this
    refine wpAny_pyNext_zipD2_item Z.sep (drawsB (A := X.A.in1) (I.ok.hd hc) k1 i1 a Z.ne1 its.toArray) (drawsB (A := X.A.in1) (I.ok.hd hc) k2 i2 b Z.ne2 its2.toArray) hz hTI hTO ⟨h1, p⟩ ⟨h2, p2⟩ il il2 fun x1 x2 h' tk q1 q2 z' TO' t1 t2 hT hsz hk => ?_
    have e1 : x1 = u := by
      have : its[i]? = some x1 := by simpa using q1
      rw [hu] at this; exact (Option.some.inj this).symm
    have e2 : x2 = u2 := by
      have : its2[i]? = some x2 := by simpa using q2
      rw [hu2] at this; exact (Option.some.inj this).symm
    subst e1 e2
    refine ⟨_, rfl, wpAny_letOwnedTupleGo_zip (s := { s with heap := h', toks := tk }) z' fun h'' z'' sb => ?_⟩
    have hT2 : h''.get? s.heap.objs.size = some { cls := .type "tuple", data := .seq #[x1, x2] } := (sb.2 _ (Nat.ne_of_gt zlt)).trans hT
    have new : ObjOk X.prog X.w (upd H s.heap.objs.size (.tup [x, y])) h'' s.heap.objs.size (.tup [x, y]) :=
      ⟨by show 2 ≤ sizeLine; decide, [x1, x2], .cons ru (.cons ru2 .nil), ⟨_, hT2, rfl, _, rfl⟩⟩
    have I1 : Inv X pins σ (upd H s.heap.objs.size (.tup [x, y])) { s with heap := h'', toks := tk } :=
      I.turnedNew (t' := tk) (ch := [z, TI, TO, i1, i2]) (fun c o hb q => by
        simp only [List.mem_cons, not_or, List.not_mem_nil, not_false_eq_true, and_true] at hb
        exact (sb.2 c hb.1).trans (hk c o hb.1 hb.2.2.1 hb.2.2.2.1 hb.2.2.2.2 q)) hf (Nat.le_refl _) new
    have S := Z.sep
    refine ⟨.ref s.heap.objs.size, _, I1, rfl, ⟨_, x, y, rfl, I.hok.fresh (Nat.le_refl _), rfl, fun l hl => by rw [SqB.inj I hl hqx]; exact hx, fun l hl => by rw [SqB.inj I hl hqy]; exact hy⟩, ⟨z'', ?_, ⟨x1, x2, ?_⟩, ?_, ?_⟩, fun c hcm => ?_⟩
    · exact (sb.2 TI S.TIz).trans (hk TI _ S.TIz S.TITO S.TIi1 S.TIi2 hTI)
    · exact (sb.2 TO S.TOz).trans TO'
    · exact t1.1.keep fun o q => (sb.2 i1 fun e => S.zf1 (by simp [e])).trans q
    · exact t2.1.keep fun o q => (sb.2 i2 fun e => S.zf2 (by simp [e])).trans q
    · have five : c = z ∨ c = TI ∨ c = TO ∨ c = i1 ∨ c = i2 := by simpa using hcm
      have hlt : c < s.heap.objs.size := by
        rcases five with rfl | rfl | rfl | rfl | rfl
        · exact zlt
        · exact Heap.lt_size hTI
        · exact Heap.lt_size hTO
        · obtain ⟨_, e, _⟩ := h1.obj; exact Heap.lt_size e
        · obtain ⟨_, e, _⟩ := h2.obj; exact Heap.lt_size e
      rw [upd_ne (Nat.ne_of_lt hlt)]
      exact (hf c hcm).1
  done := by
    intro X hP hw hK hc i pins s σ H E I hf st hg
    subst hP hw hK
    obtain ⟨hz, hTI, ⟨x0, y0, hTO⟩, h1, h2⟩ := st
    obtain ⟨xs, ys, hqx, hqy, l1, l2, hend⟩ := hg
    obtain ⟨its, rv, p, _⟩ := SqB.has I hqx
    obtain ⟨its2, rv2, p2, _⟩ := SqB.has I hqy
    have n1 := rv.length
    have n2 := rv2.length
    refine wpAny_pyNext_zipD2_end Z.sep (drawsB (A := X.A.in1) (I.ok.hd hc) k1 i1 a Z.ne1 its.toArray) (drawsB (A := X.A.in1) (I.ok.hd hc) k2 i2 b Z.ne2 its2.toArray) hz hTI hTO ⟨h1, p⟩ ⟨h2, p2⟩ (by simp; omega) (by simp; omega) (by simp; omega) fun h' tk hk => ⟨rfl, ?_⟩
    exact I.turnedL (t' := tk) (ch := [z, TI, TO, i1, i2]) (fun c o hb q => by
      simp only [List.mem_cons, not_or, List.not_mem_nil, not_false_eq_true, and_true] at hb
      exact hk c o hb.1 hb.2.2.1 hb.2.2.2.1 hb.2.2.2.2 q) hf
  self := fun A i s Q E st h => wpAny_pyIter_zip st.1 h
def iZipB (K : PySem.W.Frag) (ta : TA) : TI := fun σ H R => ta σ H fun vs H1 => ∃ k1 k2 a b xs ys, vs = [.ref a, .ref b] ∧ SqB k1 K H1 a xs ∧ SqB k2 K H1 b ys ∧ R (ItzB k1 k2 K a b) H1
theorem pi_zipB {X : Cx} {e e2 : Expr} {ta : TA} {p pos tpos : Pos} {elts : List Expr} {kk : Nat} (hg : Gl X "zip") (hm : X.mg "zip" = none) (ha : PA X [e, e2] ta)
    (hs : starEach [e, e2] X.env = (false, eval e X.env) :: starEach [e2] X.env := by rfl) (hpl : (backTo pos (starEach [e2] X.env)).any (·.1) = false := by rfl) :
    PI X (.Tuple elts kk tpos) (.Call (.Name "zip" p) [e, e2] [] pos) (iZipB X.K ta) := by
  refine ⟨fun pins s σ H R I h => ?_⟩
  refine PyProof.Rows.Call_ (ld_blt I hg hm PyProof.Rows.boot_zip (PyProof.Rows.callWith_type1 (thn (ha.run pos pins s σ H _ I h) fun us s1 ⟨vs, H1, I1, r1, q1⟩ => ?_) hs hpl))
  obtain ⟨k1, k2, a, b, xs, ys, ex, hqx, hqy, q⟩ := q1
  subst ex
  cases r1 with
  | cons r rr =>
    cases rr with
    | cons r' rr =>
      cases rr
      cases r
      cases r'
      obtain ⟨its, rv, p1, la⟩ := SqB.has I1 hqx
      obtain ⟨its2, rv2, p2, lb⟩ := SqB.has I1 hqy
      refine zip_begins2 (beginsB k1 a its.toArray) (beginsB k2 b its2.toArray) p1 p2 fun h' hz hTI hTO g1 g2 hsz hk => wpAny_pyIter_zip hz ?_
      have I2 : Inv X pins σ H1 { s1 with heap := h' } := I1.kept (t' := s1.toks) hk
      refine ⟨s1.heap.objs.size + 4, [s1.heap.objs.size + 4, s1.heap.objs.size + 2, s1.heap.objs.size + 3, s1.heap.objs.size, s1.heap.objs.size + 1], _, _, H1, rfl, I2, turn_zipB (z5_new s1.heap.objs.size a b la lb), ⟨hz, hTI, ⟨_, _, hTO⟩, newItB_it g1, newItB_it g2⟩, fun c hcm => ?_, q⟩
      have five : c = s1.heap.objs.size + 4 ∨ c = s1.heap.objs.size + 2 ∨ c = s1.heap.objs.size + 3 ∨ c = s1.heap.objs.size ∨ c = s1.heap.objs.size + 1 := by simpa using hcm
      have hle : s1.heap.objs.size ≤ c := by
        rcases five with z | z | z | z | z <;> rw [z] <;> first | exact Nat.le_add_right _ _ | exact Nat.le_refl _
      exact I1.fpOk hle (I1.hok.fresh hle)

/-! ### enumerate -/
def IteB (k : Bool) (K : PySem.W.Frag) (a : Addr) : It :=
  ⟨fun i H => ∃ (xs : List V) (x : V), SqB k K H a xs ∧ xs[i]? = some x, fun i H v H' => ∃ T x, v = .ref T ∧ H T = none ∧ H' = upd H T (.tup [.int (i : Nat), x]) ∧ ∀ xs, SqB k K H a xs → xs[i]? = some x, fun i H => ∃ xs : List V, SqB k K H a xs ∧ i = xs.length⟩
theorem turn_enumB {P : Program} {w : World} {K : PySem.W.Frag} {elts : List Expr} {kk : Nat} {tpos : Pos} {k : Bool} {a e it : Addr} (hae : e ≠ a) (hai : a ≠ it) :
    Turn P w K (.Tuple elts kk tpos) (IteB k K a) [e, it] e (fun i h => (∃ old, IsEnum h e it ((i : Nat) : Int) old) ∧ ItB k h it a i ∧ e ≠ it) where
  mem := by simp
  obj := fun i h st b hb => by
    obtain ⟨⟨old, he⟩, hi, _⟩ := st
    have two : b = e ∨ b = it := by simpa using hb
    rcases two with rfl | rfl
    · exact ⟨_, he, fun v q => nomatch q⟩
    · exact hi.obj
  keep := fun i h h' st kp => let ⟨⟨old, he⟩, hi, hne⟩ := st; ⟨⟨old, kp e (by simp) _ he⟩, hi.keep fun o q => kp it (by simp) o q, hne⟩
  item := by
    intro X hP hw hK hc i pins s σ H E I hf st hg
    subst hP hw hK
    obtain ⟨⟨old, he⟩, hit, hne⟩ := st
    obtain ⟨xs, x, hq, hx⟩ := hg
    obtain ⟨its, rv, p, _⟩ := SqB.has I hq
    obtain ⟨u, hu, ru⟩ := rv.get hx
    have hel : e < s.heap.objs.size := Heap.lt_size he
    have hil : it < s.heap.objs.size := by obtain ⟨_, q, _⟩ := hit.obj; exact Heap.lt_size q
    have il : i < its.toArray.size := by
      have := (List.getElem?_eq_some_iff.mp hu).1
      simpa using this
    refine wpAny_pyNext_enum_itemD (drawsB (A := X.A.in1) (I.ok.hd hc) k it a hai its.toArray) he ⟨hit, p⟩ il hne (by simp [hne, hae]) fun x1 h' tk q1 ho hit' hT hsz hk => ?_
    have e1 : x1 = u := by
      have : its[i]? = some x1 := by simpa using q1
      rw [hu] at this; exact (Option.some.inj this).symm
    subst e1
    refine ⟨_, rfl, wpAny_letOwnedTupleGo_enum (s := { s with heap := h', toks := tk + 1 }) ho fun h'' he' sb => ?_⟩
    have hT2 : h''.get? s.heap.objs.size = some { cls := .type "tuple", data := .seq #[.int i tk, x1] } := (sb.2 _ (Nat.ne_of_gt hel)).trans hT
    have new : ObjOk X.prog X.w (upd H s.heap.objs.size (.tup [.int (i : Nat), x])) h'' s.heap.objs.size (.tup [.int (i : Nat), x]) :=
      ⟨by show 2 ≤ sizeLine; decide, [.int i tk, x1], .cons ⟨_, rfl⟩ (.cons ru .nil), ⟨_, hT2, rfl, _, rfl⟩⟩
    have I1 : Inv X pins σ (upd H s.heap.objs.size (.tup [.int (i : Nat), x])) { s with heap := h'', toks := tk + 1 } :=
      I.turnedNew (t' := tk + 1) (ch := [e, it]) (fun b ob hb q => by
        simp only [List.mem_cons, not_or, List.not_mem_nil, not_false_eq_true, and_true] at hb
        exact (sb.2 b hb.1).trans (hk b ob hb.1 hb.2 q)) hf (Nat.le_refl _) new
    refine ⟨.ref s.heap.objs.size, _, I1, rfl, ⟨_, x, rfl, I.hok.fresh (Nat.le_refl _), rfl, fun ys hy => by rw [SqB.inj I hy hq]; exact hx⟩, ⟨⟨x1, ?_⟩, hit'.1.keep fun o q => (sb.2 it (Ne.symm hne)).trans q, hne⟩, fun b hb => ?_⟩
    · have e1 : ((i + 1 : Nat) : Int) = (i : Int) + 1 := by omega
      rw [e1]; exact he'
    · have two : b = e ∨ b = it := by simpa using hb
      have hlt : b < s.heap.objs.size := by rcases two with rfl | rfl <;> assumption
      rw [upd_ne (Nat.ne_of_lt hlt)]
      exact (hf b hb).1
  done := by
    intro X hP hw hK hc i pins s σ H E I hf st hg
    subst hP hw hK
    obtain ⟨⟨old, he⟩, hit, hne⟩ := st
    obtain ⟨xs, hq, rfl⟩ := hg
    obtain ⟨its, rv, p, _⟩ := SqB.has I hq
    obtain ⟨f0, f1, f2, f3, f4, f5⟩ := hf it (by simp)
    have hl := rv.length
    refine wpAny_pyNext_enum_endD (drawsB (A := X.A.in1) (I.ok.hd hc) k it a hai its.toArray) he ⟨?_, p⟩ fun h' eb => ⟨rfl, I.turned (t' := s.toks) (fun b o hb q => eb b o hb q) f0 f1 f3 f4 f5⟩
    have : its.toArray.size = xs.length := by simp [hl]
    rw [this]; exact hit
  self := fun A i s Q E st h => let ⟨⟨_, he⟩, _⟩ := st; wpAny_pyIter_enum he h
set_option maxHeartbeats 1000000 in
theorem enum_new {v : Value} {o : Obj} {H : Heap → Prop} (B : Begins v o H) :
    Meets (Builtin.«enumerate.__new__» ⟨[.type "enumerate", v], []⟩) (fun _ R s => H s.heap ∧
      R (.ok (.ret (.ref (s.heap.push o).objs.size))) { s with heap := (s.heap.push o).push { cls := .type "enumerate", data := .fields #[.none, .bool false, .ref s.heap.objs.size, rawInt 0, .none, .none] } }) :=
  .of_wp fun prog w A R s h => by
    obtain ⟨hp, gg, dd, tk, oss⟩ := s; obtain ⟨h1, h⟩ := h
    have hsub := sub_enumerate
    have q1 : ∀ {A' : Around} {E : Value → Shared → Prop} {Q : Value → Shared → Prop}, Q (.ref hp.objs.size) ⟨hp.push o, gg, dd, tk, oss⟩ → wpAny (model prog w) A' (pyIter v) Q E ⟨hp, gg, dd, tk, oss⟩ :=
      fun q => B.iter prog w _ _ ⟨hp, gg, dd, tk, oss⟩ _ h1 q
    wp_walk using q1
    refine wpAny_stack_any fun stk => wpAny_pure ?_
    split
    · rename_i cl _ _ _ _ _
      cases (cl == Value.type "enumerate") <;> (wp_walk using q1; exact ⟨_, rfl, h⟩)
    · (wp_walk using q1; exact ⟨_, rfl, h⟩)
theorem enum_call {prog : Program} {w : World} {A : Around} {E : Value → Shared → Prop} {s : Shared} {v : Value} {o : Obj} {H : Heap → Prop} {Q : Value → Shared → Prop} (B : Begins v o H) (h1 : H s.heap)
    (h : ∀ h', IsEnum h' (s.heap.objs.size + 1) s.heap.objs.size 0 .none → h'.get? s.heap.objs.size = some o → (∀ b o, s.heap.get? b = some o → h'.get? b = some o) → Q (.ref (s.heap.objs.size + 1)) { s with heap := h' }) :
    wpAny (model prog w) A (call (.type "enumerate") [v]) Q E s := by
  refine callType_new F.called_enumerate (by decide) (F.typeCall_enumerate_1 _) (F.newCall_enumerate_1 _) (fun obj => F.args_object_init_2 obj _) F.entry_enumerate_new (enum_new B) ⟨h1, ?_⟩
  have hz : (s.heap.push o).objs.size = s.heap.objs.size + 1 := Heap.size_push ..
  show _ ∧ _
  rw [hz]
  have he : IsEnum ((s.heap.push o).push { cls := .type "enumerate", data := .fields #[.none, .bool false, .ref s.heap.objs.size, rawInt 0, .none, .none] }) (s.heap.objs.size + 1) s.heap.objs.size 0 .none := by
    have hp := Heap.get?_push_size (s.heap.push o) (o := { cls := .type "enumerate", data := .fields #[.none, .bool false, .ref s.heap.objs.size, rawInt 0, .none, .none] }) rfl
    rw [hz] at hp; exact hp
  exact ⟨⟨_, he, rfl⟩, h _ he (Heap.get?_push_of_some _ (Heap.get?_push_size _ B.free)) fun b o x => Heap.get?_push_of_some _ (Heap.get?_push_of_some _ x)⟩
def iEnumB (K : PySem.W.Frag) (ta : TA) : TI := fun σ H R => ta σ H fun vs H1 => ∃ k a xs, vs = [.ref a] ∧ SqB k K H1 a xs ∧ R (IteB k K a) H1
theorem pi_enumB {X : Cx} {e : Expr} {ta : TA} {p pos tpos : Pos} {elts : List Expr} {kk : Nat} (hg : Gl X "enumerate") (hm : X.mg "enumerate" = none) (ha : PA X [e] ta) (hs : starEach [e] X.env = [(false, eval e X.env)] := by rfl) :
    PI X (.Tuple elts kk tpos) (.Call (.Name "enumerate" p) [e] [] pos) (iEnumB X.K ta) := by
  refine ⟨fun pins s σ H R I h => ?_⟩
  refine PyProof.Rows.Call_ (ld_blt I hg hm PyProof.Rows.boot_enumerate (PyProof.Rows.callWith_type1 (thn (ha.run pos pins s σ H _ I h) fun us s1 ⟨vs, H1, I1, r1, q1⟩ => ?_) hs rfl))
  obtain ⟨k, a, xs, ex, hq, q⟩ := q1
  subst ex
  cases r1 with
  | cons r rr =>
    cases rr
    cases r
    obtain ⟨its, rv, p', la⟩ := SqB.has I1 hq
    refine enum_call (beginsB k a its.toArray) p' fun h' he g1 hk => wpAny_pyIter_enum he ?_
    have I2 : Inv X pins σ H1 { s1 with heap := h' } := I1.kept (t' := s1.toks) hk
    refine ⟨s1.heap.objs.size + 1, [s1.heap.objs.size + 1, s1.heap.objs.size], _, _, H1, rfl, I2, turn_enumB (e := s1.heap.objs.size + 1) (it := s1.heap.objs.size) (Nat.ne_of_gt (Nat.lt_succ_of_lt la)) (Nat.ne_of_lt la), ⟨⟨.none, he⟩, newItB_it g1, Nat.succ_ne_self _⟩, fun b hb => ?_, q⟩
    have two : b = s1.heap.objs.size + 1 ∨ b = s1.heap.objs.size := by simpa using hb
    have hle : s1.heap.objs.size ≤ b := by rcases two with z | z <;> rw [z] <;> first | exact Nat.le_add_right _ _ | exact Nat.le_refl _
    exact I1.fpOk hle (I1.hok.fresh hle)
end VM
end
section
set_option Elab.async false
set_option linter.all false
set_option maxRecDepth 100000
set_option autoImplicit false
/-! VM10: what zip and enumerate give; stores into what a body holds; defs. -/
namespace VM
open PySem PySem.Spec L2
section
variable {X : Cx} {Cs : Gm} {E : XK} {o : Bool} {e a b c tg iter elt tg1 iter1 : Expr} {es ifs ifs1 : List Expr} {m ma mb mc me : Fr0 → R D} {mr mi mi1 : Fr0 → R (List D)} {na nt nt1 : Fr0 → R Bool} {pos : Pos} {is is1 vs vs1 : List Nat} {g g1 : D → Fr0 → R Fr0} {sts : List Stmt} {s1 : Fr0 → R Out}
/-- a list or a tuple: which, where, of what -/
theorem Rep.sq {F : Hp} {v : V} {d : D} {ds : List D} (r : Rep X.K Cs F v d) (h : d.items = .ok ds) : ∃ k a vs, v = .ref a ∧ SqB k X.K F a vs ∧ Reps X.K Cs F vs ds := by
  cases r with
  | lst hq rs => cases h; exact ⟨true, _, _, rfl, hq, rs⟩
  | tup hq rs => cases h; exact ⟨false, _, _, rfl, hq, rs⟩
  | _ => cases h
theorem SqB.mono {k : Bool} {K : PySem.W.Frag} {F H : Hp} {a : Addr} {vs : List V} (s : Same F H) (h : SqB k K F a vs) : SqB k K H a vs := by
  cases k with
  | true => exact s.seq h
  | false => exact sqT_mono s h
def zipD : List D → List D → List D
  | x :: xs, y :: ys => .tup [x, y] :: zipD xs ys
  | _, _ => []
theorem zipD_length : ∀ xs ys : List D, (zipD xs ys).length = min xs.length ys.length
  | [], _ => by simp [zipD]
  | _ :: _, [] => by simp [zipD]
  | x :: xs, y :: ys => by simp [zipD, zipD_length xs ys]
theorem zipD_get : ∀ (xs ys : List D) (i : Nat) (x y : D), xs[i]? = some x → ys[i]? = some y → (zipD xs ys)[i]? = some (.tup [x, y])
  | x :: xs, y :: ys, 0, _, _, h1, h2 => by simp at h1 h2; subst h1 h2; rfl
  | x :: xs, y :: ys, i + 1, _, _, h1, h2 => by simpa [zipD] using zipD_get xs ys i _ _ (by simpa using h1) (by simpa using h2)
  | [], _, _, _, _, h1, _ => by simp at h1
  | _ :: _, [], _, _, _, _, h2 => by simp at h2
def enumD (k : Nat) : List D → List D
  | [] => []
  | x :: xs => .tup [.int (k : Nat), x] :: enumD (k + 1) xs
theorem enumD_length : ∀ (k : Nat) (xs : List D), (enumD k xs).length = xs.length
  | _, [] => rfl
  | k, _ :: xs => by simp [enumD, enumD_length (k + 1) xs]
theorem enumD_get : ∀ (k : Nat) (xs : List D) (i : Nat) (x : D), xs[i]? = some x → (enumD k xs)[i]? = some (.tup [.int ((k + i : Nat) : Int), x])
  | k, x :: xs, 0, _, h => by simp at h; subst h; rfl
  | k, x :: xs, i + 1, _, h => by
    have := enumD_get (k + 1) xs i _ (by simpa using h)
    simpa [enumD, Nat.add_assoc, Nat.add_comm 1 i] using this
  | _, [], _, _, h => by simp at h
theorem pair_rep {F H : Hp} {T : Addr} {x y : V} {d1 d2 : D} (s : Same F H) (hT : H T = none) (r1 : Rep X.K Cs F x d1) (r2 : Rep X.K Cs F y d2) : Ext F H (upd F T (.tup [x, y])) (upd H T (.tup [x, y])) ∧ Rep X.K Cs (upd F T (.tup [x, y])) (.ref T) (.tup [d1, d2]) := by
  have e := Ext.new (o := .tup [x, y]) s hT
  exact ⟨e, .tup (.of upd_same) (.cons (r1.mono e.ff) (.cons (r2.mono e.ff) .nil))⟩
theorem walkD_zip {k1 k2 : Bool} {F1 : Hp} {p q : Addr} {xs ys : List V} {ds es : List D} (hx : SqB k1 X.K F1 p xs) (hy : SqB k2 X.K F1 q ys) (rx : Reps X.K Cs F1 xs ds) (ry : Reps X.K Cs F1 ys es) : WalkD X.K Cs (ItzB k1 k2 X.K p q) (zipD ds es) F1 := by
  have l1 := rx.length
  have l2 := ry.length
  have lz := zipD_length ds es
  refine ⟨fun i H hi s => ?_, fun H s => ⟨xs, ys, hx.mono s, hy.mono s, by omega, by omega, by omega⟩, fun i F H x H' s1 s hi y => ?_⟩
  · have i1 : i < xs.length := by omega
    have i2 : i < ys.length := by omega
    exact ⟨xs, ys, xs[i], ys[i], hx.mono s, hy.mono s, by simp [i1], by simp [i2]⟩
  · obtain ⟨T, u, v, rfl, hT, rfl, h1, h2⟩ := y
    obtain ⟨d1, e1, r1⟩ := rx.get' (h1 xs (hx.mono (s1.trans s)))
    obtain ⟨d2, e2, r2⟩ := ry.get' (h2 ys (hy.mono (s1.trans s)))
    obtain ⟨ee, rr⟩ := pair_rep s hT (r1.mono s1) (r2.mono s1)
    exact ⟨_, _, ee, zipD_get ds es i d1 d2 e1 e2, rr⟩
theorem walkD_enum {k : Bool} {F1 : Hp} {p : Addr} {xs : List V} {ds : List D} (hx : SqB k X.K F1 p xs) (rx : Reps X.K Cs F1 xs ds) : WalkD X.K Cs (IteB k X.K p) (enumD 0 ds) F1 := by
  have l1 := rx.length
  have lz := enumD_length 0 ds
  refine ⟨fun i H hi s => ?_, fun H s => ⟨xs, hx.mono s, by omega⟩, fun i F H x H' s1 s hi y => ?_⟩
  · have i1 : i < xs.length := by omega
    exact ⟨xs, xs[i], hx.mono s, by simp [i1]⟩
  · obtain ⟨T, u, rfl, hT, rfl, h1⟩ := y
    obtain ⟨d1, e1, r1⟩ := rx.get' (h1 xs (hx.mono (s1.trans s)))
    obtain ⟨ee, rr⟩ := pair_rep s hT (.int ((i : Nat) : Int)) (r1.mono s1)
    refine ⟨_, _, ee, enumD_get 0 ds i d1 e1, ?_⟩
    rw [Nat.zero_add]
    exact rr
def iZip (mr : Fr0 → R (List D)) : Fr0 → R (List D) := fun ρ => (mr ρ).bind fun ds => match ds with
  | [x, y] => x.items.bind fun xs => y.items.bind fun ys => .ok (zipD xs ys)
  | _ => .stuck
def iEnum (mr : Fr0 → R (List D)) : Fr0 → R (List D) := fun ρ => (mr ρ).bind fun ds => match ds with
  | [x] => x.items.bind fun xs => .ok (enumD 0 xs)
  | _ => .stuck
theorem items_ok {d : D} {β : Type} {f : List D → R β} {p : β → Prop} {q : Nat → List (Str × D) → Prop} (h : (d.items.bind f).Sat p q) : ∃ ds, d.items = .ok ds ∧ (f ds).Sat p q := by
  cases d with
  | lst xs => exact ⟨xs, rfl, h⟩
  | tup xs => exact ⟨xs, rfl, h⟩
  | _ => exact h.elim
theorem si_zip {p tpos : Pos} {elts : List Expr} {kk : Nat} (hm : X.mg "zip" = none) (ha : SA X Cs E [a, b] mr) (hg : Gl X "zip" := by rfl)
    (hs : starEach [a, b] X.env = (false, eval a X.env) :: starEach [b] X.env := by rfl) (hpl : (backTo pos (starEach [b] X.env)).any (·.1) = false := by rfl) : SI X Cs E (.Tuple elts kk tpos) (.Call (.Name "zip" p) [a, b] [] pos) (iZip mr) := by
  obtain ⟨t, pp, q⟩ := ha
  refine ⟨_, pi_zipB hg hm pp hs hpl, fun F0 H0 ρ F σ H Rk S w => q _ _ _ _ _ _ _ S (WpA.seq w fun vs ds F1 H1 e1 rs w1 => ?_)⟩
  cases rs with
  | nil => exact w1.elim
  | cons r t =>
    cases t with
    | nil => exact w1.elim
    | cons r2 t2 =>
      cases t2 with
      | cons _ _ => exact w1.elim
      | nil =>
        obtain ⟨xs, h1, w2⟩ := items_ok w1
        obtain ⟨ys, h2, w3⟩ := items_ok w2
        obtain ⟨k1, p1, us, rfl, q1, rs1⟩ := r.sq h1
        obtain ⟨k2, p2, us2, rfl, q2, rs2⟩ := r2.sq h2
        exact ⟨k1, k2, p1, p2, us, us2, rfl, q1.mono e1.sub, q2.mono e1.sub, (show ∀ J F' H', Ext F H F' H' → WalkD X.K Cs J _ F' → Rk J H' from w3) _ F1 H1 e1 (walkD_zip q1 q2 rs1 rs2)⟩
theorem si_enum {p tpos : Pos} {elts : List Expr} {kk : Nat} (hm : X.mg "enumerate" = none) (ha : SA X Cs E [a] mr) (hg : Gl X "enumerate" := by rfl) (hs : starEach [a] X.env = [(false, eval a X.env)] := by rfl) :
    SI X Cs E (.Tuple elts kk tpos) (.Call (.Name "enumerate" p) [a] [] pos) (iEnum mr) := by
  obtain ⟨t, pp, q⟩ := ha
  refine ⟨_, pi_enumB hg hm pp hs, fun F0 H0 ρ F σ H Rk S w => q _ _ _ _ _ _ _ S (WpA.seq w fun vs ds F1 H1 e1 rs w1 => ?_)⟩
  cases rs with
  | nil => exact w1.elim
  | cons r t =>
    cases t with
    | cons _ _ => exact w1.elim
    | nil =>
      obtain ⟨xs, h1, w2⟩ := items_ok w1
      obtain ⟨k1, p1, us, rfl, q1, rs1⟩ := r.sq h1
      exact ⟨k1, p1, us, rfl, q1.mono e1.sub, (show ∀ J F' H', Ext F H F' H' → WalkD X.K Cs J _ F' → Rk J H' from w2) _ F1 H1 e1 (walkD_enum q1 rs1)⟩

/-! ### what a body holds is changed -/
theorem ss_app (i : Nat) {x : Str} {p apos cpos : Pos} (he : SE X Cs E e m) (hN : X.N[i]? = some x := by rfl) (hv : Vis X.env.scope x := by first | exact Or.inl rfl | exact Or.inr (Or.inl rfl) | exact Or.inr (Or.inr rfl)) (hd : (x == ("__debug__" : Str)) = false := by decide)
    (hcd : (x == ("__classdict__" : Str)) = false := by decide) (hs : swapsWith (.Call (.Attribute (.Name x p) "append" apos) [e] [] cpos) none pos.line X.env = pure false := by rfl)
    (hbase : attributeBase (.Name x p) "append" X.env (eval (.Name x p) X.env) = eval (.Name x p) X.env := by rfl)
    (hfew : ((backTo cpos (starEach (e :: []) X.env)).all (fun x => !x.1) && (backToKw cpos (keywordEach [] X.env)).all (fun x => x.1.isSome)
      && decide ((e :: ([] : List Expr)).length + ([] : List Keyword).length + (if ([] : List Keyword).isEmpty then 0 else 1) < 30)) = true := by rfl)
    (hline : (apos.endLine == cpos.line) = true := by rfl) (hst : starEach (e :: []) X.env = (false, eval e X.env) :: starEach [] X.env := by rfl) (hplain : (backTo cpos (starEach [] X.env)).any (·.1) = false := by rfl) :
    SS X Cs E o (.Expr (.Call (.Attribute (.Name x p) "append" apos) [e] [] cpos) pos) (bApp i m) := by
  obtain ⟨t, pp, q⟩ := he
  refine ⟨_, ps_expr (pe_bm PySem.F.plainAttrs_list PySem.F.slot_list_append PySem.F.type_list_append mt_append (pe_var hN hv hd hcd) (pa_cons pp pa_nil hst) hbase hfew hline hst hplain) hs, fun F0 H0 ρ F σ H D0 S w => ?_⟩
  unfold bApp at w
  split at w
  case h_2 => exact w.elim
  case h_1 bb xs h =>
    obtain ⟨a, h1, _, h2⟩ := S.slots i _ h
    obtain ⟨a0, af, us, hu, ru⟩ := id h2
    refine ⟨.ref a, h1, .inl ⟨rfl, us, .of hu⟩, q _ _ _ _ _ _ _ S (WpS.ex S.ext w fun v d F1 H1 e1 rv w1 => ?_)⟩
    by_cases hl : xs.length ≤ 1000000
    · rw [if_pos hl] at w1
      have hu1 := e1.hh.get hu
      have af1 := Ext.no e1 af hu
      have ll := ru.length
      refine ⟨a, us, v, rfl, rfl, hu1, by rw [sizeLine_eq]; omega, ?_⟩
      refine (show ∀ F' σ' H', Same F1 F' → Sim X.K Cs F0 H0 (ρ.set i (.own bb (.lst (xs ++ [d])))) F' σ' H' → D0.nx σ' H' from w1) F1 σ _ (Same.refl _) ?_
      exact (S.go e1).mut h h1 (h2.go e1) ⟨a0, af1, us ++ [v], upd_same, (ru.mono e1.ff).append (.cons rv .nil)⟩
    · rw [if_neg hl] at w1; exact w1.elim
theorem ss_put (i : Nat) {x : Str} {p tpos : Pos} {ik : Expr} {mk : Fr0 → R D} (he : SE X Cs E e m) (hk : SE X Cs E ik mk) (hN : X.N[i]? = some x := by rfl) (hv : Vis X.env.scope x := by first | exact Or.inl rfl | exact Or.inr (Or.inl rfl) | exact Or.inr (Or.inr rfl)) (hd : (x == ("__debug__" : Str)) = false := by decide)
    (hcd : (x == ("__classdict__" : Str)) = false := by decide) (ha : ∀ v, assign (.Subscript (.Name x p) ik tpos) X.env v = (do
      let ov ← holding [v] (eval (.Name x p) X.env)
      let iv ← holding [v, ov] (eval ik X.env)
      standAt tpos
      holding [v, ov, iv] (setItem ov iv v)
      release [v, ov, iv] []) := by intro _; rfl) (hs : swapsWithSole [.Subscript (.Name x p) ik tpos] e pos.line X.env = pure false := by rfl) (hw : swappedStores [.Subscript (.Name x p) ik tpos] e X.env = pure none := by rfl)
    (h1 : (assignEach [.Subscript (.Name x p) ik tpos] X.env).map (·.2) = [assign (.Subscript (.Name x p) ik tpos) X.env] := by rfl) : SS X Cs E o (.Assign [.Subscript (.Name x p) ik tpos] e pos) (bPut i mk m) := by
  obtain ⟨t, pp, q⟩ := he
  obtain ⟨tk, pk, qk⟩ := hk
  refine ⟨_, ps_asg pp (pg_sub (pe_var hN hv hd hcd) pk set_list ha) hs hw h1, fun F0 H0 ρ F σ H D0 S w => ?_⟩
  unfold bPut at w
  split at w
  case h_2 => exact w.elim
  case h_1 bb xs h =>
    obtain ⟨a, h1, _, h2⟩ := S.slots i _ h
    obtain ⟨a0, af, us, hu, ru⟩ := id h2
    refine q _ _ _ _ _ _ _ S (WpS.ex S.ext w fun v d F1 H1 e1 rv w1 => ⟨.ref a, h1, qk _ _ _ _ _ _ _ (S.go e1) (WpS.ex (S.go e1).ext w1 fun kv kd F2 H2 e2 rk w2 => ?_)⟩)
    have e12 := e1.trans e2
    cases rk with
    | int k =>
      dsimp only at w2
      cases hj : ixN xs.length k with
      | none => rw [hj] at w2; exact w2.elim
      | some j =>
        rw [hj] at w2
        have hu1 := e12.hh.get hu
        have af1 := Ext.no e12 af hu
        have ll := ru.length
        refine ⟨a, us, k, j, rfl, rfl, hu1, by rw [ll]; exact hj, ?_⟩
        refine (show ∀ F' σ' H', Same F2 F' → Sim X.K Cs F0 H0 (ρ.set i (.own bb (.lst (xs.set j d)))) F' σ' H' → D0.nx σ' H' from w2) F2 σ _ (Same.refl _) ?_
        exact (S.go e12).mut h h1 (h2.go e12) ⟨a0, af1, us.set j v, upd_same, Reps.set (rv.mono e2.ff) j (ru.mono e12.ff)⟩
    | _ => exact w2.elim
theorem RepF.put {F : Hp} {f : Str} {v : V} {d : D} (r : Rep X.K Cs F v d) : ∀ {us : List (Str × V)} {gs : List (Str × D)}, RepF X.K Cs F us gs → RepF X.K Cs F (putF f v us) (putD f d gs)
  | _, _, .nil => .cons r .nil
  | _, _, .cons (n := n) q t => by
    by_cases h : n = f
    · subst h
      simp only [putF, putD, if_pos]
      exact .cons r t
    · simp only [putF, putD, if_neg h]
      exact .cons q (RepF.put r t)
theorem RepF.len {F : Hp} : ∀ {us : List (Str × V)} {gs : List (Str × D)}, RepF X.K Cs F us gs → us.length = gs.length
  | _, _, .nil => rfl
  | _, _, .cons _ t => by simp [RepF.len t]
theorem ss_fld (i : Nat) {c : Nat} {f x : Str} {p pos' : Pos} (hc : Cls X.K (Cs c)) (hn : NoAttr X.K (Cs c) f) (he : SE X Cs E e m) (hN : X.N[i]? = some x := by rfl) (hv : Vis X.env.scope x := by first | exact Or.inl rfl | exact Or.inr (Or.inl rfl) | exact Or.inr (Or.inr rfl)) (hd : (x == ("__debug__" : Str)) = false := by decide)
    (hcd : (x == ("__classdict__" : Str)) = false := by decide) (hs : swapsWith e (some (.Attribute (.Name x p) f pos')) pos.line X.env = pure false := by rfl) : SS X Cs E o (.Assign [.Attribute (.Name x p) f pos'] e pos) (bFld i c f m) := by
  obtain ⟨t, pp, q⟩ := he
  refine ⟨_, L2.ps_fld (pe_var hN hv hd hcd) pp hs, fun F0 H0 ρ F σ H D0 S w => ?_⟩
  unfold bFld at w
  split at w
  case h_2 => exact w.elim
  case h_1 bb c' gs h =>
    obtain ⟨a, h1, _, h2⟩ := S.slots i _ h
    obtain ⟨a0, af, dx, us, hu, ru⟩ := id h2
    refine q _ _ _ _ _ _ _ S (WpS.ex S.ext w fun v d F1 H1 e1 rv w1 => ?_)
    by_cases hl : c' = c ∧ gs.length < 100
    · rw [if_pos hl] at w1
      obtain ⟨rfl, hl⟩ := hl
      have hu1 := e1.hh.get hu
      have af1 := Ext.no e1 af hu
      have ll := ru.len
      refine ⟨.ref a, h1, a, Cs c', dx, us, rfl, hu1, hc, hn, by omega, ?_⟩
      refine (show ∀ F' σ' H', Same F1 F' → Sim X.K Cs F0 H0 (ρ.set i (.own bb (.ins c' (putD f d gs)))) F' σ' H' → D0.nx σ' H' from w1) F1 σ _ (Same.refl _) ?_
      exact (S.go e1).mut h h1 (h2.go e1) ⟨a0, af1, dx, putF f v us, upd_same, RepF.put rv (ru.mono e1.ff)⟩
    · rw [if_neg hl] at w1; exact w1.elim
end

/-! ### defs -/
/-- a body's value at its arguments: sz slots, the arguments first -/
def runDef (n sz : Nat) (o : Bool) (s : Fr0 → R Out) : List D → R D := fun ds => if ds.length = n then
    (s (ds.map Slot.frz ++ List.replicate (sz - n) Slot.none)).bind fun out => match out, o with
      | .ret d, _ => .ok d
      | .nx _, false => .ok .non
      | _, _ => .stuck
  else .stuck
/-- an __init__: the instance is slot 0 -/
def runInit (n c sz : Nat) (s : Fr0 → R Out) : List D → R D := fun ds => if ds.length = n then
    (s (.own true (.ins c []) :: (ds.map Slot.frz ++ List.replicate (sz - (n + 1)) Slot.none))).bind fun out => match out with
      | .nx ρ => (match ρ[0]? with | some (Slot.own true d) => .ok d | _ => .stuck)
      | _ => .stuck
  else .stuck
section
variable {P : Program} {w : World} {K : PySem.W.Frag} {mg : Str → Option Value} {base : Heap} {Cs : Gm}
theorem start_get {N : List Str} {vs : List V} (hN : vs.length ≤ N.length) (i : Nat) : (L2.start N vs)[i]? = if h : i < vs.length then some (some vs[i]) else if i < N.length then some none else none := by
  unfold L2.start
  by_cases h : i < vs.length
  · rw [List.getElem?_append_left (by simpa using h), dif_pos h]
    simp [h]
  · rw [List.getElem?_append_right (by simpa using h), dif_neg h, List.length_map, List.getElem?_replicate]
    by_cases h2 : i < N.length
    · rw [if_pos (by omega), if_pos h2]
    · rw [if_neg (by omega), if_neg h2]
theorem sim_start {F H : Hp} {N : List Str} {vs : List V} {ds : List D} (s : Same F H) (tb : TabsA Cs F H) (r : Reps K Cs F vs ds) (hl : vs.length ≤ N.length) : Sim K Cs ⟨F, 0⟩ H (ds.map Slot.frz ++ List.replicate (N.length - ds.length) Slot.none) F (L2.start N vs) H := by
  have ll := r.length
  have noOwn : ∀ (i : Nat) (b : Bool) (d : D), (ds.map Slot.frz ++ List.replicate (N.length - ds.length) Slot.none)[i]? ≠ some (.own b d) := fun i b d h => by
    by_cases hi : i < ds.length
    · rw [List.getElem?_append_left (by simpa using hi), List.getElem?_map] at h
      cases q : ds[i]? with
      | none => rw [q] at h; cases h
      | some x => rw [q] at h; cases h
    · rw [List.getElem?_append_right (by simpa using hi), List.getElem?_replicate] at h
      split at h <;> cases h
  refine ⟨Ext.refl s, tb, by unfold L2.start; simp; omega, fun i sl h => ?_, fun i j b c d e a h1 => absurd h1 (noOwn i b d)⟩
  cases sl with
  | none => trivial
  | own b d => exact absurd h (noOwn i b d)
  | frz d =>
    by_cases hi : i < ds.length
    · rw [List.getElem?_append_left (by simpa using hi), List.getElem?_map] at h
      cases q : ds[i]? with
      | none => rw [q] at h; cases h
      | some x =>
        rw [q] at h
        cases h
        obtain ⟨v, h1, h2⟩ := r.get q
        refine ⟨v, ?_, h2⟩
        rw [start_get hl, dif_pos (by omega)]
        have := (List.getElem?_eq_some_iff.mp h1).2
        rw [this]
    · rw [List.getElem?_append_right (by simpa using hi), List.getElem?_replicate] at h
      split at h <;> cases h
/-- a def by its body -/
theorem ok_def {x qual : Str} {st : Stmt} {f : Addr} {fd : FuncData} {N ps : List Str} {k n sz : Nat} {o : Bool} {s1 : Fr0 → R Out} (F : Fun K x qual st f fd) (S : FnScope N ps (defScope st)) (hn : ps.length = n) (hsz : N.length = sz)
    (hb : ∀ (cdv : Value) (A : Around) (outer : List Env) (s : Shared) (H : Hp) (E : XK), Room k (A.deeper (PyProof.Rows.envOfC qual (defScope st) s.heap.objs.size f cdv)) → SSs (cxOf (L2.CX P w) P w K mg base N qual (defScope st) f cdv A outer s H E) Cs E o (defBody st) s1) :
    FnOk P w K mg base (L2.CX P w) (k + 1) f fd ps (spM K Cs n o (runDef n sz o s1)) := by
  refine F.okX S (fun vs H Q E h => ?_) fun cdv A outer s H vs Q E hr h => ?_
  · obtain ⟨F, ds, _, _, r, hl, _⟩ := h
    rw [r.length, hl, hn]
  · obtain ⟨F1, ds, sub, tb, r, hl, w⟩ := h
    obtain ⟨t, p, q⟩ := hb cdv A outer s H E hr
    have hle : vs.length ≤ N.length := by
      have := congrArg List.length S.pre
      rw [List.length_take] at this
      rw [r.length, hl, ← hn]
      omega
    have S0 := sim_start (N := N) sub tb r hle
    refine ⟨t, p, q ⟨F1, 0⟩ H _ F1 (L2.start N vs) H _ S0 ?_⟩
    unfold runDef at w
    rw [if_pos hl] at w
    rw [hl, hsz]
    refine w.of_bind.mono (fun out hd => ?_) fun _ _ z => z
    cases out with
    | ret d => exact hd
    | nx ρ =>
      cases o with
      | true => exact hd.elim
      | false => exact fun F' σ' H' _ S' => (show ∀ v F' H', Ext F1 H F' H' → ResAt K Cs false H F' H' v .non → Q v H' from hd) .non F' H' S'.ext .non
    | brk ρ => cases o <;> exact hd.elim
    | ct ρ => cases o <;> exact hd.elim
/-- an __init__ by its body -/
theorem ok_init {x qual : Str} {st : Stmt} {f : Addr} {fd : FuncData} {N ps : List Str} {k n c sz : Nat} {s1 : Fr0 → R Out} (F : Fun K x qual st f fd) (S : FnScope N ps (defScope st)) (hn : ps.length = n + 1) (hsz : N.length = sz)
    (hb : ∀ (cdv : Value) (A : Around) (outer : List Env) (s : Shared) (H : Hp) (E : XK), Room k (A.deeper (PyProof.Rows.envOfC qual (defScope st) s.heap.objs.size f cdv)) → SSs (cxOf (L2.CX P w) P w K mg base N qual (defScope st) f cdv A outer s H E) Cs E false (defBody st) s1) :
    FnOk P w K mg base (L2.CX P w) (k + 1) f fd ps (spI K Cs n c (runInit n c sz s1)) := by
  refine F.okX S (fun vs H Q E h => ?_) fun cdv A outer s H vs Q E hr h => ?_
  · obtain ⟨F, x, dx, us, ds, rfl, _, _, _, _, r, hl, _⟩ := h
    rw [List.length_cons, r.length, hl, hn]
  · obtain ⟨F1, y, dx, us, ds, rfl, hy, fy, sub, tb, r, hl, w⟩ := h
    obtain ⟨t, p, q⟩ := hb cdv A outer s H E hr
    have ll := r.length
    have hle : (V.ref y :: us).length ≤ N.length := by
      have := congrArg List.length S.pre
      rw [List.length_take, hn] at this
      rw [List.length_cons, ll, hl]
      omega
    have hdel : Same (del H y) H := fun b u hb => by
      by_cases hby : b = y
      · subst hby; rw [del_same] at hb; cases hb
      · rw [del_ne hby] at hb; exact hb
    have e0 : Ext F1 (del H y) F1 H := by
      refine ⟨Keep.of_same hdel, Same.refl _, fun _ _ z => .inl z, sub⟩
    have S0 : Sim K Cs ⟨F1, y⟩ (del H y) (.own true (.ins c []) :: (ds.map Slot.frz ++ List.replicate (sz - (n + 1)) Slot.none)) F1 (L2.start N (V.ref y :: us)) H := by
      have noOwn : ∀ (i : Nat) (b : Bool) (d : D), (ds.map Slot.frz ++ List.replicate (sz - (n + 1)) Slot.none)[i]? ≠ some (.own b d) := fun i b d h => by
        by_cases hi : i < ds.length
        · rw [List.getElem?_append_left (by simpa using hi), List.getElem?_map] at h
          cases q : ds[i]? with
          | none => rw [q] at h; cases h
          | some x => rw [q] at h; cases h
        · rw [List.getElem?_append_right (by simpa using hi), List.getElem?_replicate] at h
          split at h <;> cases h
      refine ⟨e0, tb.keep (Keep.of_same hdel), by unfold L2.start; simp; simp at hle; omega, fun i sl h => ?_, fun i j b1 b2 d e a h1 h2 _ _ => ?_⟩
      · cases i with
        | zero =>
          simp at h
          subst h
          refine ⟨y, by rw [start_get hle, dif_pos (by simp)]; rfl, (fun _ => rfl), del_same, fy, dx, [], hy, .nil⟩
        | succ i =>
          rw [List.getElem?_cons_succ] at h
          cases sl with
          | none => trivial
          | own b d => exact absurd h (noOwn i b d)
          | frz d =>
            by_cases hi : i < ds.length
            · rw [List.getElem?_append_left (by simpa using hi), List.getElem?_map] at h
              cases q : ds[i]? with
              | none => rw [q] at h; cases h
              | some x =>
                rw [q] at h
                cases h
                obtain ⟨v, h1, h2⟩ := r.get q
                refine ⟨v, ?_, h2⟩
                rw [start_get hle, dif_pos (by simp; omega)]
                have := (List.getElem?_eq_some_iff.mp h1).2
                simp [this]
            · rw [List.getElem?_append_right (by simpa using hi), List.getElem?_replicate] at h
              split at h <;> cases h
      · cases i with
        | zero =>
          cases j with
          | zero => rfl
          | succ j => rw [List.getElem?_cons_succ] at h2; exact absurd h2 (noOwn j _ e)
        | succ i => rw [List.getElem?_cons_succ] at h1; exact absurd h1 (noOwn i _ d)
    refine ⟨t, p, q ⟨F1, y⟩ (del H y) _ F1 (L2.start N (V.ref y :: us)) H _ S0 ?_⟩
    unfold runInit at w
    rw [if_pos hl] at w
    refine w.of_bind.mono (fun out hd => ?_) fun _ _ z => z
    · cases out with
      | ret d => exact hd.elim
      | brk ρ => exact hd.elim
      | ct ρ => exact hd.elim
      | nx ρ =>
        intro F' σ' H' _ S'
        dsimp only at hd
        split at hd
        case h_2 => exact hd.elim
        case h_1 d hρ =>
          obtain ⟨a, h1, ha, oa⟩ := S'.slots 0 _ hρ
          have ea := ha rfl
          subst ea
          exact (show ∀ F' H', Ext F1 (del H a) F' H' → OwnAt K Cs (del H a) F' H' a d → Q .non H' from hd) F' H' S'.ext oa
end
end VM
end
section
set_option Elab.async false
set_option linter.all false
set_option maxRecDepth 100000
set_option autoImplicit false
/-! VM11: dicts with tuple keys: new, stored into, compared. -/
namespace VM
open PySem PySem.Spec L2

/-! ### two dicts with nested keys, pair by pair -/
section
variable {P : Program} {w : World} {A : Around} {E : Value → Shared → Prop} {s : Shared}
abbrev KX := NestedKey × Addr × Value
/-- the entries of a dict, one after the other, looked up in yb -/
inductive Hit (A : Around) (s : Shared) (yb : List KX) : List KX → Bool → Prop
  | nil : Hit A s yb [] true
  | miss {x : KX} {r : List KX} : atKey yb x.1 = none → Hit A s yb (x :: r) false
  | hit {x : KX} {p : Addr × Value} {r : List KX} {e t : Bool} : atKey yb x.1 = some p → SeqAt.EqAt A s x.2.2 p.2 e → Hit A s yb r t → Hit A s yb (x :: r) (e && t)
theorem Hit.uncons {yb r : List KX} {x : KX} {t : Bool} (h : Hit A s yb (x :: r) t) : (atKey yb x.1 = none ∧ t = false) ∨ ∃ p e t', atKey yb x.1 = some p ∧ SeqAt.EqAt A s x.2.2 p.2 e ∧ Hit A s yb r t' ∧ t = (e && t') := by
  cases h with
  | miss hn => exact .inl ⟨hn, rfl⟩
  | hit h1 h2 h3 => exact .inr ⟨_, _, _, h1, h2, h3, rfl⟩
theorem range_last {n i : Nat} (h : [] = List.range' i (n - i)) (hi : i ≤ n) : i = n := by
  by_cases q : i < n
  · rw [show n - i = n - (i + 1) + 1 by omega, List.range'_succ] at h
    cases h
  · omega
theorem range_next {n i x : Nat} {r : List Nat} (h : x :: r = List.range' i (n - i)) : i < n ∧ x = i ∧ r = List.range' (i + 1) (n - (i + 1)) := by
  by_cases q : i < n
  · rw [show n - i = n - (i + 1) + 1 by omega, List.range'_succ] at h
    injection h with h1 h2
    exact ⟨q, h1, h2⟩
  · rw [show n - i = 0 by omega] at h
    cases h
theorem pairs_heap {nm : String} {a b : Addr} {xa yb : List KX} {t : Bool} {Q : Bool → Shared → Prop} (na : (a == sysModules) = false) (nb : (b == sysModules) = false) (hr : A.units + 8 < cLine)
    (da : s.heap.DictOfH (nestedKind P w) a xa) (db : s.heap.DictOfH (nestedKind P w) b yb) (hits : xa.length = yb.length → Hit A s yb xa t) (q : Q (xa.length == yb.length && t) s) :
    wpAny (model P w) A (Builtin.Dict.samePairs nm a b) Q E s := by
  obtain ⟨o1, u1, e1, g1, _, d1, l1, k1, n1⟩ := da
  obtain ⟨o2, u2, e2, g2, _, d2, l2, k2, n2⟩ := db
  have z1 : u1.size = xa.length := size_of_entries l1
  have z2 : u2.size = yb.length := size_of_entries l2
  rw [← z1, ← z2] at q
  unfold Builtin.Dict.samePairs Builtin.Dict.showsAll
  simp only [na, nb, Bool.false_eq_true, if_false]
  refine wpAny_bind (wpAny_pure (wpAny_bind (wpAny_pure (wpAny_bind (wpAny_dictEntries g1 d1 ?_)))))
  refine wpAny_bind (wpAny_dictEntries g2 d2 ?_)
  by_cases hz : u1.size = u2.size
  · have q' : Q t s := by simpa [hz] using q
    have hs := hits (by rw [← z1, ← z2]; exact hz)
    simp only [hz, bne_self_eq_false, Bool.false_eq_true, if_false]
    refine wpAny_bind (wpAny_dictEpoch g1 d1 (wpAny_bind ?_))
    rw [Std.Legacy.Range.forIn_eq_forIn_range']
    simp only [Std.Legacy.Range.size, Nat.sub_zero, Nat.add_sub_cancel, Nat.div_one]
    rw [← hz]
    refine wpAny_forIn_list _ (fun rest r s' => s' = s ∧ r = (none, ()) ∧ ∃ i, rest = List.range' i (u1.size - i) ∧ i ≤ u1.size ∧ Hit A s yb (xa.drop i) t) _ ?_ ?_ _ _ ⟨rfl, rfl, 0, by simp, Nat.zero_le _, hs⟩
    · rintro x rest r s' ⟨rfl, rfl, i, hl, hi, hd⟩
      obtain ⟨lt, rfl, hl'⟩ := range_next hl
      have lx : x < xa.length := z1 ▸ lt
      rw [List.drop_eq_getElem_cons lx] at hd
      have ex : u1[x]? = some ⟨(nestedKind P w).hash xa[x].1, .ref xa[x].2.1, xa[x].2.2⟩ := by
        rw [entry_at l1 x, List.getElem?_eq_getElem lx]
        rfl
      have kx : (nestedKind P w).is s'.heap xa[x].1 xa[x].2.1 := k1 _ (List.getElem_mem lx)
      refine wpAny_bind (wpAny_dictEntries g1 d1 ?_)
      rw [ex]
      refine wpAny_bind (wpAny_holding (wpAny_bind (wpAny_dictFind_heap hr kx g2 d2 l2 k2 n2 (fun none => ?_) fun j p hj => ?_)))
      · have hn := atKey_none_of_get none
        rcases hd.uncons with ⟨_, rfl⟩ | ⟨p, _, _, hp, _⟩
        · exact wpAny_pure (wpAny_pure (wpAny_pure q'))
        · rw [hn] at hp; cases hp
      · have hp := atKey_of_get n2 hj
        refine wpAny_bind (wpAny_dictEntries g2 d2 ?_)
        rw [entry_at l2 j, hj]
        rcases hd.uncons with ⟨hn, _⟩ | ⟨p', e, t', hp', he, hrest, rfl⟩
        · rw [hp] at hn; cases hn
        · rw [hp] at hp'
          cases hp'
          refine wpAny_holding (he P w _ _ ?_)
          cases e with
          | false => exact wpAny_pure (wpAny_pure q')
          | true =>
            refine wpAny_bind (wpAny_dictEpoch g1 d1 ?_)
            rw [if_neg (by simp)]
            exact wpAny_pure ⟨rfl, rfl, x + 1, hl', lt, by simpa using hrest⟩
    · rintro r s' ⟨rfl, rfl, i, hl, hi, hd⟩
      have := range_last hl hi
      subst this
      rw [z1, List.drop_length] at hd
      cases hd
      exact wpAny_pure q'
  · have hb : (u1.size == u2.size) = false := by simpa using hz
    rw [hb, Bool.false_and] at q
    rw [if_pos (by simpa using hz)]
    exact wpAny_bind (wpAny_rule (wpAny_pure q))
end

/-! ### from trees to what stands in the heap -/
section
variable {X : Cx} {Cs : Gm} {E : XK} {pins : List (Addr × Obj)} {σ : L2.St} {F H : Hp} {s : Shared}
mutual
theorem Rep.nested (I : Inv X pins σ H s) (sub : Same F H) : ∀ {v : V} {d : D} {k : NestedKey} {u : Value}, Rep X.K Cs F v d → d.nk = some k → RelV v u → NestedIs s.heap k u
  | _, _, _, _, .non, h, r => by simp only [D.nk, Option.some.injEq] at h; subst h; cases r; exact .none
  | _, _, _, _, .bl b, h, r => by simp only [D.nk, Option.some.injEq] at h; subst h; cases r; exact .bool rfl
  | _, _, _, _, .int i, h, r => by simp only [D.nk, Option.some.injEq] at h; subst h; obtain ⟨t, rfl⟩ := r; exact .int _ _
  | _, _, _, _, .str x, h, r => by simp only [D.nk, Option.some.injEq] at h; subst h; obtain ⟨t, rfl⟩ := r; exact .text _ _
  | _, _, _, _, .tup q rs, h, r => by
    simp only [D.nk, Option.map_eq_some_iff] at h
    obtain ⟨ks, h1, rfl⟩ := h
    cases r
    obtain ⟨its, rv, ⟨o, ho, hc, n, hd⟩, _⟩ := I.tuple (sqT_mono sub q)
    exact .tup ho hc hd (Reps.nested I sub rs h1 rv)
  | _, _, _, _, .lst _ _, h, _ => by simp [D.nk] at h
  | _, _, _, _, .ins _ _, h, _ => by simp [D.nk] at h
  | _, _, _, _, .dct _ _ _, h, _ => by simp [D.nk] at h
theorem Reps.nested (I : Inv X pins σ H s) (sub : Same F H) : ∀ {vs : List V} {ds : List D} {ks : List NestedKey} {us : List Value}, Reps X.K Cs F vs ds → nkAll ds = some ks → Vals vs us → NestedAll s.heap ks us
  | _, _, _, _, .nil, h, r => by
    simp only [nkAll, Option.some.injEq] at h
    subst h
    cases r
    exact .nil
  | _, _, _, _, .cons (d := d) (ds := ds) q t, h, r => by
    simp only [nkAll] at h
    cases h1 : d.nk with
    | none => rw [h1] at h; simp at h
    | some k =>
      cases h2 : nkAll ds with
      | none => rw [h1, h2] at h; simp at h
      | some ks =>
        rw [h1, h2] at h
        simp only [Option.some.injEq] at h
        subst h
        cases r with
        | cons r1 r2 => exact .cons (Rep.nested I sub q h1 r1) (Reps.nested I sub t h2 r2)
end
theorem key_nk {d : D} {k : NestedKey} (h : d.key = some k) : d.nk = some k ∧ k.depth ≤ 8 := by
  cases d with
  | tup xs =>
    simp only [D.key] at h
    cases q : (D.tup xs).nk with
    | none => rw [q] at h; simp at h
    | some k' =>
      rw [q] at h
      dsimp only at h
      by_cases hd : k'.depth ≤ 8
      · rw [if_pos hd] at h; cases h; exact ⟨rfl, hd⟩
      · rw [if_neg hd] at h; cases h
  | _ => simp [D.key] at h
theorem RepK.keys (I : Inv X pins σ H s) (sub : Same F H) : ∀ {xs : List KX} {kvs : List (D × D)}, RepK X.K Cs F xs kvs → ∀ x ∈ xs, (nestedKind X.prog X.w).is s.heap x.1 x.2.1
  | _, _, .nil, x, hx => by cases hx
  | _, _, .cons h1 h2 h3 h4 t, x, hx => by
    rcases List.mem_cons.mp hx with rfl | hx
    · exact ⟨Rep.nested I sub h2 (key_nk h1).1 rfl, (key_nk h1).2⟩
    · exact RepK.keys I sub t x hx
theorem RepK.length : ∀ {xs : List KX} {kvs : List (D × D)}, RepK X.K Cs F xs kvs → xs.length = kvs.length
  | _, _, .nil => rfl
  | _, _, .cons _ _ _ _ t => by simp [RepK.length t]
/-- a tracked dict as the library tells it -/
theorem dx_of (hw : Cs.w = X.w) (I : Inv X pins σ H s) (sub : Same F H) {a : Addr} {xs : List KX} {kvs : List (D × D)} (ha : H a = some (.ext (DxAt Cs.w a xs))) (hn : (xs.map (·.1)).Nodup) (r : RepK X.K Cs F xs kvs) :
    (a == sysModules) = false ∧ xs.length ≤ sizeLine ∧ s.heap.DictOfH (nestedKind X.prog X.w) a xs := by
  obtain ⟨h1, h2, o, es, ep, ho, hc, hd, he⟩ := (I.hok a _ ha).1
  refine ⟨h1, h2, o, es, ep, ho, hc, hd, ?_, RepK.keys I sub r, hn⟩
  rw [he, hw]
  rfl
theorem dx_obj {P : Program} {w w' : World} (hw : w' = w) {G : Hp} {h : Heap} {a : Addr} {xs : List KX} (na : (a == sysModules) = false) (hl : xs.length ≤ sizeLine) (hd : h.DictOfH (nestedKind P w) a xs) : ObjOk P w G h a (.ext (DxAt w' a xs)) := by
  subst hw
  obtain ⟨o, es, ep, ho, hc, hdat, he, _, _⟩ := hd
  refine ⟨⟨na, hl, o, es, ep, ho, hc, hdat, he⟩, ⟨o, ho⟩, fun h1 h2 p k => ?_⟩
  obtain ⟨z1, z2, o', es', ep', z3, z4⟩ := p
  exact ⟨z1, z2, o', es', ep', k _ z3, z4⟩

/-! ### a new one -/
/-- {} -/
theorem so_dct0 (hw : Cs.w = X.w) {pos : Pos} : SO X Cs E (.Dict [] [] pos) (vC (.dct [])) := by
  refine ⟨fun _ H Q => ∀ p, H p = none → Q (.ref p) (upd H p (.ext (DxAt Cs.w p []))), ⟨fun pins s σ H Q I h => ?_⟩, fun F0 H0 ρ F σ H Q S w p hp => ?_⟩
  · have na : (s.heap.objs.size == sysModules) = false := beq_eq_false_iff_ne.mpr (Ne.symm (Nat.ne_of_lt I.big))
    refine wpAny_Dict_empty ⟨.ref s.heap.objs.size, _, I.laid (t' := s.toks) (fun _ _ q => Heap.get?_push_of_some _ q) (Nat.le_refl _) ?_, rfl, h _ (I.hok.fresh (Nat.le_refl _))⟩
    exact dx_obj hw na (Nat.zero_le _) (Heap.DictOfH.new s.heap)
  · exact (show ∀ a F' H', Ext F H F' H' → OwnAt X.K Cs H F' H' a (.dct []) → Q (.ref a) H' from w) p F _ (Ext.grow S.sub hp) ⟨hp, S.sub.free hp, [], upd_same, by simp, .nil⟩
end

/-! ### stored into -/
def dGet (k : D) (kvs : List (D × D)) : Option D := (kvs.find? fun p => decide (p.1.key = k.key)).map (·.2)
def dPut (k v : D) (kvs : List (D × D)) : List (D × D) := if (dGet k kvs).isSome then kvs.map fun p => if p.1.key = k.key then (p.1, v) else p else kvs ++ [(k, v)]
section
variable {X : Cx} {Cs : Gm} {E : XK} {F H : Hp}
theorem RepK.look {dk : D} {k : NestedKey} (hk : dk.key = some k) : ∀ {xs : List KX} {kvs : List (D × D)}, RepK X.K Cs F xs kvs →
    (dGet dk kvs = none ∧ atKey xs k = none) ∨ ∃ dv b u v, dGet dk kvs = some dv ∧ atKey xs k = some (b, u) ∧ RelV v u ∧ Rep X.K Cs F v dv
  | _, _, .nil => .inl ⟨rfl, rfl⟩
  | _, _, .cons (k := k') (b := b') (u := u') (v := v') (dk := dk') (dv := d') (xs := xs') (kvs := kvs') h1 h2 h3 h4 t => by
    by_cases e : k' = k
    · subst e
      refine .inr ⟨d', b', u', v', ?_, ?_, h3, h4⟩
      · simp [dGet, List.find?_cons, h1, hk]
      · simp [atKey, List.find?_cons]
    · have e1 : dGet dk ((dk', d') :: kvs') = dGet dk kvs' := by
        have : ¬ dk'.key = dk.key := by rw [h1, hk]; simpa using e
        simp [dGet, List.find?_cons, this]
      have e2 : atKey ((k', b', u') :: xs') k = atKey xs' k := by simp [atKey, List.find?_cons, e]
      rw [e1, e2]
      exact RepK.look hk t
theorem RepK.over {dk dv : D} {k : NestedKey} {u : Value} {v : V} (hk : dk.key = some k) (rv : RelV v u) (rd : Rep X.K Cs F v dv) : ∀ {xs : List KX} {kvs : List (D × D)}, RepK X.K Cs F xs kvs →
    RepK X.K Cs F (xs.map (putAt k u)) (kvs.map fun p => if p.1.key = dk.key then (p.1, dv) else p)
  | _, _, .nil => .nil
  | _, _, .cons (k := k') (dk := dk') h1 h2 h3 h4 t => by
    rw [List.map_cons, List.map_cons]
    by_cases e : k' = k
    · subst e
      rw [putAt, if_pos rfl, if_pos (by rw [h1, hk])]
      exact .cons h1 h2 rv rd (RepK.over hk rv rd t)
    · rw [putAt, if_neg e, if_neg (by rw [h1, hk]; simpa using e)]
      exact .cons h1 h2 h3 h4 (RepK.over hk rv rd t)
theorem RepK.snoc : ∀ {xs ys : List KX} {kvs lvs : List (D × D)}, RepK X.K Cs F xs kvs → RepK X.K Cs F ys lvs → RepK X.K Cs F (xs ++ ys) (kvs ++ lvs)
  | _, _, _, _, .nil, r => r
  | _, _, _, _, .cons h1 h2 h3 h4 t, r => .cons h1 h2 h3 h4 (RepK.snoc t r)
theorem RepK.put {dk dv : D} {k : NestedKey} {b : Addr} {u : Value} {v : V} {xs : List KX} {kvs : List (D × D)} (r : RepK X.K Cs F xs kvs) (hk : dk.key = some k) (rk : Rep X.K Cs F (.ref b) dk) (rv : RelV v u) (rd : Rep X.K Cs F v dv) :
    RepK X.K Cs F (storedH xs k b u) (dPut dk dv kvs) := by
  unfold storedH dPut
  rcases RepK.look hk r with ⟨e1, e2⟩ | ⟨_, _, _, _, e1, e2, _, _⟩
  · rw [e1, e2]
    exact RepK.snoc r (.cons hk rk rv rd .nil)
  · rw [e1, e2]
    exact RepK.over hk rv rd r
theorem storedH_len {xs : List KX} {k : NestedKey} {b : Addr} {u : Value} : (storedH xs k b u).length ≤ xs.length + 1 := by
  unfold storedH
  split <;> simp
/-- d[k] = v, by values -/
def rPutX (X : Cx) (Cs : Gm) : TSet := fun o i v H Q => ∃ (a b : Addr) (F : Hp) (xs : List KX) (kvs : List (D × D)) (k : NestedKey) (dk dv : D), o = .ref a ∧ i = .ref b ∧ Same F H ∧ F a = none ∧ H a = some (.ext (DxAt Cs.w a xs)) ∧ (xs.map (·.1)).Nodup ∧ RepK X.K Cs F xs kvs ∧
  dk.key = some k ∧ Rep X.K Cs F (.ref b) dk ∧ Rep X.K Cs F v dv ∧ kvs.length ≤ 1000000 ∧ ∀ ys, (ys.map (·.1)).Nodup → RepK X.K Cs F ys (dPut dk dv kvs) → Q (upd H a (.ext (DxAt Cs.w a ys)))
theorem set_dictX (hw : Cs.w = X.w) (hu : X.A.units + 64 < cLine) : PSet X (rPutX X Cs) := by
  intro pins s σ H o i v ov iv u Q I ro ri rv h
  obtain ⟨a, b, F, xs, kvs, k, dk, dv, rfl, rfl, sub, fa, ha, hn, r, hk, rk, rd, hl, q⟩ := h
  cases ro
  cases ri
  obtain ⟨na, hz, hd⟩ := dx_of hw I sub ha hn r
  have hkey : (nestedKind X.prog X.w).is s.heap k b := ⟨Rep.nested I sub rk (key_nk hk).1 rfl, (key_nk hk).2⟩
  have room : (nestedKind X.prog X.w).room X.A.in1 := show X.A.units + 1 + 8 < cLine by omega
  have hl' := r.length
  refine wpAny_setItem_heap (hsz := by rw [sizeLine_eq]; omega) room hkey hd fun h' hd' sb => ?_
  have hn' : ((storedH xs k b u).map (·.1)).Nodup := by
    obtain ⟨_, _, _, _, _, _, _, _, z⟩ := hd'
    exact z
  have ex : ∃ o, h'.get? a = some o := by
    obtain ⟨o, _, _, ho, _⟩ := hd'
    exact ⟨o, ho⟩
  have hlen := storedH_len (xs := xs) (k := k) (b := b) (u := u)
  refine ⟨_, I.write (e := a) (t' := s.toks + (nestedKind X.prog X.w).draws k) (by rw [ha]; trivial) (.inl rfl) (fun c o hc ho => (sb.2 c hc).trans ho) ex (dx_obj hw na (by rw [sizeLine_eq]; omega) hd'), q _ hn' (r.put hk rk rv rd)⟩
/-- d[k] = e, d a dict that this body alone holds -/
def bPutX (i : Nat) (mk m : Fr0 → R D) : Fr0 → R Out := fun ρ => match ρ[i]? with
  | some (.own b (.dct kvs)) => (m ρ).bind fun d => (mk ρ).bind fun k => if k.key.isSome ∧ kvs.length ≤ 1000000 then .ok (.nx (ρ.set i (.own b (.dct (dPut k d kvs))))) else .stuck
  | _ => .stuck
variable {o : Bool} {e : Expr} {m : Fr0 → R D} {pos : Pos}
theorem ss_putX (i : Nat) (hw : Cs.w = X.w) (hu : X.A.units + 64 < cLine) {x : Str} {p tpos : Pos} {ik : Expr} {mk : Fr0 → R D} (he : SE X Cs E e m) (hk : SE X Cs E ik mk) (hN : X.N[i]? = some x := by rfl) (hv : Vis X.env.scope x := by first | exact Or.inl rfl | exact Or.inr (Or.inl rfl) | exact Or.inr (Or.inr rfl)) (hd : (x == ("__debug__" : Str)) = false := by decide)
    (hcd : (x == ("__classdict__" : Str)) = false := by decide) (ha : ∀ v, assign (.Subscript (.Name x p) ik tpos) X.env v = (do
      let ov ← holding [v] (eval (.Name x p) X.env)
      let iv ← holding [v, ov] (eval ik X.env)
      standAt tpos
      holding [v, ov, iv] (setItem ov iv v)
      release [v, ov, iv] []) := by intro _; rfl) (hs : swapsWithSole [.Subscript (.Name x p) ik tpos] e pos.line X.env = pure false := by rfl) (hw' : swappedStores [.Subscript (.Name x p) ik tpos] e X.env = pure none := by rfl)
    (h1 : (assignEach [.Subscript (.Name x p) ik tpos] X.env).map (·.2) = [assign (.Subscript (.Name x p) ik tpos) X.env] := by rfl) : SS X Cs E o (.Assign [.Subscript (.Name x p) ik tpos] e pos) (bPutX i mk m) := by
  obtain ⟨t, pp, q⟩ := he
  obtain ⟨tk, pk, qk⟩ := hk
  refine ⟨_, ps_asg pp (pg_sub (pe_var hN hv hd hcd) pk (set_dictX hw hu) ha) hs hw' h1, fun F0 H0 ρ F σ H D0 S w => ?_⟩
  unfold bPutX at w
  split at w
  case h_2 => exact w.elim
  case h_1 bb kvs h =>
    obtain ⟨a, h1, _, h2⟩ := S.slots i _ h
    obtain ⟨a0, af, xs, hxs, hn, rk⟩ := id h2
    refine q _ _ _ _ _ _ _ S (WpS.ex S.ext w fun v d F1 H1 e1 rv w1 => ⟨.ref a, h1, qk _ _ _ _ _ _ _ (S.go e1) (WpS.ex (S.go e1).ext w1 fun kv kd F2 H2 e2 rkd w2 => ?_)⟩)
    have e12 := e1.trans e2
    by_cases hl : kd.key.isSome ∧ kvs.length ≤ 1000000
    · rw [if_pos hl] at w2
      obtain ⟨hkk, hl⟩ := hl
      obtain ⟨k, hkk⟩ := Option.isSome_iff_exists.mp hkk
      have hu1 := e12.hh.get hxs
      have af1 := Ext.no e12 af hxs
      have ll := rk.length
      obtain ⟨b, rfl⟩ : ∃ b, kv = V.ref b := by
        cases rkd with
        | tup _ _ => exact ⟨_, rfl⟩
        | _ => simp [D.key] at hkk
      refine ⟨a, b, F2, xs, kvs, k, kd, d, rfl, rfl, e2.sub, af1, hu1, hn, rk.mono e12.ff, hkk, rkd, rv.mono e2.ff, hl, fun ys hny ry => ?_⟩
      refine (show ∀ F' σ' H', Same F2 F' → Sim X.K Cs F0 H0 (ρ.set i (.own bb (.dct (dPut kd d kvs)))) F' σ' H' → D0.nx σ' H' from w2) F2 σ _ (Same.refl _) ?_
      exact (S.go e12).mut h h1 (h2.go e12) ⟨a0, af1, ys, upd_same, hny, ry⟩
    · rw [if_neg hl] at w2; exact w2.elim
end
end VM
end
section
set_option Elab.async false
set_option linter.all false
set_option maxRecDepth 100000
set_option autoImplicit false
/-! VM12: == with dicts. -/
namespace VM
open PySem PySem.Spec L2
/-- the entries, looked up in ys -/
def eqEnts (ys : List (D × D)) : List (D × D) → Option Bool
  | [] => some true
  | (k, v) :: r => match dGet k ys with
    | none => some false
    | some v' => match v.pd, v'.pd with
      | some p, some q => if SeqAt.shaped p && SeqAt.shaped q then (eqEnts ys r).map (PyData.eqv p q && ·) else none
      | _, _ => none
def dctEq (xs ys : List (D × D)) : Option Bool := if xs.length = ys.length then eqEnts ys xs else some false
def D.dc : D → Option (List (D × D))
  | .dct xs => some xs
  | _ => none
def oEqA : D → D → R D := fun x y => match x.dc, y.dc with
  | some xs, some ys => (match dctEq xs ys with | some b => .ok (.bl b) | none => .stuck)
  | _, _ => oEq x y
def oNeA : D → D → R D := fun x y => match x.dc, y.dc with
  | some xs, some ys => (match dctEq xs ys with | some b => .ok (.bl (!b)) | none => .stuck)
  | _, _ => oNe x y
section
variable {X : Cx} {Cs : Gm} {E : XK} {pins : List (Addr × Obj)} {σ : L2.St} {F H : Hp} {s : Shared}
theorem at_of (I : Inv X pins σ H s) (hu : X.A.units + 66 < cLine) {v y : V} {d e : D} {p q : PyData} {u z : Value} (rv : Rep X.K Cs H v d) (ry : Rep X.K Cs H y e) (h1 : d.pd = some p) (h2 : e.pd = some q) (s1 : SeqAt.shaped p = true) (s2 : SeqAt.shaped q = true) (r1 : RelV v u) (r2 : RelV y z) :
    SeqAt.EqAt X.A.in1 s u z (PyData.eqv p q) := by
  obtain ⟨as, q1⟩ := Dp.reads I p v u (rv.dp h1) r1
  obtain ⟨bs, q2⟩ := Dp.reads I q y z (ry.dp h2) r2
  have hu' : X.A.in1.units + 64 < cLine := show X.A.units + 1 + 64 < cLine by omega
  exact SeqAt.eqAt_reads p q X.A.in1 s u z as bs q1 q2 (SeqAt.canLay_of_shaped s1) (SeqAt.canLay_of_shaped s2) (SeqAt.room_of_shaped s1 hu')
theorem hits_of (I : Inv X pins σ H s) (hu : X.A.units + 66 < cLine) {ys : List KX} {ls : List (D × D)} (ry : RepK X.K Cs H ys ls) : ∀ {xs : List KX} {kvs : List (D × D)} {b : Bool}, RepK X.K Cs H xs kvs → eqEnts ls kvs = some b → Hit X.A.in1 s ys xs b
  | _, _, _, .nil, h => by simp only [eqEnts, Option.some.injEq] at h; subst h; exact .nil
  | _, _, b, .cons (k := k') (b := b') (u := u') (v := v') (dk := dk') (dv := d') (xs := xs') (kvs := kvs') h1 h2 h3 h4 t, h => by
    simp only [eqEnts] at h
    rcases RepK.look h1 ry with ⟨e1, e2⟩ | ⟨dv, b2, u, v, e1, e2, rv, rd⟩
    · rw [e1] at h
      simp only [Option.some.injEq] at h
      subst h
      exact .miss e2
    · rw [e1] at h
      dsimp only at h
      cases q1 : d'.pd with
      | none => rw [q1] at h; simp at h
      | some p =>
        cases q2 : dv.pd with
        | none => rw [q1, q2] at h; simp at h
        | some q =>
          rw [q1, q2] at h
          dsimp only at h
          by_cases hs : (SeqAt.shaped p && SeqAt.shaped q) = true
          · rw [if_pos hs] at h
            obtain ⟨b1, hb, rfl⟩ := Option.map_eq_some_iff.mp h
            simp only [Bool.and_eq_true] at hs
            exact .hit (p := (b2, u)) e2 (at_of I hu h4 rd q1 q2 hs.1 hs.2 h3 rv) (hits_of I hu ry t hb)
          · rw [if_neg hs] at h; cases h
/-- two dicts, by values -/
structure TwoD (X : Cx) (Cs : Gm) (H : Hp) (a b : Addr) (t : Bool) : Prop where
  ex : ∃ xs ys ks ls, H a = some (.ext (DxAt Cs.w a xs)) ∧ (xs.map (·.1)).Nodup ∧ RepK X.K Cs H xs ks ∧ H b = some (.ext (DxAt Cs.w b ys)) ∧ (ys.map (·.1)).Nodup ∧ RepK X.K Cs H ys ls ∧ dctEq ks ls = some t
theorem TwoD.run {a b : Addr} {t : Bool} (h : TwoD X Cs H a b t) (hw : Cs.w = X.w) (I : Inv X pins σ H s) (hu : X.A.units + 66 < cLine) : ∃ xs ys r, s.heap.DictOfH (nestedKind X.prog X.w) a xs ∧ s.heap.DictOfH (nestedKind X.prog X.w) b ys ∧ (a == sysModules) = false ∧ (b == sysModules) = false ∧
    (xs.length = ys.length → Hit X.A.in1 s ys xs r) ∧ (xs.length == ys.length && r) = t := by
  obtain ⟨xs, ys, ks, ls, h1, h2, h3, h4, h5, h6, h7⟩ := h.ex
  obtain ⟨na, _, d1⟩ := dx_of hw I (Same.refl _) h1 h2 h3
  obtain ⟨nb, _, d2⟩ := dx_of hw I (Same.refl _) h4 h5 h6
  have l1 := h3.length
  have l2 := h6.length
  unfold dctEq at h7
  by_cases hl : ks.length = ls.length
  · rw [if_pos hl] at h7
    exact ⟨xs, ys, t, d1, d2, na, nb, fun _ => hits_of I hu h6 h3 h7, by simp [l1, l2, hl]⟩
  · rw [if_neg hl] at h7
    cases h7
    refine ⟨xs, ys, true, d1, d2, na, nb, fun e => absurd (by omega) hl, ?_⟩
    have : (xs.length == ys.length) = false := by simpa [l1, l2] using hl
    rw [this]
    rfl
def rEqA (X : Cx) (Cs : Gm) : R2 := fun x y H Q => rEqD X.K x y H Q ∨ ∃ a b t, x = .ref a ∧ y = .ref b ∧ TwoD X Cs H a b t ∧ Q (.bl t) H
def rNeA (X : Cx) (Cs : Gm) : R2 := fun x y H Q => rNeD X.K x y H Q ∨ ∃ a b t, x = .ref a ∧ y = .ref b ∧ TwoD X Cs H a b t ∧ Q (.bl (!t)) H
theorem op_eqA (hw : Cs.w = X.w) (hu : X.A.units + 128 < cLine) : OpR X (compareOp .Eq) (rEqA X Cs) := by
  intro pins s σ H x y v u Q I rx ry h
  rcases h with h | ⟨a, b, t, rfl, rfl, h, q⟩
  · exact op_eqD (by omega) pins s σ H x y v u Q I rx ry h
  cases rx
  cases ry
  obtain ⟨xs, ys, r, d1, d2, na, nb, hits, e⟩ := h.run hw I (by omega)
  refine wpAny_richCompare_same_room (op := .Eq) d1.typeIs d2.typeIs PySem.F.slot_dict_eq (wpAny_call_entry PySem.F.slot_dict_eq d1.typeIs PySem.F.entry_dict_eq ?_ (PySem.F.args_dict_eq_2 _ _)) (by omega)
  change wpAny _ _ (Builtin.Dict.dictSlotArgs "__eq__" _ >>= _) _ _ _
  unfold Builtin.Dict.dictSlotArgs
  refine wpAny_bind (wpAny_bind (wpAny_notOrdered_dict d1.typeIs ?_))
  change wpAny _ _ (pure (Value.ref a, Value.ref b)) _ _ _
  refine wpAny_pure (wpAny_bind (wpAny_isInstance (T := "dict") d2.typeIs PySem.F.sub_dict_dict ?_))
  simp only [Bool.not_true, Bool.false_eq_true, if_false]
  refine wpAny_bind (wpAny_pure (wpAny_bind (wpAny_pure (wpAny_bind (pairs_heap na nb (show X.A.units + 1 + 8 < cLine by omega) d1 d2 hits ?_)))))
  rw [e]
  refine wpAny_pure ⟨_, rfl, (fun z => nomatch z), ?_⟩
  exact ⟨.bl t, H, I, by cases t <;> rfl, q⟩
theorem op_neA (hw : Cs.w = X.w) (hu : X.A.units + 128 < cLine) : OpR X (compareOp .NotEq) (rNeA X Cs) := by
  intro pins s σ H x y v u Q I rx ry h
  rcases h with h | ⟨a, b, t, rfl, rfl, h, q⟩
  · exact op_neD (by omega) pins s σ H x y v u Q I rx ry h
  cases rx
  cases ry
  obtain ⟨xs, ys, r, d1, d2, na, nb, hits, e⟩ := h.run hw I (by omega)
  refine wpAny_richCompare_same_room (op := .NotEq) d1.typeIs d2.typeIs PySem.F.slot_dict_ne (wpAny_call_entry PySem.F.slot_dict_ne d1.typeIs PySem.F.entry_dict_ne ?_ (PySem.F.args_dict_ne_2 _ _)) (by omega)
  change wpAny _ _ (Builtin.Dict.dictSlotArgs "__ne__" _ >>= _) _ _ _
  unfold Builtin.Dict.dictSlotArgs
  refine wpAny_bind (wpAny_bind (wpAny_notOrdered_dict d1.typeIs ?_))
  change wpAny _ _ (pure (Value.ref a, Value.ref b)) _ _ _
  refine wpAny_pure (wpAny_bind (wpAny_isInstance (T := "dict") d2.typeIs PySem.F.sub_dict_dict ?_))
  simp only [Bool.not_true, Bool.false_eq_true, if_false]
  refine wpAny_bind (wpAny_pure (wpAny_bind (wpAny_pure (wpAny_bind (pairs_heap na nb (show X.A.units + 1 + 8 < cLine by omega) d1 d2 hits ?_)))))
  rw [e]
  refine wpAny_pure ⟨_, rfl, (fun z => nomatch z), ?_⟩
  exact ⟨.bl (!t), H, I, by cases t <;> rfl, q⟩
theorem dc_dct {d : D} {xs : List (D × D)} (h : d.dc = some xs) : d = .dct xs := by
  cases d with
  | dct ys => cases h; rfl
  | _ => cases h
theorem two_of {x y : V} {xs ys : List (D × D)} {b : Bool} (sub : Same F H) (rx : Rep X.K Cs F x (.dct xs)) (ry : Rep X.K Cs F y (.dct ys)) (h : dctEq xs ys = some b) : ∃ p q, x = .ref p ∧ y = .ref q ∧ TwoD X Cs H p q b := by
  cases rx with
  | dct f1 n1 k1 =>
    cases ry with
    | dct f2 n2 k2 => exact ⟨_, _, rfl, rfl, ⟨_, _, _, _, sub _ _ f1, n1, k1.mono sub, sub _ _ f2, n2, k2.mono sub, h⟩⟩
theorem okEqA : OpOk X Cs E (rEqA X Cs) oEqA := by
  intro F H x y dx dy Q s rx ry w
  unfold oEqA at w
  split at w
  case h_1 xs ys h1 h2 =>
    cases dc_dct h1
    cases dc_dct h2
    cases hb : dctEq xs ys with
    | none => rw [hb] at w; exact w.elim
    | some b =>
      rw [hb] at w
      obtain ⟨p, q, rfl, rfl, t⟩ := two_of s rx ry hb
      exact .inr ⟨p, q, b, rfl, rfl, t, Wp.bl w s⟩
  case h_2 => exact .inl (opOk_eq F H x y dx dy Q s rx ry w)
theorem okNeA : OpOk X Cs E (rNeA X Cs) oNeA := by
  intro F H x y dx dy Q s rx ry w
  unfold oNeA at w
  split at w
  case h_1 xs ys h1 h2 =>
    cases dc_dct h1
    cases dc_dct h2
    cases hb : dctEq xs ys with
    | none => rw [hb] at w; exact w.elim
    | some b =>
      rw [hb] at w
      obtain ⟨p, q, rfl, rfl, t⟩ := two_of s rx ry hb
      exact .inr ⟨p, q, b, rfl, rfl, t, Wp.bl w s⟩
  case h_2 => exact .inl (opOk_ne F H x y dx dy Q s rx ry w)
end
end VM
end
section
set_option Elab.async false
set_option linter.all false
set_option maxRecDepth 100000
set_option autoImplicit false
/-! VM13: comprehensions with two fors. -/
namespace VM
open PySem PySem.Spec L2
theorem R.bind_eq {α β : Type} {r : R α} {f : α → R β} {b : β} (h : r.bind f = .ok b) : ∃ a, r = .ok a ∧ f a = .ok b := by
  cases r with
  | ok a => exact ⟨a, rfl, h⟩
  | exc _ _ => cases h
  | stuck => cases h
theorem noExc_ok {α β : Type} {r : R α} {f : α → R β} {p : β → Prop} {e : Nat → List (Str × D) → Prop} (h : ((noExc r).bind f).Sat p e) : ∃ a, r = .ok a ∧ (f a).Sat p e := by
  cases r with
  | ok a => exact ⟨a, rfl, h⟩
  | exc _ _ => exact h.elim
  | stuck => exact h.elim
def Slot.isOwn : Option Slot → Bool
  | some (.own _ _) => true
  | _ => false
/-- what is own in ρ1 was so in ρ, and is no name of the block -/
def ownSub (vs : List Nat) (ρ ρ1 : Fr0) : Bool := (List.range ρ1.length).all fun j => !Slot.isOwn ρ1[j]? || (Slot.isOwn ρ[j]? && !vs.contains j)
theorem ownSub_at {vs : List Nat} {ρ ρ1 : Fr0} (h : ownSub vs ρ ρ1 = true) {j : Nat} {b : Bool} {e : D} (hj : ρ1[j]? = some (.own b e)) : (∃ b' e', ρ[j]? = some (.own b' e')) ∧ j ∉ vs := by
  have hl : j < ρ1.length := (List.getElem?_eq_some_iff.mp hj).1
  have := List.all_eq_true.mp h j (List.mem_range.mpr hl)
  rw [hj] at this
  simp only [Slot.isOwn, Bool.not_true, Bool.false_or, Bool.and_eq_true] at this
  obtain ⟨h1, h2⟩ := this
  refine ⟨?_, by simpa using h2⟩
  cases q : ρ[j]? with
  | none => rw [q] at h1; cases h1
  | some s =>
    rw [q] at h1
    cases s with
    | own b' e' => exact ⟨b', e', rfl⟩
    | none => cases h1
    | frz d => cases h1
def c2L (f : D → R (List D)) : List D → R (List D)
  | [] => .ok []
  | d :: ds => (f d).bind fun xs => (c2L f ds).bind fun ys => .ok (xs ++ ys)
def c2Turn (vs vs1 : List Nat) (g : D → Fr0 → R Fr0) (nt : Fr0 → R Bool) (mi1 : Fr0 → R (List D)) (g1 : D → Fr0 → R Fr0) (nt1 : Fr0 → R Bool) (me : Fr0 → R D) (ρ : Fr0) : D → R (List D) := fun d => (g d (wipeR ρ vs)).bind fun ρ1 =>
  if ownSub vs ρ ρ1 then (nt ρ1).bind fun k => if k then (mi1 ρ1).bind fun es => compL (cTurn g1 nt1 me (wipeR ρ1 vs1)) es else .ok [] else .stuck
def vComp2 (vs vs1 : List Nat) (mi : Fr0 → R (List D)) (g : D → Fr0 → R Fr0) (nt : Fr0 → R Bool) (mi1 : Fr0 → R (List D)) (g1 : D → Fr0 → R Fr0) (nt1 : Fr0 → R Bool) (me : Fr0 → R D) : Fr0 → R D := fun ρ => (mi ρ).bind fun ds =>
  (noExc (c2L (c2Turn vs vs1 g nt mi1 g1 nt1 me ρ) ds)).bind fun xs => if xs.length ≤ 1000000 then .ok (.lst xs) else .stuck
section
variable {K : PySem.W.Frag} {Cs : Gm} {F0 : Ent} {H0 F H : Hp} {ρ : Fr0} {σ : L2.St} {A : Addr}
theorem Sim.hide (S : Sim K Cs F0 H0 ρ F σ H) (nt : NotT H A) (h0 : H0 A = none) (hf : F A = none) (hn : ∀ (j : Nat) (b : Bool) (e : D), ρ[j]? = some (.own b e) → σ[j]? ≠ some (some (.ref A))) : Sim K Cs F0 H0 ρ F σ (del H A) := by
  refine ⟨⟨S.ext.hh.but h0 nt (fun b hb => del_ne hb), S.ext.ff, S.ext.nw, fun b x hb => ?_⟩, fun P hP => ⟨(S.tabs P hP).1.but nt (fun b hb => del_ne hb), (S.tabs P hP).2⟩, S.len, fun i s h => ?_, S.apart⟩
  · rw [del_ne (ne_of_none hb hf)]; exact S.ext.sub b x hb
  · have q := S.slots i s h
    cases s with
    | none => trivial
    | frz d => exact q
    | own b1 e =>
      obtain ⟨b, hb, by1, b0, bf, br⟩ := q
      have nab : b ≠ A := by
        rintro rfl
        exact hn i _ e h hb
      refine ⟨b, hb, by1, b0, bf, ?_⟩
      cases e with
      | lst ds => obtain ⟨vs, z1, z2⟩ := br; exact ⟨vs, by rw [del_ne nab]; exact z1, z2⟩
      | ins c gs => obtain ⟨dx, fs, z1, z2⟩ := br; exact ⟨dx, fs, by rw [del_ne nab]; exact z1, z2⟩
      | dct kvs => obtain ⟨xs, z1, zn, z2⟩ := br; exact ⟨xs, by rw [del_ne nab]; exact z1, zn, z2⟩
      | _ => exact br.elim
theorem del_some {b : Addr} {u : HO} (h : del H A b = some u) : H b = some u := by
  by_cases e : b = A
  · subst e; rw [del_same] at h; cases h
  · rw [del_ne e] at h; exact h
theorem Sim.unhide (S : Sim K Cs F0 H0 ρ F σ (del H A)) : Sim K Cs F0 H0 ρ F σ H := by
  refine ⟨⟨S.ext.hh.trans (Keep.of_same fun b x hb => del_some hb), S.ext.ff, S.ext.nw, fun b x hb => del_some (S.ext.sub b x hb)⟩, S.tabs.keep (Keep.of_same fun b x hb => del_some hb), S.len, fun i s h => ?_, S.apart⟩
  have q := S.slots i s h
  cases s with
  | none => trivial
  | frz d => exact q
  | own b1 e =>
    obtain ⟨b, hb, by1, b0, bf, br⟩ := q
    refine ⟨b, hb, by1, b0, bf, ?_⟩
    cases e with
    | lst ds => obtain ⟨vs, z1, z2⟩ := br; exact ⟨vs, del_some z1, z2⟩
    | ins c gs => obtain ⟨dx, fs, z1, z2⟩ := br; exact ⟨dx, fs, del_some z1, z2⟩
    | dct kvs => obtain ⟨xs, z1, zn, z2⟩ := br; exact ⟨xs, del_some z1, zn, z2⟩
    | _ => exact br.elim
/-- Ext, whatever stands at A -/
theorem Ext.hide {F' H' : Hp} (e : Ext F H F' H') (nt : NotT H' A) (hf : F' A = none) : Ext F (del H A) F' (del H' A) := by
  refine ⟨((Keep.of_same fun b x hb => del_some hb).trans e.hh).but del_same nt (fun b hb => del_ne hb), e.ff, fun b u hb => ?_, fun b u hb => ?_⟩
  · by_cases q : b = A
    · subst q; exact .inr del_same
    · rw [del_ne q]; exact e.nw b u hb
  · rw [del_ne (ne_of_none hb hf)]; exact e.sub b u hb
theorem del_upd {u : HO} : del (upd H A u) A = del H A := by
  funext b
  by_cases q : b = A
  · subst q; rw [del_same, del_same]
  · rw [del_ne q, del_ne q, upd_ne q]
end
section
variable {X : Cx} {Cs : Gm} {E : XK} {o : Bool} {e a b c tg iter elt tg1 iter1 : Expr} {es ifs ifs1 : List Expr} {m ma mb mc me : Fr0 → R D} {mr mi mi1 : Fr0 → R (List D)} {na nt nt1 : Fr0 → R Bool} {pos : Pos} {is is1 vs vs1 : List Nat} {g g1 : D → Fr0 → R Fr0}
theorem drop_at {ds : List D} {i : Nat} {d : D} (h : ds[i]? = some d) : ds.drop i = d :: ds.drop (i + 1) := by
  obtain ⟨hl, rfl⟩ := List.getElem?_eq_some_iff.mp h
  exact List.drop_eq_getElem_cons hl
/-- the inner loop: the list at A gets what it makes -/
theorem in_sem (hv1 : ∀ i ∈ is1, i ∈ vs1) {F0 : Ent} {H0 F1 H1 F3 H3 : Hp} {A : Addr} {ρ : Fr0} {σ : L2.St} {acc : List V} {xs ys : List D} {Nx : Hp → Prop} (hA : H1 A = none) (h0 : H0 A = none) (S : Sim X.K Cs F0 H0 ρ F3 σ H3)
    (hn : ∀ (j : Nat) (b : Bool) (e : D), ρ[j]? = some (.own b e) → σ[j]? ≠ some (some (.ref A))) (x3 : Ext F1 H1 F3 H3) (n3 : F3 A = none) (h3 : H3 A = some (.lst acc)) (r3 : Reps X.K Cs F3 acc xs) (hl : xs.length + ys.length ≤ 1000000)
    {es : List D} (hes : mi1 ρ = .ok es) (hys : compL (cTurn g1 nt1 me (wipeR ρ vs1)) es = .ok ys)
    (fin : ∀ F' H' us, Ext F1 H1 F' H' → F' A = none → H' A = some (.lst us) → Reps X.K Cs F' us (xs ++ ys) → Nx H') :
    tOfI X.K Cs mi1 σ H3 fun J1 H4 => ∃ W1 : Nat → Nat → Hp → Prop, (∃ m, W1 0 m H4) ∧ ∀ j k H, W1 j k H →
      (J1.stop j H ∧ Nx H) ∨ (J1.go j H ∧ ∃ Nx1 : Hp → Prop, (∀ H', Nx1 H' → ∃ k', k' < k ∧ W1 (j + 1) k' H') ∧ ∀ x H', J1.yld j H x H' → tOfG X.K Cs is1 g1 x (L2.wipe σ vs1) H' fun σ3 H5 => L2.wipe σ3 vs1 = L2.wipe σ vs1 ∧ tOfP X.K Cs nt1 σ3 H5 fun b H6 =>
        if b = true then tOfE X.K Cs me σ3 H6 fun y H7 => ∃ acc, H7 A = some (.lst acc) ∧ acc.length < sizeLine ∧ Nx1 (upd H7 A (.lst (acc ++ [y]))) else Nx1 H6) := by
  refine ⟨F0, H0, ρ, F3, S, ?_⟩
  rw [hes]
  intro J F4 H4 e4 wk
  have n4 := Ext.no e4 n3 h3
  have h4 := e4.hh.get h3
  have S4 : Sim X.K Cs F0 H0 ρ F4 σ (del H4 A) := (S.go e4).hide (.lst h4) h0 n4 hn
  have S4w := S4.wipe vs1
  generalize hf : cTurn g1 nt1 me (wipeR ρ vs1) = f at hys
  refine ⟨fun j k H => j ≤ es.length ∧ k = es.length - j ∧ ∃ F2 acc zs rest, Ext F1 H1 F2 H ∧ Ext F4 (del H4 A) F2 (del H A) ∧ F2 A = none ∧ H A = some (.lst acc) ∧ Reps X.K Cs F2 acc (xs ++ zs) ∧ compL f (es.drop j) = .ok rest ∧ zs ++ rest = ys,
    ⟨es.length, Nat.zero_le _, by simp, F4, acc, [], ys, x3.trans e4, Ext.refl S4.sub, n4, h4, by simpa using r3.mono e4.ff, by rw [List.drop_zero]; exact hys, rfl⟩, ?_⟩
  rintro j k H2 ⟨hj, rfl, F2, acc2, zs, rest, x2, y2, n2, h2, r2, w2, ey⟩
  by_cases hlt : j < es.length
  · refine .inr ⟨wk.goes j H2 hlt (y2.ff.trans x2.sub), fun H' => ∃ F2 acc zs rest, Ext F1 H1 F2 H' ∧ Ext F4 (del H4 A) F2 (del H' A) ∧ F2 A = none ∧ H' A = some (.lst acc) ∧ Reps X.K Cs F2 acc (xs ++ zs) ∧ compL f (es.drop (j + 1)) = .ok rest ∧ zs ++ rest = ys,
      fun H' p => ⟨es.length - (j + 1), by omega, hlt, rfl, p⟩, fun x H5 y => ?_⟩
    obtain ⟨F5, d, e5, hd, rx⟩ := wk.yields j F2 H2 x H5 y2.ff x2.sub hlt y
    rw [drop_at hd] at w2
    obtain ⟨od, hod, w3⟩ := R.bind_eq w2
    obtain ⟨rest', hrest, w4⟩ := R.bind_eq w3
    rw [← hf] at hod
    obtain ⟨ρ6, hg6, w5⟩ := R.bind_eq hod
    obtain ⟨k, hk, w6⟩ := R.bind_eq w5
    have n5 := Ext.no e5 n2 h2
    have h5 := e5.hh.get h2
    have y5 : Ext F4 (del H4 A) F5 (del H5 A) := y2.trans (e5.hide (.lst h5) n5)
    have S5 : Sim X.K Cs F0 H0 (wipeR ρ vs1) F5 (L2.wipe σ vs1) H5 := (S4w.go y5).unhide
    refine ⟨F0, H0, _, F5, d, S5, rx, ?_⟩
    rw [hg6]
    intro F6 σ6 H6 e6 S6 b6
    refine ⟨b6.wipe hv1, F0, H0, ρ6, F6, S6, ?_⟩
    rw [hk]
    intro F7 H7 e7
    have e27 : Ext F2 H2 F7 H7 := (e5.trans e6).trans e7
    have n7 := Ext.no e27 n2 h2
    have h7 := e27.hh.get h2
    cases k with
    | false =>
      rw [if_neg Bool.false_ne_true] at w6 ⊢
      cases w6
      injection w4 with w4
      have w4' : rest' = rest := w4
      exact ⟨F7, acc2, zs, rest', x2.trans e27, y2.trans (e27.hide (.lst h7) n7), n7, h7, r2.mono e27.ff, hrest, by rw [w4']; exact ey⟩
    | true =>
      rw [if_pos rfl] at w6 ⊢
      obtain ⟨dy, hdy, w7⟩ := R.bind_eq w6
      cases w7
      injection w4 with w4
      have w4 : dy :: rest' = rest := w4
      refine ⟨F0, H0, ρ6, F7, S6.go e7, ?_⟩
      rw [hdy]
      intro v F8 H8 e8 rv
      have e28 := e27.trans e8
      have n8 := Ext.no e28 n2 h2
      have h8 := e28.hh.get h2
      have ll := r2.length
      have el : zs.length + rest.length = ys.length := by rw [← ey, List.length_append]
      have er : rest.length = rest'.length + 1 := by rw [← w4]; rfl
      rw [List.length_append] at ll
      refine ⟨acc2, h8, by rw [sizeLine_eq]; omega, F8, acc2 ++ [v], zs ++ [dy], rest', ?_, by rw [del_upd]; exact y2.trans (e28.hide (.lst h8) n8), n8, upd_same, ?_, hrest, by rw [← ey, ← w4]; simp⟩
      · have x8 := x2.trans e28
        refine ⟨x8.hh.but hA (.lst h8) (fun b hb => upd_ne hb), x8.ff, x8.nw, fun b u hb => ?_⟩
        · rw [upd_ne (ne_of_none hb n8)]; exact x8.sub b u hb
      · rw [← List.append_assoc]
        exact (r2.mono e28.ff).append (.cons rv .nil)
  · have e : j = es.length := by omega
    subst e
    rw [List.drop_length] at w2
    cases w2
    rw [List.append_nil] at ey
    exact .inl ⟨wk.stops H2 (y2.ff.trans x2.sub), fin F2 H2 acc2 x2 n2 h2 (by rw [← ey]; exact r2)⟩
theorem lc2_sem {wi : TI} (qi : ∀ F0 H0 ρ F σ H (Rk : It → Hp → Prop), Sim X.K Cs F0 H0 ρ F σ H → (mi ρ).Sat (fun ds => ∀ J F' H', Ext F H F' H' → WalkD X.K Cs J ds F' → Rk J H') (ExW X.K Cs F H E) → wi σ H Rk)
    (hv : ∀ i ∈ is, i ∈ vs) (hv1 : ∀ i ∈ is1, i ∈ vs1) {F0 : Ent} {H0 F H : Hp} {ρ : Fr0} {σ : L2.St} {Q : VK} (S : Sim X.K Cs F0 H0 ρ F σ H) (w : WpO X.K Cs F H Q E (vComp2 vs vs1 mi g nt mi1 g1 nt1 me ρ)) :
    tLc2 wi (tOfG X.K Cs is g) (tOfP X.K Cs nt) (tOfI X.K Cs mi1) (tOfG X.K Cs is1 g1) (tOfP X.K Cs nt1) (tOfE X.K Cs me) vs vs1 σ H Q := by
  refine qi _ _ _ _ _ _ _ S (w.of_bind.mono (fun ds hd J F1 H1 e1 wk => ?_) fun _ _ z => z)
  obtain ⟨all, hall, hd⟩ := noExc_ok hd
  by_cases hlen : all.length ≤ 1000000
  case neg => rw [if_neg hlen] at hd; exact hd.elim
  rw [if_pos hlen] at hd
  intro A hA
  have fA : F1 A = none := e1.sub.free hA
  have h0 : H0 A = none := S.ext.hh.free (e1.hh.free hA)
  have S0 := S.go e1
  have S1 := S0.wipe vs
  generalize hf : c2Turn vs vs1 g nt mi1 g1 nt1 me ρ = f at hall
  refine ⟨fun i m H => i ≤ ds.length ∧ m = ds.length - i ∧ ∃ F2 acc xs rest, Ext F1 H1 F2 H ∧ F2 A = none ∧ H A = some (.lst acc) ∧ Reps X.K Cs F2 acc xs ∧ c2L f (ds.drop i) = .ok rest ∧ xs ++ rest = all,
    ⟨ds.length, Nat.zero_le _, by simp, F1, [], [], all, Ext.grow e1.sub hA, fA, upd_same, .nil, by rw [List.drop_zero]; exact hall, rfl⟩, ?_⟩
  rintro i m H2 ⟨hi, rfl, F2, acc, xs, rest, x2, n2, h2, r2, w2, ey⟩
  by_cases hlt : i < ds.length
  · refine .inr ⟨wk.goes i H2 hlt (x2.ff.trans x2.sub), fun H' => ∃ F2 acc xs rest, Ext F1 H1 F2 H' ∧ F2 A = none ∧ H' A = some (.lst acc) ∧ Reps X.K Cs F2 acc xs ∧ c2L f (ds.drop (i + 1)) = .ok rest ∧ xs ++ rest = all,
      fun H' p => ⟨ds.length - (i + 1), by omega, hlt, rfl, p⟩, fun x H3 y => ?_⟩
    obtain ⟨F3, d, e3, hd3, rx⟩ := wk.yields i F2 H2 x H3 x2.ff x2.sub hlt y
    rw [drop_at hd3] at w2
    obtain ⟨ys, hys, w3⟩ := R.bind_eq w2
    obtain ⟨rest', hrest, w4⟩ := R.bind_eq w3
    injection w4 with w4
    rw [← hf] at hys
    obtain ⟨ρ4, hg4, w5⟩ := R.bind_eq hys
    by_cases hos : ownSub vs ρ ρ4 = true
    case neg => rw [if_neg hos] at w5; cases w5
    rw [if_pos hos] at w5
    obtain ⟨k, hk, w6⟩ := R.bind_eq w5
    have S3 := S1.go (x2.trans e3)
    refine ⟨F0, H0, _, F3, d, S3, rx, ?_⟩
    rw [hg4]
    intro F4 σ4 H4 e4 S4 b4
    refine ⟨b4.wipe hv, F0, H0, ρ4, F4, S4, ?_⟩
    rw [hk]
    intro F5 H5 e5
    have e25 : Ext F2 H2 F5 H5 := (e3.trans e4).trans e5
    have n5 := Ext.no e25 n2 h2
    have h5 := e25.hh.get h2
    cases k with
    | false =>
      rw [if_neg Bool.false_ne_true] at w6 ⊢
      cases w6
      exact ⟨F5, acc, xs, rest', x2.trans e25, n5, h5, r2.mono e25.ff, hrest, by rw [← ey, ← w4]; rfl⟩
    | true =>
      rw [if_pos rfl] at w6 ⊢
      obtain ⟨es, hes, w7⟩ := R.bind_eq w6
      have hn : ∀ (j : Nat) (b : Bool) (e : D), ρ4[j]? = some (.own b e) → σ4[j]? ≠ some (some (.ref A)) := fun j b e hj hσ => by
        obtain ⟨⟨b', e', q⟩, hjv⟩ := ownSub_at hos hj
        have hσ' : σ[j]? = some (some (.ref A)) := by
          rw [← hσ, b4.at_ j fun z => hjv (hv j z), wipe_get, if_neg fun z => hjv z.1]
        obtain ⟨a, ha, _, _, _, br⟩ := S0.slots j _ q
        rw [hσ'] at ha
        cases ha
        cases e' with
        | lst ds => obtain ⟨vs, z1, _⟩ := br; rw [hA] at z1; cases z1
        | ins c gs => obtain ⟨dx, fs, z1, _⟩ := br; rw [hA] at z1; cases z1
        | dct kvs => obtain ⟨xs, z1, _⟩ := br; rw [hA] at z1; cases z1
        | _ => exact br.elim
      have hl : xs.length + ys.length ≤ 1000000 := by
        have : all.length = xs.length + (ys.length + rest'.length) := by rw [← ey, ← w4, List.length_append, List.length_append]
        omega
      exact in_sem hv1 hA h0 (S4.go e5) hn (x2.trans e25) n5 h5 (r2.mono e25.ff) hl hes w7 fun F' H' us q1 q2 q3 q4 => ⟨F', us, xs ++ ys, rest', q1, q2, q3, q4, hrest, by rw [← ey, ← w4, List.append_assoc]⟩
  · have e : i = ds.length := by omega
    subst e
    rw [List.drop_length] at w2
    cases w2
    rw [List.append_nil] at ey
    subst ey
    exact .inl ⟨wk.stops H2 (x2.ff.trans x2.sub), (show ∀ a F' H', Ext F H F' H' → OwnAt X.K Cs H F' H' a (D.lst xs) → Q (.ref a) H' from hd) A F2 H2 (e1.trans x2) ⟨e1.hh.free hA, n2, acc, h2, r2⟩⟩
theorem so_lc2 {scope : Scope} (own : List (Str × Nat)) (vs1 : List Nat) (hN : X.N.Nodup) (hi : SI X Cs E tg iter mi) (ok : BlkOk X.N X.env.scope scope own) (hv : ∀ i ∈ is, i ∈ own.map (·.2)) (hv1 : ∀ i ∈ is1, i ∈ vs1) (hw : ∀ i ∈ vs1, i ∈ own.map (·.2))
    (hg : ∀ s H C cl fp, SG (Blk X scope s H C cl fp) Cs tg is g) (ht : ∀ s H C cl fp, SP (Blk X scope s H C cl fp) Cs E0 ifs nt) (hi1 : ∀ s H C cl fp, SI (Blk X scope s H C cl fp) Cs E0 tg1 iter1 mi1) (hg1 : ∀ s H C cl fp, SG (Blk X scope s H C cl fp) Cs tg1 is1 g1)
    (ht1 : ∀ s H C cl fp, SP (Blk X scope s H C cl fp) Cs E0 ifs1 nt1) (he : ∀ s H C cl fp, SE (Blk X scope s H C cl fp) Cs E0 elt me) (hc : X.calm = true := by rfl)
    (hs : ∀ x, foldedSetIterable iter X.env x = pure x := by intro _; rfl) (hs1 : ∀ env x, foldedSetIterable iter1 env x = pure x := by intro _ _; rfl) : SO X Cs E (.ListComp elt [⟨tg, iter, ifs, 0⟩, ⟨tg1, iter1, ifs1, 0⟩] scope pos) (vComp2 (own.map (·.2)) vs1 mi g nt mi1 g1 nt1 me) := by
  obtain ⟨wi, pi, qi⟩ := hi
  exact ⟨_, pe_lc2 hc hN pi ok hw (fun s H C cl fp => (hg s H C cl fp).of) (fun s H C cl fp => (ht s H C cl fp).of) (fun s H C cl fp => (hi1 s H C cl fp).of) (fun s H C cl fp => (hg1 s H C cl fp).of) (fun s H C cl fp => (ht1 s H C cl fp).of) (fun s H C cl fp => (he s H C cl fp).of) hs hs1, fun F0 H0 ρ F σ H Q S w => lc2_sem qi hv hv1 S w⟩
end
end VM
end
section
set_option Elab.async false
set_option linter.all false
set_option maxRecDepth 100000
set_option autoImplicit false
/-! VM14: a, b, .. = e1, e2, .. with new lists and dicts among them. -/
namespace VM
open PySem PySem.Spec L2
section
variable (K : PySem.W.Frag) (Cs : Gm)
/-- values, some of them new and held by nobody -/
inductive Mix (H0 F H : Hp) : List V → List Slot → Prop
  | nil : Mix H0 F H [] []
  | frz {v : V} {d : D} {vs : List V} {ss : List Slot} : Rep K Cs F v d → Mix H0 F H vs ss → Mix H0 F H (v :: vs) (.frz d :: ss)
  | own {a : Addr} {d : D} {vs : List V} {ss : List Slot} : OwnAt K Cs H0 F H a d → (∀ (j : Nat) (b : Bool) (e : D), ss[j]? = some (.own b e) → vs[j]? ≠ some (.ref a)) → Mix H0 F H vs ss → Mix H0 F H (.ref a :: vs) (.own false d :: ss)
def WpM (F H : Hp) (Q : List V → Hp → Prop) (E : XK) (r : R (List Slot)) : Prop := r.Sat (fun ss => ∀ vs F' H', Ext F H F' H' → Mix K Cs H F' H' vs ss → Q vs H') (ExW K Cs F H E)
end
def SM (X : Cx) (Cs : Gm) (E : XK) (es : List Expr) (m : Fr0 → R (List Slot)) : Prop := ∃ t, PA X es t ∧ ∀ F0 H0 ρ F σ H Q, Sim X.K Cs F0 H0 ρ F σ H → WpM X.K Cs F H Q E (m ρ) → t σ H Q
section
variable {K : PySem.W.Frag} {Cs : Gm} {H0 F H F' H' : Hp}
theorem Mix.length {vs : List V} {ss : List Slot} (m : Mix K Cs H0 F H vs ss) : vs.length = ss.length := by
  induction m with
  | nil => rfl
  | frz _ _ ih => simp [ih]
  | own _ _ _ ih => simp [ih]
theorem Mix.go {vs : List V} {ss : List Slot} (m : Mix K Cs H0 F H vs ss) (e : Ext F H F' H') : Mix K Cs H0 F' H' vs ss := by
  induction m with
  | nil => exact .nil
  | frz r _ ih => exact .frz (r.mono e.ff) ih
  | own o n _ ih => exact .own (o.go e) n ih
theorem Mix.low {H1 : Hp} {vs : List V} {ss : List Slot} (m : Mix K Cs H0 F H vs ss) (s : Keep H1 H0) : Mix K Cs H1 F H vs ss := by
  induction m with
  | nil => exact .nil
  | frz r _ ih => exact .frz r ih
  | own o n _ ih => exact .own (o.low s) n ih
/-- what is own is new -/
theorem Mix.new {vs : List V} {ss : List Slot} (m : Mix K Cs H0 F H vs ss) {a : Addr} {u : HO} (ha : H0 a = some u) : ∀ (j : Nat) (b : Bool) (e : D), ss[j]? = some (.own b e) → vs[j]? ≠ some (.ref a) := by
  induction m with
  | nil => intro j b e h; simp at h
  | frz r _ ih =>
    intro j b e h
    cases j with
    | zero => simp at h
    | succ j => exact ih j b e (by simpa using h)
  | own o n _ ih =>
    intro j b e h
    cases j with
    | zero =>
      intro z
      simp at z
      subst z
      rw [o.1] at ha
      cases ha
    | succ j => exact ih j b e (by simpa using h)
/-- an owned object is tracked -/
theorem OwnAt.some {a : Addr} {d : D} (o : OwnAt K Cs H0 F H a d) : ∃ u, H a = .some u := by
  obtain ⟨_, _, h⟩ := o
  cases d with
  | lst ds => obtain ⟨vs, h, _⟩ := h; exact ⟨_, h⟩
  | ins c gs => obtain ⟨dx, fs, h, _⟩ := h; exact ⟨_, h⟩
  | dct kvs => obtain ⟨xs, h, _⟩ := h; exact ⟨_, h⟩
  | _ => exact h.elim
def setSl (ρ : Fr0) : List Nat → List Slot → Fr0
  | i :: is, s :: ss => setSl (ρ.set i s) is ss
  | _, _ => ρ
def setV (σ : L2.St) : List Nat → List V → L2.St
  | i :: is, v :: vs => setV (σ.set i (some v)) is vs
  | _, _ => σ
theorem Sim.setMix {F0 : Ent} {B : Hp} {vs : List V} {ss : List Slot} (m : Mix K Cs B F H vs ss) (hb : Keep H0 B) : ∀ {ρ : Fr0} {σ : L2.St} (is : List Nat), Sim K Cs F0 H0 ρ F σ H →
    (∀ (k : Nat) (b : Bool) (d : D) (a : Addr), ss[k]? = some (.own b d) → vs[k]? = some (.ref a) → ∀ (j : Nat) (b' : Bool) (e : D), ρ[j]? = some (.own b' e) → σ[j]? ≠ some (some (.ref a))) → Sim K Cs F0 H0 (setSl ρ is ss) F (setV σ is vs) H := by
  induction m with
  | nil => intro ρ σ is S _; cases is <;> exact S
  | frz r _ ih =>
    intro ρ σ is S fr
    cases is with
    | nil => exact S
    | cons i is =>
      refine ih is (S.setFrz r) fun k b d a h1 h2 j b' e hj => ?_
      by_cases q : i = j
      · subst q
        have hl : i < ρ.length := by
          have := (List.getElem?_eq_some_iff.mp hj).1
          simpa using this
        rw [List.getElem?_set_self hl] at hj
        cases hj
      · rw [List.getElem?_set_ne q] at hj ⊢
        exact fr (k + 1) b d a (by simpa using h1) (by simpa using h2) j b' e hj
  | @own a d vs ss o n _ ih =>
    intro ρ σ is S fr
    cases is with
    | nil => exact S
    | cons i is =>
      refine ih is (S.setOwn (o.low hb) (fr 0 false d a rfl rfl)) fun k b d' a' h1 h2 j b' e hj => ?_
      by_cases q : i = j
      · subst q
        have hl : i < ρ.length := by
          have := (List.getElem?_eq_some_iff.mp hj).1
          simpa using this
        rw [List.getElem?_set_self (by rw [← S.len]; exact hl)]
        intro z
        cases z
        exact n k b d' h1 h2
      · rw [List.getElem?_set_ne q] at hj ⊢
        exact fr (k + 1) b d' a' (by simpa using h1) (by simpa using h2) j b' e hj
end
section
variable {X : Cx} {Cs : Gm} {E : XK} {o : Bool} {e a b c : Expr} {es : List Expr} {m ma mb mc : Fr0 → R D} {ms : Fr0 → R (List Slot)} {pos : Pos}
def mNil : Fr0 → R (List Slot) := fun _ => .ok []
def mFrz (m : Fr0 → R D) (ms : Fr0 → R (List Slot)) : Fr0 → R (List Slot) := fun ρ => (m ρ).bind fun d => (ms ρ).bind fun ss => .ok (.frz d :: ss)
def mOwn (m : Fr0 → R D) (ms : Fr0 → R (List Slot)) : Fr0 → R (List Slot) := fun ρ => (m ρ).bind fun d => (ms ρ).bind fun ss => .ok (.own false d :: ss)
theorem sm_nil : SM X Cs E [] mNil := ⟨_, pa_nil, fun F0 H0 ρ F σ H Q S w => (show ∀ vs F' H', Ext F H F' H' → Mix X.K Cs H F' H' vs [] → Q vs H' from w) [] F H (Ext.refl S.sub) .nil⟩
theorem sm_frz (ha : SE X Cs E e ma) (hr : SM X Cs E es ms) (hs : starEach (e :: es) X.env = (false, eval e X.env) :: starEach es X.env := by rfl) : SM X Cs E (e :: es) (mFrz ma ms) := by
  obtain ⟨ta, pa, qa⟩ := ha
  obtain ⟨tr, pr, qr⟩ := hr
  refine ⟨_, pa_cons pa pr hs, fun F0 H0 ρ F σ H Q S w => qa _ _ _ _ _ _ _ S (Wp.seq w fun x d F1 H1 e1 rx w1 => qr _ _ _ _ _ _ _ (S.go e1) ?_)⟩
  refine w1.of_bind.mono (fun ss hd vs F2 H2 e2 mx => ?_) fun _ _ z => z
  exact (show ∀ vs F' H', Ext F H F' H' → Mix X.K Cs H F' H' vs (.frz d :: ss) → Q vs H' from hd) _ F2 H2 (e1.trans e2) (.frz (rx.mono e2.ff) (mx.low e1.hh))
theorem sm_own (ha : SO X Cs E e ma) (hr : SM X Cs E es ms) (hs : starEach (e :: es) X.env = (false, eval e X.env) :: starEach es X.env := by rfl) : SM X Cs E (e :: es) (mOwn ma ms) := by
  obtain ⟨ta, pa, qa⟩ := ha
  obtain ⟨tr, pr, qr⟩ := hr
  refine ⟨_, pa_cons pa pr hs, fun F0 H0 ρ F σ H Q S w => qa _ _ _ _ _ _ _ S (w.of_bind.mono (fun d hd a F1 H1 e1 oa => ?_) fun _ _ z => z)⟩
  refine qr _ _ _ _ _ _ _ (S.go e1) (hd.of_bind.mono (fun ss hd2 vs F2 H2 e2 mx => ?_) fun _ _ z => z.go e1)
  obtain ⟨u, hu⟩ := oa.some
  exact (show ∀ vs F' H', Ext F H F' H' → Mix X.K Cs H F' H' vs (.own false d :: ss) → Q vs H' from hd2) _ F2 H2 (e1.trans e2) (.own (oa.go e2) (mx.new hu) (mx.low e1.hh))
/-- from a statement's wish to that of its values -/
theorem WpS.exM {F0 : Ent} {H0 F H : Hp} {D0 : Ends} {r : R (List Slot)} {gg : List Slot → R Out} (x : Ext F0.fz H0 F H) (w : WpS X.K Cs o F0 H0 F D0 E (r.bind gg)) {Q : List V → Hp → Prop}
    (k : ∀ vs ss F1 H1, Ext F H F1 H1 → Mix X.K Cs H F1 H1 vs ss → WpS X.K Cs o F0 H0 F1 D0 E (gg ss) → Q vs H1) : WpM X.K Cs F H Q E r :=
  w.of_bind.mono (fun d hd v F1 H1 e rv => k v d F1 H1 e rv (WpS.go hd e.ff)) fun _ _ z => z.go x
/-- own values are no slot's yet -/
theorem Sim.mixNew {F0 : Ent} {H0 F H F1 H1 : Hp} {ρ : Fr0} {σ : L2.St} {vs : List V} {ss : List Slot} (S : Sim X.K Cs F0 H0 ρ F σ H) (mx : Mix X.K Cs H F1 H1 vs ss) :
    ∀ (k : Nat) (b : Bool) (d : D) (a : Addr), ss[k]? = some (.own b d) → vs[k]? = some (.ref a) → ∀ (j : Nat) (b' : Bool) (e : D), ρ[j]? = some (.own b' e) → σ[j]? ≠ some (some (.ref a)) := fun k b d a h1 h2 j b' e hj hσ => by
  obtain ⟨c, hc, _, oc⟩ := S.slots j _ hj
  rw [hσ] at hc
  cases hc
  obtain ⟨u, hu⟩ := oc.some
  exact mx.new hu k b d h1 h2
def bMix (is : List Nat) (ms : Fr0 → R (List Slot)) : Fr0 → R Out := fun ρ => (ms ρ).bind fun ss => if ss.length = is.length then .ok (.nx (setSl ρ is ss)) else .stuck
theorem mix_sem {F0 : Ent} {H0 F H F1 H1 : Hp} {ρ : Fr0} {σ : L2.St} {D0 : Ends} {vs : List V} {ss : List Slot} {is : List Nat} (S : Sim X.K Cs F0 H0 ρ F σ H) (e1 : Ext F H F1 H1) (mx : Mix X.K Cs H F1 H1 vs ss)
    (w1 : WpS X.K Cs o F0 H0 F1 D0 E (if ss.length = is.length then .ok (.nx (setSl ρ is ss)) else .stuck)) : vs.length = is.length ∧ ∀ F' H', Ext F1 H1 F' H' → D0.nx (setV σ is vs) H' := by
  by_cases hl : ss.length = is.length
  · rw [if_pos hl] at w1
    refine ⟨by rw [mx.length]; exact hl, fun F' H' e' => ?_⟩
    exact (show ∀ F' σ' H', Same F1 F' → Sim X.K Cs F0 H0 (setSl ρ is ss) F' σ' H' → D0.nx σ' H' from w1) F' _ H' e'.ff (Sim.setMix (mx.go e') S.ext.hh is ((S.go e1).go e') (S.mixNew (mx.go e')))
  · rw [if_neg hl] at w1; exact w1.elim
theorem len2 {vs : List V} {is : List Nat} (h : vs.length = is.length) {i j : Nat} (e : is = [i, j]) : ∃ u v, vs = [u, v] := by
  subst e
  match vs, h with
  | [u, v], _ => exact ⟨u, v, rfl⟩
theorem len3 {vs : List V} {is : List Nat} (h : vs.length = is.length) {i j k : Nat} (e : is = [i, j, k]) : ∃ u v w, vs = [u, v, w] := by
  subst e
  match vs, h with
  | [u, v, w], _ => exact ⟨u, v, w, rfl⟩
theorem ss_mix2 (i j : Nat) {x y : Str} {px py pt : Pos} {kt k2 pt2} (hN : X.N.Nodup) (ha : SM X Cs E [a, b] ms) (hc : X.calm = true := by rfl) (hi : X.N[i]? = some x := by rfl) (hj : X.N[j]? = some y := by rfl) (hij : i ≠ j := by decide)
    (hx : X.env.scope.names.lookup x = some .local := by rfl) (hy : X.env.scope.names.lookup y = some .local := by rfl) (hw : swappedStores [.Tuple [.Name x px, .Name y py] kt pt] (.Tuple [a, b] k2 pt2) X.env = pure (some [x, y]) := by rfl)
    (hs : swapsWithSole [.Tuple [.Name x px, .Name y py] kt pt] (.Tuple [a, b] k2 pt2) pos.line X.env = pure false := by rfl) :
    SS X Cs E o (.Assign [.Tuple [.Name x px, .Name y py] kt pt] (.Tuple [a, b] k2 pt2) pos) (bMix [i, j] ms) := by
  obtain ⟨t, p, q⟩ := ha
  refine ⟨_, ps_par hc hN hi hj hij hx hy p hw hs, fun F0 H0 ρ F σ H D0 S w => q _ _ _ _ _ _ _ S (WpS.exM S.ext w fun vs ss F1 H1 e1 mx w1 => ?_)⟩
  obtain ⟨h1, h2⟩ := mix_sem S e1 mx w1
  obtain ⟨u, v, rfl⟩ := len2 h1 rfl
  exact ⟨u, v, rfl, h2 F1 H1 (Ext.refl e1.sub)⟩
theorem ss_mix3 (i j l : Nat) {x y z : Str} {px py pz pt : Pos} {kt k2 pt2} (hN : X.N.Nodup) (ha : SM X Cs E [a, b, c] ms) (hc : X.calm = true := by rfl) (hi : X.N[i]? = some x := by rfl) (hj : X.N[j]? = some y := by rfl) (hl : X.N[l]? = some z := by rfl) (hij : i ≠ j := by decide) (hil : i ≠ l := by decide) (hjl : j ≠ l := by decide)
    (hx : X.env.scope.names.lookup x = some .local := by rfl) (hy : X.env.scope.names.lookup y = some .local := by rfl) (hz : X.env.scope.names.lookup z = some .local := by rfl)
    (hw : swappedStores [.Tuple [.Name x px, .Name y py, .Name z pz] kt pt] (.Tuple [a, b, c] k2 pt2) X.env = pure (some [x, y, z]) := by rfl)
    (hs : swapsWithSole [.Tuple [.Name x px, .Name y py, .Name z pz] kt pt] (.Tuple [a, b, c] k2 pt2) pos.line X.env = pure false := by rfl) :
    SS X Cs E o (.Assign [.Tuple [.Name x px, .Name y py, .Name z pz] kt pt] (.Tuple [a, b, c] k2 pt2) pos) (bMix [i, j, l] ms) := by
  obtain ⟨t, p, q⟩ := ha
  refine ⟨_, ps_par3 hc hN hi hj hl hij hil hjl hx hy hz p hw hs, fun F0 H0 ρ F σ H D0 S w => q _ _ _ _ _ _ _ S (WpS.exM S.ext w fun vs ss F1 H1 e1 mx w1 => ?_)⟩
  obtain ⟨h1, h2⟩ := mix_sem S e1 mx w1
  obtain ⟨u, v, x, rfl⟩ := len3 h1 rfl
  exact ⟨u, v, x, rfl, h2 F1 H1 (Ext.refl e1.sub)⟩
/-- plain names, stored into one after another -/
def NG (X : Cx) (tgs : List Expr) (is : List Nat) : Prop := ∃ t, PGs X tgs t ∧ ∀ σ H (vs : List V) (Q : L2.St → Hp → Prop), vs.length = is.length → Q (setV σ is vs) H → t vs σ H Q
theorem ng_nil : NG X [] [] := by
  refine ⟨_, pgs_nil, fun σ H vs Q hl q => ?_⟩
  have : vs = [] := List.length_eq_zero_iff.mp hl
  subst this
  exact ⟨rfl, q⟩
theorem ng_cons (i : Nat) {is : List Nat} {x : Str} (hN : X.N.Nodup) (h : NG X es is) (hi : X.N[i]? = some x := by rfl) (hx : Loc X.env.scope x := by first | exact Or.inl rfl | exact Or.inr rfl) (hf : X.fn x = true ∨ X.env.scope.names.lookup x = some .local := by first | exact .inl rfl | exact .inr rfl)
    (hs : (assignEach ((.Name x pos) :: es) X.env).map (·.2) = assign (.Name x pos) X.env :: (assignEach es X.env).map (·.2) := by rfl) : NG X ((.Name x pos) :: es) (i :: is) := by
  obtain ⟨t, p, q⟩ := h
  refine ⟨_, pgs_cons (pg_name hN hi hx hf) p hs, fun σ H vs Q hl hq => ?_⟩
  cases vs with
  | nil => cases hl
  | cons v vs => exact ⟨v, vs, rfl, q _ H vs Q (by simpa using hl) hq⟩
theorem ss_mixN {is : List Nat} {n : Nat} {tgs : List Expr} {pt pt2 : Pos} {kt k2} (ha : SM X Cs E es ms) (hg : NG X tgs is) (hc : X.calm = true := by rfl) (hn : (assignEach tgs X.env).length = n := by rfl) (hst : (assignEach tgs X.env).findIdx? (·.1) = none := by rfl) (hi : is.length = n := by rfl) (hk : is.length ≤ 1000 := by decide)
    (hs : swapsWithSole [.Tuple tgs kt pt] (.Tuple es k2 pt2) pos.line X.env = pure false := by rfl) (hw : swappedStores [.Tuple tgs kt pt] (.Tuple es k2 pt2) X.env = pure none := by rfl)
    (h1 : (assignEach [.Tuple tgs kt pt] X.env).map (·.2) = [assign (.Tuple tgs kt pt) X.env] := by rfl) : SS X Cs E o (.Assign [.Tuple tgs kt pt] (.Tuple es k2 pt2) pos) (bMix is ms) := by
  obtain ⟨t, p, q⟩ := ha
  obtain ⟨tg, pg, qg⟩ := hg
  refine ⟨_, ps_asg (pe_tup p) (pg_tup hc pg hn hst) hs hw h1, fun F0 H0 ρ F σ H D0 S w => q _ _ _ _ _ _ _ S (WpS.exM S.ext w fun vs ss F1 H1 e1 mx w1 => ?_)⟩
  have hl : ss.length = is.length := by
    by_cases hl : ss.length = is.length
    · exact hl
    · rw [if_neg hl] at w1; exact w1.elim
  obtain ⟨h1, h2⟩ := mix_sem S e1 mx w1
  have hlen : vs.length ≤ sizeLine := by
    rw [h1]
    exact line1000 hk
  refine ⟨hlen, fun r hr => ⟨r, vs, rfl, .of upd_same, by omega, qg _ _ vs _ h1 (h2 F1 _ (Ext.grow e1.sub hr))⟩⟩
end
end VM
end
section
set_option Elab.async false
set_option linter.all false
set_option maxRecDepth 100000
set_option autoImplicit false
/-! VM15: max(.., key=..). -/
namespace VM
open PySem PySem.Spec L2
open FbM (Rec rec_new)
open PyProof.Rows (seqObj)
/-- the first of those with the greatest key; db: the best so far, kb its key -/
def maxK (key : D → R D) (db : D) (kb : Int) : List D → R D
  | [] => .ok db
  | d :: r => (key d).bind fun k => match k with
    | .int n => if kb < n then maxK key d n r else maxK key db kb r
    | _ => .stuck
section
variable {X : Cx} {Cs : Gm} {pins : List (Addr × Obj)} {σ : L2.St} {F H : Hp} {key : D → R D} {f l it S : Addr} {ds : List D} {R0 : Result → Shared → Prop} {d0 : D}
/-- what a call of the key's function does -/
def Turns (X : Cx) (Cs : Gm) (σ : L2.St) (F H : Hp) (key : D → R D) (f : Addr) : Prop := ∀ (pins : List (Addr × Obj)) (s : Shared) (F' H' : Hp) (x : V) (d : D) (n : Int) (u : Value), Inv X pins σ H' s → Ext F H F' H' → Rep X.K Cs F' x d → RelV x u → key d = .ok (.int n) →
  wpAny (model X.prog X.w) X.A.in1 (call (.ref f) [u]) (CE X.stack X.prog X.w H' s (fun v H'' => ∃ F'', Ext F' H' F'' H'' ∧ v = .int n)) (fun _ _ => False) s
theorem maxLoop (hh : X.A.handled = none) (T : Turns X Cs σ F H key f) {xs : List V} (hl : SqL X.K F l xs) (rs : Reps X.K Cs F xs ds) (rS : Rec X pins S) (rI : Rec X pins it) (li : l ≠ it) (Si : S ≠ it)
    (fin : ∀ F' H' s' x u, Inv X pins σ H' s' → Ext F H F' H' → RelV x u → Rep X.K Cs F' x d0 → R0 (.ok (.ret u)) s') :
    ∀ (r : List D) (i : Nat) (s : Shared) (F' H' : Hp) (xb : V) (vb : Value) (kb : Int) (tb : Tok) (db : D) (c : Nat), ds.drop i = r → i ≤ ds.length → Inv X pins σ H' s → Ext F H F' H' → H' S = none → H' it = none → s.heap.IsListIter it l i → s.heap.get? S = some (seqObj "list" #[vb, .int kb tb] c) →
      RelV xb vb → Rep X.K Cs F' xb db → maxK key db kb r = .ok d0 → codeAny (model X.prog X.w) X.A (.builtin "max.loop" ⟨[.ref it, .ref f, .ref S], []⟩) R0 s := by
  have hname : (toString "max" ++ toString ".loop" : String) = "max.loop" := by decide
  intro r
  induction r with
  | nil =>
    intro i s F' H' xb vb kb tb db c hd hi I ex nS nI hit hS rb rd hk
    have hin : i = ds.length := by
      have e := congrArg List.length hd
      rw [List.length_drop, List.length_nil] at e
      omega
    obtain ⟨its, rv, pl, _⟩ := I.list (ex.sub.seq (ex.ff.seq hl))
    have hsz : its.toArray.size = i := by rw [List.size_toArray, ← rv.length, rs.length, hin]
    cases hk
    refine codeAny_builtin PySem.F.entry_max_loop ?_
    rw [Around.under_plainId PySem.F.plain_max_loop _]
    change wpAny _ X.A.in1 (seqItems? (Value.ref S) >>= _) _ _ _
    refine wpAny_bind (wpAny_seqItems hS rfl ?_)
    change wpAny _ X.A.in1 (tryCatch (pyNext (Value.ref it)) _ >>= _) _ _ _
    refine wpAny_bind (wpAny_tryCatch ((Walks.list (A := X.A.in1) hh it l li its.toArray).done _ _ _ ⟨by rw [hsz]; exact hit, pl.isList⟩ fun h' tk' hk' => ?_))
    have I1 : Inv X pins σ H' { s with heap := h', toks := tk' } := rI.turn I nI fun b o hb e => hk' b o (by simpa using hb) e
    have hS' := hk' S _ (by simpa using Si) hS
    have sb := Heap.SameBut.update h' S (Obj.mapSeq fun _ => (#[] : Array Value))
    change wpAny _ X.A.in1 (updateSeq S (fun _ => #[]) >>= _) _ _ _
    refine wpAny_bind ?_
    refine wpAny_updateSeq hS' rfl (wpAny_bind (wpAny_letGo (wpAny_pure ?_)))
    exact fin F' H' _ xb vb (rS.turn I1 nS fun b o hb e => (sb.2 b hb).trans e) ex rb rd
  | cons d r ih =>
    intro i s F' H' xb vb kb tb db c hd hi I ex nS nI hit hS rb rd hk
    have hlt : i < ds.length := by
      rcases Nat.lt_or_ge i ds.length with z | z
      · exact z
      · rw [List.drop_eq_nil_of_le z] at hd; cases hd
    rw [List.drop_eq_getElem_cons hlt] at hd
    injection hd with hd1 hd2
    have hdi : ds[i]? = some d := by rw [List.getElem?_eq_getElem hlt, hd1]
    obtain ⟨x, hx, rx⟩ := rs.get hdi
    obtain ⟨its, rv, pl, _⟩ := I.list (ex.sub.seq (ex.ff.seq hl))
    have hsz : i < its.toArray.size := by rw [List.size_toArray, ← rv.length, rs.length]; exact hlt
    obtain ⟨k, hkk, hk⟩ := R.bind_eq hk
    refine codeAny_builtin PySem.F.entry_max_loop ?_
    rw [Around.under_plainId PySem.F.plain_max_loop _]
    change wpAny _ X.A.in1 (seqItems? (Value.ref S) >>= _) _ _ _
    refine wpAny_bind (wpAny_seqItems hS rfl ?_)
    change wpAny _ X.A.in1 (tryCatch (pyNext (Value.ref it)) _ >>= _) _ _ _
    refine wpAny_bind (wpAny_tryCatch ((Walks.list (A := X.A.in1) hh it l li its.toArray).item i _ _ _ hsz ⟨hit, pl.isList⟩ fun u h' tk' hP hst' hk' => ?_))
    have hu : its[i]? = some u := by simpa using hP
    obtain ⟨u', hu', ru⟩ := rv.get hx
    rw [hu] at hu'
    cases hu'
    have I1 : Inv X pins σ H' { s with heap := h', toks := tk' } := rI.turn I nI fun b o hb e => hk' b o (by simpa using hb) e
    have hS1 := hk' S _ (by simpa using Si) hS
    obtain ⟨oI, hoI, hoc, hod⟩ := id hst'.1
    cases k with
    | int n =>
      dsimp only at hk
      change wpAny _ X.A.in1 (tryCatch (holding [u] (call (Value.ref f) [u])) _ >>= _) _ _ _
      refine wpAny_bind (wpAny_tryCatch (wpAny_holding (wpAny_mono (T pins _ F' H' x d n u I1 ex (rx.mono ex.ff) ru hkk) (fun v s2 he => ?_) fun _ _ z => z.elim)))
      obtain ⟨y, H2, os, bare, un, hok, ry, F2, e2, rfl⟩ := he
      obtain ⟨t2, rfl⟩ := ry
      have I2 : Inv X pins σ H2 s2 := I1.call' os un hok bare fun b z => absurd z List.not_mem_nil
      have keep : ∀ {b : Addr} {o : Obj}, Rec X pins b → H' b = none → h'.get? b = some o → s2.heap.get? b = some o := fun rb ub eb => un.keep _ _ eb ub rb.fr List.not_mem_nil
      have nS2 : H2 S = none := un.free S _ hS1 nS List.not_mem_nil
      have nI2 : H2 it = none := un.free it _ hoI nI List.not_mem_nil
      have hS2 := keep rS nS hS1
      have hI2 := keep rI nI hoI
      have ex2 := ex.trans e2
      change wpAny _ X.A.in1 (tryCatch (holding [u, .int n t2] (richCompare .Gt (.int n t2) (.int kb tb) >>= _)) _ >>= _) _ _ _
      refine wpAny_bind (wpAny_tryCatch (wpAny_holding (wpAny_bind (CmpOf.ints_gt (A := X.A.in1) (P := fun i v => ∃ t, v = .int (if i = 0 then kb else n) t) (fun i => if i = 0 then kb else n) (fun i v h => h) 1 0 _ _ _ _ _ ⟨t2, rfl⟩ ⟨tb, rfl⟩ ?_))))
      refine wpAny_bind (wpAny_holding (wpAny_truthy_bool (wpAny_bind (wpAny_letGo (wpAny_pure ?_)))))
      by_cases hb : kb < n
      · rw [if_pos hb] at hk
        rw [if_pos (by simpa using hb)]
        have sb := Heap.SameBut.update s2.heap S (Obj.mapSeq fun _ => #[u, .int n t2])
        obtain ⟨c2, hc2⟩ : ∃ c2, (s2.heap.update S (Obj.mapSeq fun _ => #[u, .int n t2])).get? S = some (seqObj "list" #[u, .int n t2] c2) := ⟨_, PyProof.Rows.get?_update_seq hS2 fun _ => #[u, .int n t2]⟩
        refine wpAny_bind ?_
        refine wpAny_updateSeq hS2 rfl (wpAny_bind (wpAny_letGo ?_))
        rw [hname]
        refine wpAny_pure ⟨plainId_quiet PySem.F.plain_max_loop _, ih (i + 1) _ F2 H2 x u n t2 d c2 hd2 hlt (rS.turn (t' := s2.toks) I2 nS2 fun b o hb e => (sb.2 b hb).trans e) ex2 nS2 nI2 ⟨oI, (sb.2 it (Ne.symm Si)).trans hI2, hoc, hod⟩ hc2 ru (rx.mono ex2.ff) hk⟩
      · rw [if_neg hb] at hk
        rw [if_neg (by simpa using hb)]
        refine wpAny_bind (wpAny_letGo ?_)
        rw [hname]
        exact wpAny_pure ⟨plainId_quiet PySem.F.plain_max_loop _, ih (i + 1) _ F2 H2 xb vb kb tb db c hd2 hlt I2 ex2 nS2 nI2 ⟨oI, hI2, hoc, hod⟩ hS2 rb (rd.mono e2.ff) hk⟩
    | _ => cases hk
theorem maxCall {E : Value → Shared → Prop} {Q : Value → Shared → Prop} {s : Shared} {d1 : D} {n1 : Int} {r1 : List D} (hh : X.A.handled = none) (T : Turns X Cs σ F H key f) {xs : List V} (hl : SqL X.K F l xs) (rs : Reps X.K Cs F xs (d1 :: r1)) (I : Inv X pins σ H s) (sub : Same F H)
    (hk1 : key d1 = .ok (.int n1)) (hk : maxK key d1 n1 r1 = .ok d0) (fin : ∀ F' H' s' x u, Inv X pins σ H' s' → Ext F H F' H' → RelV x u → Rep X.K Cs F' x d0 → Q u s') :
    wpAny (model X.prog X.w) X.A (call (.builtin "max") [.ref l] [(Str.ofString "key", .ref f)]) Q E s := by
  have hname : (toString "max" ++ toString ".loop" : String) = "max.loop" := by decide
  obtain ⟨its, rv, pl, _⟩ := I.list (sub.seq hl)
  have hll : l < s.heap.objs.size := let ⟨_, e, _⟩ := pl.isList; Heap.lt_size e
  refine PyProof.Rows.kmk_tree PySem.F.kind_max PySem.F.plain_max PySem.F.entry_max (PyProof.Rows.kmk_max_key _ _) ?_
  change wpAny _ X.A.in1 (Builtin.Builtins.bindParams "max" ["key", "default"] 0 ⟨[], [(Str.ofString "key", Value.ref f)]⟩ >>= _) _ _ s
  refine wpAny_bind (wpAny_of_eq (show Builtin.Builtins.bindParams "max" ["key", "default"] 0 ⟨[], [(Str.ofString "key", Value.ref f)]⟩ = pure [some (Value.ref f), none] from rfl) (wpAny_bind (wpAny_pure (wpAny_bind (wpAny_pyIter_list pl.isList (wpAny_bind (wpAny_newList ?_ (Nat.zero_le _))))))))
  rw [hname]
  generalize hh0 : s.heap.push { cls := .type "list_iterator", data := .fields #[.ref l, .int 0 0] } = h1
  have k1 : ∀ b o, s.heap.get? b = some o → h1.get? b = some o := fun b o e => by rw [← hh0]; exact Heap.get?_push_of_some _ e
  have gI : h1.get? s.heap.objs.size = some { cls := .type "list_iterator", data := .fields #[.ref l, .int 0 0] } := by rw [← hh0]; exact Heap.get?_push_size _ rfl
  have zS : h1.objs.size = s.heap.objs.size + 1 := by rw [← hh0]; exact PyProof.Rows.size_push' ..
  have I0 : Inv X pins σ H { s with heap := h1.push (seqObj "list" #[] 0) } := I.kept (t' := s.toks) fun b o e => Heap.get?_push_of_some _ (k1 b o e)
  have rI : Rec X pins s.heap.objs.size := rec_new I (Nat.le_refl _)
  have rS : Rec X pins h1.objs.size := rec_new I (by rw [zS]; exact Nat.le_succ _)
  have nI : H s.heap.objs.size = none := I.hok.fresh (Nat.le_refl _)
  have nS : H h1.objs.size = none := I.hok.fresh (by rw [zS]; exact Nat.le_succ _)
  have Si : h1.objs.size ≠ s.heap.objs.size := by rw [zS]; exact Nat.succ_ne_self _
  have li : l ≠ s.heap.objs.size := Nat.ne_of_lt hll
  have gI' : (h1.push (seqObj "list" #[] 0)).get? s.heap.objs.size = some { cls := .type "list_iterator", data := .fields #[.ref l, .int 0 0] } := Heap.get?_push_of_some _ gI
  have gS : (h1.push (seqObj "list" #[] 0)).get? h1.objs.size = some (seqObj "list" #[] 0) := Heap.get?_push_size _ rfl
  have pl0 : (h1.push (seqObj "list" #[] 0)).IsList l its.toArray := pl.isList.at fun o e => Heap.get?_push_of_some _ (k1 _ _ e)
  have hsz : 0 < its.toArray.size := by rw [List.size_toArray, ← rv.length, rs.length]; exact Nat.succ_pos _
  refine wpAny_pure ⟨plainId_quiet PySem.F.plain_max_loop _, ?_⟩
  refine codeAny_builtin PySem.F.entry_max_loop ?_
  rw [Around.under_plainId PySem.F.plain_max_loop _]
  change wpAny _ X.A.in1 (seqItems? (Value.ref h1.objs.size) >>= _) _ _ _
  refine wpAny_bind (wpAny_seqItems gS rfl ?_)
  change wpAny _ X.A.in1 (tryCatch (pyNext (Value.ref s.heap.objs.size)) _ >>= _) _ _ _
  refine wpAny_bind (wpAny_tryCatch ((Walks.list (A := X.A.in1) hh s.heap.objs.size l li its.toArray).item 0 _ _ _ hsz ⟨⟨_, gI', rfl, rfl⟩, pl0⟩ fun u h' tk' hP hst' hk' => ?_))
  have hu : its[0]? = some u := by simpa using hP
  obtain ⟨x, hx, rx⟩ := rs.get (i := 0) (d := d1) rfl
  obtain ⟨u', hu', ru⟩ := rv.get hx
  rw [hu] at hu'
  cases hu'
  have I1 : Inv X pins σ H { s with heap := h', toks := tk' } := rI.turn (s := { s with heap := h1.push (seqObj "list" #[] 0) }) (h' := h') (t' := tk') I0 nI fun b o hb e => hk' b o (by simpa using hb) e
  have hS1 := hk' _ _ (by simpa using Si) gS
  obtain ⟨oI, hoI, hoc, hod⟩ := id hst'.1
  change wpAny _ X.A.in1 (tryCatch (holding [u] (call (Value.ref f) [u])) _ >>= _) _ _ _
  refine wpAny_bind (wpAny_tryCatch (wpAny_holding (wpAny_mono (T pins _ F H x d1 n1 u I1 (Ext.refl sub) rx ru hk1) (fun v s2 he => ?_) fun _ _ z => z.elim)))
  obtain ⟨y, H2, os, bare, un, hok, ry, F2, e2, rfl⟩ := he
  obtain ⟨t2, rfl⟩ := ry
  have I2 : Inv X pins σ H2 s2 := I1.call' os un hok bare fun b z => absurd z List.not_mem_nil
  have keep : ∀ {b : Addr} {o : Obj}, Rec X pins b → H b = none → h'.get? b = some o → s2.heap.get? b = some o := fun rb ub eb => un.keep _ _ eb ub rb.fr List.not_mem_nil
  have nS2 : H2 h1.objs.size = none := un.free _ _ hS1 nS List.not_mem_nil
  have nI2 : H2 s.heap.objs.size = none := un.free _ _ hoI nI List.not_mem_nil
  have hS2 := keep rS nS hS1
  have hI2 := keep rI nI hoI
  have sb := Heap.SameBut.update s2.heap h1.objs.size (Obj.mapSeq fun _ => #[u, .int n1 t2])
  obtain ⟨c2, hc2⟩ : ∃ c2, (s2.heap.update h1.objs.size (Obj.mapSeq fun _ => #[u, .int n1 t2])).get? h1.objs.size = some (seqObj "list" #[u, .int n1 t2] c2) := ⟨_, PyProof.Rows.get?_update_seq hS2 fun _ => #[u, .int n1 t2]⟩
  change wpAny _ X.A.in1 (updateSeq h1.objs.size (fun _ => #[u, .int n1 t2]) >>= _) _ _ _
  refine wpAny_bind ?_
  refine wpAny_updateSeq hS2 rfl ?_
  rw [hname]
  refine wpAny_pure ⟨plainId_quiet PySem.F.plain_max_loop _, maxLoop hh T hl rs rS rI li Si fin r1 1 _ F2 H2 x u n1 t2 d1 c2 rfl (Nat.succ_le_succ (Nat.zero_le _)) (rS.turn (t' := s2.toks) I2 nS2 fun b o hb e => (sb.2 b hb).trans e) e2 nS2 nI2 ⟨oI, (sb.2 _ (Ne.symm Si)).trans hI2, hoc, hod⟩ hc2 ru (rx.mono e2.ff) hk⟩
end
end VM
end
section
set_option Elab.async false
set_option linter.all false
set_option maxRecDepth 100000
set_option autoImplicit false
/-! VM16: lambdas of one parameter, handed to max. -/
namespace VM
open PySem PySem.Spec L2
open LamX (CodeO TabB inv_table among_app)
open PySem.W (kla_fn kla_obj)
/-- a def whose body is an expression is called; its code object bears some name -/
theorem call_expr {prog : Program} {w : World} {A : Around} {R0 : Result → Shared → Prop} {s : Shared} {a c : Addr} {args : Args} {o oc : Obj} {fd : FuncData} {body : Expr} {vs : Array Value} {q : Str} {t : Tok} (hr : A.depth < recursionLimit) (ho : s.heap.get? a = some o) (hd : o.data = .func fd)
    (h1 : fd.scope.isCoroutine = false) (h2 : fd.scope.isGenerator = false) (hb : fd.body = .expr body) (hc : fd.code = .ref c) (hoc : s.heap.get? c = some oc) (hdc : oc.data = .fields vs) (hq : vs[1]? = some (.str q t))
    (h : wpAny (model prog w) A.in1 (bindArgs fd args) (fun bs s1 => wpAny (model prog w) A.in1 (newFunctionEnv fd.scope fd.globals fd.closure bs (q ++ ".<locals>.") (some a) (.ref c) none fd.builtins)
      (fun env s2 => s2.heap.NoLimit ∧ codeAny (model prog w) A (.expr body env) R0 s2) (fun e s' => R0 (.error e) s') s1) (fun e s' => R0 (.error e) s') s) : codeAny (model prog w) A (.call (.ref a) args) R0 s := by
  refine codeAny_of_tree (show wpAny _ A.in1 (callAny (.ref a) args) _ _ s from ?_)
  unfold callAny
  refine wpAny_bind (wpAny_load ho ?_)
  simp only [hd, callFunction, h1, h2, hb, hc]
  refine wpAny_bind (m := field (.ref c) 1) (wpAny_field hoc hdc hq (wpAny_bind (wpAny_pure (wpAny_bind (wpAny_mono h (fun bs s1 z1 => ?_) fun _ _ z => z)))))
  exact wpAny_bind (wpAny_mono z1 (fun env s2 z2 => wpAny_bind (wpAny_enterFrame z2.1 hr (wpAny_pure ⟨rfl, z2.2⟩))) fun _ _ z => z)
/-- the function object that a lambda gives -/
def LamO (f : Addr) (qual : Str) (params : Arguments) (body : Expr) (scope : Scope) (cl : List (Str × Addr)) (c : Addr) : HO := .ext fun h => ∃ (od : Option Addr) (sl : Array (Option Value)) (pm ct : Value), h.get? f = some ⟨.type "function", od, .func (kla_fn "<lambda>" qual params body scope cl pm (.ref c) ct), sl⟩
section
variable {X : Cx} {pins : List (Addr × Obj)} {σ : L2.St} {H : Hp} {s : Shared}
theorem inv_lam {qual : Str} {params : Arguments} {body : Expr} {scope : Scope} {cl : List (Str × Addr)} {c : Addr} {pm ct : Value} {h' : Heap} {t' : Nat} (I : Inv X pins σ H { s with heap := h' }) :
    Inv X pins σ (upd H h'.objs.size (LamO h'.objs.size qual params body scope cl c)) { s with heap := h'.push (kla_obj "<lambda>" qual params body scope cl pm c ct), toks := t' } := by
  have e : (h'.push (kla_obj "<lambda>" qual params body scope cl pm c ct)).get? h'.objs.size = some (kla_obj "<lambda>" qual params body scope cl pm c ct) := Heap.get?_push_size _ rfl
  exact I.laid (a := h'.objs.size) (fun b u z => Heap.get?_push_of_some _ z) (Nat.le_refl _) ⟨⟨_, _, pm, ct, e⟩, ⟨_, e⟩, fun h1 h2 ⟨od, sl, p, t, z⟩ st => ⟨od, sl, p, t, st _ z⟩⟩
/-- the reading of a lambda -/
def tLamF (X : Cx) (P : Addr) (params : Arguments) (body : Expr) (scope : Scope) : TE := fun _ H Q => TabA H P ∧ ∀ f c q H1, Keep H H1 → (∀ b o, H b = some o → b ≠ P → H1 b = some o) → H1 c = some (CodeO c q) →
  H1 f = some (LamO f (X.env.qual ++ "<lambda>") params body scope (cloFrom X.env.cells scope.names []) c) → Q (.ref f) H1
theorem pe_lam {c P : Addr} {params : Arguments} {body : Expr} {scope : Scope} {pos : Pos} (TB : TabB X.base X.mg c P) (hcode : X.env.code = .ref c) (hfree : ∀ y ∈ scope.names, y.2 = .free → X.env.scope.names.lookup y.1 = some .cell ∨ X.env.scope.names.lookup y.1 = some .free)
    (hdef : defaultsOf params X.env = ([], []) := by rfl) : PE X (.Lambda params body scope pos) (tLamF X P params body scope) := by
  refine ⟨fun pins s σ H Q I hq => ?_⟩
  obtain ⟨⟨ps, hP, ht, ha⟩, h⟩ := hq
  have hfr : ∀ y ∈ scope.names, y.2 = .free → ∃ c, X.env.cells.lookup y.1 = some c := fun y hy e => (hfree y hy e).elim (fun z => I.ok.has _ (.inl z)) fun z => I.ok.has _ (.inr z)
  refine PySem.W.kla_eval hdef ?_
  have bP : s.heap.BuiltinsAt X.mg P := TB.bm.keeps I.bk
  have gP : s.heap.get? P = some { cls := .none, data := .fields ps } := I.hok P _ hP
  cases hc : codeAmong pos ps.toList with
  | some cv =>
    obtain ⟨c1, q1, rfl, hco⟩ := ha pos cv hc
    refine PySem.W.kla_makeFunctionHit (mg := X.mg) (c := c) (P := P) (ps := ps) (closure_ok hfr) I.ok.glob (I.mod.glob.keeps I.bk) hcode (TB.code.keeps I.bk) gP ht hc bP fun ct h' tk hx hsz => ?_
    have I1 : Inv X pins σ H { s with heap := h' } := I.kept (t' := s.toks) hx
    have nF : H h'.objs.size = none := I.hok.fresh hsz
    refine ⟨.ref h'.objs.size, _, inv_lam I1, rfl, h _ c1 q1 _ ?_ ?_ ?_ upd_same⟩
    · exact Keep.of_same fun b o e => by rw [upd_ne (ne_of_none e nF)]; exact e
    · exact fun b o e _ => by rw [upd_ne (ne_of_none e nF)]; exact e
    · rw [upd_ne (ne_of_none hco nF)]; exact hco
  | none =>
    refine PySem.W.kla_makeFunction (mg := X.mg) (c := c) (P := P) (ps := ps) (closure_ok hfr) I.ok.glob (I.mod.glob.keeps I.bk) hcode (TB.code.keeps I.bk) gP ht hc TB.gP bP fun c1 ct h' tk hx hge hlt hrec htb => ?_
    obtain ⟨c2, oc, vs, t, e2, hoc, hd, hv⟩ := hrec
    cases e2
    have nC : H c1 = none := I.hok.fresh hge
    have nF : H h'.objs.size = none := I.hok.fresh (Nat.le_trans hge (Nat.le_of_lt hlt))
    have nP : P ≠ c1 := ne_of_none hP nC
    have nPF : P ≠ h'.objs.size := ne_of_none hP nF
    have I1 := inv_table (t' := s.toks) (more := #[rawInt pos.line, rawInt pos.col, .ref c1]) (h' := h') I hP hx htb hge ⟨oc, vs, t, hoc, hd, hv⟩
    have nCF : c1 ≠ h'.objs.size := Nat.ne_of_lt hlt
    have I2 := inv_lam (qual := X.env.qual ++ "<lambda>") (params := params) (body := body) (scope := scope) (cl := cloFrom X.env.cells scope.names []) (c := c1) (pm := (X.mg "__name__").getD .none) (ct := ct) (t' := tk) I1
    have old : ∀ b o, H b = some o → b ≠ P → upd (upd (upd H P (.tbl (ps ++ #[rawInt pos.line, rawInt pos.col, .ref c1]))) c1 (CodeO c1 (X.env.qual ++ "<lambda>"))) h'.objs.size (LamO h'.objs.size (X.env.qual ++ "<lambda>") params body scope (cloFrom X.env.cells scope.names []) c1) b = some o := fun b o e n => by
      rw [upd_ne (ne_of_none e nF), upd_ne (ne_of_none e nC), upd_ne n]; exact e
    have atP : upd (upd (upd H P (.tbl (ps ++ #[rawInt pos.line, rawInt pos.col, .ref c1]))) c1 (CodeO c1 (X.env.qual ++ "<lambda>"))) h'.objs.size (LamO h'.objs.size (X.env.qual ++ "<lambda>") params body scope (cloFrom X.env.cells scope.names []) c1) P = some (.tbl (ps ++ #[rawInt pos.line, rawInt pos.col, .ref c1])) := by
      rw [upd_ne nPF, upd_ne nP, upd_same]
    have atC : upd (upd (upd H P (.tbl (ps ++ #[rawInt pos.line, rawInt pos.col, .ref c1]))) c1 (CodeO c1 (X.env.qual ++ "<lambda>"))) h'.objs.size (LamO h'.objs.size (X.env.qual ++ "<lambda>") params body scope (cloFrom X.env.cells scope.names []) c1) c1 = some (CodeO c1 (X.env.qual ++ "<lambda>")) := by
      rw [upd_ne nCF, upd_same]
    refine ⟨.ref h'.objs.size, _, I2, rfl, h _ c1 _ _ ⟨fun b o e n => old b o e fun z => ?_, fun b qs e => ?_, fun P' t' => ?_⟩ old atC upd_same⟩
    · subst z
      rw [hP] at e; cases e
      exact n _ rfl
    · by_cases z : b = P
      · subst z; exact ⟨_, atP⟩
      · exact ⟨qs, old b _ e z⟩
    · obtain ⟨ps', a1, a2, a3⟩ := t'
      have codes : ∀ c q, H c = some (CodeO c q) → c ≠ P := fun c q z y => by
        subst y
        rw [hP] at z
        unfold CodeO at z
        cases z
      by_cases z : P' = P
      · subst z
        rw [hP] at a1
        cases a1
        refine ⟨_, atP, by rw [Array.toList_append]; exact PySem.TriplesOk_snoc _ _ _ _ ht, fun p' cv hcv => ?_⟩
        rw [Array.toList_append] at hcv
        rcases among_app _ ht hcv with y | y
        · obtain ⟨c0, q0, e1, e3⟩ := ha p' cv y
          exact ⟨c0, q0, e1, old c0 _ e3 (codes c0 q0 e3)⟩
        · exact ⟨c1, _, y, atC⟩
      · refine ⟨ps', old P' _ a1 z, a2, fun p' cv hcv => ?_⟩
        obtain ⟨c0, q0, e1, e3⟩ := a3 p' cv hcv
        exact ⟨c0, q0, e1, old c0 _ e3 (codes c0 q0 e3)⟩
end

/-! ### its body is run -/
/-- one parameter a; fr: what it captures, js: where that stands in the def's slots -/
structure LamP (X : Cx) (scope : Scope) (a : Str) (fr : List Str) (js : List Nat) : Prop where
  kind : scope.kind = .function
  co : scope.isCoroutine = false
  gen : scope.isGenerator = false
  par : scope.names.lookup a = some .local
  own : ∀ y ∈ scope.names, y.2 ≠ .cell
  free : ∀ y ∈ scope.names, y.2 = .free → X.env.scope.names.lookup y.1 = some .cell ∨ X.env.scope.names.lookup y.1 = some .free
  frk : ∀ y ∈ fr, scope.names.lookup y = some .free
  at_ : js.map (fun j => X.N[j]?) = fr.map some
abbrev lamE (qual : Str) (scope : Scope) (cl : List (Str × Addr)) (L f c : Addr) : Env := PySem.W.envX qual scope L f (.ref c) cl
/-- the context of the body, entered at s -/
def lamC (X : Cx) (s : Shared) (H : Hp) (qual : Str) (scope : Scope) (f c : Addr) (N : List Str) : Cx where
  prog := X.prog
  w := X.w
  K := X.K
  mg := X.mg
  base := X.base
  A := X.A.in1.deeper (lamE qual scope (cloFrom X.env.cells scope.names []) s.heap.objs.size f c)
  N := N
  s_0 := s
  H_0 := H
  env := lamE qual scope (cloFrom X.env.cells scope.names []) s.heap.objs.size f c
  outer := X.stack
  stack := lamE qual scope (cloFrom X.env.cells scope.names []) s.heap.objs.size f c :: X.stack
  ex := []
  fn := fun _ => false
  calm := true
  pn := []
  xe := fun _ _ => False
section
variable {X : Cx} {pins : List (Addr × Obj)} {σ : L2.St} {H : Hp} {s : Shared} {qual : Str} {params : Arguments} {body : Expr} {scope : Scope} {a : Str} {fr : List Str} {js : List Nat} {f c : Addr}
theorem lam_in {h1 : Heap} {x : V} {u : Value} {tk : Nat} (I : Inv X pins σ H s) (L : LamP X scope a fr js) (hh : X.A.handled = none) (ru : RelV x u) (hns : h1.Ns s.heap.objs.size fun y => ([(a, u)] : List (Str × Value)).reverse.lookup y)
    (kp : ∀ b o, s.heap.get? b = some o → h1.get? b = some o) : Inv (lamC X s H qual scope f c (a :: fr)) [] (some x :: js.map fun j => (σ[j]?).join) H { s with heap := h1, toks := tk } := by
  have e0 := I.env0
  have hl : js.length = fr.length := by
    have := congrArg List.length L.at_
    simpa using this
  have has : ∀ y ∈ scope.names, y.2 = .free → ∃ c, X.env.cells.lookup y.1 = some c := fun y hy e => (L.free y hy e).elim (fun z => I.ok.has _ (.inl z)) fun z => I.ok.has _ (.inr z)
  have cm : ∀ {y d}, (cloFrom X.env.cells scope.names []).lookup y = some d → X.env.cells.lookup y = some d := fun {y d} e => by
    rcases cloFrom_mem (PySem.mem_of_lookup e) with z | ⟨z1, z2⟩
    · cases z
    · obtain ⟨d1, hd⟩ := has _ z1 rfl
      have hd : X.env.cells.lookup y = some d1 := hd
      rw [hd, z2, hd] <;> rfl
  have look : ∀ {y}, scope.names.lookup y = some .free → ∃ d, (cloFrom X.env.cells scope.names []).lookup y = some d := fun {y} hy => mem_lookup (cloFrom_has (cells := X.env.cells) (acc := []) (PySem.mem_of_lookup hy))
  have cellK : ∀ {d : Addr} {v : Option Value}, s.heap.IsCell d v → h1.IsCell d v := fun {d v} ⟨o, ho, hd⟩ => ⟨o, kp _ _ ho, hd⟩
  have noex : ∀ b : Addr, b ∉ (lamC X s H qual scope f c (a :: fr)).ex := fun b z => List.not_mem_nil z
  refine ⟨⟨e0.mod, L.kind, rfl, rfl, Nat.le_refl _, fun y z d q1 q2 => I.ok.inj y z d (cm q1) (cm q2), fun y hy => ?_, fun y d z _ => ?_, fun _ => hh, Around.frames_deeper (A := X.A.in1) I.ok.frames, .inr ⟨rfl, rfl⟩, fun b z => absurd z (noex b), e0.bs, e0.bsz, fun b _ _ => noex b, fun b z => absurd z (noex b), e0.funs, e0.frf⟩,
    rfl, e0.bare, Un.kept kp, ⟨_, hns, fun i y v q1 q2 q3 => ?_⟩, fun y d e => ?_, I.hok.fresh (Nat.le_refl _), fun y d e => I.freeC y d (cm e), fun q hq => ?_, I.hok.kept kp, by simp [hl, lamC]⟩
  · rcases (show scope.names.lookup y = some .cell ∨ scope.names.lookup y = some .free from hy) with hy | hy
    · exact absurd rfl (L.own _ (PySem.mem_of_lookup hy))
    · exact look hy
  · cases (show false = true from z)
  · cases i with
    | zero =>
      have ey : a = y := Option.some.inj q1
      have ex : x = v := Option.some.inj (Option.some.inj q2)
      subst ey ex
      exact ⟨u, ru, .inl ⟨L.par, by simp [List.lookup]⟩⟩
    | succ i =>
      have q1 : fr[i]? = some y := q1
      have q2 : (js.map fun j => (σ[j]?).join)[i]? = some (some v) := q2
      rw [List.getElem?_map] at q2
      obtain ⟨j, hj, hv⟩ := Option.map_eq_some_iff.mp q2
      have hN : X.N[j]? = some y := by
        have z := congrArg (fun l => l[i]?) L.at_
        simp only [List.getElem?_map, hj, q1, Option.map_some] at z
        exact Option.some.inj z
      have hσ : σ[j]? = some (some v) := by
        cases q : σ[j]? with
        | none => rw [q] at hv; cases hv
        | some o => rw [q] at hv; exact congrArg some hv
      have fk := L.frk y (List.mem_of_getElem? q1)
      obtain ⟨m, hn, hl⟩ := I.loc
      have kk := L.free _ (PySem.mem_of_lookup fk) rfl
      obtain ⟨u', r, q⟩ := hl j y v hN hσ (kk.elim (fun k => .inr (.inl k)) fun k => .inr (.inr k))
      obtain ⟨d, hd⟩ := look fk
      refine ⟨u', r, .inr ⟨.inr fk, d, hd, ?_⟩⟩
      rcases q with ⟨k1, _⟩ | ⟨_, d1, z1, z2⟩
      · have k1 : X.env.scope.names.lookup y = some .local := k1
        rcases kk with k2 | k2 <;> rw [show X.env.scope.names.lookup y = _ from k2] at k1 <;> cases k1
      · rw [cm hd] at z1
        cases z1
        exact cellK z2
  · obtain ⟨v, z⟩ := I.cell y d (cm e)
    exact ⟨v, cellK z⟩
  · exact absurd (show q ∈ ([] : List (Addr × Obj)) ++ [] from hq) (by simp)
theorem lam_run {x : V} {u : Value} {q : Str} {tb : TE} {Q : VK} (I : Inv X pins σ H s) (L : LamP X scope a fr js) (hr : Room 1 X.A) (ru : RelV x u) (hf : H f = some (LamO f qual params body scope (cloFrom X.env.cells scope.names []) c)) (hc : H c = some (CodeO c q))
    (hb : ∀ pm ct, bindArgs (kla_fn "<lambda>" qual params body scope (cloFrom X.env.cells scope.names []) pm (.ref c) ct) ⟨[u], []⟩ = pure [(a, u)]) (hbody : ∀ qq, PE (lamC X s H qq scope f c (a :: fr)) body tb) (ht : tb (some x :: js.map fun j => (σ[j]?).join) H Q) :
    wpAny (model X.prog X.w) X.A.in1 (call (.ref f) [u]) (CE X.stack X.prog X.w H s Q) (fun _ _ => False) s := by
  obtain ⟨⟨od, sl, pm, ct, gf⟩, _, _⟩ := I.hok f _ hf
  obtain ⟨⟨oc, vs, t, hoc, hdc, hvc⟩, _, _⟩ := I.hok c _ hc
  have hr1 : X.A.in1.depth < recursionLimit := hr.depth
  have rc : codeAny (model X.prog X.w) X.A.in1 (.call (.ref f) ⟨[u], []⟩) (fun r s' => match r with | .ok (.ret v) => CE X.stack X.prog X.w H s Q v s' | _ => False) s := by
    refine call_expr hr1 gf rfl L.co L.gen rfl rfl hoc hdc hvc ?_
    rw [hb]
    refine wpAny_pure (wpAny_newFunctionEnv L.own (fun y hy => ?_) (fun h1 hns hsb => ⟨I.nolimit.fresh _ hsb, ?_⟩) L.kind)
    · rw [List.mem_singleton.mp hy]; exact L.par
    · have kp : ∀ b o, s.heap.get? b = some o → h1.get? b = some o := fun b o e => hsb.extBut b o (Nat.ne_of_lt (Heap.lt_size e)) (Heap.get?_push_of_some _ e)
      have J := lam_in (qual := q) (f := f) (c := c) (tk := s.toks + [(a, u)].length) I L hr.hd ru hns kp
      refine PySem.W.kla_codeExpr (wpAny_mono ((hbody q).run [] _ _ H Q J ht) (fun v s' hq => ?_) fun e s' hq => hq.elim)
      obtain ⟨y, H', J', rv, hQ⟩ := hq
      exact ⟨y, H', J'.os, J'.bare, J'.base, J'.hok, rv, hQ⟩
  refine wpAny_call (codeAny_mono rc fun r s' hq => ?_)
  cases r with
  | error e => exact hq.elim
  | ok fl =>
    cases fl with
    | ret v => exact hq
    | next => exact hq.elim
    | brk => exact hq.elim
    | cont => exact hq.elim
end

/-! ### max(xs, key=lambda a: ..) -/
/-- what a lambda captures, frozen -/
def capt1 : Option Slot → Slot
  | some (.frz d) => .frz d
  | _ => .none
def capt (ρ : Fr0) (js : List Nat) : Fr0 := js.map fun j => capt1 ρ[j]?
def keyD (mb : Fr0 → R D) (ρ : Fr0) (js : List Nat) : D → R D := fun d => mb (.frz d :: capt ρ js)
def maxKD (key : D → R D) : List D → R D
  | [] => .stuck
  | d :: r => (key d).bind fun k => match k with
    | .int n => maxK key d n r
    | _ => .stuck
def vMaxKey (ma : Fr0 → R D) (js : List Nat) (mb : Fr0 → R D) : Fr0 → R D := fun ρ => (ma ρ).bind fun d => d.listItems.bind fun ds => noExc (maxKD (keyD mb ρ js) ds)
theorem noExc_get {α : Type} {r : R α} {p : α → Prop} {e : Nat → List (Str × D) → Prop} (h : (noExc r).Sat p e) : ∃ a, r = .ok a ∧ p a := by
  cases r with
  | ok a => exact ⟨a, rfl, h⟩
  | exc _ _ => exact h.elim
  | stuck => exact h.elim
section
variable {X : Cx} {Cs : Gm} {E : XK} {e body : Expr} {ma mb : Fr0 → R D} {pos p lpos kpos : Pos} {params : Arguments} {scope : Scope} {a : Str} {fr : List Str} {js : List Nat} {c P : Addr}
/-- the reading of max with a key -/
def MaxT (X : Cx) (Cs : Gm) (σ : L2.St) (v fv : V) (H2 : Hp) (Q : VK) : Prop := ∃ (F : Hp) (key : D → R D) (f l : Addr) (xs : List V) (d1 : D) (n1 : Int) (r1 : List D) (d0 : D), v = .ref l ∧ fv = .ref f ∧ Turns X Cs σ F H2 key f ∧ SqL X.K F l xs ∧
  Reps X.K Cs F xs (d1 :: r1) ∧ Same F H2 ∧ key d1 = .ok (.int n1) ∧ maxK key d1 n1 r1 = .ok d0 ∧ ∀ F' H' x, Ext F H2 F' H' → Rep X.K Cs F' x d0 → Q x H'
def tMaxK (X : Cx) (Cs : Gm) (ta tl : TE) : TE := fun σ H Q => ta σ H fun v H1 => tl σ H1 fun fv H2 => MaxT X Cs σ v fv H2 Q
def one1 (k : V → Hp → Prop) : List V → Hp → Prop
  | [v], H => k v H
  | _, _ => False
theorem pe_maxK {ta tl : TE} (hm : X.mg "max" = none) (hh : X.A.handled = none) (ha : PE X e ta) (hl : PE X (.Lambda params body scope lpos) tl) (hg : Gl X "max" := by rfl) (hst : starEach [e] X.env = [(false, eval e X.env)] := by rfl)
    (he : backTo pos (starEach [e] X.env) = (false, eval e X.env) :: backTo pos (starEach [] X.env) := by rfl) (hpl : (backTo pos (starEach [e] X.env)).any (·.1) = false := by rfl)
    (hall : (backToKw pos (keywordEach [⟨some "key", .Lambda params body scope lpos, kpos⟩] X.env)).all (·.1.isSome) = true := by rfl) (hnone : (backToKw pos (keywordEach [⟨some "key", .Lambda params body scope lpos, kpos⟩] X.env)).any (·.1.isNone) = false := by rfl)
    (hks : (backToKw pos (keywordEach [⟨some "key", .Lambda params body scope lpos, kpos⟩] X.env)).filterMap (·.1) = [Str.ofString "key"] := by rfl) : PE X (.Call (.Name "max" p) [e] [⟨some "key", .Lambda params body scope lpos, kpos⟩] pos) (tMaxK X Cs ta tl) := by
  refine ⟨fun pins s σ H Q I h => ?_⟩
  have pa := pa_cons ha pa_nil hst
  have pk := pk_cons (nm := some "key") (kpos := kpos) hl pk_nil
  refine wpAny_Call_Name_kw (ld_blt (u := .builtin "max") I hg hm rfl ?_)
  refine PyProof.Rows.callWith_kw (thn (pa.run pos pins s σ H (one1 fun v H1 => tl σ H1 fun fv H2 => MaxT X Cs σ v fv H2 Q) I h) fun us s1 ⟨vs, H1, I1, r1, q1⟩ => ?_) he hpl hall hnone
  match vs, q1 with
  | [v], q1 =>
    refine thn (pk.run pos pins s1 σ H1 (one1 fun fv H2 => MaxT X Cs σ v fv H2 Q) I1 q1) fun ws s2 ⟨zs, H2, I2, r2, q2⟩ => ?_
    match zs, q2 with
    | [fv], q2 =>
      obtain ⟨F, key, f, l, xs, d1, n1, rr, d0, rfl, rfl, T, hsl, rs, sub, hk1, hk, q⟩ := q2
      rw [hks]
      cases r1 with
      | cons a1 b1 =>
        cases b1
        cases a1
        cases r2 with
        | cons a2 b2 =>
          cases b2
          cases a2
          exact maxCall hh T hsl rs I2 sub hk1 hk fun F' H' s' x u I' e' ru rd => ⟨x, H', I', ru, q F' H' x e' rd⟩
theorem se_maxKey (L : LamP X scope a fr js) (hr : Room 1 X.A) (TB : TabB X.base X.mg c P) (hP : P ∈ Cs.T) (hcode : X.env.code = .ref c) (hm : X.mg "max" = none) (ha : SE X Cs E e ma) (hb : ∀ s H f c q, SE (lamC X s H q scope f c (a :: fr)) Cs E0 body mb)
    (hbind : ∀ u pm ct qual cl c, bindArgs (kla_fn "<lambda>" qual params body scope cl pm (.ref c) ct) ⟨[u], []⟩ = pure [(a, u)] := by intro _ _ _ _ _ _; rfl) (hdef : defaultsOf params X.env = ([], []) := by rfl) (hg : Gl X "max" := by rfl) (hst : starEach [e] X.env = [(false, eval e X.env)] := by rfl)
    (he : backTo pos (starEach [e] X.env) = (false, eval e X.env) :: backTo pos (starEach [] X.env) := by rfl) (hpl : (backTo pos (starEach [e] X.env)).any (·.1) = false := by rfl)
    (hall : (backToKw pos (keywordEach [⟨some "key", .Lambda params body scope lpos, kpos⟩] X.env)).all (·.1.isSome) = true := by rfl) (hnone : (backToKw pos (keywordEach [⟨some "key", .Lambda params body scope lpos, kpos⟩] X.env)).any (·.1.isNone) = false := by rfl)
    (hks : (backToKw pos (keywordEach [⟨some "key", .Lambda params body scope lpos, kpos⟩] X.env)).filterMap (·.1) = [Str.ofString "key"] := by rfl) : SE X Cs E (.Call (.Name "max" p) [e] [⟨some "key", .Lambda params body scope lpos, kpos⟩] pos) (vMaxKey ma js mb) := by
  obtain ⟨t, pe, q⟩ := ha
  refine ⟨_, pe_maxK (Cs := Cs) hm hr.hd pe (pe_lam TB hcode L.free hdef) hg hst he hpl hall hnone hks, fun F0 H0 ρ F σ H Q S w => q _ _ _ _ _ _ _ S (Wp.seq w fun x d F1 H1 e1 rx w1 => ?_)⟩
  have S1 := S.go e1
  obtain ⟨tb, nP⟩ := S1.tabs P hP
  refine ⟨tb, fun f c1 q1 H2 kp old hc1 hf => ?_⟩
  have sub2 : Same F1 H2 := fun b o hb => old b o (e1.sub b o hb) (ne_of_none hb nP)
  have e2 : Ext F1 H1 F1 H2 := ⟨kp, Same.refl _, fun _ _ z => .inl z, sub2⟩
  have S2 := S1.go e2
  cases rx with
  | lst hq rs =>
    rename_i l xs ds
    obtain ⟨d0, hd0, wd⟩ := noExc_get w1
    cases ds with
    | nil => cases hd0
    | cons d1 r1 =>
      obtain ⟨k, hk1, hd1⟩ := R.bind_eq hd0
      cases k with
      | int n1 =>
        refine ⟨F1, keyD mb ρ js, f, l, xs, d1, n1, r1, d0, rfl, rfl, ?_, hq, rs, sub2, hk1, hd1, fun F' H' x e' rd => wd x F' H' ((e1.trans e2).trans e') rd⟩
        intro pins s F' H' x d n u I ex rx ru hk
        have S3 := S2.go ex
        have hf' : H' f = some (LamO f (X.env.qual ++ "<lambda>") params body scope (cloFrom X.env.cells scope.names []) c1) := ex.hh.get hf
        have hc' : H' c1 = some (LamX.CodeO c1 q1) := ex.hh.get hc1 fun ps => LamX.codeO_ne ps
        have hbody : ∀ qq, PE (lamC X s H' qq scope f c1 (a :: fr)) body (tOfE X.K Cs mb) := fun qq => (hb s H' f c1 qq).of
        refine lam_run I L hr ru hf' hc' (fun pm ct => hbind u pm ct _ _ _) hbody ?_
        refine ⟨⟨F', 0⟩, H', .frz d :: capt ρ js, F', ?_, ?_⟩
        · refine ⟨Ext.refl ex.sub, S3.tabs, by simp [capt], fun i sl hi => ?_, fun i j b1 b2 d e a h1 h2 _ _ => ?_⟩
          · cases i with
            | zero =>
              cases hi
              exact ⟨x, rfl, rx⟩
            | succ i =>
              have hi : (capt ρ js)[i]? = some sl := hi
              unfold capt at hi
              rw [List.getElem?_map] at hi
              obtain ⟨j, hj, hsl⟩ := Option.map_eq_some_iff.mp hi
              cases hρ : ρ[j]? with
              | none => rw [hρ] at hsl; cases hsl; trivial
              | some s1 =>
                rw [hρ] at hsl
                cases s1 with
                | none => cases hsl; trivial
                | own b e => cases hsl; trivial
                | frz d' =>
                  cases hsl
                  obtain ⟨v, hv, rv⟩ := S3.slots j _ hρ
                  refine ⟨v, ?_, rv⟩
                  show (js.map fun j => (σ[j]?).join)[i]? = some (some v)
                  rw [List.getElem?_map, hj, Option.map_some, hv]
                  rfl
          · exfalso
            cases i with
            | zero => cases h1
            | succ i =>
              have h1 : (capt ρ js)[i]? = some (.own b1 d) := h1
              unfold capt at h1
              rw [List.getElem?_map] at h1
              obtain ⟨j', _, hsl⟩ := Option.map_eq_some_iff.mp h1
              cases hρ : ρ[j']? with
              | none => rw [hρ] at hsl; cases hsl
              | some s1 => rw [hρ] at hsl; cases s1 <;> cases hsl
        · have hk' : mb (.frz d :: capt ρ js) = .ok (.int n) := hk
          rw [hk']
          intro v F'' H'' e'' rv
          cases rv
          exact ⟨F'', e'', rfl⟩
      | _ => cases hd1
  | _ => exact w1.elim
end
end VM
end
section
set_option Elab.async false
set_option linter.all false
set_option maxRecDepth 100000
set_option autoImplicit false
/-! VM17: len(x), x of a class with its own len. -/
namespace VM
open PySem PySem.Spec L2
section
variable {X : Cx} {Cs : Gm} {E : XK} {e : Expr} {m : Fr0 → R D} {pos p : Pos} {k : Nat} {f : Addr} {fd : FuncData} {ps : List Str} {g : List D → R D} {c : Nat}
theorem spec_fn {M : Model} {A : Around} {s : Shared} {K : PySem.W.Frag} {self : Value} {name : Str} {Q : Option Value → Shared → Prop} {E : Value → Shared → Prop} (KX : K.In s.heap) (sp : PySem.W.Looks M s.heap (specialOf self name) (some (.ref f))) (hf : PySem.W.isFn K (.ref f) = true)
    (h : wpAny M A (call (.ref f) [self]) (fun v => Q (some v)) E s) : wpAny M A (callSpecial? self name) Q E s := by
  unfold callSpecial?
  refine wpAny_bind (sp.here ?_)
  refine wpAny_holding (wpAny_bind ((PySem.W.bind_fn (M := M) KX self (beq_iff_eq.mp hf)).here ?_))
  exact wpAny_bind (wpAny_mono h (fun v s' z => wpAny_pure z) fun _ _ z => z)
def vLenO (c : Nat) (g : List D → R D) (m : Fr0 → R D) : Fr0 → R D := fun ρ => (m ρ).bind fun d => match d with
  | .ins c' fs => if c' = c then (noExc (g [.ins c' fs])).bind fun n => (match n with
    | .int i => if 0 ≤ i ∧ i ≤ 1000000 then .ok (.int i) else .stuck
    | _ => .stuck) else .stuck
  | _ => .stuck
def rLenO (X : Cx) (C : Addr) (sp : Sp) : List V → Hp → VK → Prop := fun xs H Q => ∃ a dx fs, xs = [.ref a] ∧ H a = some (.ins C dx fs) ∧ sp [.ref a] H (fun v H' => ∃ n, v = .int n ∧ 0 ≤ n ∧ n ≤ 1000000 ∧ Q (.int n) H') E0
theorem call_lenO {C : Addr} {sp : Sp} (G : FnOk X.prog X.w X.K X.mg X.base (CXx X) k f fd ps sp) (hr : Room (k + 1) X.A) (hl : PySem.W.findIn X.K (.ref C) "__len__" = some (some (.ref f))) (hf : PySem.W.isFn X.K (.ref f) = true) (hb : Binds X.K fd ps []) : CallR X (.builtin "len") (rLenO X C sp) := by
  intro pins s σ H xs us Q I r h
  obtain ⟨a, dx, fs, rfl, ha, hsp⟩ := h
  obtain ⟨u, rfl, ru⟩ := vals1 r
  cases ru
  obtain ⟨_, _, _, ho, _⟩ := I.hok a _ ha
  have L : PySem.W.Looks (model X.prog X.w) s.heap (specialOf (.ref a) "__len__") (some (.ref f)) := (NwA.type_at ho rfl).andThen (PySem.W.looks_findIn I.kIn hl)
  refine Calls.call_function_entry PySem.kind_len PySem.plain_len PySem.entry_len (PySem.args_len1 _) ?_
  unfold Builtin.«len»
  refine wpAny_bind (m := oneArg "len" _) (wpAny_pure ?_)
  refine wpAny_bind (m := callSpecial? (.ref a) (PySem.Str.ofString "__len__")) (spec_fn I.kIn L hf ?_)
  have e0 := I.env0
  have e1 : Env0 X.prog X.w X.K X.mg X.base X.A.in1 X.stack s H := ⟨e0.frames, e0.mod, e0.bs, e0.bsz, e0.funs, e0.frf, e0.hok, e0.bare⟩
  have hl := G.len _ _ _ _ hsp
  refine wpAny_call (codeAny_mono (G.run X.A.in1 X.stack s H ⟨[.ref a], []⟩ [.ref a] [.ref a] _ E0 hr.in1 e1 (by
    have := hb s [.ref a] I.kIn (by simpa using hl)
    simpa using this) (.cons rfl .nil) hsp) fun r s' hq => ?_)
  cases r with
  | error e =>
    obtain ⟨_, _, _, _, _, _, _, _, _, _, _, _, z⟩ := (show L2.CX X.prog X.w X.stack H s E0 e s' from hq)
    exact z.elim
  | ok fl =>
    cases fl with
    | next => exact False.elim hq
    | brk => exact False.elim hq
    | cont => exact False.elim hq
    | ret w =>
      obtain ⟨z, H', I', rz, n, rfl, h0, h1, q⟩ := I.after hq
      obtain ⟨t, rfl⟩ := rz
      refine wpAny_bind (wpAny_holding (wpAny_of_eq (rfl : asIndex (.int n t) = pure n) ?_))
      refine wpAny_bind (wpAny_letGo ?_)
      show wpAny _ _ (if n < 0 then _ else _) _ _ _
      rw [if_neg (by omega)]
      show wpAny _ _ (if n ≥ 2 ^ 63 then _ else _) _ _ _
      rw [if_neg (by omega)]
      exact wpAny_bind (wpAny_mkInt (wpAny_pure ⟨_, rfl, .int n, H', I'.tok _, ⟨_, rfl⟩, q⟩))
theorem se_lenO (hm : X.mg "len" = none) (G : FnOk X.prog X.w X.K X.mg X.base (CXx X) k f fd ps (spM X.K Cs 1 false g)) (hr : Room (k + 1) X.A) (hl : PySem.W.findIn X.K (.ref (Cs c)) "__len__" = some (some (.ref f))) (hf : PySem.W.isFn X.K (.ref f) = true) (hb : Binds X.K fd ps [])
    (he : SE X Cs E e m) (hg : Gl X "len" := by rfl) (hst : starEach (e :: []) X.env = (false, eval e X.env) :: starEach [] X.env := by rfl) (hpl : (backTo pos (starEach [] X.env)).any (·.1) = false := by rfl) : SE X Cs E (.Call (.Name "len" p) [e] [] pos) (vLenO c g m) := by
  obtain ⟨t, pe, q⟩ := he
  refine ⟨_, pe_callB (call_lenO G hr hl hf hb) hg hm rfl (pa_cons pe pa_nil hst) (by decide) (by decide) hst hpl, fun F0 H0 ρ F σ H Q S w => q _ _ _ _ _ _ _ S (Wp.seq w fun x d F1 H1 e1 rx w1 => ?_)⟩
  cases rx with
  | ins ha rf =>
    rename_i a dx c' vs gs
    dsimp only at w1
    by_cases h : c' = c
    · subst h
      rw [if_pos rfl] at w1
      obtain ⟨n, hn, w2⟩ := noExc_ok w1
      refine ⟨a, dx, vs, rfl, e1.sub _ _ ha, F1, _, e1.sub, S.tabs.go e1, .cons (.ins ha rf) .nil, rfl, ?_⟩
      rw [hn]
      intro v F' H' e' rv
      cases rv with
      | int i =>
        dsimp only at w2
        by_cases hi : 0 ≤ i ∧ i ≤ 1000000
        · rw [if_pos hi] at w2
          exact ⟨i, rfl, hi.1, hi.2, (show ∀ v F' H', Ext F H F' H' → Rep X.K Cs F' v (.int i) → Q v H' from w2) (.int i) F' H' (e1.trans e') (.int i)⟩
        · rw [if_neg hi] at w2; exact w2.elim
      | _ => exact w2.elim
    · rw [if_neg h] at w1; exact w1.elim
  | _ => exact w1.elim
end
end VM
end
section
set_option Elab.async false
set_option linter.all false
set_option maxRecDepth 100000
set_option autoImplicit false
/-! VM18: what is known of a program's text. -/
namespace VM
open PySem PySem.Spec L2
/-- a def as the top has written it -/
structure DfT (K : PySem.W.Frag) (x qual : Str) (st : Stmt) (ps : List Str) where
  a : Addr
  d : FuncData
  f : L2.Fun K x qual st a d
  b : Binds K d ps []
/-- .. that a global name holds -/
structure GfT (K : PySem.W.Frag) (mg : Str → Option Value) (x : Str) (st : Stmt) (ps : List Str) extends DfT K x x st ps where
  m : mg x = some (.ref a)
/-- a class as the top has written it -/
structure ClT (K : PySem.W.Frag) (mg : Str → Option Value) (x : Str) where
  a : Addr
  cl : Cls K a
  g : mg x = some (.ref a)
/-- a def's code object and its table -/
structure CoT (K : PySem.W.Frag) (d : FuncData) where
  k : Addr
  t : Addr
  e : d.code = .ref k
  h : PySem.W.codeHdIn K k t = true
def fuelOf (i : Nat) : Fr0 → Nat := fun ρ => match ρ[i]? with
  | some (.frz (.int i)) => i.natAbs + 1
  | _ => 1
theorem hu_wide {A : Around} {k : Nat} (hr : Room k A) : A.units + 128 < cLine := by
  have := hr.un
  omega
section
variable {P : Program} {w : World} {K : PySem.W.Frag} {mg : Str → Option Value} {base : Heap} {Cs : Gm}
/-- a def by its body, its code object known -/
theorem ok_defC {x qual : Str} {st : Stmt} {f c : Addr} {fd : FuncData} {N ps : List Str} {k n sz : Nat} {o : Bool} {s1 : Fr0 → R Out} (F : L2.Fun K x qual st f fd) (hc : fd.code = .ref c) (S : FnScope N ps (defScope st)) (hn : ps.length = n) (hsz : N.length = sz)
    (hb : ∀ (A : Around) (outer : List Env) (s : Shared) (H : Hp) (E : XK), Room k (A.deeper (PyProof.Rows.envOfC qual (defScope st) s.heap.objs.size f (.ref c))) → SSs (cxOf (L2.CX P w) P w K mg base N qual (defScope st) f (.ref c) A outer s H E) Cs E o (defBody st) s1) :
    FnOk P w K mg base (L2.CX P w) (k + 1) f fd ps (spM K Cs n o (runDef n sz o s1)) := by
  obtain ⟨oc, od, kV, doc, pm, an, cdv, ct, osl, rfl, lk, hcd⟩ := F.ex
  obtain rfl : cdv = .ref c := hc
  refine fn_of lk hcd S (fun vs H Q E h => ?_) fun A outer s H vs Q E hr h => ?_
  · obtain ⟨F, ds, _, _, r, hl, _⟩ := h
    rw [r.length, hl, hn]
  · obtain ⟨F1, ds, sub, tb, r, hl, w⟩ := h
    obtain ⟨t, p, q⟩ := hb A outer s H E hr
    have hle : vs.length ≤ N.length := by
      have := congrArg List.length S.pre
      rw [List.length_take] at this
      rw [r.length, hl, ← hn]
      omega
    have S0 := sim_start (N := N) sub tb r hle
    refine ⟨t, p, q ⟨F1, 0⟩ H _ F1 (L2.start N vs) H _ S0 ?_⟩
    unfold runDef at w
    rw [if_pos hl] at w
    rw [hl, hsz]
    refine w.of_bind.mono (fun out hd => ?_) fun _ _ z => z
    cases out with
    | ret d => exact hd
    | nx ρ =>
      cases o with
      | true => exact hd.elim
      | false => exact fun F' σ' H' _ S' => (show ∀ v F' H', Ext F1 H F' H' → ResAt K Cs false H F' H' v .non → Q v H' from hd) .non F' H' S'.ext .non
    | brk ρ => cases o <;> exact hd.elim
    | ct ρ => cases o <;> exact hd.elim
end
theorem kitT (K : PySem.W.Frag) {T : String} (h : ∀ n ∈ ["NoneType", "bool", "int", "str", "tuple", "list"], PySem.W.kitOne K (.type n) (.type T) = some (subTy n T)) : ∀ d n, tyName d = some n → PySem.W.kitOne K (.type n) (.type T) = some (subTy n T) := fun d n e => by
  cases d <;> simp only [tyName, Option.some.injEq, reduceCtorEq] at e <;> subst e <;> exact h _ (by decide)
theorem kit_int (K : PySem.W.Frag) : ∀ d n, tyName d = some n → PySem.W.kitOne K (.type n) (.type "int") = some (subTy n "int") := kitT K fun n h => by
  simp only [List.mem_cons, List.not_mem_nil, or_false] at h
  rcases h with rfl | rfl | rfl | rfl | rfl | rfl <;> first | rfl | kernel_rfl
theorem kit_bool (K : PySem.W.Frag) : ∀ d n, tyName d = some n → PySem.W.kitOne K (.type n) (.type "bool") = some (subTy n "bool") := kitT K fun n h => by
  simp only [List.mem_cons, List.not_mem_nil, or_false] at h
  rcases h with rfl | rfl | rfl | rfl | rfl | rfl <;> first | rfl | kernel_rfl
theorem kit_tuple (K : PySem.W.Frag) : ∀ d n, tyName d = some n → PySem.W.kitOne K (.type n) (.type "tuple") = some (subTy n "tuple") := kitT K fun n h => by
  simp only [List.mem_cons, List.not_mem_nil, or_false] at h
  rcases h with rfl | rfl | rfl | rfl | rfl | rfl <;> first | rfl | kernel_rfl
theorem kit_list (K : PySem.W.Frag) : ∀ d n, tyName d = some n → PySem.W.kitOne K (.type n) (.type "list") = some (subTy n "list") := kitT K fun n h => by
  simp only [List.mem_cons, List.not_mem_nil, or_false] at h
  rcases h with rfl | rfl | rfl | rfl | rfl | rfl <;> first | rfl | kernel_rfl
theorem kit_str (K : PySem.W.Frag) : ∀ d n, tyName d = some n → PySem.W.kitOne K (.type n) (.type "str") = some (subTy n "str") := kitT K fun n h => by
  simp only [List.mem_cons, List.not_mem_nil, or_false] at h
  rcases h with rfl | rfl | rfl | rfl | rfl | rfl <;> first | rfl | kernel_rfl
end VM
namespace VM
open PySem PySem.Spec L2
def lamPB (N : List Str) (sc scope : Scope) (a : Str) (fr : List Str) (js : List Nat) : Bool :=
  decide (scope.kind = .function) && !scope.isCoroutine && !scope.isGenerator && decide (scope.names.lookup a = some .local) &&
  (scope.names.all fun y => !decide (y.2 = .cell) && (!decide (y.2 = .free) || decide (sc.names.lookup y.1 = some .cell) || decide (sc.names.lookup y.1 = some .free))) &&
  (fr.all fun y => decide (scope.names.lookup y = some .free)) && decide (js.map (fun j => N[j]?) = fr.map some)
theorem lamP_by {X : Cx} {scope : Scope} {a : Str} {fr : List Str} {js : List Nat} (h : lamPB X.N X.env.scope scope a fr js = true) : LamP X scope a fr js := by
  unfold lamPB at h
  simp only [Bool.and_eq_true, Bool.or_eq_true, Bool.not_eq_true', decide_eq_true_eq, decide_eq_false_iff_not, List.all_eq_true] at h
  obtain ⟨⟨⟨⟨⟨⟨h1, h2⟩, h3⟩, h4⟩, h5⟩, h6⟩, h7⟩ := h
  refine ⟨h1, h2, h3, h4, fun y hy => (h5 y hy).1, fun y hy e => ?_, h6, h7⟩
  rcases (h5 y hy).2 with (z | z) | z
  · exact absurd e z
  · exact .inl z
  · exact .inr z
end VM
end
section
set_option Elab.async false
set_option linter.all false
set_option maxRecDepth 100000
set_option autoImplicit false
/-! VM19: the end. -/
namespace VM
open PySem PySem.Spec L2
open LamX (OwnTab LawAtS TabB)
open PyProof.Rows (recsOf)
section
variable {K : PySem.W.Frag} {mg : Str → Option Value} {h : Heap}
/-- a def that a global name holds -/
def gfT_mk {x : Str} {st : Stmt} {f : Addr} {oc : Value} {od an : Option Addr} {osl : Array (Option Value)} {kV doc pm cdv ct : Value} {ps : List Str} (KX : K.In h) (G : h.Ns mainGlobals mg) (a : PySem.W.nsIn K mainGlobals x = some (some (.ref f)))
    (l : K.lookup f = some ⟨oc, od, .func (PySem.W.fnOf x x (defArgs st) (defBody st) (defScope st) .none kV doc pm an cdv ct), osl⟩) (c : PySem.W.codeIn K cdv x = true) (k : PySem.W.keepIn K (.ref f) = true)
    (b : ∀ (kV doc pm : Value) (an : Option Addr) (cdv ct : Value) (us : List Value), us.length = ps.length → bindArgs (PySem.W.fnOf x x (defArgs st) (defBody st) (defScope st) .none kV doc pm an cdv ct) ⟨us, []⟩ = pure (ps.zip us)) : GfT K mg x st ps where
  a := f
  d := PySem.W.fnOf x x (defArgs st) (defBody st) (defScope st) .none kV doc pm an cdv ct
  f := fun_mk l c k
  b := (fun_mk l c k).binds b
  m := PySem.W.mg_of KX G a
/-- a def of a class -/
def dfT_mk {x qual : Str} {st : Stmt} {f : Addr} {oc : Value} {od an : Option Addr} {osl : Array (Option Value)} {kV doc pm cdv ct : Value} {ps : List Str}
    (l : K.lookup f = some ⟨oc, od, .func (PySem.W.fnOf x qual (defArgs st) (defBody st) (defScope st) .none kV doc pm an cdv ct), osl⟩) (c : PySem.W.codeIn K cdv qual = true) (k : PySem.W.keepIn K (.ref f) = true)
    (b : ∀ (kV doc pm : Value) (an : Option Addr) (cdv ct : Value) (us : List Value), us.length = ps.length → bindArgs (PySem.W.fnOf x qual (defArgs st) (defBody st) (defScope st) .none kV doc pm an cdv ct) ⟨us, []⟩ = pure (ps.zip us)) : DfT K x qual st ps where
  a := f
  d := PySem.W.fnOf x qual (defArgs st) (defBody st) (defScope st) .none kV doc pm an cdv ct
  f := fun_mk l c k
  b := (fun_mk l c k).binds b
def clT_mk {x : Str} {C : Addr} (KX : K.In h) (G : h.Ns mainGlobals mg) (a : PySem.W.nsIn K mainGlobals x = some (some (.ref C))) (pg : PySem.W.plainGet K C Str.empty = true) (hd : PySem.W.hasDictIn K C = true) (po : PySem.W.plainOver K C = true)
    (sa : PySem.W.findIn K (.ref C) "__setattr__" = some (some (.builtin "object.__setattr__"))) : ClT K mg x := ⟨C, ⟨pg, hd, po, sa⟩, PySem.W.mg_of KX G a⟩
theorem cint_mk {x : Str} {i : Int} {t : Tok} (KX : K.In h) (G : h.Ns mainGlobals mg) (a : PySem.W.nsIn K mainGlobals x = some (some (.int i t))) : ∃ t, mg x = some (.int i t) := ⟨t, PySem.W.mg_of KX G a⟩
/-- the table of a def of the top is empty at first -/
theorem tab_empty {x : Str} {st : Stmt} {f : Addr} {fd : FuncData} (F : L2.Fun K x x st f fd) (C : CoT K fd) (own : OwnTab K f h) : h.get? C.t = some { cls := .none, data := .fields #[] } := by
  obtain ⟨oc, od, kV, doc, pm, an, cdv, ct, osl, rfl, lk, hcd⟩ := F.ex
  have e := C.h
  unfold PySem.W.codeHdIn at e
  split at e
  · rename_i dd vs sl hk
    simp only [Bool.and_eq_true] at e
    obtain ⟨⟨⟨⟨⟨e1, _⟩, _⟩, _⟩, _⟩, _⟩ := e
    refine own C.k C.t _ _ _ _ vs _ lk rfl C.e hk ?_
    split at e1
    · rename_i P' hP
      rw [hP, beq_iff_eq.mp e1]
    · cases e1
  · cases e
end
theorem walk_tab {l : PySem.W.OpenLaw} {k : Nat} {q : Program} {loose : List Str} {XP : (Str → Option Value) → Heap → Prop} {YP : World → Heap → Prop} {d : DefRec} {K : Params → PySem.W.Frag} {x : Str} (hn : l.most = some 63) (hdf : d.params.defaults = []) (hr : Room k callerA)
    (hY : ∀ (w : World) (h : Heap), YP w h → (K w.params).In h)
    (F : ∀ (w : World) (mg : Str → Option Value) (fa : Addr) (h : Heap), (K w.params).In h → h.Ns mainGlobals mg → mg d.name = some (.ref fa) → (∀ (y : Str) (fy : Addr), ((recsOf q).any fun e => e.name == y) = true → mg y = some (.ref fy) → OwnTab (K w.params) fy h) →
      LawAtS l w (K w.params) (L2.CX l.prog w) k 63 x mg fa h) : PySem.W.WalkO q loose XP YP l.row.toRowW d [] (fun f vs => PySem.call f vs) := by
  refine Att.attach_callB hn hdf fun w s₀ s₁ mg mb fa o pm cd doc a vs ns G Y ho hd hcd hmg hobj hints hlen hbits hg => ?_
  have KX := hY w _ Y
  have own : ∀ (y : Str) (fy : Addr), ((recsOf q).any fun e => e.name == y) = true → mg y = some (.ref fy) → OwnTab (K w.params) fy s₁.heap := by
    intro y fy hrec hy c P o1 fd1 e dd vs1 sl k1 k2 k3 k4 k5
    obtain ⟨dL, hm, hn1⟩ := List.any_eq_true.mp hrec
    obtain ⟨a', o', fd', c', P', z1, z2, z3, z4, _, ⟨⟨oc, vc, w1, _, w3, w4⟩, hP⟩⟩ := G.T.tab dL hm
    rw [beq_iff_eq.mp hn1, hy] at z1
    cases z1
    rw [KX _ _ k1] at z2
    cases z2
    rw [k2] at z3
    cases z3
    rw [k3] at z4
    cases z4
    rw [KX _ _ k4] at w1
    cases w1
    cases w3
    rw [k5] at w4
    cases w4
    exact hP
  obtain ⟨fd, cs, sp, hT, nT, C, hb, hsp, hF⟩ := F w mg fa _ KX G.T.g hmg own
  refine LamX.law_callTs KX G.T.g G.T.b G.T.builtins G.T.nolimit hg hT nT C G.T.bmain hobj hints (Nat.le_trans hlen (by decide)) hr hF hb (fun H hH hS => hsp H a ns hlen hbits hH hS) fun H e s' z => ?_
  obtain ⟨_, _, _, _, _, _, _, _, _, _, _, _, z⟩ := z
  exact z.elim
/-- from the law's mirror to its promise at the head's heap -/
theorem law_at {l : PySem.W.OpenLaw} {w : World} {K : PySem.W.Frag} {k : Nat} {x : Str} {mg : Str → Option Value} {fa : Addr} {h : Heap} {fd : FuncData} {Cs : Gm} {m : List D → R D} {cs : List (Addr × Addr)} (hcs : ∀ P ∈ Cs.T, ∃ p ∈ cs, p.2 = P) (hT : ∀ p ∈ cs, h.get? p.2 = some { cls := .none, data := .fields #[] })
    (nT : ∀ p ∈ cs, K.lookup p.2 = none) (C : ∀ p ∈ cs, PySem.W.CodeHd h p.1 p.2) (hb : ∀ (s : Shared) (u : Value), BindsTo s fd ⟨[u], []⟩ [(x, u)]) (hm : ∀ ns : List Int, ns.length ≤ 63 → m [.lst (ns.map D.int)] = .ok (.bl true))
    (F : ∀ base : Heap, K.In base → base.Ns mainGlobals mg → (∀ p ∈ cs, TabB base mg p.1 p.2) → FnOk l.prog w K mg base (L2.CX l.prog w) k fa fd [x] (spM K Cs 1 false m)) : LawAtS l w K (L2.CX l.prog w) k 63 x mg fa h := by
  refine ⟨fd, cs, spM K Cs 1 false m, hT, nT, C, hb, fun H a ns hl _ hH hS => ?_, F⟩
  have rs : ∀ (G : Hp) (ns : List Int), Reps K Cs G (ns.map V.int) (ns.map D.int) := fun G ns => by
    induction ns with
    | nil => exact .nil
    | cons n ns ih => exact .cons (.int n) ih
  have ht : ∀ P ∈ Cs.T, H P = some (.tbl #[]) := fun P hP => by
    obtain ⟨p, hp, rfl⟩ := hcs P hP
    exact hH p hp
  have na : ∀ P ∈ Cs.T, (∃ xs, H a = some (.lst xs) ∨ ∃ o, H a = some (.frz o (.lst xs))) → P ≠ a := fun P hP hx z => by
    subst z
    rw [ht P hP] at hx
    obtain ⟨xs, z | ⟨o, z⟩⟩ := hx <;> cases z
  have tab : ∀ P ∈ Cs.T, TabA H P := fun P hP => ⟨#[], ht P hP, True.intro, fun pos cv z => by
    have z : codeAmong pos [] = some cv := z
    simp [codeAmong] at z⟩
  have fin : ∀ G : Hp, Same G H → (∀ P ∈ Cs.T, G P = none) → SqL K G a (ns.map V.int) → spM K Cs 1 false m [.ref a] H (fun v _ => v = .bl true) fun _ _ _ => False := fun G sg ng hq => by
    refine ⟨G, [.lst (ns.map D.int)], sg, fun P hP => ⟨tab P hP, ng P hP⟩, .cons (.lst hq (rs G ns)) .nil, rfl, ?_⟩
    rw [hm ns hl]
    intro v F' H' _ rv
    cases rv
    rfl
  rcases hS with hS | hS
  · refine fin (fun b => if b = a then H a else none) (fun b u z => ?_) (fun P hP => if_neg (na P hP ?_)) (.inl ?_)
    · by_cases e : b = a
      · subst e; exact (if_pos rfl).symm.trans z
      · cases (if_neg e).symm.trans z
    · rcases hS with z | ⟨o, z⟩
      · exact ⟨_, .inl z⟩
      · exact ⟨_, .inr ⟨o, z⟩⟩
    · rcases hS with z | ⟨o, z⟩
      · exact .inl ((if_pos rfl).trans z)
      · exact .inr ⟨o, (if_pos rfl).trans z⟩
  · exact fin (fun _ => none) (fun _ _ z => by cases z) (fun _ _ => rfl) (.inr hS)
end VM
end
section
set_option Elab.async false
set_option linter.all false
set_option maxRecDepth 100000
set_option autoImplicit false
/-! VM20: values of mirrors: loops, comprehensions, walks over lists that are images. -/
namespace VM
open PySem PySem.Spec L2
theorem ixN_nat {n i : Nat} (h : i < n) : ixN n (i : Int) = some i := by
  unfold ixN
  rw [if_pos (Int.natCast_nonneg i), if_pos (by omega)]
  simp
theorem atI_nat {α : Type} {xs : List α} {i : Nat} {x : α} (h : xs[i]? = some x) : L2.atI xs (i : Int) = some x := by
  unfold L2.atI
  rw [ixN_nat (List.getElem?_eq_some_iff.mp h).1]
  exact h
theorem ix_1_0 : ixN 1 0 = some 0 := by decide
theorem ix_2_0 : ixN 2 0 = some 0 := by decide
theorem ix_2_1 : ixN 2 1 = some 1 := by decide
theorem ix_3_0 : ixN 3 0 = some 0 := by decide
theorem ix_3_1 : ixN 3 1 = some 1 := by decide
theorem ix_3_2 : ixN 3 2 = some 2 := by decide
theorem ix_4_0 : ixN 4 0 = some 0 := by decide
theorem ix_4_1 : ixN 4 1 = some 1 := by decide
theorem ix_4_2 : ixN 4 2 = some 2 := by decide
theorem ix_4_3 : ixN 4 3 = some 3 := by decide
theorem sub_tt : subTy "tuple" "tuple" = true := by decide
theorem sub_ii : subTy "int" "int" = true := by decide
theorem sub_ib : subTy "int" "bool" = false := by decide
theorem natc1 : ((1 : Nat) : Int) = 1 := rfl
theorem natc2 : ((2 : Nat) : Int) = 2 := rfl
theorem natc3 : ((3 : Nat) : Int) = 3 := rfl
theorem natc4 : ((4 : Nat) : Int) = 4 := rfl
theorem oAdd_ap (x y : D) : oAdd x y = dI2 (fun i j => .int (i + j)) x y := rfl
theorem oSub_ap (x y : D) : oSub x y = dI2 (fun i j => .int (i - j)) x y := rfl
theorem oMul_ap (x y : D) : oMul x y = dI2c mulFits (fun i j => .int (i * j)) x y := rfl
theorem oDiv_ap (x y : D) : oDiv x y = dI2c (fun _ j => divFits j) (fun i j => .int (i / j)) x y := rfl
theorem oMod_ap (x y : D) : oMod x y = dI2c (fun _ j => decide (0 < j)) (fun i j => .int (i % j)) x y := rfl
theorem oLt_ap (x y : D) : oLt x y = dI2 (fun i j => .bl (decide (i < j))) x y := rfl
theorem oLe_ap (x y : D) : oLe x y = dI2 (fun i j => .bl (decide (i ≤ j))) x y := rfl
theorem oGt_ap (x y : D) : oGt x y = dI2 (fun i j => .bl (decide (j < i))) x y := rfl
theorem oGe_ap (x y : D) : oGe x y = dI2 (fun i j => .bl (decide (j ≤ i))) x y := rfl
theorem oIdx_l (xs : List D) (i : Int) : oIdx (.lst xs) (.int i) = match (ixN xs.length i).bind (fun j => xs[j]?) with | some d => .ok d | none => .stuck := rfl
theorem oIdx_t (xs : List D) (i : Int) : oIdx (.tup xs) (.int i) = match (ixN xs.length i).bind (fun j => xs[j]?) with | some d => .ok d | none => .stuck := rfl
theorem oIsN_ap (x : D) : oIsN x .non = .ok (.bl x.isNon) := rfl
theorem oNotN_ap (x : D) : oNotN x .non = .ok (.bl (!x.isNon)) := rfl
/-! ### loops -/
/-- each turn goes on -/
theorem forL_nx {s : D → Fr0 → R Out} (ρs : Nat → Fr0) : ∀ (ds : List D) (i0 : Nat), (∀ (i : Nat) (d : D), ds[i]? = some d → s d (ρs (i0 + i)) = .ok (.nx (ρs (i0 + i + 1)))) → forL s ds (ρs i0) = .ok (.nx (ρs (i0 + ds.length)))
  | [], i0, _ => rfl
  | d :: ds, i0, h => by
    have h0 : s d (ρs i0) = .ok (.nx (ρs (i0 + 1))) := h 0 d rfl
    simp only [forL, h0, R.bind_ok]
    have := forL_nx ρs ds (i0 + 1) fun i d' hd => by
      have := h (i + 1) d' (by simpa using hd)
      rw [show i0 + 1 + i = i0 + (i + 1) by omega]
      exact this
    rw [this, List.length_cons, show i0 + 1 + ds.length = i0 + (ds.length + 1) by omega]
/-- .. over the images of a list, the state told by what is done -/
theorem forL_fold {α σ : Type} {s : D → Fr0 → R Out} (e : α → D) (st : σ → Fr0) (f : σ → α → σ) : ∀ (l : List α) (x : σ), (∀ (x : σ) (a : α), a ∈ l → s (e a) (st x) = .ok (.nx (st (f x a)))) → forL s (l.map e) (st x) = .ok (.nx (st (l.foldl f x)))
  | [], x, _ => rfl
  | a :: l, x, h => by
    simp only [List.map_cons, forL, h x a List.mem_cons_self, R.bind_ok, List.foldl_cons]
    exact forL_fold e st f l (f x a) fun x b hb => h x b (List.mem_cons_of_mem _ hb)
/-- .. with an invariant -/
theorem forL_inv {α σ : Type} {s : D → Fr0 → R Out} (e : α → D) (st : σ → Fr0) (f : σ → α → σ) (I : σ → Prop) : ∀ (l : List α) (x : σ), I x → (∀ (x : σ) (a : α), a ∈ l → I x → s (e a) (st x) = .ok (.nx (st (f x a))) ∧ I (f x a)) → forL s (l.map e) (st x) = .ok (.nx (st (l.foldl f x))) ∧ I (l.foldl f x)
  | [], x, hx, _ => ⟨rfl, hx⟩
  | a :: l, x, hx, h => by
    obtain ⟨h1, h2⟩ := h x a List.mem_cons_self hx
    simp only [List.map_cons, forL, h1, R.bind_ok, List.foldl_cons]
    exact forL_inv e st f I l (f x a) h2 fun x b hb => h x b (List.mem_cons_of_mem _ hb)
/-! ### comprehensions -/
theorem compL_map {α : Type} {f : D → R (Option D)} (e : α → D) (k : α → D) : ∀ l : List α, (∀ a ∈ l, f (e a) = .ok (some (k a))) → compL f (l.map e) = .ok (l.map k)
  | [], _ => rfl
  | a :: l, h => by
    simp only [List.map_cons, compL, h a List.mem_cons_self, R.bind_ok, compL_map e k l fun b hb => h b (List.mem_cons_of_mem _ hb)]
theorem compL_filter {α : Type} {f : D → R (Option D)} (e : α → D) (k : α → D) (p : α → Bool) : ∀ l : List α, (∀ a ∈ l, f (e a) = .ok (if p a then some (k a) else none)) → compL f (l.map e) = .ok ((l.filter p).map k)
  | [], _ => rfl
  | a :: l, h => by
    simp only [List.map_cons, compL, h a List.mem_cons_self, R.bind_ok, compL_filter e k p l fun b hb => h b (List.mem_cons_of_mem _ hb)]
    by_cases hp : p a = true
    · simp [hp, List.filter_cons]
    · simp [hp, List.filter_cons]
theorem c2L_map {α β : Type} {f : D → R (List D)} (e : α → D) (k : α → List β) (g : β → D) : ∀ l : List α, (∀ a ∈ l, f (e a) = .ok ((k a).map g)) → c2L f (l.map e) = .ok ((l.flatMap k).map g)
  | [], _ => rfl
  | a :: l, h => by
    simp only [List.map_cons, c2L, h a List.mem_cons_self, R.bind_ok, c2L_map e k g l fun b hb => h b (List.mem_cons_of_mem _ hb), List.flatMap_cons, List.map_append]
/-! ### walks -/
theorem zipD_map {α β : Type} (e : α → D) (g : β → D) : ∀ (l : List α) (m : List β), zipD (l.map e) (m.map g) = (l.zip m).map fun p => .tup [e p.1, g p.2]
  | [], _ => by simp [zipD]
  | _ :: _, [] => by simp [zipD]
  | a :: l, b :: m => by simp [zipD, zipD_map e g l m]
theorem enumD_map {α : Type} (e : α → D) : ∀ (l : List α) (k : Nat), enumD k (l.map e) = (l.zipIdx k).map fun p => .tup [.int (p.2 : Nat), e p.1]
  | [], _ => rfl
  | a :: l, k => by simp [enumD, enumD_map e l (k + 1)]
theorem rangeD_map (n : Nat) : rangeD 0 n = (List.range n).map fun i => D.int (i : Nat) := by
  simp [rangeD]
/-! ### built-in calls -/
theorem atI_map {α : Type} (e : α → D) {l : List α} {i : Nat} {a : α} (h : l[i]? = some a) : L2.atI (l.map e) (i : Int) = some (e a) := atI_nat (by rw [List.getElem?_map, h]; rfl)
theorem noExc_ok' {α : Type} {r : R α} {x : α} (h : r = .ok x) : noExc r = .ok x := by rw [h]; rfl
theorem vComp_at {α : Type} {vs : List Nat} {mi : Fr0 → R (List D)} {g : D → Fr0 → R Fr0} {nt : Fr0 → R Bool} {me : Fr0 → R D} {ρ : Fr0} (e k : α → D) (l : List α) (hi : mi ρ = .ok (l.map e)) (hl : l.length ≤ 1000000)
    (h : ∀ a ∈ l, cTurn g nt me (wipeR ρ vs) (e a) = .ok (some (k a))) : vComp vs mi g nt me ρ = .ok (.lst (l.map k)) := by
  unfold vComp
  rw [hi, R.bind_ok, if_pos (by simpa using hl), noExc_ok' (compL_map e k l h), R.bind_ok]
theorem vComp_if {α : Type} {vs : List Nat} {mi : Fr0 → R (List D)} {g : D → Fr0 → R Fr0} {nt : Fr0 → R Bool} {me : Fr0 → R D} {ρ : Fr0} (e k : α → D) (p : α → Bool) (l : List α) (hi : mi ρ = .ok (l.map e)) (hl : l.length ≤ 1000000)
    (h : ∀ a ∈ l, cTurn g nt me (wipeR ρ vs) (e a) = .ok (if p a then some (k a) else none)) : vComp vs mi g nt me ρ = .ok (.lst ((l.filter p).map k)) := by
  unfold vComp
  rw [hi, R.bind_ok, if_pos (by simpa using hl), noExc_ok' (compL_filter e k p l h), R.bind_ok]
theorem turn_yes {g : D → Fr0 → R Fr0} {me : Fr0 → R D} {ρ ρ1 : Fr0} {d x : D} (h1 : g d ρ = .ok ρ1) (h2 : me ρ1 = .ok x) : cTurn g tYesB me ρ d = .ok (some x) := by
  unfold cTurn
  rw [h1, R.bind_ok]
  show (R.bind (tYesB ρ1) _) = _
  unfold tYesB
  rw [R.bind_ok, if_pos rfl, h2]
  rfl
theorem turn_if {g : D → Fr0 → R Fr0} {nt : Fr0 → R Bool} {me : Fr0 → R D} {ρ ρ1 : Fr0} {d x : D} {b : Bool} (h1 : g d ρ = .ok ρ1) (h3 : nt ρ1 = .ok b) (h2 : b = true → me ρ1 = .ok x) : cTurn g nt me ρ d = .ok (if b then some x else none) := by
  unfold cTurn
  rw [h1, R.bind_ok, h3, R.bind_ok]
  cases b with
  | false => rfl
  | true => rw [if_pos rfl, h2 rfl]; rfl
theorem tgt2 {i j : Nat} {a b : D} {ρ : Fr0} : gTupD 2 (gsCons (gSet i) (gsCons (gSet j) gsNil)) (.tup [a, b]) ρ = .ok ((ρ.set i (.frz a)).set j (.frz b)) := rfl
theorem idx_map {α : Type} (e : α → D) {l : List α} {i : Nat} {a : α} (h : l[i]? = some a) : (ixN (l.map e).length (i : Int)).bind (fun j => (l.map e)[j]?) = some (e a) := atI_map e h
theorem vComp2_at {α β : Type} {vs vs1 : List Nat} {mi : Fr0 → R (List D)} {g : D → Fr0 → R Fr0} {nt : Fr0 → R Bool} {mi1 : Fr0 → R (List D)} {g1 : D → Fr0 → R Fr0} {nt1 : Fr0 → R Bool} {me : Fr0 → R D} {ρ : Fr0} (e : α → D) (k : α → List β) (f : β → D) (l : List α) (hi : mi ρ = .ok (l.map e)) (hl : (l.flatMap k).length ≤ 1000000)
    (h : ∀ a ∈ l, c2Turn vs vs1 g nt mi1 g1 nt1 me ρ (e a) = .ok ((k a).map f)) : vComp2 vs vs1 mi g nt mi1 g1 nt1 me ρ = .ok (.lst ((l.flatMap k).map f)) := by
  unfold vComp2
  rw [hi, R.bind_ok, noExc_ok' (c2L_map e k f l h), R.bind_ok, if_pos (by simpa using hl)]
theorem turn2_yes {vs vs1 : List Nat} {g : D → Fr0 → R Fr0} {mi1 : Fr0 → R (List D)} {g1 : D → Fr0 → R Fr0} {nt1 : Fr0 → R Bool} {me : Fr0 → R D} {ρ ρ1 : Fr0} {d : D} {es xs : List D} (h1 : g d (wipeR ρ vs) = .ok ρ1) (h2 : ownSub vs ρ ρ1 = true) (h3 : mi1 ρ1 = .ok es) (h4 : compL (cTurn g1 nt1 me (wipeR ρ1 vs1)) es = .ok xs) :
    c2Turn vs vs1 g tYesB mi1 g1 nt1 me ρ d = .ok xs := by
  unfold c2Turn
  rw [h1, R.bind_ok, if_pos h2]
  show R.bind (tYesB ρ1) _ = _
  unfold tYesB
  rw [R.bind_ok, if_pos rfl, h3, R.bind_ok, h4]
end VM
end
section
set_option Elab.async false
set_option linter.all false
set_option maxRecDepth 100000
set_option autoImplicit false
/-! The mirrors of the program and of the law, and that they are sound. Printed by gen.py. -/
namespace VM
open PySem PySem.Spec L2
def top (i : Nat) : Stmt := PySem.Challenge.pw_saywhat_k01_whole_tellings.main.body.getD i (.Pass ⟨0, 0, 0, 0⟩)
abbrev s__law_cell_at : Stmt := top 49
abbrev s__law_matter : Stmt := top 58
abbrev s_is_plain_integer : Stmt := top 6
abbrev s_is_integer_within : Stmt := top 7
abbrev s_is_row_within : Stmt := top 8
abbrev s__are_parts : Stmt := top 27
abbrev s__are_rows : Stmt := top 26
abbrev s__are_gains : Stmt := top 28
abbrev s_Matterdd_initdd : Stmt := inClass (top 29) 0
abbrev s_Matter_parts : Stmt := inClass (top 29) 1
abbrev s_Matter_gains : Stmt := inClass (top 29) 2
abbrev s_Matter_worths : Stmt := inClass (top 29) 3
abbrev s_Matterdd_lendd : Stmt := inClass (top 29) 4
abbrev s_check_matter : Stmt := top 30
abbrev s_whole_table : Stmt := top 46
abbrev s_silent_table : Stmt := top 47
abbrev s__law_low : Stmt := top 51
abbrev s__law_table : Stmt := top 60
abbrev s__law_times : Stmt := top 53
abbrev s__law_chance : Stmt := top 59
abbrev s__law_shares : Stmt := top 61
abbrev s__law_plus : Stmt := top 52
abbrev s__law_sum : Stmt := top 56
abbrev s__law_count : Stmt := top 62
abbrev s__law_less : Stmt := top 55
abbrev s__law_done : Stmt := top 63
abbrev s__law_over : Stmt := top 57
abbrev s__law_minus : Stmt := top 54
abbrev s_is_ratio : Stmt := top 9
abbrev s_is_chance : Stmt := top 10
abbrev s_common_under : Stmt := top 12
abbrev s_scaled : Stmt := top 13
abbrev s_are_one_together : Stmt := top 14
abbrev s_are_chances : Stmt := top 33
abbrev s_is_table : Stmt := top 34
abbrev s_check_table : Stmt := top 35
abbrev s__joint_chances : Stmt := top 36
abbrev s_ratio : Stmt := top 11
abbrev s__belief : Stmt := top 39
abbrev s_beliefs : Stmt := top 41
abbrev s__totals : Stmt := top 37
abbrev s__act_done : Stmt := top 38
abbrev s_acts_after : Stmt := top 42
abbrev s_swerves : Stmt := top 45
abbrev s__overall : Stmt := top 40
abbrev s_worth_of : Stmt := top 43
abbrev s__law_value : Stmt := top 64
abbrev s_gain_of : Stmt := top 44
abbrev s__law_told_right : Stmt := top 65
abbrev s_law : Stmt := top 66
set_option maxHeartbeats 0
/-- names that are built-in -/
structure TxZ (mg : Str → Option Value) : Prop where
  len : mg "len" = none
  int : mg "int" = none
  range : mg "range" = none
  tuple : mg "tuple" = none
  isinstance : mg "isinstance" = none
  bool : mg "bool" = none
  all : mg "all" = none
  sum : mg "sum" = none
  abs : mg "abs" = none
  enumerate : mg "enumerate" = none
  zip : mg "zip" = none
  any : mg "any" = none
  max : mg "max" = none
/-- numbers of the module, functions of math -/
structure TxC (mg : Str → Option Value) : Prop where
  FEWEST_CASES : ∃ t, mg "FEWEST_CASES" = some (.int 2 t)
  MOST_CASES : ∃ t, mg "MOST_CASES" = some (.int 4 t)
  MOST_PART : ∃ t, mg "MOST_PART" = some (.int 6 t)
  LEAST_PART : ∃ t, mg "LEAST_PART" = some (.int 1 t)
  FEWEST_ACTS : ∃ t, mg "FEWEST_ACTS" = some (.int 2 t)
  MOST_ACTS : ∃ t, mg "MOST_ACTS" = some (.int 4 t)
  MOST_GAIN : ∃ t, mg "MOST_GAIN" = some (.int 9 t)
  LEAST_GAIN : ∃ t, mg "LEAST_GAIN" = some (.int (-9) t)
  MOST_WORTH : ∃ t, mg "MOST_WORTH" = some (.int 9 t)
  LEAST_WORTH : ∃ t, mg "LEAST_WORTH" = some (.int 0 t)
  MOST_WORDS : ∃ t, mg "MOST_WORDS" = some (.int 4 t)
  gcd : mg "gcd" = some (.builtin "math.gcd")
  lcm : mg "lcm" = some (.builtin "math.lcm")
/-- the defs -/
structure TxF (K : PySem.W.Frag) (mg : Str → Option Value) where
  F__law_cell_at : GfT K mg "_law_cell_at" s__law_cell_at ["_law_script", "_law_k"]
  F__law_matter : GfT K mg "_law_matter" s__law_matter ["_law_script", "_law_at"]
  F_is_plain_integer : GfT K mg "is_plain_integer" s_is_plain_integer ["value"]
  F_is_integer_within : GfT K mg "is_integer_within" s_is_integer_within ["value", "least", "most"]
  F_is_row_within : GfT K mg "is_row_within" s_is_row_within ["row", "length", "least", "most"]
  F__are_parts : GfT K mg "_are_parts" s__are_parts ["parts"]
  F__are_rows : GfT K mg "_are_rows" s__are_rows ["rows", "cases", "acts", "least", "most"]
  F__are_gains : GfT K mg "_are_gains" s__are_gains ["gains", "cases"]
  F_check_matter : GfT K mg "check_matter" s_check_matter ["matter"]
  F_whole_table : GfT K mg "whole_table" s_whole_table ["matter"]
  F_silent_table : GfT K mg "silent_table" s_silent_table ["matter"]
  F__law_low : GfT K mg "_law_low" s__law_low ["_law_top", "_law_bottom"]
  F__law_table : GfT K mg "_law_table" s__law_table ["_law_script", "_law_at", "_law_plain", "_law_words"]
  F__law_times : GfT K mg "_law_times" s__law_times ["_law_one", "_law_other"]
  F__law_chance : GfT K mg "_law_chance" s__law_chance ["_law_plain", "_law_place"]
  F__law_shares : GfT K mg "_law_shares" s__law_shares ["_law_plain", "_law_table_here", "_law_word"]
  F__law_plus : GfT K mg "_law_plus" s__law_plus ["_law_one", "_law_other"]
  F__law_sum : GfT K mg "_law_sum" s__law_sum ["_law_some"]
  F__law_count : GfT K mg "_law_count" s__law_count ["_law_shares_here", "_law_rows", "_law_act"]
  F__law_less : GfT K mg "_law_less" s__law_less ["_law_one", "_law_other"]
  F__law_done : GfT K mg "_law_done" s__law_done ["_law_plain", "_law_shares_here"]
  F__law_over : GfT K mg "_law_over" s__law_over ["_law_one", "_law_other"]
  F__law_minus : GfT K mg "_law_minus" s__law_minus ["_law_one", "_law_other"]
  F_is_ratio : GfT K mg "is_ratio" s_is_ratio ["value"]
  F_is_chance : GfT K mg "is_chance" s_is_chance ["value"]
  F_common_under : GfT K mg "common_under" s_common_under ["ratios"]
  F_scaled : GfT K mg "scaled" s_scaled ["share", "common"]
  F_are_one_together : GfT K mg "are_one_together" s_are_one_together ["ratios"]
  F_are_chances : GfT K mg "are_chances" s_are_chances ["row", "words"]
  F_is_table : GfT K mg "is_table" s_is_table ["matter", "table"]
  F_check_table : GfT K mg "check_table" s_check_table ["matter", "table"]
  F__joint_chances : GfT K mg "_joint_chances" s__joint_chances ["matter", "table"]
  F_ratio : GfT K mg "ratio" s_ratio ["over", "under"]
  F__belief : GfT K mg "_belief" s__belief ["joint"]
  F_beliefs : GfT K mg "beliefs" s_beliefs ["matter", "table"]
  F__totals : GfT K mg "_totals" s__totals ["rows", "joint"]
  F__act_done : GfT K mg "_act_done" s__act_done ["matter", "joint"]
  F_acts_after : GfT K mg "acts_after" s_acts_after ["matter", "table"]
  F_swerves : GfT K mg "swerves" s_swerves ["matter", "table"]
  F__overall : GfT K mg "_overall" s__overall ["matter", "table", "rows"]
  F_worth_of : GfT K mg "worth_of" s_worth_of ["matter", "table"]
  F__law_value : GfT K mg "_law_value" s__law_value ["_law_plain", "_law_table_here", "_law_rows"]
  F_gain_of : GfT K mg "gain_of" s_gain_of ["matter", "table"]
  F__law_told_right : GfT K mg "_law_told_right" s__law_told_right ["_law_plain", "_law_matter_here", "_law_table_here"]
  F_law : GfT K mg "law" s_law ["_law_script"]
/-- the classes, their methods -/
structure TxM (K : PySem.W.Frag) (mg : Str → Option Value) where
  C_Matter : ClT K mg "Matter"
  M_Matterdd_initdd : DfT K "__init__" "Matter.__init__" s_Matterdd_initdd ["self", "parts", "gains", "worths"]
  M_Matter_parts : DfT K "parts" "Matter.parts" s_Matter_parts ["self"]
  M_Matter_gains : DfT K "gains" "Matter.gains" s_Matter_gains ["self"]
  M_Matter_worths : DfT K "worths" "Matter.worths" s_Matter_worths ["self"]
  M_Matterdd_lendd : DfT K "__len__" "Matter.__len__" s_Matterdd_lendd ["self"]
  na_Matter__parts : NoAttr K C_Matter.a "_parts"
  na_Matter__gains : NoAttr K C_Matter.a "_gains"
  na_Matter__worths : NoAttr K C_Matter.a "_worths"
  mk_Matter : Mk K C_Matter.a M_Matterdd_initdd.a
  at_Matterdd_lendd : PySem.W.findIn K (.ref C_Matter.a) "__len__" = some (some (.ref M_Matterdd_lendd.a))
  fn_Matterdd_lendd : PySem.W.isFn K (.ref M_Matterdd_lendd.a) = true
  p_Matter_parts : Addr
  pr_Matter_parts : PropOf K C_Matter.a "parts" p_Matter_parts M_Matter_parts.a
  p_Matter_gains : Addr
  pr_Matter_gains : PropOf K C_Matter.a "gains" p_Matter_gains M_Matter_gains.a
  p_Matter_worths : Addr
  pr_Matter_worths : PropOf K C_Matter.a "worths" p_Matter_worths M_Matter_worths.a
  it_Matter : InsTy K C_Matter.a
  ko_Matter : PySem.W.kitOne K (.ref C_Matter.a) (.ref C_Matter.a) = some true
/-- code objects in which lambdas stand -/
structure TxT (K : PySem.W.Frag) (mg : Str → Option Value) (f : TxF K mg) where
  t__act_done : CoT K f.F__act_done.d
/-- what the top has written -/
structure Tx (K : PySem.W.Frag) (mg : Str → Option Value) where
  z : TxZ mg
  c : TxC mg
  f : TxF K mg
  m : TxM K mg
  t : TxT K mg f
def Tx.cs {K : PySem.W.Frag} {mg : Str → Option Value} (T : Tx K mg) (w : World) : Gm := ⟨fun i => match i with
  | 0 => T.m.C_Matter.a
  | _ => 0, w, [T.t.t__act_done.t]⟩
structure Bx {K : PySem.W.Frag} {mg : Str → Option Value} (T : Tx K mg) (base : Heap) : Prop where
  tb__act_done : LamX.TabB base mg T.t.t__act_done.k T.t.t__act_done.t
section
variable {P : Program} {w : World} {K : PySem.W.Frag} {mg : Str → Option Value} {base : Heap}
/-! ### _law_cell_at -/
def b__law_cell_at : Fr0 → R Out := (bSeq (bIf (vTest (vBin oLt (vVar 1) (vCall fLen (aCons (vVar 0) aNil)))) (bRet (vBin oIdx (vVar 0) (vVar 1))) bNil)
    (bSeq (bIf (vTest (vBin oEqA (vVar 0) (vLst aNil))) (bRet (vBin oMul (vVar 1) (vC (.int 48271)))) bNil)
    (bRet (vBin oMod (vCall fInt (aCons (vBin oMul (vBin oAdd (vBin oIdx (vVar 0) (vBin oMod (vCall fInt (aCons (vVar 1) aNil)) (vCall fLen (aCons (vVar 0) aNil)))) (vVar 1)) (vC (.int 48271))) aNil)) (vC (.int 2147483647))))))
def m__law_cell_at : List D → R D := runDef 2 2 false b__law_cell_at
theorem sc__law_cell_at : FnScope ["_law_script", "_law_k"] ["_law_script", "_law_k"] (defScope s__law_cell_at) := ⟨rfl, rfl, rfl, by decide +kernel, rfl, by decide +kernel, by decide +kernel⟩
theorem ok__law_cell_at (T : Tx K mg) (B : Bx T base) : FnOk P w K mg base (L2.CX P w) 2 T.f.F__law_cell_at.a T.f.F__law_cell_at.d ["_law_script", "_law_k"] (spM K (T.cs w) 2 false m__law_cell_at) :=
  VM.ok_def (s1 := b__law_cell_at) T.f.F__law_cell_at.f sc__law_cell_at rfl rfl fun cdv A outer s H E hr => by
    have nd := sc__law_cell_at.nd
    have hu := hu_wide hr
    unfold b__law_cell_at
    exact (sss_cons (ss_if (st_cmp op_lt okLt (se_var 1) (se_callB call_len okLen T.z.len rfl (sa_cons (se_var 0) sa_nil)) (nomark _)) (sss_one (ss_ret (se_idx (se_var 0) (se_var 1)))) sss_nil)
      (sss_cons (ss_if (st_cmp (op_eqA rfl hu) okEqA (se_var 0) ((so_lst sa_nil)).se (nomark _)) (sss_one (ss_ret (se_mul (se_var 1) se_int))) sss_nil)
      (sss_one (ss_ret (se_mod (se_callTy call_int1 okInt T.z.int rfl (sa_cons (se_mul (se_add (se_idx (se_var 0) (se_mod (se_callTy call_int1 okInt T.z.int rfl (sa_cons (se_var 1) sa_nil)) (se_callB call_len okLen T.z.len rfl (sa_cons (se_var 0) sa_nil)))) (se_var 1)) se_int) sa_nil)) se_int)))))
/-! ### _law_matter -/
def b__law_matter : Fr0 → R Out := (bSeq (bMix [2, 3, 4, 5] (mFrz (vBin oAdd (vC (.int 2)) (vBin oMod (vCall fInt (aCons (vFn 2 [] m__law_cell_at (aCons (vVar 0) (aCons (vVar 1) aNil))) aNil)) (vC (.int 3)))) (mFrz (vBin oAdd (vC (.int 2)) (vBin oMod (vCall fInt (aCons (vFn 2 [] m__law_cell_at (aCons (vVar 0) (aCons (vBin oAdd (vVar 1) (vC (.int 1))) aNil))) aNil)) (vC (.int 3)))) (mOwn (vLst aNil) (mOwn (vLst aNil) mNil)))))
    (bSeq (bSet 7 (vCall fTuple (aCons (vComp (([("_law_place", 6)] : List (Str × Nat)).map (·.2)) (iRange1 (aCons (vVar 2) aNil)) (gSet 6) tYesB (vBin oAdd (vC (.int 1)) (vBin oMod (vCall fInt (aCons (vFn 2 [] m__law_cell_at (aCons (vVar 0) (aCons (vBin oAdd (vBin oAdd (vVar 1) (vC (.int 2))) (vVar 6)) aNil))) aNil)) (vC (.int 6))))) aNil)))
    (bSeq (bFor (iRange1 (aCons (vVar 2) aNil)) (gSet 6) (bSeq (bApp 4 (vCall fTuple (aCons (vComp (([("_law_act", 8)] : List (Str × Nat)).map (·.2)) (iRange1 (aCons (vVar 3) aNil)) (gSet 8) tYesB (vBin oSub (vBin oMod (vCall fInt (aCons (vFn 2 [] m__law_cell_at (aCons (vVar 0) (aCons (vBin oAdd (vBin oAdd (vBin oAdd (vVar 1) (vC (.int 6))) (vBin oMul (vC (.int 4)) (vVar 6))) (vVar 8)) aNil))) aNil)) (vC (.int 19))) (vC (.int 9)))) aNil)))
    (bApp 5 (vCall fTuple (aCons (vComp (([("_law_act", 8)] : List (Str × Nat)).map (·.2)) (iRange1 (aCons (vVar 3) aNil)) (gSet 8) tYesB (vBin oMod (vCall fInt (aCons (vFn 2 [] m__law_cell_at (aCons (vVar 0) (aCons (vBin oAdd (vBin oAdd (vBin oAdd (vVar 1) (vC (.int 22))) (vBin oMul (vC (.int 4)) (vVar 6))) (vVar 8)) aNil))) aNil)) (vC (.int 10)))) aNil)))))
    (bFrz 5 (bFrz 4 (bRet (vTup (aCons (vVar 7) (aCons (vCall fTuple (aCons (vVar 4) aNil)) (aCons (vCall fTuple (aCons (vVar 5) aNil)) aNil))))))))))
def m__law_matter : List D → R D := runDef 2 9 false b__law_matter
theorem sc__law_matter : FnScope ["_law_script", "_law_at", "_law_many", "_law_acts", "_law_gains", "_law_worths", "_law_place", "_law_parts", "_law_act"] ["_law_script", "_law_at"] (defScope s__law_matter) := ⟨rfl, rfl, rfl, by decide +kernel, rfl, by decide +kernel, by decide +kernel⟩
theorem ok__law_matter (T : Tx K mg) (B : Bx T base) : FnOk P w K mg base (L2.CX P w) 3 T.f.F__law_matter.a T.f.F__law_matter.d ["_law_script", "_law_at"] (spM K (T.cs w) 2 false m__law_matter) :=
  VM.ok_def (s1 := b__law_matter) T.f.F__law_matter.f sc__law_matter rfl rfl fun cdv A outer s H E hr => by
    have nd := sc__law_matter.nd
    have hu := hu_wide hr
    unfold b__law_matter
    exact (sss_cons (ss_mixN (sm_frz (se_add se_int (se_mod (se_callTy call_int1 okInt T.z.int rfl (sa_cons (se_call (ok__law_cell_at T B) (hr.mono (by decide)) T.f.F__law_cell_at.m T.f.F__law_cell_at.f.kp T.f.F__law_cell_at.b .nil (fun _ => .nil) (passes_call (takes_of rfl rfl rfl rfl) fun _ _ _ _ h => h) (sa_cons (se_var 0) (sa_cons (se_var 1) sa_nil))) sa_nil)) se_int)) (sm_frz (se_add se_int (se_mod (se_callTy call_int1 okInt T.z.int rfl (sa_cons (se_call (ok__law_cell_at T B) (hr.mono (by decide)) T.f.F__law_cell_at.m T.f.F__law_cell_at.f.kp T.f.F__law_cell_at.b .nil (fun _ => .nil) (passes_call (takes_of rfl rfl rfl rfl) fun _ _ _ _ h => h) (sa_cons (se_var 0) (sa_cons (se_add (se_var 1) se_int) sa_nil))) sa_nil)) se_int)) (sm_own (so_lst sa_nil) (sm_own (so_lst sa_nil) sm_nil)))) (ng_cons 2 nd (ng_cons 3 nd (ng_cons 4 nd (ng_cons 5 nd ng_nil)))))
      (sss_cons (ss_set 7 nd (se_callTy call_tuple_of okTuple T.z.tuple rfl (sa_cons ((so_lc [("_law_place", 6)] nd (si_range1 T.z.range (sa_cons (se_var 2) sa_nil)) (blkOk_by (own := [("_law_place", 6)]) (by kernel_rfl)) (by decide) (fun _ _ _ _ _ => (sg_name 6 nd)) (fun _ _ _ _ _ => sp_nil) (fun _ _ _ _ _ => (se_add se_int (se_mod (se_callTy call_int1 okInt T.z.int rfl (sa_cons (se_call (ok__law_cell_at T B) (hr.mono (by decide)) T.f.F__law_cell_at.m T.f.F__law_cell_at.f.kp T.f.F__law_cell_at.b .nil (fun _ => .nil) passL (sa_cons (se_var 0) (sa_cons (se_add (se_add (se_var 1) se_int) (se_var 6)) sa_nil))) sa_nil)) se_int))))).se sa_nil)))
      (sss_cons (ss_for (passes_of rfl) (si_range1 T.z.range (sa_cons (se_var 2) sa_nil)) (sg_name 6 nd) (sss_cons (ss_app 4 (se_callTy call_tuple_of okTuple T.z.tuple rfl (sa_cons ((so_lc [("_law_act", 8)] nd (si_range1 T.z.range (sa_cons (se_var 3) sa_nil)) (blkOk_by (own := [("_law_act", 8)]) (by kernel_rfl)) (by decide) (fun _ _ _ _ _ => (sg_name 8 nd)) (fun _ _ _ _ _ => sp_nil) (fun _ _ _ _ _ => (se_sub (se_mod (se_callTy call_int1 okInt T.z.int rfl (sa_cons (se_call (ok__law_cell_at T B) (hr.mono (by decide)) T.f.F__law_cell_at.m T.f.F__law_cell_at.f.kp T.f.F__law_cell_at.b .nil (fun _ => .nil) passL (sa_cons (se_var 0) (sa_cons (se_add (se_add (se_add (se_var 1) se_int) (se_mul se_int (se_var 6))) (se_var 8)) sa_nil))) sa_nil)) se_int) se_int)))).se sa_nil)))
      (sss_one (ss_app 5 (se_callTy call_tuple_of okTuple T.z.tuple rfl (sa_cons ((so_lc [("_law_act", 8)] nd (si_range1 T.z.range (sa_cons (se_var 3) sa_nil)) (blkOk_by (own := [("_law_act", 8)]) (by kernel_rfl)) (by decide) (fun _ _ _ _ _ => (sg_name 8 nd)) (fun _ _ _ _ _ => sp_nil) (fun _ _ _ _ _ => (se_mod (se_callTy call_int1 okInt T.z.int rfl (sa_cons (se_call (ok__law_cell_at T B) (hr.mono (by decide)) T.f.F__law_cell_at.m T.f.F__law_cell_at.f.kp T.f.F__law_cell_at.b .nil (fun _ => .nil) passL (sa_cons (se_var 0) (sa_cons (se_add (se_add (se_add (se_var 1) se_int) (se_mul se_int (se_var 6))) (se_var 8)) sa_nil))) sa_nil)) se_int)))).se sa_nil))))))
      (sss_one (ss_frz 5 (ss_frz 4 (ss_ret (se_tup (sa_cons (se_var 7) (sa_cons (se_callTy call_tuple_of okTuple T.z.tuple rfl (sa_cons (se_var 4) sa_nil)) (sa_cons (se_callTy call_tuple_of okTuple T.z.tuple rfl (sa_cons (se_var 5) sa_nil)) sa_nil)))))))))))
/-! ### is_plain_integer -/
def b_is_plain_integer : Fr0 → R Out := (bRet (vAnd (vIsi "int" (vVar 0)) (vNot (vIsi "bool" (vVar 0)))))
def m_is_plain_integer : List D → R D := runDef 1 1 false b_is_plain_integer
theorem sc_is_plain_integer : FnScope ["value"] ["value"] (defScope s_is_plain_integer) := ⟨rfl, rfl, rfl, by decide +kernel, rfl, by decide +kernel, by decide +kernel⟩
theorem ok_is_plain_integer (T : Tx K mg) (B : Bx T base) : FnOk P w K mg base (L2.CX P w) 2 T.f.F_is_plain_integer.a T.f.F_is_plain_integer.d ["value"] (spM K (T.cs w) 1 false m_is_plain_integer) :=
  VM.ok_def (s1 := b_is_plain_integer) T.f.F_is_plain_integer.f sc_is_plain_integer rfl rfl fun cdv A outer s H E hr => by
    have nd := sc_is_plain_integer.nd
    have hu := hu_wide hr
    unfold b_is_plain_integer
    exact (sss_one (ss_ret (se_and (se_isi T.z.isinstance T.z.int rfl (kit_int _) (se_var 0)) (se_one (se_not (se_isi T.z.isinstance T.z.bool rfl (kit_bool _) (se_var 0)))))))
/-! ### is_integer_within -/
def b_is_integer_within : Fr0 → R Out := (bRet (vAnd (vFn 1 [] m_is_plain_integer (aCons (vVar 0) aNil)) (vChain oLe oLe (vVar 1) (vVar 0) (vVar 2))))
def m_is_integer_within : List D → R D := runDef 3 3 false b_is_integer_within
theorem sc_is_integer_within : FnScope ["value", "least", "most"] ["value", "least", "most"] (defScope s_is_integer_within) := ⟨rfl, rfl, rfl, by decide +kernel, rfl, by decide +kernel, by decide +kernel⟩
theorem ok_is_integer_within (T : Tx K mg) (B : Bx T base) : FnOk P w K mg base (L2.CX P w) 3 T.f.F_is_integer_within.a T.f.F_is_integer_within.d ["value", "least", "most"] (spM K (T.cs w) 3 false m_is_integer_within) :=
  VM.ok_def (s1 := b_is_integer_within) T.f.F_is_integer_within.f sc_is_integer_within rfl rfl fun cdv A outer s H E hr => by
    have nd := sc_is_integer_within.nd
    have hu := hu_wide hr
    unfold b_is_integer_within
    exact (sss_one (ss_ret (se_and (se_call (ok_is_plain_integer T B) (hr.mono (by decide)) T.f.F_is_plain_integer.m T.f.F_is_plain_integer.f.kp T.f.F_is_plain_integer.b .nil (fun _ => .nil) (passes_call (takes_of rfl rfl rfl rfl) fun _ _ _ _ h => h) (sa_cons (se_var 0) sa_nil)) (se_one (se_chain op_le okLe op_le okLe (se_var 1) (se_var 0) (se_var 2))))))
/-! ### is_row_within -/
def b_is_row_within : Fr0 → R Out := (bSeq (bIf (bOr (bNot (vTest (vIsi "tuple" (vVar 0)))) (vTest (vBin oNeA (vCall fLen (aCons (vVar 0) aNil)) (vVar 1)))) (bRet (vC (.bl false))) bNil)
    (bRet (vCall fAll (aCons (vComp (([("number", 4)] : List (Str × Nat)).map (·.2)) (iSeq (vVar 0)) (gSet 4) tYesB (vFn 3 [] m_is_integer_within (aCons (vVar 4) (aCons (vVar 2) (aCons (vVar 3) aNil))))) aNil))))
def m_is_row_within : List D → R D := runDef 4 5 false b_is_row_within
theorem sc_is_row_within : FnScope ["row", "length", "least", "most", "number"] ["row", "length", "least", "most"] (defScope s_is_row_within) := ⟨rfl, rfl, rfl, by decide +kernel, rfl, by decide +kernel, by decide +kernel⟩
theorem ok_is_row_within (T : Tx K mg) (B : Bx T base) : FnOk P w K mg base (L2.CX P w) 4 T.f.F_is_row_within.a T.f.F_is_row_within.d ["row", "length", "least", "most"] (spM K (T.cs w) 4 false m_is_row_within) :=
  VM.ok_def (s1 := b_is_row_within) T.f.F_is_row_within.f sc_is_row_within rfl rfl fun cdv A outer s H E hr => by
    have nd := sc_is_row_within.nd
    have hu := hu_wide hr
    unfold b_is_row_within
    exact (sss_cons (ss_if (sw_or (st_not (st_val (se_isi T.z.isinstance T.z.tuple rfl (kit_tuple _) (se_var 0)))) (sw_or1 (st_cmp (op_neA rfl hu) okNeA (se_callB call_len okLen T.z.len rfl (sa_cons (se_var 0) sa_nil)) (se_var 1) (nomark _)))).st (sss_one (ss_ret se_bl)) sss_nil)
      (sss_one (ss_ret (se_callB (cr_all rfl) okAll T.z.all rfl (sa_cons ((so_lc [("number", 4)] nd (si_seq (se_var 0)) (blkOk_by (own := [("number", 4)]) (by kernel_rfl)) (by decide) (fun _ _ _ _ _ => (sg_name 4 nd)) (fun _ _ _ _ _ => sp_nil) (fun _ _ _ _ _ => (se_call (ok_is_integer_within T B) (hr.mono (by decide)) T.f.F_is_integer_within.m T.f.F_is_integer_within.f.kp T.f.F_is_integer_within.b .nil (fun _ => .nil) passL (sa_cons (se_var 4) (sa_cons (se_var 2) (sa_cons (se_var 3) sa_nil))))))).se sa_nil)))))
/-! ### _are_parts -/
def b__are_parts : Fr0 → R Out := (bSeq (bIf (bOr (bNot (vTest (vIsi "tuple" (vVar 0)))) (bNot (vTest (vChain oLe oLe (vC (.int 2)) (vCall fLen (aCons (vVar 0) aNil)) (vC (.int 4)))))) (bRet (vC (.bl false))) bNil)
    (bRet (vFn 4 [] m_is_row_within (aCons (vVar 0) (aCons (vCall fLen (aCons (vVar 0) aNil)) (aCons (vC (.int 1)) (aCons (vC (.int 6)) aNil)))))))
def m__are_parts : List D → R D := runDef 1 1 false b__are_parts
theorem sc__are_parts : FnScope ["parts"] ["parts"] (defScope s__are_parts) := ⟨rfl, rfl, rfl, by decide +kernel, rfl, by decide +kernel, by decide +kernel⟩
theorem ok__are_parts (T : Tx K mg) (B : Bx T base) : FnOk P w K mg base (L2.CX P w) 5 T.f.F__are_parts.a T.f.F__are_parts.d ["parts"] (spM K (T.cs w) 1 false m__are_parts) :=
  VM.ok_def (s1 := b__are_parts) T.f.F__are_parts.f sc__are_parts rfl rfl fun cdv A outer s H E hr => by
    have nd := sc__are_parts.nd
    have hu := hu_wide hr
    unfold b__are_parts
    exact (sss_cons (ss_if (sw_or (st_not (st_val (se_isi T.z.isinstance T.z.tuple rfl (kit_tuple _) (se_var 0)))) (sw_or1 (st_not (st_chain op_le okLe op_le okLe (se_gint T.c.FEWEST_CASES) (se_callB call_len okLen T.z.len rfl (sa_cons (se_var 0) sa_nil)) (se_gint T.c.MOST_CASES))))).st (sss_one (ss_ret se_bl)) sss_nil)
      (sss_one (ss_ret (se_call (ok_is_row_within T B) (hr.mono (by decide)) T.f.F_is_row_within.m T.f.F_is_row_within.f.kp T.f.F_is_row_within.b .nil (fun _ => .nil) (passes_call (takes_of rfl rfl rfl rfl) fun _ _ _ _ h => h) (sa_cons (se_var 0) (sa_cons (se_callB call_len okLen T.z.len rfl (sa_cons (se_var 0) sa_nil)) (sa_cons (se_gint T.c.LEAST_PART) (sa_cons (se_gint T.c.MOST_PART) sa_nil))))))))
/-! ### _are_rows -/
def b__are_rows : Fr0 → R Out := (bSeq (bIf (bOr (bNot (vTest (vIsi "tuple" (vVar 0)))) (vTest (vBin oNeA (vCall fLen (aCons (vVar 0) aNil)) (vVar 1)))) (bRet (vC (.bl false))) bNil)
    (bRet (vCall fAll (aCons (vComp (([("row", 5)] : List (Str × Nat)).map (·.2)) (iSeq (vVar 0)) (gSet 5) tYesB (vFn 4 [] m_is_row_within (aCons (vVar 5) (aCons (vVar 2) (aCons (vVar 3) (aCons (vVar 4) aNil)))))) aNil))))
def m__are_rows : List D → R D := runDef 5 6 false b__are_rows
theorem sc__are_rows : FnScope ["rows", "cases", "acts", "least", "most", "row"] ["rows", "cases", "acts", "least", "most"] (defScope s__are_rows) := ⟨rfl, rfl, rfl, by decide +kernel, rfl, by decide +kernel, by decide +kernel⟩
theorem ok__are_rows (T : Tx K mg) (B : Bx T base) : FnOk P w K mg base (L2.CX P w) 5 T.f.F__are_rows.a T.f.F__are_rows.d ["rows", "cases", "acts", "least", "most"] (spM K (T.cs w) 5 false m__are_rows) :=
  VM.ok_def (s1 := b__are_rows) T.f.F__are_rows.f sc__are_rows rfl rfl fun cdv A outer s H E hr => by
    have nd := sc__are_rows.nd
    have hu := hu_wide hr
    unfold b__are_rows
    exact (sss_cons (ss_if (sw_or (st_not (st_val (se_isi T.z.isinstance T.z.tuple rfl (kit_tuple _) (se_var 0)))) (sw_or1 (st_cmp (op_neA rfl hu) okNeA (se_callB call_len okLen T.z.len rfl (sa_cons (se_var 0) sa_nil)) (se_var 1) (nomark _)))).st (sss_one (ss_ret se_bl)) sss_nil)
      (sss_one (ss_ret (se_callB (cr_all rfl) okAll T.z.all rfl (sa_cons ((so_lc [("row", 5)] nd (si_seq (se_var 0)) (blkOk_by (own := [("row", 5)]) (by kernel_rfl)) (by decide) (fun _ _ _ _ _ => (sg_name 5 nd)) (fun _ _ _ _ _ => sp_nil) (fun _ _ _ _ _ => (se_call (ok_is_row_within T B) (hr.mono (by decide)) T.f.F_is_row_within.m T.f.F_is_row_within.f.kp T.f.F_is_row_within.b .nil (fun _ => .nil) passL (sa_cons (se_var 5) (sa_cons (se_var 2) (sa_cons (se_var 3) (sa_cons (se_var 4) sa_nil)))))))).se sa_nil)))))
/-! ### _are_gains -/
def b__are_gains : Fr0 → R Out := (bSeq (bIf (bOr (bNot (vTest (vIsi "tuple" (vVar 0)))) (bOr (vTest (vBin oNeA (vCall fLen (aCons (vVar 0) aNil)) (vVar 1))) (bNot (vTest (vIsi "tuple" (vBin oIdx (vVar 0) (vC (.int 0)))))))) (bRet (vC (.bl false))) bNil)
    (bSeq (bSet 2 (vCall fLen (aCons (vBin oIdx (vVar 0) (vC (.int 0))) aNil)))
    (bRet (vAnd (vChain oLe oLe (vC (.int 2)) (vVar 2) (vC (.int 4))) (vFn 5 [] m__are_rows (aCons (vVar 0) (aCons (vVar 1) (aCons (vVar 2) (aCons (vC (.int (-9))) (aCons (vC (.int 9)) aNil))))))))))
def m__are_gains : List D → R D := runDef 2 3 false b__are_gains
theorem sc__are_gains : FnScope ["gains", "cases", "acts"] ["gains", "cases"] (defScope s__are_gains) := ⟨rfl, rfl, rfl, by decide +kernel, rfl, by decide +kernel, by decide +kernel⟩
theorem ok__are_gains (T : Tx K mg) (B : Bx T base) : FnOk P w K mg base (L2.CX P w) 6 T.f.F__are_gains.a T.f.F__are_gains.d ["gains", "cases"] (spM K (T.cs w) 2 false m__are_gains) :=
  VM.ok_def (s1 := b__are_gains) T.f.F__are_gains.f sc__are_gains rfl rfl fun cdv A outer s H E hr => by
    have nd := sc__are_gains.nd
    have hu := hu_wide hr
    unfold b__are_gains
    exact (sss_cons (ss_if (sw_or (st_not (st_val (se_isi T.z.isinstance T.z.tuple rfl (kit_tuple _) (se_var 0)))) (sw_or (st_cmp (op_neA rfl hu) okNeA (se_callB call_len okLen T.z.len rfl (sa_cons (se_var 0) sa_nil)) (se_var 1) (nomark _)) (sw_or1 (st_not (st_val (se_isi T.z.isinstance T.z.tuple rfl (kit_tuple _) (se_idx (se_var 0) se_int))))))).st (sss_one (ss_ret se_bl)) sss_nil)
      (sss_cons (ss_set 2 nd (se_callB call_len okLen T.z.len rfl (sa_cons (se_idx (se_var 0) se_int) sa_nil)))
      (sss_one (ss_ret (se_and (se_chain op_le okLe op_le okLe (se_gint T.c.FEWEST_ACTS) (se_var 2) (se_gint T.c.MOST_ACTS)) (se_one (se_call (ok__are_rows T B) (hr.mono (by decide)) T.f.F__are_rows.m T.f.F__are_rows.f.kp T.f.F__are_rows.b .nil (fun _ => .nil) (passes_call (takes_of rfl rfl rfl rfl) fun _ _ _ _ h => h) (sa_cons (se_var 0) (sa_cons (se_var 1) (sa_cons (se_var 2) (sa_cons (se_gint T.c.LEAST_GAIN) (sa_cons (se_gint T.c.MOST_GAIN) sa_nil))))))))))))
/-! ### Matter.__init__ -/
def b_Matterdd_initdd : Fr0 → R Out := (bSeq (bIf (bNot (vTest (vFn 1 [] m__are_parts (aCons (vVar 1) aNil)))) bStuck bNil)
    (bSeq (bIf (bNot (vTest (vFn 2 [] m__are_gains (aCons (vVar 2) (aCons (vCall fLen (aCons (vVar 1) aNil)) aNil))))) bStuck bNil)
    (bSeq (bIf (bNot (vTest (vFn 5 [] m__are_rows (aCons (vVar 3) (aCons (vCall fLen (aCons (vVar 1) aNil)) (aCons (vCall fLen (aCons (vBin oIdx (vVar 2) (vC (.int 0))) aNil)) (aCons (vC (.int 0)) (aCons (vC (.int 9)) aNil)))))))) bStuck bNil)
    (bSeq (bFld 0 0 "_parts" (vVar 1))
    (bSeq (bFld 0 0 "_gains" (vVar 2))
    (bFld 0 0 "_worths" (vVar 3)))))))
def m_Matterdd_initdd : List D → R D := runInit 3 0 4 b_Matterdd_initdd
theorem sc_Matterdd_initdd : FnScope ["self", "parts", "gains", "worths"] ["self", "parts", "gains", "worths"] (defScope s_Matterdd_initdd) := ⟨rfl, rfl, rfl, by decide +kernel, rfl, by decide +kernel, by decide +kernel⟩
theorem ok_Matterdd_initdd (T : Tx K mg) (B : Bx T base) : FnOk P w K mg base (L2.CX P w) 7 T.m.M_Matterdd_initdd.a T.m.M_Matterdd_initdd.d ["self", "parts", "gains", "worths"] (spI K (T.cs w) 3 0 m_Matterdd_initdd) :=
  VM.ok_init (s1 := b_Matterdd_initdd) T.m.M_Matterdd_initdd.f sc_Matterdd_initdd rfl rfl fun cdv A outer s H E hr => by
    have nd := sc_Matterdd_initdd.nd
    have hu := hu_wide hr
    unfold b_Matterdd_initdd
    exact (sss_cons (ss_if (st_not (st_val (se_call (ok__are_parts T B) (hr.mono (by decide)) T.f.F__are_parts.m T.f.F__are_parts.f.kp T.f.F__are_parts.b .nil (fun _ => .nil) (passes_call (takes_of rfl rfl rfl rfl) fun _ _ _ _ h => h) (sa_cons (se_var 1) sa_nil)))) (sss_one ss_stuck) sss_nil)
      (sss_cons (ss_if (st_not (st_val (se_call (ok__are_gains T B) (hr.mono (by decide)) T.f.F__are_gains.m T.f.F__are_gains.f.kp T.f.F__are_gains.b .nil (fun _ => .nil) (passes_call (takes_of rfl rfl rfl rfl) fun _ _ _ _ h => h) (sa_cons (se_var 2) (sa_cons (se_callB call_len okLen T.z.len rfl (sa_cons (se_var 1) sa_nil)) sa_nil))))) (sss_one ss_stuck) sss_nil)
      (sss_cons (ss_if (st_not (st_val (se_call (ok__are_rows T B) (hr.mono (by decide)) T.f.F__are_rows.m T.f.F__are_rows.f.kp T.f.F__are_rows.b .nil (fun _ => .nil) (passes_call (takes_of rfl rfl rfl rfl) fun _ _ _ _ h => h) (sa_cons (se_var 3) (sa_cons (se_callB call_len okLen T.z.len rfl (sa_cons (se_var 1) sa_nil)) (sa_cons (se_callB call_len okLen T.z.len rfl (sa_cons (se_idx (se_var 2) se_int) sa_nil)) (sa_cons (se_gint T.c.LEAST_WORTH) (sa_cons (se_gint T.c.MOST_WORTH) sa_nil)))))))) (sss_one ss_stuck) sss_nil)
      (sss_cons (ss_fld 0 T.m.C_Matter.cl T.m.na_Matter__parts (se_var 1))
      (sss_cons (ss_fld 0 T.m.C_Matter.cl T.m.na_Matter__gains (se_var 2))
      (sss_one (ss_fld 0 T.m.C_Matter.cl T.m.na_Matter__worths (se_var 3))))))))
/-! ### Matter.parts -/
def b_Matter_parts : Fr0 → R Out := (bRet (vFld 0 "_parts" (vVar 0)))
def m_Matter_parts : List D → R D := runDef 1 1 false b_Matter_parts
theorem sc_Matter_parts : FnScope ["self"] ["self"] (defScope s_Matter_parts) := ⟨rfl, rfl, rfl, by decide +kernel, rfl, by decide +kernel, by decide +kernel⟩
theorem ok_Matter_parts (T : Tx K mg) (B : Bx T base) : FnOk P w K mg base (L2.CX P w) 2 T.m.M_Matter_parts.a T.m.M_Matter_parts.d ["self"] (spM K (T.cs w) 1 false m_Matter_parts) :=
  VM.ok_def (s1 := b_Matter_parts) T.m.M_Matter_parts.f sc_Matter_parts rfl rfl fun cdv A outer s H E hr => by
    have nd := sc_Matter_parts.nd
    have hu := hu_wide hr
    unfold b_Matter_parts
    exact (sss_one (ss_ret (se_fld T.m.C_Matter.cl T.m.na_Matter__parts (se_var 0))))
/-! ### Matter.gains -/
def b_Matter_gains : Fr0 → R Out := (bRet (vFld 0 "_gains" (vVar 0)))
def m_Matter_gains : List D → R D := runDef 1 1 false b_Matter_gains
theorem sc_Matter_gains : FnScope ["self"] ["self"] (defScope s_Matter_gains) := ⟨rfl, rfl, rfl, by decide +kernel, rfl, by decide +kernel, by decide +kernel⟩
theorem ok_Matter_gains (T : Tx K mg) (B : Bx T base) : FnOk P w K mg base (L2.CX P w) 2 T.m.M_Matter_gains.a T.m.M_Matter_gains.d ["self"] (spM K (T.cs w) 1 false m_Matter_gains) :=
  VM.ok_def (s1 := b_Matter_gains) T.m.M_Matter_gains.f sc_Matter_gains rfl rfl fun cdv A outer s H E hr => by
    have nd := sc_Matter_gains.nd
    have hu := hu_wide hr
    unfold b_Matter_gains
    exact (sss_one (ss_ret (se_fld T.m.C_Matter.cl T.m.na_Matter__gains (se_var 0))))
/-! ### Matter.worths -/
def b_Matter_worths : Fr0 → R Out := (bRet (vFld 0 "_worths" (vVar 0)))
def m_Matter_worths : List D → R D := runDef 1 1 false b_Matter_worths
theorem sc_Matter_worths : FnScope ["self"] ["self"] (defScope s_Matter_worths) := ⟨rfl, rfl, rfl, by decide +kernel, rfl, by decide +kernel, by decide +kernel⟩
theorem ok_Matter_worths (T : Tx K mg) (B : Bx T base) : FnOk P w K mg base (L2.CX P w) 2 T.m.M_Matter_worths.a T.m.M_Matter_worths.d ["self"] (spM K (T.cs w) 1 false m_Matter_worths) :=
  VM.ok_def (s1 := b_Matter_worths) T.m.M_Matter_worths.f sc_Matter_worths rfl rfl fun cdv A outer s H E hr => by
    have nd := sc_Matter_worths.nd
    have hu := hu_wide hr
    unfold b_Matter_worths
    exact (sss_one (ss_ret (se_fld T.m.C_Matter.cl T.m.na_Matter__worths (se_var 0))))
/-! ### Matter.__len__ -/
def b_Matterdd_lendd : Fr0 → R Out := (bRet (vCall fLen (aCons (vFld 0 "_parts" (vVar 0)) aNil)))
def m_Matterdd_lendd : List D → R D := runDef 1 1 false b_Matterdd_lendd
theorem sc_Matterdd_lendd : FnScope ["self"] ["self"] (defScope s_Matterdd_lendd) := ⟨rfl, rfl, rfl, by decide +kernel, rfl, by decide +kernel, by decide +kernel⟩
theorem ok_Matterdd_lendd (T : Tx K mg) (B : Bx T base) : FnOk P w K mg base (L2.CX P w) 2 T.m.M_Matterdd_lendd.a T.m.M_Matterdd_lendd.d ["self"] (spM K (T.cs w) 1 false m_Matterdd_lendd) :=
  VM.ok_def (s1 := b_Matterdd_lendd) T.m.M_Matterdd_lendd.f sc_Matterdd_lendd rfl rfl fun cdv A outer s H E hr => by
    have nd := sc_Matterdd_lendd.nd
    have hu := hu_wide hr
    unfold b_Matterdd_lendd
    exact (sss_one (ss_ret (se_callB call_len okLen T.z.len rfl (sa_cons (se_fld T.m.C_Matter.cl T.m.na_Matter__parts (se_var 0)) sa_nil))))
/-! ### check_matter -/
def b_check_matter : Fr0 → R Out := (bIf (bNot (vTest (vIsC 0 (vVar 0)))) bStuck bNil)
def m_check_matter : List D → R D := runDef 1 1 false b_check_matter
theorem sc_check_matter : FnScope ["matter"] ["matter"] (defScope s_check_matter) := ⟨rfl, rfl, rfl, by decide +kernel, rfl, by decide +kernel, by decide +kernel⟩
theorem ok_check_matter (T : Tx K mg) (B : Bx T base) : FnOk P w K mg base (L2.CX P w) 2 T.f.F_check_matter.a T.f.F_check_matter.d ["matter"] (spM K (T.cs w) 1 false m_check_matter) :=
  VM.ok_def (s1 := b_check_matter) T.f.F_check_matter.f sc_check_matter rfl rfl fun cdv A outer s H E hr => by
    have nd := sc_check_matter.nd
    have hu := hu_wide hr
    unfold b_check_matter
    exact (sss_one (ss_if (st_not (st_val (se_isC T.z.isinstance T.m.C_Matter.g T.m.C_Matter.cl T.m.it_Matter T.m.ko_Matter (se_var 0)))) (sss_one ss_stuck) sss_nil))
/-! ### whole_table -/
def b_whole_table : Fr0 → R Out := (bSeq (bDrop (vFn 1 [] m_check_matter (aCons (vVar 0) aNil)))
    (bSeq (bSet 1 (vLenO 0 m_Matterdd_lendd (vVar 0)))
    (bRet (vCall fTuple (aCons (vComp (([("case", 2)] : List (Str × Nat)).map (·.2)) (iRange1 (aCons (vVar 1) aNil)) (gSet 2) tYesB (vCall fTuple (aCons (vComp (([("word", 3)] : List (Str × Nat)).map (·.2)) (iRange1 (aCons (vVar 1) aNil)) (gSet 3) tYesB (vIf (vTest (vBin oEqA (vVar 3) (vVar 2))) (vTup (aCons (vC (.int 1)) (aCons (vC (.int 1)) aNil))) (vTup (aCons (vC (.int 0)) (aCons (vC (.int 1)) aNil))))) aNil))) aNil)))))
def m_whole_table : List D → R D := runDef 1 4 false b_whole_table
theorem sc_whole_table : FnScope ["matter", "cases", "case", "word"] ["matter"] (defScope s_whole_table) := ⟨rfl, rfl, rfl, by decide +kernel, rfl, by decide +kernel, by decide +kernel⟩
theorem ok_whole_table (T : Tx K mg) (B : Bx T base) : FnOk P w K mg base (L2.CX P w) 4 T.f.F_whole_table.a T.f.F_whole_table.d ["matter"] (spM K (T.cs w) 1 false m_whole_table) :=
  VM.ok_def (s1 := b_whole_table) T.f.F_whole_table.f sc_whole_table rfl rfl fun cdv A outer s H E hr => by
    have nd := sc_whole_table.nd
    have hu := hu_wide hr
    unfold b_whole_table
    exact (sss_cons (ss_drop (se_call (ok_check_matter T B) (hr.mono (by decide)) T.f.F_check_matter.m T.f.F_check_matter.f.kp T.f.F_check_matter.b .nil (fun _ => .nil) (passes_call (takes_of rfl rfl rfl rfl) fun _ _ _ _ h => h) (sa_cons (se_var 0) sa_nil)))
      (sss_cons (ss_set 1 nd (se_lenO T.z.len (ok_Matterdd_lendd T B) (hr.mono (by decide)) T.m.at_Matterdd_lendd T.m.fn_Matterdd_lendd T.m.M_Matterdd_lendd.b (se_var 0)))
      (sss_one (ss_ret (se_callTy call_tuple_of okTuple T.z.tuple rfl (sa_cons ((so_lc [("case", 2)] nd (si_range1 T.z.range (sa_cons (se_var 1) sa_nil)) (blkOk_by (own := [("case", 2)]) (by kernel_rfl)) (by decide) (fun _ _ _ _ _ => (sg_name 2 nd)) (fun _ _ _ _ _ => sp_nil) (fun _ _ _ _ _ => (se_callTy call_tuple_of okTuple T.z.tuple rfl (sa_cons ((so_lc [("word", 3)] nd (si_range1 T.z.range (sa_cons (se_var 1) sa_nil)) (blkOk_by (own := [("word", 3)]) (by kernel_rfl)) (by decide) (fun _ _ _ _ _ => (sg_name 3 nd)) (fun _ _ _ _ _ => sp_nil) (fun _ _ _ _ _ => (se_ifExp (st_cmp (op_eqA rfl hu) okEqA (se_var 3) (se_var 2) (nomark _)) (se_tup (sa_cons se_int (sa_cons se_int sa_nil))) (se_tup (sa_cons se_int (sa_cons se_int sa_nil))))))).se sa_nil))))).se sa_nil))))))
/-! ### silent_table -/
def b_silent_table : Fr0 → R Out := (bSeq (bDrop (vFn 1 [] m_check_matter (aCons (vVar 0) aNil)))
    (bRet (vCall fTuple (aCons (vComp (([("_", 1)] : List (Str × Nat)).map (·.2)) (iRange1 (aCons (vLenO 0 m_Matterdd_lendd (vVar 0)) aNil)) (gSet 1) tYesB (vTup (aCons (vTup (aCons (vC (.int 1)) (aCons (vC (.int 1)) aNil))) aNil))) aNil))))
def m_silent_table : List D → R D := runDef 1 2 false b_silent_table
theorem sc_silent_table : FnScope ["matter", "_"] ["matter"] (defScope s_silent_table) := ⟨rfl, rfl, rfl, by decide +kernel, rfl, by decide +kernel, by decide +kernel⟩
theorem ok_silent_table (T : Tx K mg) (B : Bx T base) : FnOk P w K mg base (L2.CX P w) 4 T.f.F_silent_table.a T.f.F_silent_table.d ["matter"] (spM K (T.cs w) 1 false m_silent_table) :=
  VM.ok_def (s1 := b_silent_table) T.f.F_silent_table.f sc_silent_table rfl rfl fun cdv A outer s H E hr => by
    have nd := sc_silent_table.nd
    have hu := hu_wide hr
    unfold b_silent_table
    exact (sss_cons (ss_drop (se_call (ok_check_matter T B) (hr.mono (by decide)) T.f.F_check_matter.m T.f.F_check_matter.f.kp T.f.F_check_matter.b .nil (fun _ => .nil) (passes_call (takes_of rfl rfl rfl rfl) fun _ _ _ _ h => h) (sa_cons (se_var 0) sa_nil)))
      (sss_one (ss_ret (se_callTy call_tuple_of okTuple T.z.tuple rfl (sa_cons ((so_lc [("_", 1)] nd (si_range1 T.z.range (sa_cons (se_lenO T.z.len (ok_Matterdd_lendd T B) (hr.mono (by decide)) T.m.at_Matterdd_lendd T.m.fn_Matterdd_lendd T.m.M_Matterdd_lendd.b (se_var 0)) sa_nil)) (blkOk_by (own := [("_", 1)]) (by kernel_rfl)) (by decide) (fun _ _ _ _ _ => (sg_name 1 nd)) (fun _ _ _ _ _ => sp_nil) (fun _ _ _ _ _ => (se_tup (sa_cons (se_tup (sa_cons se_int (sa_cons se_int sa_nil))) sa_nil))))).se sa_nil)))))
/-! ### _law_low -/
def b__law_low : Fr0 → R Out := (bSeq (bMix [2, 3] (mFrz (vCall fAbs (aCons (vVar 0) aNil)) (mFrz (vCall fAbs (aCons (vVar 1) aNil)) mNil)))
    (bSeq (bWhile (fuelOf 3) (vTest (vBin oNeA (vVar 3) (vC (.int 0)))) (bMix [2, 3] (mFrz (vVar 3) (mFrz (vBin oMod (vCall fInt (aCons (vVar 2) aNil)) (vVar 3)) mNil))))
    (bSeq (bSet 2 (vIf (vTest (vBin oGt (vVar 1) (vC (.int 0)))) (vVar 2) (vBin oSub (vC (.int 0)) (vVar 2))))
    (bRet (vTup (aCons (vBin oDiv (vVar 0) (vVar 2)) (aCons (vBin oDiv (vVar 1) (vVar 2)) aNil)))))))
def m__law_low : List D → R D := runDef 2 4 false b__law_low
theorem sc__law_low : FnScope ["_law_top", "_law_bottom", "_law_one", "_law_other"] ["_law_top", "_law_bottom"] (defScope s__law_low) := ⟨rfl, rfl, rfl, by decide +kernel, rfl, by decide +kernel, by decide +kernel⟩
theorem ok__law_low (T : Tx K mg) (B : Bx T base) : FnOk P w K mg base (L2.CX P w) 2 T.f.F__law_low.a T.f.F__law_low.d ["_law_top", "_law_bottom"] (spM K (T.cs w) 2 false m__law_low) :=
  VM.ok_def (s1 := b__law_low) T.f.F__law_low.f sc__law_low rfl rfl fun cdv A outer s H E hr => by
    have nd := sc__law_low.nd
    have hu := hu_wide hr
    unfold b__law_low
    exact (sss_cons (ss_mix2 2 3 nd (sm_frz (se_callB call_abs okAbs T.z.abs rfl (sa_cons (se_var 0) sa_nil)) (sm_frz (se_callB call_abs okAbs T.z.abs rfl (sa_cons (se_var 1) sa_nil)) sm_nil)))
      (sss_cons (ss_while (fuelOf 3) (passes_of rfl) (st_cmp (op_neA rfl hu) okNeA (se_var 3) se_int (nomark _)) (sss_one (ss_mix2 2 3 nd (sm_frz (se_var 3) (sm_frz (se_mod (se_callTy call_int1 okInt T.z.int rfl (sa_cons (se_var 2) sa_nil)) (se_var 3)) sm_nil)))))
      (sss_cons (ss_set 2 nd (se_ifExp (st_cmp op_gt okGt (se_var 1) se_int (nomark _)) (se_var 2) (se_sub se_int (se_var 2))))
      (sss_one (ss_ret (se_tup (sa_cons (se_div (se_var 0) (se_var 2)) (sa_cons (se_div (se_var 1) (se_var 2)) sa_nil))))))))
/-! ### _law_table -/
def b__law_table : Fr0 → R Out := (bSeq (bSetO 4 (vLst aNil))
    (bSeq (bFor (iRange1 (aCons (vCall fLen (aCons (vBin oIdx (vVar 2) (vC (.int 0))) aNil)) aNil)) (gSet 5) (bSeq (bSet 7 (vComp (([("_law_word", 6)] : List (Str × Nat)).map (·.2)) (iRange1 (aCons (vVar 3) aNil)) (gSet 6) tYesB (vBin oMod (vCall fInt (aCons (vFn 2 [] m__law_cell_at (aCons (vVar 0) (aCons (vBin oAdd (vBin oAdd (vVar 1) (vBin oMul (vC (.int 5)) (vVar 5))) (vVar 6)) aNil))) aNil)) (vC (.int 4)))))
    (bSeq (bIf (bOr (vTest (vBin oEqA (vCall fSum (aCons (vVar 7) aNil)) (vC (.int 0)))) (vTest (vBin oEqA (vBin oMod (vCall fInt (aCons (vFn 2 [] m__law_cell_at (aCons (vVar 0) (aCons (vBin oAdd (vBin oAdd (vVar 1) (vBin oMul (vC (.int 5)) (vVar 5))) (vC (.int 4))) aNil))) aNil)) (vC (.int 3))) (vC (.int 0))))) (bSet 7 (vComp (([("_law_word", 6)] : List (Str × Nat)).map (·.2)) (iRange1 (aCons (vVar 3) aNil)) (gSet 6) tYesB (vIf (vTest (vBin oEqA (vVar 6) (vBin oMod (vCall fInt (aCons (vFn 2 [] m__law_cell_at (aCons (vVar 0) (aCons (vBin oAdd (vVar 1) (vBin oMul (vC (.int 5)) (vVar 5))) aNil))) aNil)) (vVar 3)))) (vC (.int 1)) (vC (.int 0))))) bNil)
    (bApp 4 (vCall fTuple (aCons (vComp (([("_law_one", 8)] : List (Str × Nat)).map (·.2)) (iSeq (vVar 7)) (gSet 8) tYesB (vFn 2 [] m__law_low (aCons (vVar 8) (aCons (vCall fSum (aCons (vVar 7) aNil)) aNil)))) aNil))))))
    (bFrz 4 (bRet (vCall fTuple (aCons (vVar 4) aNil))))))
def m__law_table : List D → R D := runDef 4 9 false b__law_table
theorem sc__law_table : FnScope ["_law_script", "_law_at", "_law_plain", "_law_words", "_law_rows", "_law_place", "_law_word", "_law_some", "_law_one"] ["_law_script", "_law_at", "_law_plain", "_law_words"] (defScope s__law_table) := ⟨rfl, rfl, rfl, by decide +kernel, rfl, by decide +kernel, by decide +kernel⟩
theorem ok__law_table (T : Tx K mg) (B : Bx T base) : FnOk P w K mg base (L2.CX P w) 3 T.f.F__law_table.a T.f.F__law_table.d ["_law_script", "_law_at", "_law_plain", "_law_words"] (spM K (T.cs w) 4 false m__law_table) :=
  VM.ok_def (s1 := b__law_table) T.f.F__law_table.f sc__law_table rfl rfl fun cdv A outer s H E hr => by
    have nd := sc__law_table.nd
    have hu := hu_wide hr
    unfold b__law_table
    exact (sss_cons (ss_setO 4 nd (so_lst sa_nil))
      (sss_cons (ss_for (passes_of rfl) (si_range1 T.z.range (sa_cons (se_callB call_len okLen T.z.len rfl (sa_cons (se_idx (se_var 2) se_int) sa_nil)) sa_nil)) (sg_name 5 nd) (sss_cons (ss_set 7 nd ((so_lc [("_law_word", 6)] nd (si_range1 T.z.range (sa_cons (se_var 3) sa_nil)) (blkOk_by (own := [("_law_word", 6)]) (by kernel_rfl)) (by decide) (fun _ _ _ _ _ => (sg_name 6 nd)) (fun _ _ _ _ _ => sp_nil) (fun _ _ _ _ _ => (se_mod (se_callTy call_int1 okInt T.z.int rfl (sa_cons (se_call (ok__law_cell_at T B) (hr.mono (by decide)) T.f.F__law_cell_at.m T.f.F__law_cell_at.f.kp T.f.F__law_cell_at.b .nil (fun _ => .nil) passL (sa_cons (se_var 0) (sa_cons (se_add (se_add (se_var 1) (se_mul se_int (se_var 5))) (se_var 6)) sa_nil))) sa_nil)) se_int)))).se)
      (sss_cons (ss_if (sw_or (st_cmp (op_eqA rfl hu) okEqA (se_callB (cr_sumA rfl) okSum T.z.sum rfl (sa_cons (se_var 7) sa_nil)) se_int (nomark _)) (sw_or1 (st_cmp (op_eqA rfl hu) okEqA (se_mod (se_callTy call_int1 okInt T.z.int rfl (sa_cons (se_call (ok__law_cell_at T B) (hr.mono (by decide)) T.f.F__law_cell_at.m T.f.F__law_cell_at.f.kp T.f.F__law_cell_at.b .nil (fun _ => .nil) (passes_call (takes_of rfl rfl rfl rfl) fun _ _ _ _ h => h) (sa_cons (se_var 0) (sa_cons (se_add (se_add (se_var 1) (se_mul se_int (se_var 5))) se_int) sa_nil))) sa_nil)) se_int) se_int (nomark _)))).st (sss_one (ss_set 7 nd ((so_lc [("_law_word", 6)] nd (si_range1 T.z.range (sa_cons (se_var 3) sa_nil)) (blkOk_by (own := [("_law_word", 6)]) (by kernel_rfl)) (by decide) (fun _ _ _ _ _ => (sg_name 6 nd)) (fun _ _ _ _ _ => sp_nil) (fun _ _ _ _ _ => (se_ifExp (st_cmp (op_eqA rfl hu) okEqA (se_var 6) (se_mod (se_callTy call_int1 okInt T.z.int rfl (sa_cons (se_call (ok__law_cell_at T B) (hr.mono (by decide)) T.f.F__law_cell_at.m T.f.F__law_cell_at.f.kp T.f.F__law_cell_at.b .nil (fun _ => .nil) passL (sa_cons (se_var 0) (sa_cons (se_add (se_var 1) (se_mul se_int (se_var 5))) sa_nil))) sa_nil)) (se_var 3)) (nomark _)) se_int se_int)))).se)) sss_nil)
      (sss_one (ss_app 4 (se_callTy call_tuple_of okTuple T.z.tuple rfl (sa_cons ((so_lc [("_law_one", 8)] nd (si_seq (se_var 7)) (blkOk_by (own := [("_law_one", 8)]) (by kernel_rfl)) (by decide) (fun _ _ _ _ _ => (sg_name 8 nd)) (fun _ _ _ _ _ => sp_nil) (fun _ _ _ _ _ => (se_call (ok__law_low T B) (hr.mono (by decide)) T.f.F__law_low.m T.f.F__law_low.f.kp T.f.F__law_low.b .nil (fun _ => .nil) passL (sa_cons (se_var 8) (sa_cons (se_callB (cr_sumA rfl) okSum T.z.sum rfl (sa_cons (se_var 7) sa_nil)) sa_nil)))))).se sa_nil)))))))
      (sss_one (ss_frz 4 (ss_ret (se_callTy call_tuple_of okTuple T.z.tuple rfl (sa_cons (se_var 4) sa_nil)))))))
/-! ### _law_times -/
def b__law_times : Fr0 → R Out := (bRet (vFn 2 [] m__law_low (aCons (vBin oMul (vBin oIdx (vVar 0) (vC (.int 0))) (vBin oIdx (vVar 1) (vC (.int 0)))) (aCons (vBin oMul (vBin oIdx (vVar 0) (vC (.int 1))) (vBin oIdx (vVar 1) (vC (.int 1)))) aNil))))
def m__law_times : List D → R D := runDef 2 2 false b__law_times
theorem sc__law_times : FnScope ["_law_one", "_law_other"] ["_law_one", "_law_other"] (defScope s__law_times) := ⟨rfl, rfl, rfl, by decide +kernel, rfl, by decide +kernel, by decide +kernel⟩
theorem ok__law_times (T : Tx K mg) (B : Bx T base) : FnOk P w K mg base (L2.CX P w) 3 T.f.F__law_times.a T.f.F__law_times.d ["_law_one", "_law_other"] (spM K (T.cs w) 2 false m__law_times) :=
  VM.ok_def (s1 := b__law_times) T.f.F__law_times.f sc__law_times rfl rfl fun cdv A outer s H E hr => by
    have nd := sc__law_times.nd
    have hu := hu_wide hr
    unfold b__law_times
    exact (sss_one (ss_ret (se_call (ok__law_low T B) (hr.mono (by decide)) T.f.F__law_low.m T.f.F__law_low.f.kp T.f.F__law_low.b .nil (fun _ => .nil) (passes_call (takes_of rfl rfl rfl rfl) fun _ _ _ _ h => h) (sa_cons (se_mul (se_idx (se_var 0) se_int) (se_idx (se_var 1) se_int)) (sa_cons (se_mul (se_idx (se_var 0) se_int) (se_idx (se_var 1) se_int)) sa_nil)))))
/-! ### _law_chance -/
def b__law_chance : Fr0 → R Out := (bRet (vFn 2 [] m__law_low (aCons (vBin oIdx (vBin oIdx (vVar 0) (vC (.int 0))) (vVar 1)) (aCons (vCall fSum (aCons (vBin oIdx (vVar 0) (vC (.int 0))) aNil)) aNil))))
def m__law_chance : List D → R D := runDef 2 2 false b__law_chance
theorem sc__law_chance : FnScope ["_law_plain", "_law_place"] ["_law_plain", "_law_place"] (defScope s__law_chance) := ⟨rfl, rfl, rfl, by decide +kernel, rfl, by decide +kernel, by decide +kernel⟩
theorem ok__law_chance (T : Tx K mg) (B : Bx T base) : FnOk P w K mg base (L2.CX P w) 3 T.f.F__law_chance.a T.f.F__law_chance.d ["_law_plain", "_law_place"] (spM K (T.cs w) 2 false m__law_chance) :=
  VM.ok_def (s1 := b__law_chance) T.f.F__law_chance.f sc__law_chance rfl rfl fun cdv A outer s H E hr => by
    have nd := sc__law_chance.nd
    have hu := hu_wide hr
    unfold b__law_chance
    exact (sss_one (ss_ret (se_call (ok__law_low T B) (hr.mono (by decide)) T.f.F__law_low.m T.f.F__law_low.f.kp T.f.F__law_low.b .nil (fun _ => .nil) (passes_call (takes_of rfl rfl rfl rfl) fun _ _ _ _ h => h) (sa_cons (se_idx (se_idx (se_var 0) se_int) (se_var 1)) (sa_cons (se_callB (cr_sumA rfl) okSum T.z.sum rfl (sa_cons (se_idx (se_var 0) se_int) sa_nil)) sa_nil)))))
/-! ### _law_shares -/
def b__law_shares : Fr0 → R Out := (bRet (vComp (([("_law_place", 3), ("_law_row", 4)] : List (Str × Nat)).map (·.2)) (iEnum (aCons (vVar 1) aNil)) (gTupD 2 (gsCons (gSet 3) (gsCons (gSet 4) gsNil))) tYesB (vFn 2 [] m__law_times (aCons (vFn 2 [] m__law_chance (aCons (vVar 0) (aCons (vVar 3) aNil))) (aCons (vBin oIdx (vVar 4) (vVar 2)) aNil)))))
def m__law_shares : List D → R D := runDef 3 5 false b__law_shares
theorem sc__law_shares : FnScope ["_law_plain", "_law_table_here", "_law_word", "_law_place", "_law_row"] ["_law_plain", "_law_table_here", "_law_word"] (defScope s__law_shares) := ⟨rfl, rfl, rfl, by decide +kernel, rfl, by decide +kernel, by decide +kernel⟩
theorem ok__law_shares (T : Tx K mg) (B : Bx T base) : FnOk P w K mg base (L2.CX P w) 4 T.f.F__law_shares.a T.f.F__law_shares.d ["_law_plain", "_law_table_here", "_law_word"] (spM K (T.cs w) 3 false m__law_shares) :=
  VM.ok_def (s1 := b__law_shares) T.f.F__law_shares.f sc__law_shares rfl rfl fun cdv A outer s H E hr => by
    have nd := sc__law_shares.nd
    have hu := hu_wide hr
    unfold b__law_shares
    exact (sss_one (ss_ret ((so_lc [("_law_place", 3), ("_law_row", 4)] nd (si_enum T.z.enumerate (sa_cons (se_var 1) sa_nil)) (blkOk_by (own := [("_law_place", 3), ("_law_row", 4)]) (by kernel_rfl)) (by decide) (fun _ _ _ _ _ => (sg_tup rfl (sgs_cons (sg_name 3 nd) (sgs_cons (sg_name 4 nd) sgs_nil)))) (fun _ _ _ _ _ => sp_nil) (fun _ _ _ _ _ => (se_call (ok__law_times T B) (hr.mono (by decide)) T.f.F__law_times.m T.f.F__law_times.f.kp T.f.F__law_times.b .nil (fun _ => .nil) passL (sa_cons (se_call (ok__law_chance T B) (hr.mono (by decide)) T.f.F__law_chance.m T.f.F__law_chance.f.kp T.f.F__law_chance.b .nil (fun _ => .nil) passL (sa_cons (se_var 0) (sa_cons (se_var 3) sa_nil))) (sa_cons (se_idx (se_var 4) (se_var 2)) sa_nil)))))).se))
/-! ### _law_plus -/
def b__law_plus : Fr0 → R Out := (bRet (vFn 2 [] m__law_low (aCons (vBin oAdd (vBin oMul (vBin oIdx (vVar 0) (vC (.int 0))) (vBin oIdx (vVar 1) (vC (.int 1)))) (vBin oMul (vBin oIdx (vVar 1) (vC (.int 0))) (vBin oIdx (vVar 0) (vC (.int 1))))) (aCons (vBin oMul (vBin oIdx (vVar 0) (vC (.int 1))) (vBin oIdx (vVar 1) (vC (.int 1)))) aNil))))
def m__law_plus : List D → R D := runDef 2 2 false b__law_plus
theorem sc__law_plus : FnScope ["_law_one", "_law_other"] ["_law_one", "_law_other"] (defScope s__law_plus) := ⟨rfl, rfl, rfl, by decide +kernel, rfl, by decide +kernel, by decide +kernel⟩
theorem ok__law_plus (T : Tx K mg) (B : Bx T base) : FnOk P w K mg base (L2.CX P w) 3 T.f.F__law_plus.a T.f.F__law_plus.d ["_law_one", "_law_other"] (spM K (T.cs w) 2 false m__law_plus) :=
  VM.ok_def (s1 := b__law_plus) T.f.F__law_plus.f sc__law_plus rfl rfl fun cdv A outer s H E hr => by
    have nd := sc__law_plus.nd
    have hu := hu_wide hr
    unfold b__law_plus
    exact (sss_one (ss_ret (se_call (ok__law_low T B) (hr.mono (by decide)) T.f.F__law_low.m T.f.F__law_low.f.kp T.f.F__law_low.b .nil (fun _ => .nil) (passes_call (takes_of rfl rfl rfl rfl) fun _ _ _ _ h => h) (sa_cons (se_add (se_mul (se_idx (se_var 0) se_int) (se_idx (se_var 1) se_int)) (se_mul (se_idx (se_var 1) se_int) (se_idx (se_var 0) se_int))) (sa_cons (se_mul (se_idx (se_var 0) se_int) (se_idx (se_var 1) se_int)) sa_nil)))))
/-! ### _law_sum -/
def b__law_sum : Fr0 → R Out := (bSeq (bSet 1 (vTup (aCons (vC (.int 0)) (aCons (vC (.int 1)) aNil))))
    (bSeq (bFor (iSeq (vVar 0)) (gSet 2) (bSet 1 (vFn 2 [] m__law_plus (aCons (vVar 1) (aCons (vVar 2) aNil)))))
    (bRet (vVar 1))))
def m__law_sum : List D → R D := runDef 1 3 false b__law_sum
theorem sc__law_sum : FnScope ["_law_some", "_law_found", "_law_one"] ["_law_some"] (defScope s__law_sum) := ⟨rfl, rfl, rfl, by decide +kernel, rfl, by decide +kernel, by decide +kernel⟩
theorem ok__law_sum (T : Tx K mg) (B : Bx T base) : FnOk P w K mg base (L2.CX P w) 4 T.f.F__law_sum.a T.f.F__law_sum.d ["_law_some"] (spM K (T.cs w) 1 false m__law_sum) :=
  VM.ok_def (s1 := b__law_sum) T.f.F__law_sum.f sc__law_sum rfl rfl fun cdv A outer s H E hr => by
    have nd := sc__law_sum.nd
    have hu := hu_wide hr
    unfold b__law_sum
    exact (sss_cons (ss_set 1 nd (se_tup (sa_cons se_int (sa_cons se_int sa_nil))))
      (sss_cons (ss_for (passes_of rfl) (si_seq (se_var 0)) (sg_name 2 nd) (sss_one (ss_set 1 nd (se_call (ok__law_plus T B) (hr.mono (by decide)) T.f.F__law_plus.m T.f.F__law_plus.f.kp T.f.F__law_plus.b .nil (fun _ => .nil) (passes_call (takes_of rfl rfl rfl rfl) fun _ _ _ _ h => h) (sa_cons (se_var 1) (sa_cons (se_var 2) sa_nil))))))
      (sss_one (ss_ret (se_var 1)))))
/-! ### _law_count -/
def b__law_count : Fr0 → R Out := (bRet (vFn 1 [] m__law_sum (aCons (vComp (([("_law_one", 3), ("_law_row", 4)] : List (Str × Nat)).map (·.2)) (iZip (aCons (vVar 0) (aCons (vVar 1) aNil))) (gTupD 2 (gsCons (gSet 3) (gsCons (gSet 4) gsNil))) tYesB (vFn 2 [] m__law_times (aCons (vVar 3) (aCons (vTup (aCons (vBin oIdx (vVar 4) (vVar 2)) (aCons (vC (.int 1)) aNil))) aNil)))) aNil)))
def m__law_count : List D → R D := runDef 3 5 false b__law_count
theorem sc__law_count : FnScope ["_law_shares_here", "_law_rows", "_law_act", "_law_one", "_law_row"] ["_law_shares_here", "_law_rows", "_law_act"] (defScope s__law_count) := ⟨rfl, rfl, rfl, by decide +kernel, rfl, by decide +kernel, by decide +kernel⟩
theorem ok__law_count (T : Tx K mg) (B : Bx T base) : FnOk P w K mg base (L2.CX P w) 5 T.f.F__law_count.a T.f.F__law_count.d ["_law_shares_here", "_law_rows", "_law_act"] (spM K (T.cs w) 3 false m__law_count) :=
  VM.ok_def (s1 := b__law_count) T.f.F__law_count.f sc__law_count rfl rfl fun cdv A outer s H E hr => by
    have nd := sc__law_count.nd
    have hu := hu_wide hr
    unfold b__law_count
    exact (sss_one (ss_ret (se_call (ok__law_sum T B) (hr.mono (by decide)) T.f.F__law_sum.m T.f.F__law_sum.f.kp T.f.F__law_sum.b .nil (fun _ => .nil) (passes_call (takes_of rfl rfl rfl rfl) fun _ _ _ _ h => h) (sa_cons ((so_lc [("_law_one", 3), ("_law_row", 4)] nd (si_zip T.z.zip (sa_cons (se_var 0) (sa_cons (se_var 1) sa_nil))) (blkOk_by (own := [("_law_one", 3), ("_law_row", 4)]) (by kernel_rfl)) (by decide) (fun _ _ _ _ _ => (sg_tup rfl (sgs_cons (sg_name 3 nd) (sgs_cons (sg_name 4 nd) sgs_nil)))) (fun _ _ _ _ _ => sp_nil) (fun _ _ _ _ _ => (se_call (ok__law_times T B) (hr.mono (by decide)) T.f.F__law_times.m T.f.F__law_times.f.kp T.f.F__law_times.b .nil (fun _ => .nil) passL (sa_cons (se_var 3) (sa_cons (se_tup (sa_cons (se_idx (se_var 4) (se_var 2)) (sa_cons se_int sa_nil))) sa_nil)))))).se sa_nil))))
/-! ### _law_less -/
def b__law_less : Fr0 → R Out := (bRet (vBin oLt (vBin oMul (vBin oIdx (vVar 0) (vC (.int 0))) (vBin oIdx (vVar 1) (vC (.int 1)))) (vBin oMul (vBin oIdx (vVar 1) (vC (.int 0))) (vBin oIdx (vVar 0) (vC (.int 1))))))
def m__law_less : List D → R D := runDef 2 2 false b__law_less
theorem sc__law_less : FnScope ["_law_one", "_law_other"] ["_law_one", "_law_other"] (defScope s__law_less) := ⟨rfl, rfl, rfl, by decide +kernel, rfl, by decide +kernel, by decide +kernel⟩
theorem ok__law_less (T : Tx K mg) (B : Bx T base) : FnOk P w K mg base (L2.CX P w) 2 T.f.F__law_less.a T.f.F__law_less.d ["_law_one", "_law_other"] (spM K (T.cs w) 2 false m__law_less) :=
  VM.ok_def (s1 := b__law_less) T.f.F__law_less.f sc__law_less rfl rfl fun cdv A outer s H E hr => by
    have nd := sc__law_less.nd
    have hu := hu_wide hr
    unfold b__law_less
    exact (sss_one (ss_ret (se_cmp op_lt okLt (se_mul (se_idx (se_var 0) se_int) (se_idx (se_var 1) se_int)) (se_mul (se_idx (se_var 1) se_int) (se_idx (se_var 0) se_int)) (nomark _))))
/-! ### _law_done -/
def b__law_done : Fr0 → R Out := (bSeq (bSet 2 (vC (.int 0)))
    (bSeq (bFor (iRange2 (aCons (vC (.int 1)) (aCons (vCall fLen (aCons (vBin oIdx (vBin oIdx (vVar 0) (vC (.int 1))) (vC (.int 0))) aNil)) aNil))) (gSet 3) (bSeq (bMix [4, 5] (mFrz (vFn 3 [] m__law_count (aCons (vVar 1) (aCons (vBin oIdx (vVar 0) (vC (.int 1))) (aCons (vVar 3) aNil)))) (mFrz (vFn 3 [] m__law_count (aCons (vVar 1) (aCons (vBin oIdx (vVar 0) (vC (.int 1))) (aCons (vVar 2) aNil)))) mNil)))
    (bSeq (bMix [6, 7] (mFrz (vFn 3 [] m__law_count (aCons (vVar 1) (aCons (vBin oIdx (vVar 0) (vC (.int 2))) (aCons (vVar 3) aNil)))) (mFrz (vFn 3 [] m__law_count (aCons (vVar 1) (aCons (vBin oIdx (vVar 0) (vC (.int 2))) (aCons (vVar 2) aNil)))) mNil)))
    (bIf (bOr (vTest (vFn 2 [] m__law_less (aCons (vVar 5) (aCons (vVar 4) aNil)))) (bAnd (vTest (vBin oEqA (vVar 4) (vVar 5))) (vTest (vFn 2 [] m__law_less (aCons (vVar 7) (aCons (vVar 6) aNil)))))) (bSet 2 (vVar 3)) bNil))))
    (bRet (vVar 2))))
def m__law_done : List D → R D := runDef 2 8 false b__law_done
theorem sc__law_done : FnScope ["_law_plain", "_law_shares_here", "_law_top", "_law_act", "_law_own", "_law_other", "_law_more", "_law_less_here"] ["_law_plain", "_law_shares_here"] (defScope s__law_done) := ⟨rfl, rfl, rfl, by decide +kernel, rfl, by decide +kernel, by decide +kernel⟩
theorem ok__law_done (T : Tx K mg) (B : Bx T base) : FnOk P w K mg base (L2.CX P w) 6 T.f.F__law_done.a T.f.F__law_done.d ["_law_plain", "_law_shares_here"] (spM K (T.cs w) 2 false m__law_done) :=
  VM.ok_def (s1 := b__law_done) T.f.F__law_done.f sc__law_done rfl rfl fun cdv A outer s H E hr => by
    have nd := sc__law_done.nd
    have hu := hu_wide hr
    unfold b__law_done
    exact (sss_cons (ss_set 2 nd se_int)
      (sss_cons (ss_for (passes_of rfl) (si_range2 T.z.range (sa_cons se_int (sa_cons (se_callB call_len okLen T.z.len rfl (sa_cons (se_idx (se_idx (se_var 0) se_int) se_int) sa_nil)) sa_nil))) (sg_name 3 nd) (sss_cons (ss_mix2 4 5 nd (sm_frz (se_call (ok__law_count T B) (hr.mono (by decide)) T.f.F__law_count.m T.f.F__law_count.f.kp T.f.F__law_count.b .nil (fun _ => .nil) (passes_call (takes_of rfl rfl rfl rfl) fun _ _ _ _ h => h) (sa_cons (se_var 1) (sa_cons (se_idx (se_var 0) se_int) (sa_cons (se_var 3) sa_nil)))) (sm_frz (se_call (ok__law_count T B) (hr.mono (by decide)) T.f.F__law_count.m T.f.F__law_count.f.kp T.f.F__law_count.b .nil (fun _ => .nil) (passes_call (takes_of rfl rfl rfl rfl) fun _ _ _ _ h => h) (sa_cons (se_var 1) (sa_cons (se_idx (se_var 0) se_int) (sa_cons (se_var 2) sa_nil)))) sm_nil)))
      (sss_cons (ss_mix2 6 7 nd (sm_frz (se_call (ok__law_count T B) (hr.mono (by decide)) T.f.F__law_count.m T.f.F__law_count.f.kp T.f.F__law_count.b .nil (fun _ => .nil) (passes_call (takes_of rfl rfl rfl rfl) fun _ _ _ _ h => h) (sa_cons (se_var 1) (sa_cons (se_idx (se_var 0) se_int) (sa_cons (se_var 3) sa_nil)))) (sm_frz (se_call (ok__law_count T B) (hr.mono (by decide)) T.f.F__law_count.m T.f.F__law_count.f.kp T.f.F__law_count.b .nil (fun _ => .nil) (passes_call (takes_of rfl rfl rfl rfl) fun _ _ _ _ h => h) (sa_cons (se_var 1) (sa_cons (se_idx (se_var 0) se_int) (sa_cons (se_var 2) sa_nil)))) sm_nil)))
      (sss_one (ss_if (sw_or (st_val (se_call (ok__law_less T B) (hr.mono (by decide)) T.f.F__law_less.m T.f.F__law_less.f.kp T.f.F__law_less.b .nil (fun _ => .nil) (passes_call (takes_of rfl rfl rfl rfl) fun _ _ _ _ h => h) (sa_cons (se_var 5) (sa_cons (se_var 4) sa_nil)))) (sw_or1 (sw_and (st_cmp (op_eqA rfl hu) okEqA (se_var 4) (se_var 5) (nomark _)) (sw_and1 (st_val (se_call (ok__law_less T B) (hr.mono (by decide)) T.f.F__law_less.m T.f.F__law_less.f.kp T.f.F__law_less.b .nil (fun _ => .nil) (passes_call (takes_of rfl rfl rfl rfl) fun _ _ _ _ h => h) (sa_cons (se_var 7) (sa_cons (se_var 6) sa_nil)))))).st)).st (sss_one (ss_set 2 nd (se_var 3))) sss_nil)))))
      (sss_one (ss_ret (se_var 2)))))
/-! ### _law_over -/
def b__law_over : Fr0 → R Out := (bRet (vFn 2 [] m__law_low (aCons (vBin oMul (vBin oIdx (vVar 0) (vC (.int 0))) (vBin oIdx (vVar 1) (vC (.int 1)))) (aCons (vBin oMul (vBin oIdx (vVar 0) (vC (.int 1))) (vBin oIdx (vVar 1) (vC (.int 0)))) aNil))))
def m__law_over : List D → R D := runDef 2 2 false b__law_over
theorem sc__law_over : FnScope ["_law_one", "_law_other"] ["_law_one", "_law_other"] (defScope s__law_over) := ⟨rfl, rfl, rfl, by decide +kernel, rfl, by decide +kernel, by decide +kernel⟩
theorem ok__law_over (T : Tx K mg) (B : Bx T base) : FnOk P w K mg base (L2.CX P w) 3 T.f.F__law_over.a T.f.F__law_over.d ["_law_one", "_law_other"] (spM K (T.cs w) 2 false m__law_over) :=
  VM.ok_def (s1 := b__law_over) T.f.F__law_over.f sc__law_over rfl rfl fun cdv A outer s H E hr => by
    have nd := sc__law_over.nd
    have hu := hu_wide hr
    unfold b__law_over
    exact (sss_one (ss_ret (se_call (ok__law_low T B) (hr.mono (by decide)) T.f.F__law_low.m T.f.F__law_low.f.kp T.f.F__law_low.b .nil (fun _ => .nil) (passes_call (takes_of rfl rfl rfl rfl) fun _ _ _ _ h => h) (sa_cons (se_mul (se_idx (se_var 0) se_int) (se_idx (se_var 1) se_int)) (sa_cons (se_mul (se_idx (se_var 0) se_int) (se_idx (se_var 1) se_int)) sa_nil)))))
/-! ### _law_minus -/
def b__law_minus : Fr0 → R Out := (bRet (vFn 2 [] m__law_plus (aCons (vVar 0) (aCons (vTup (aCons (vBin oSub (vC (.int 0)) (vBin oIdx (vVar 1) (vC (.int 0)))) (aCons (vBin oIdx (vVar 1) (vC (.int 1))) aNil))) aNil))))
def m__law_minus : List D → R D := runDef 2 2 false b__law_minus
theorem sc__law_minus : FnScope ["_law_one", "_law_other"] ["_law_one", "_law_other"] (defScope s__law_minus) := ⟨rfl, rfl, rfl, by decide +kernel, rfl, by decide +kernel, by decide +kernel⟩
theorem ok__law_minus (T : Tx K mg) (B : Bx T base) : FnOk P w K mg base (L2.CX P w) 4 T.f.F__law_minus.a T.f.F__law_minus.d ["_law_one", "_law_other"] (spM K (T.cs w) 2 false m__law_minus) :=
  VM.ok_def (s1 := b__law_minus) T.f.F__law_minus.f sc__law_minus rfl rfl fun cdv A outer s H E hr => by
    have nd := sc__law_minus.nd
    have hu := hu_wide hr
    unfold b__law_minus
    exact (sss_one (ss_ret (se_call (ok__law_plus T B) (hr.mono (by decide)) T.f.F__law_plus.m T.f.F__law_plus.f.kp T.f.F__law_plus.b .nil (fun _ => .nil) (passes_call (takes_of rfl rfl rfl rfl) fun _ _ _ _ h => h) (sa_cons (se_var 0) (sa_cons (se_tup (sa_cons (se_sub se_int (se_idx (se_var 1) se_int)) (sa_cons (se_idx (se_var 1) se_int) sa_nil))) sa_nil)))))
/-! ### is_ratio -/
def b_is_ratio : Fr0 → R Out := (bSeq (bIf (bOr (bNot (vTest (vIsi "tuple" (vVar 0)))) (vTest (vBin oNeA (vCall fLen (aCons (vVar 0) aNil)) (vC (.int 2))))) (bRet (vC (.bl false))) bNil)
    (bSeq (bAsg (vVar 0) (gTupD 2 (gsCons (gSet 1) (gsCons (gSet 2) gsNil))))
    (bSeq (bIf (bNot (bAnd (vTest (vFn 1 [] m_is_plain_integer (aCons (vVar 1) aNil))) (vTest (vFn 1 [] m_is_plain_integer (aCons (vVar 2) aNil))))) (bRet (vC (.bl false))) bNil)
    (bRet (vAnd (vBin oGe (vVar 2) (vC (.int 1))) (vBin oEqA (vCall fGcd (aCons (vVar 1) (aCons (vVar 2) aNil))) (vC (.int 1))))))))
def m_is_ratio : List D → R D := runDef 1 3 false b_is_ratio
theorem sc_is_ratio : FnScope ["value", "over", "under"] ["value"] (defScope s_is_ratio) := ⟨rfl, rfl, rfl, by decide +kernel, rfl, by decide +kernel, by decide +kernel⟩
theorem ok_is_ratio (T : Tx K mg) (B : Bx T base) : FnOk P w K mg base (L2.CX P w) 3 T.f.F_is_ratio.a T.f.F_is_ratio.d ["value"] (spM K (T.cs w) 1 false m_is_ratio) :=
  VM.ok_def (s1 := b_is_ratio) T.f.F_is_ratio.f sc_is_ratio rfl rfl fun cdv A outer s H E hr => by
    have nd := sc_is_ratio.nd
    have hu := hu_wide hr
    unfold b_is_ratio
    exact (sss_cons (ss_if (sw_or (st_not (st_val (se_isi T.z.isinstance T.z.tuple rfl (kit_tuple _) (se_var 0)))) (sw_or1 (st_cmp (op_neA rfl hu) okNeA (se_callB call_len okLen T.z.len rfl (sa_cons (se_var 0) sa_nil)) se_int (nomark _)))).st (sss_one (ss_ret se_bl)) sss_nil)
      (sss_cons (ss_asg (se_var 0) (sg_tup rfl (sgs_cons (sg_name 1 nd) (sgs_cons (sg_name 2 nd) sgs_nil))))
      (sss_cons (ss_if (st_not (sw_and (st_val (se_call (ok_is_plain_integer T B) (hr.mono (by decide)) T.f.F_is_plain_integer.m T.f.F_is_plain_integer.f.kp T.f.F_is_plain_integer.b .nil (fun _ => .nil) (passes_call (takes_of rfl rfl rfl rfl) fun _ _ _ _ h => h) (sa_cons (se_var 1) sa_nil))) (sw_and1 (st_val (se_call (ok_is_plain_integer T B) (hr.mono (by decide)) T.f.F_is_plain_integer.m T.f.F_is_plain_integer.f.kp T.f.F_is_plain_integer.b .nil (fun _ => .nil) (passes_call (takes_of rfl rfl rfl rfl) fun _ _ _ _ h => h) (sa_cons (se_var 2) sa_nil))))).st) (sss_one (ss_ret se_bl)) sss_nil)
      (sss_one (ss_ret (se_and (se_cmp op_ge okGe (se_var 2) se_int (nomark _)) (se_one (se_cmp (op_eqA rfl hu) okEqA (se_callM cr_gcd okGcd T.c.gcd (sa_cons (se_var 1) (sa_cons (se_var 2) sa_nil))) se_int (nomark _)))))))))
/-! ### is_chance -/
def b_is_chance : Fr0 → R Out := (bRet (vAnd (vFn 1 [] m_is_ratio (aCons (vVar 0) aNil)) (vChain oLe oLe (vC (.int 0)) (vBin oIdx (vVar 0) (vC (.int 0))) (vBin oIdx (vVar 0) (vC (.int 1))))))
def m_is_chance : List D → R D := runDef 1 1 false b_is_chance
theorem sc_is_chance : FnScope ["value"] ["value"] (defScope s_is_chance) := ⟨rfl, rfl, rfl, by decide +kernel, rfl, by decide +kernel, by decide +kernel⟩
theorem ok_is_chance (T : Tx K mg) (B : Bx T base) : FnOk P w K mg base (L2.CX P w) 4 T.f.F_is_chance.a T.f.F_is_chance.d ["value"] (spM K (T.cs w) 1 false m_is_chance) :=
  VM.ok_def (s1 := b_is_chance) T.f.F_is_chance.f sc_is_chance rfl rfl fun cdv A outer s H E hr => by
    have nd := sc_is_chance.nd
    have hu := hu_wide hr
    unfold b_is_chance
    exact (sss_one (ss_ret (se_and (se_call (ok_is_ratio T B) (hr.mono (by decide)) T.f.F_is_ratio.m T.f.F_is_ratio.f.kp T.f.F_is_ratio.b .nil (fun _ => .nil) (passes_call (takes_of rfl rfl rfl rfl) fun _ _ _ _ h => h) (sa_cons (se_var 0) sa_nil)) (se_one (se_chain op_le okLe op_le okLe se_int (se_idx (se_var 0) se_int) (se_idx (se_var 0) se_int))))))
/-! ### common_under -/
def b_common_under : Fr0 → R Out := (bSeq (bSet 1 (vC (.int 1)))
    (bSeq (bFor (iSeq (vVar 0)) (gTupD 2 (gsCons (gSet 2) (gsCons (gSet 3) gsNil))) (bSet 1 (vCall fLcm (aCons (vVar 1) (aCons (vVar 3) aNil)))))
    (bRet (vVar 1))))
def m_common_under : List D → R D := runDef 1 4 false b_common_under
theorem sc_common_under : FnScope ["ratios", "common", "_", "under"] ["ratios"] (defScope s_common_under) := ⟨rfl, rfl, rfl, by decide +kernel, rfl, by decide +kernel, by decide +kernel⟩
theorem ok_common_under (T : Tx K mg) (B : Bx T base) : FnOk P w K mg base (L2.CX P w) 2 T.f.F_common_under.a T.f.F_common_under.d ["ratios"] (spM K (T.cs w) 1 false m_common_under) :=
  VM.ok_def (s1 := b_common_under) T.f.F_common_under.f sc_common_under rfl rfl fun cdv A outer s H E hr => by
    have nd := sc_common_under.nd
    have hu := hu_wide hr
    unfold b_common_under
    exact (sss_cons (ss_set 1 nd se_int)
      (sss_cons (ss_for (passes_of rfl) (si_seq (se_var 0)) (sg_tup rfl (sgs_cons (sg_name 2 nd) (sgs_cons (sg_name 3 nd) sgs_nil))) (sss_one (ss_set 1 nd (se_callM cr_lcm okLcm T.c.lcm (sa_cons (se_var 1) (sa_cons (se_var 3) sa_nil))))))
      (sss_one (ss_ret (se_var 1)))))
/-! ### scaled -/
def b_scaled : Fr0 → R Out := (bSeq (bAsg (vVar 0) (gTupD 2 (gsCons (gSet 2) (gsCons (gSet 3) gsNil))))
    (bRet (vBin oMul (vVar 2) (vBin oDiv (vVar 1) (vVar 3)))))
def m_scaled : List D → R D := runDef 2 4 false b_scaled
theorem sc_scaled : FnScope ["share", "common", "over", "under"] ["share", "common"] (defScope s_scaled) := ⟨rfl, rfl, rfl, by decide +kernel, rfl, by decide +kernel, by decide +kernel⟩
theorem ok_scaled (T : Tx K mg) (B : Bx T base) : FnOk P w K mg base (L2.CX P w) 2 T.f.F_scaled.a T.f.F_scaled.d ["share", "common"] (spM K (T.cs w) 2 false m_scaled) :=
  VM.ok_def (s1 := b_scaled) T.f.F_scaled.f sc_scaled rfl rfl fun cdv A outer s H E hr => by
    have nd := sc_scaled.nd
    have hu := hu_wide hr
    unfold b_scaled
    exact (sss_cons (ss_asg (se_var 0) (sg_tup rfl (sgs_cons (sg_name 2 nd) (sgs_cons (sg_name 3 nd) sgs_nil))))
      (sss_one (ss_ret (se_mul (se_var 2) (se_div (se_var 1) (se_var 3))))))
/-! ### are_one_together -/
def b_are_one_together : Fr0 → R Out := (bSeq (bSet 1 (vFn 1 [] m_common_under (aCons (vVar 0) aNil)))
    (bRet (vBin oEqA (vCall fSum (aCons (vComp (([("share", 2)] : List (Str × Nat)).map (·.2)) (iSeq (vVar 0)) (gSet 2) tYesB (vFn 2 [] m_scaled (aCons (vVar 2) (aCons (vVar 1) aNil)))) aNil)) (vVar 1))))
def m_are_one_together : List D → R D := runDef 1 3 false b_are_one_together
theorem sc_are_one_together : FnScope ["ratios", "common", "share"] ["ratios"] (defScope s_are_one_together) := ⟨rfl, rfl, rfl, by decide +kernel, rfl, by decide +kernel, by decide +kernel⟩
theorem ok_are_one_together (T : Tx K mg) (B : Bx T base) : FnOk P w K mg base (L2.CX P w) 3 T.f.F_are_one_together.a T.f.F_are_one_together.d ["ratios"] (spM K (T.cs w) 1 false m_are_one_together) :=
  VM.ok_def (s1 := b_are_one_together) T.f.F_are_one_together.f sc_are_one_together rfl rfl fun cdv A outer s H E hr => by
    have nd := sc_are_one_together.nd
    have hu := hu_wide hr
    unfold b_are_one_together
    exact (sss_cons (ss_set 1 nd (se_call (ok_common_under T B) (hr.mono (by decide)) T.f.F_common_under.m T.f.F_common_under.f.kp T.f.F_common_under.b .nil (fun _ => .nil) (passes_call (takes_of rfl rfl rfl rfl) fun _ _ _ _ h => h) (sa_cons (se_var 0) sa_nil)))
      (sss_one (ss_ret (se_cmp (op_eqA rfl hu) okEqA (se_callB (cr_sumA rfl) okSum T.z.sum rfl (sa_cons ((so_lc [("share", 2)] nd (si_seq (se_var 0)) (blkOk_by (own := [("share", 2)]) (by kernel_rfl)) (by decide) (fun _ _ _ _ _ => (sg_name 2 nd)) (fun _ _ _ _ _ => sp_nil) (fun _ _ _ _ _ => (se_call (ok_scaled T B) (hr.mono (by decide)) T.f.F_scaled.m T.f.F_scaled.f.kp T.f.F_scaled.b .nil (fun _ => .nil) passL (sa_cons (se_var 2) (sa_cons (se_var 1) sa_nil)))))).se sa_nil)) (se_var 1) (nomark _)))))
/-! ### are_chances -/
def b_are_chances : Fr0 → R Out := (bSeq (bIf (bOr (bNot (vTest (vIsi "tuple" (vVar 0)))) (vTest (vBin oNeA (vCall fLen (aCons (vVar 0) aNil)) (vVar 1)))) (bRet (vC (.bl false))) bNil)
    (bRet (vAnd (vCall fAll (aCons (vComp (([("share", 2)] : List (Str × Nat)).map (·.2)) (iSeq (vVar 0)) (gSet 2) tYesB (vFn 1 [] m_is_chance (aCons (vVar 2) aNil))) aNil)) (vFn 1 [] m_are_one_together (aCons (vVar 0) aNil)))))
def m_are_chances : List D → R D := runDef 2 3 false b_are_chances
theorem sc_are_chances : FnScope ["row", "words", "share"] ["row", "words"] (defScope s_are_chances) := ⟨rfl, rfl, rfl, by decide +kernel, rfl, by decide +kernel, by decide +kernel⟩
theorem ok_are_chances (T : Tx K mg) (B : Bx T base) : FnOk P w K mg base (L2.CX P w) 5 T.f.F_are_chances.a T.f.F_are_chances.d ["row", "words"] (spM K (T.cs w) 2 false m_are_chances) :=
  VM.ok_def (s1 := b_are_chances) T.f.F_are_chances.f sc_are_chances rfl rfl fun cdv A outer s H E hr => by
    have nd := sc_are_chances.nd
    have hu := hu_wide hr
    unfold b_are_chances
    exact (sss_cons (ss_if (sw_or (st_not (st_val (se_isi T.z.isinstance T.z.tuple rfl (kit_tuple _) (se_var 0)))) (sw_or1 (st_cmp (op_neA rfl hu) okNeA (se_callB call_len okLen T.z.len rfl (sa_cons (se_var 0) sa_nil)) (se_var 1) (nomark _)))).st (sss_one (ss_ret se_bl)) sss_nil)
      (sss_one (ss_ret (se_and (se_callB (cr_all rfl) okAll T.z.all rfl (sa_cons ((so_lc [("share", 2)] nd (si_seq (se_var 0)) (blkOk_by (own := [("share", 2)]) (by kernel_rfl)) (by decide) (fun _ _ _ _ _ => (sg_name 2 nd)) (fun _ _ _ _ _ => sp_nil) (fun _ _ _ _ _ => (se_call (ok_is_chance T B) (hr.mono (by decide)) T.f.F_is_chance.m T.f.F_is_chance.f.kp T.f.F_is_chance.b .nil (fun _ => .nil) passL (sa_cons (se_var 2) sa_nil))))).se sa_nil)) (se_one (se_call (ok_are_one_together T B) (hr.mono (by decide)) T.f.F_are_one_together.m T.f.F_are_one_together.f.kp T.f.F_are_one_together.b .nil (fun _ => .nil) (passes_call (takes_of rfl rfl rfl rfl) fun _ _ _ _ h => h) (sa_cons (se_var 0) sa_nil)))))))
/-! ### is_table -/
def b_is_table : Fr0 → R Out := (bSeq (bIf (bOr (bNot (vTest (vIsi "tuple" (vVar 1)))) (bOr (vTest (vBin oNeA (vCall fLen (aCons (vVar 1) aNil)) (vLenO 0 m_Matterdd_lendd (vVar 0)))) (bNot (vTest (vIsi "tuple" (vBin oIdx (vVar 1) (vC (.int 0)))))))) (bRet (vC (.bl false))) bNil)
    (bSeq (bSet 2 (vCall fLen (aCons (vBin oIdx (vVar 1) (vC (.int 0))) aNil)))
    (bRet (vAnd (vChain oLe oLe (vC (.int 1)) (vVar 2) (vC (.int 4))) (vCall fAll (aCons (vComp (([("row", 3)] : List (Str × Nat)).map (·.2)) (iSeq (vVar 1)) (gSet 3) tYesB (vFn 2 [] m_are_chances (aCons (vVar 3) (aCons (vVar 2) aNil)))) aNil))))))
def m_is_table : List D → R D := runDef 2 4 false b_is_table
theorem sc_is_table : FnScope ["matter", "table", "words", "row"] ["matter", "table"] (defScope s_is_table) := ⟨rfl, rfl, rfl, by decide +kernel, rfl, by decide +kernel, by decide +kernel⟩
theorem ok_is_table (T : Tx K mg) (B : Bx T base) : FnOk P w K mg base (L2.CX P w) 6 T.f.F_is_table.a T.f.F_is_table.d ["matter", "table"] (spM K (T.cs w) 2 false m_is_table) :=
  VM.ok_def (s1 := b_is_table) T.f.F_is_table.f sc_is_table rfl rfl fun cdv A outer s H E hr => by
    have nd := sc_is_table.nd
    have hu := hu_wide hr
    unfold b_is_table
    exact (sss_cons (ss_if (sw_or (st_not (st_val (se_isi T.z.isinstance T.z.tuple rfl (kit_tuple _) (se_var 1)))) (sw_or (st_cmp (op_neA rfl hu) okNeA (se_callB call_len okLen T.z.len rfl (sa_cons (se_var 1) sa_nil)) (se_lenO T.z.len (ok_Matterdd_lendd T B) (hr.mono (by decide)) T.m.at_Matterdd_lendd T.m.fn_Matterdd_lendd T.m.M_Matterdd_lendd.b (se_var 0)) (nomark _)) (sw_or1 (st_not (st_val (se_isi T.z.isinstance T.z.tuple rfl (kit_tuple _) (se_idx (se_var 1) se_int))))))).st (sss_one (ss_ret se_bl)) sss_nil)
      (sss_cons (ss_set 2 nd (se_callB call_len okLen T.z.len rfl (sa_cons (se_idx (se_var 1) se_int) sa_nil)))
      (sss_one (ss_ret (se_and (se_chain op_le okLe op_le okLe se_int (se_var 2) (se_gint T.c.MOST_WORDS)) (se_one (se_callB (cr_all rfl) okAll T.z.all rfl (sa_cons ((so_lc [("row", 3)] nd (si_seq (se_var 1)) (blkOk_by (own := [("row", 3)]) (by kernel_rfl)) (by decide) (fun _ _ _ _ _ => (sg_name 3 nd)) (fun _ _ _ _ _ => sp_nil) (fun _ _ _ _ _ => (se_call (ok_are_chances T B) (hr.mono (by decide)) T.f.F_are_chances.m T.f.F_are_chances.f.kp T.f.F_are_chances.b .nil (fun _ => .nil) passL (sa_cons (se_var 3) (sa_cons (se_var 2) sa_nil)))))).se sa_nil))))))))
/-! ### check_table -/
def b_check_table : Fr0 → R Out := (bSeq (bDrop (vFn 1 [] m_check_matter (aCons (vVar 0) aNil)))
    (bIf (bNot (vTest (vFn 2 [] m_is_table (aCons (vVar 0) (aCons (vVar 1) aNil))))) bStuck bNil))
def m_check_table : List D → R D := runDef 2 2 false b_check_table
theorem sc_check_table : FnScope ["matter", "table"] ["matter", "table"] (defScope s_check_table) := ⟨rfl, rfl, rfl, by decide +kernel, rfl, by decide +kernel, by decide +kernel⟩
theorem ok_check_table (T : Tx K mg) (B : Bx T base) : FnOk P w K mg base (L2.CX P w) 7 T.f.F_check_table.a T.f.F_check_table.d ["matter", "table"] (spM K (T.cs w) 2 false m_check_table) :=
  VM.ok_def (s1 := b_check_table) T.f.F_check_table.f sc_check_table rfl rfl fun cdv A outer s H E hr => by
    have nd := sc_check_table.nd
    have hu := hu_wide hr
    unfold b_check_table
    exact (sss_cons (ss_drop (se_call (ok_check_matter T B) (hr.mono (by decide)) T.f.F_check_matter.m T.f.F_check_matter.f.kp T.f.F_check_matter.b .nil (fun _ => .nil) (passes_call (takes_of rfl rfl rfl rfl) fun _ _ _ _ h => h) (sa_cons (se_var 0) sa_nil)))
      (sss_one (ss_if (st_not (st_val (se_call (ok_is_table T B) (hr.mono (by decide)) T.f.F_is_table.m T.f.F_is_table.f.kp T.f.F_is_table.b .nil (fun _ => .nil) (passes_call (takes_of rfl rfl rfl rfl) fun _ _ _ _ h => h) (sa_cons (se_var 0) (sa_cons (se_var 1) sa_nil))))) (sss_one ss_stuck) sss_nil)))
/-! ### _joint_chances -/
def b__joint_chances : Fr0 → R Out := (bSeq (bSet 4 (vFn 1 [] m_common_under (aCons (vComp2 (([("row", 2), ("share", 3)] : List (Str × Nat)).map (·.2)) [3] (iSeq (vVar 1)) (gSet 2) tYesB (iSeq (vVar 2)) (gSet 3) tYesB (vVar 3)) aNil)))
    (bSeq (bSet 6 (vComp (([("part", 5), ("row", 2)] : List (Str × Nat)).map (·.2)) (iZip (aCons (vProp 0 m_Matter_parts (vVar 0)) (aCons (vVar 1) aNil))) (gTupD 2 (gsCons (gSet 5) (gsCons (gSet 2) gsNil))) tYesB (vComp (([("share", 3)] : List (Str × Nat)).map (·.2)) (iSeq (vVar 2)) (gSet 3) tYesB (vBin oMul (vVar 5) (vFn 2 [] m_scaled (aCons (vVar 3) (aCons (vVar 4) aNil)))))))
    (bSeq (bSet 8 (vComp (([("word", 7)] : List (Str × Nat)).map (·.2)) (iRange1 (aCons (vCall fLen (aCons (vBin oIdx (vVar 1) (vC (.int 0))) aNil)) aNil)) (gSet 7) tYesB (vComp (([("row", 2)] : List (Str × Nat)).map (·.2)) (iSeq (vVar 6)) (gSet 2) tYesB (vBin oIdx (vVar 2) (vVar 7)))))
    (bRet (vTup (aCons (vBin oMul (vCall fSum (aCons (vProp 0 m_Matter_parts (vVar 0)) aNil)) (vVar 4)) (aCons (vVar 8) aNil)))))))
def m__joint_chances : List D → R D := runDef 2 9 false b__joint_chances
theorem sc__joint_chances : FnScope ["matter", "table", "row", "share", "common", "part", "weighed", "word", "joints"] ["matter", "table"] (defScope s__joint_chances) := ⟨rfl, rfl, rfl, by decide +kernel, rfl, by decide +kernel, by decide +kernel⟩
theorem ok__joint_chances (T : Tx K mg) (B : Bx T base) : FnOk P w K mg base (L2.CX P w) 4 T.f.F__joint_chances.a T.f.F__joint_chances.d ["matter", "table"] (spM K (T.cs w) 2 false m__joint_chances) :=
  VM.ok_def (s1 := b__joint_chances) T.f.F__joint_chances.f sc__joint_chances rfl rfl fun cdv A outer s H E hr => by
    have nd := sc__joint_chances.nd
    have hu := hu_wide hr
    unfold b__joint_chances
    exact (sss_cons (ss_set 4 nd (se_call (ok_common_under T B) (hr.mono (by decide)) T.f.F_common_under.m T.f.F_common_under.f.kp T.f.F_common_under.b .nil (fun _ => .nil) (passes_call (takes_of rfl rfl rfl rfl) fun _ _ _ _ h => h) (sa_cons ((so_lc2 [("row", 2), ("share", 3)] [3] nd (si_seq (se_var 1)) (blkOk_by (own := [("row", 2), ("share", 3)]) (by kernel_rfl)) (by decide) (by decide) (by decide) (fun _ _ _ _ _ => (sg_name 2 nd)) (fun _ _ _ _ _ => sp_nil) (fun _ _ _ _ _ => (si_seq (se_var 2))) (fun _ _ _ _ _ => (sg_name 3 nd)) (fun _ _ _ _ _ => sp_nil) (fun _ _ _ _ _ => (se_var 3)))).se sa_nil)))
      (sss_cons (ss_set 6 nd ((so_lc [("part", 5), ("row", 2)] nd (si_zip T.z.zip (sa_cons (se_prop T.m.C_Matter.cl T.m.pr_Matter_parts (ok_Matter_parts T B) (hr.mono (by decide)) T.m.M_Matter_parts.b (se_var 0)) (sa_cons (se_var 1) sa_nil))) (blkOk_by (own := [("part", 5), ("row", 2)]) (by kernel_rfl)) (by decide) (fun _ _ _ _ _ => (sg_tup rfl (sgs_cons (sg_name 5 nd) (sgs_cons (sg_name 2 nd) sgs_nil)))) (fun _ _ _ _ _ => sp_nil) (fun _ _ _ _ _ => ((so_lc [("share", 3)] nd (si_seq (se_var 2)) (blkOk_by (own := [("share", 3)]) (by kernel_rfl)) (by decide) (fun _ _ _ _ _ => (sg_name 3 nd)) (fun _ _ _ _ _ => sp_nil) (fun _ _ _ _ _ => (se_mul (se_var 5) (se_call (ok_scaled T B) (hr.mono (by decide)) T.f.F_scaled.m T.f.F_scaled.f.kp T.f.F_scaled.b .nil (fun _ => .nil) passL (sa_cons (se_var 3) (sa_cons (se_var 4) sa_nil))))))).se))).se)
      (sss_cons (ss_setLc 8 [("word", 7)] nd (si_range1 T.z.range (sa_cons (se_callB call_len okLen T.z.len rfl (sa_cons (se_idx (se_var 1) se_int) sa_nil)) sa_nil)) (blkOk_by (own := [("word", 7)]) (by kernel_rfl)) (by decide) (fun _ _ _ _ _ => (sg_name 7 nd)) (fun _ _ _ _ _ => sp_nil) (fun _ _ _ _ _ => ((so_lc [("row", 2)] nd (si_seq (se_var 6)) (blkOk_by (own := [("row", 2)]) (by kernel_rfl)) (by decide) (fun _ _ _ _ _ => (sg_name 2 nd)) (fun _ _ _ _ _ => sp_nil) (fun _ _ _ _ _ => (se_idx (se_var 2) (se_var 7))))).se) (sw_true rfl rfl rfl (by decide +kernel)))
      (sss_one (ss_ret (se_tup (sa_cons (se_mul (se_callB (cr_sumA rfl) okSum T.z.sum rfl (sa_cons (se_prop T.m.C_Matter.cl T.m.pr_Matter_parts (ok_Matter_parts T B) (hr.mono (by decide)) T.m.M_Matter_parts.b (se_var 0)) sa_nil)) (se_var 4)) (sa_cons (se_var 8) sa_nil))))))))
/-! ### ratio -/
def b_ratio : Fr0 → R Out := (bSeq (bSet 2 (vCall fGcd (aCons (vVar 0) (aCons (vVar 1) aNil))))
    (bRet (vTup (aCons (vBin oDiv (vVar 0) (vVar 2)) (aCons (vBin oDiv (vVar 1) (vVar 2)) aNil)))))
def m_ratio : List D → R D := runDef 2 3 false b_ratio
theorem sc_ratio : FnScope ["over", "under", "common"] ["over", "under"] (defScope s_ratio) := ⟨rfl, rfl, rfl, by decide +kernel, rfl, by decide +kernel, by decide +kernel⟩
theorem ok_ratio (T : Tx K mg) (B : Bx T base) : FnOk P w K mg base (L2.CX P w) 2 T.f.F_ratio.a T.f.F_ratio.d ["over", "under"] (spM K (T.cs w) 2 false m_ratio) :=
  VM.ok_def (s1 := b_ratio) T.f.F_ratio.f sc_ratio rfl rfl fun cdv A outer s H E hr => by
    have nd := sc_ratio.nd
    have hu := hu_wide hr
    unfold b_ratio
    exact (sss_cons (ss_set 2 nd (se_callM cr_gcd okGcd T.c.gcd (sa_cons (se_var 0) (sa_cons (se_var 1) sa_nil))))
      (sss_one (ss_ret (se_tup (sa_cons (se_div (se_var 0) (se_var 2)) (sa_cons (se_div (se_var 1) (se_var 2)) sa_nil))))))
/-! ### _belief -/
def b__belief : Fr0 → R Out := (bSeq (bSet 1 (vCall fSum (aCons (vVar 0) aNil)))
    (bSeq (bIf (vTest (vBin oEqA (vVar 1) (vC (.int 0)))) (bRet (vC .non)) bNil)
    (bRet (vCall fTuple (aCons (vComp (([("weight", 2)] : List (Str × Nat)).map (·.2)) (iSeq (vVar 0)) (gSet 2) tYesB (vFn 2 [] m_ratio (aCons (vVar 2) (aCons (vVar 1) aNil)))) aNil)))))
def m__belief : List D → R D := runDef 1 3 false b__belief
theorem sc__belief : FnScope ["joint", "whole", "weight"] ["joint"] (defScope s__belief) := ⟨rfl, rfl, rfl, by decide +kernel, rfl, by decide +kernel, by decide +kernel⟩
theorem ok__belief (T : Tx K mg) (B : Bx T base) : FnOk P w K mg base (L2.CX P w) 3 T.f.F__belief.a T.f.F__belief.d ["joint"] (spM K (T.cs w) 1 false m__belief) :=
  VM.ok_def (s1 := b__belief) T.f.F__belief.f sc__belief rfl rfl fun cdv A outer s H E hr => by
    have nd := sc__belief.nd
    have hu := hu_wide hr
    unfold b__belief
    exact (sss_cons (ss_set 1 nd (se_callB (cr_sumA rfl) okSum T.z.sum rfl (sa_cons (se_var 0) sa_nil)))
      (sss_cons (ss_if (st_cmp (op_eqA rfl hu) okEqA (se_var 1) se_int (nomark _)) (sss_one (ss_ret se_non)) sss_nil)
      (sss_one (ss_ret (se_callTy call_tuple_of okTuple T.z.tuple rfl (sa_cons ((so_lc [("weight", 2)] nd (si_seq (se_var 0)) (blkOk_by (own := [("weight", 2)]) (by kernel_rfl)) (by decide) (fun _ _ _ _ _ => (sg_name 2 nd)) (fun _ _ _ _ _ => sp_nil) (fun _ _ _ _ _ => (se_call (ok_ratio T B) (hr.mono (by decide)) T.f.F_ratio.m T.f.F_ratio.f.kp T.f.F_ratio.b .nil (fun _ => .nil) passL (sa_cons (se_var 2) (sa_cons (se_var 1) sa_nil)))))).se sa_nil))))))
/-! ### beliefs -/
def b_beliefs : Fr0 → R Out := (bSeq (bDrop (vFn 2 [] m_check_table (aCons (vVar 0) (aCons (vVar 1) aNil))))
    (bSeq (bAsg (vFn 2 [] m__joint_chances (aCons (vVar 0) (aCons (vVar 1) aNil))) (gTupD 2 (gsCons (gSet 2) (gsCons (gSet 3) gsNil))))
    (bRet (vComp (([("joint", 4)] : List (Str × Nat)).map (·.2)) (iSeq (vVar 3)) (gSet 4) tYesB (vFn 1 [] m__belief (aCons (vVar 4) aNil))))))
def m_beliefs : List D → R D := runDef 2 5 false b_beliefs
theorem sc_beliefs : FnScope ["matter", "table", "_", "joints", "joint"] ["matter", "table"] (defScope s_beliefs) := ⟨rfl, rfl, rfl, by decide +kernel, rfl, by decide +kernel, by decide +kernel⟩
theorem ok_beliefs (T : Tx K mg) (B : Bx T base) : FnOk P w K mg base (L2.CX P w) 8 T.f.F_beliefs.a T.f.F_beliefs.d ["matter", "table"] (spM K (T.cs w) 2 false m_beliefs) :=
  VM.ok_def (s1 := b_beliefs) T.f.F_beliefs.f sc_beliefs rfl rfl fun cdv A outer s H E hr => by
    have nd := sc_beliefs.nd
    have hu := hu_wide hr
    unfold b_beliefs
    exact (sss_cons (ss_drop (se_call (ok_check_table T B) (hr.mono (by decide)) T.f.F_check_table.m T.f.F_check_table.f.kp T.f.F_check_table.b .nil (fun _ => .nil) (passes_call (takes_of rfl rfl rfl rfl) fun _ _ _ _ h => h) (sa_cons (se_var 0) (sa_cons (se_var 1) sa_nil))))
      (sss_cons (ss_asg (se_call (ok__joint_chances T B) (hr.mono (by decide)) T.f.F__joint_chances.m T.f.F__joint_chances.f.kp T.f.F__joint_chances.b .nil (fun _ => .nil) (passes_call (takes_of rfl rfl rfl rfl) fun _ _ _ _ h => h) (sa_cons (se_var 0) (sa_cons (se_var 1) sa_nil))) (sg_tup rfl (sgs_cons (sg_name 2 nd) (sgs_cons (sg_name 3 nd) sgs_nil))))
      (sss_one (ss_ret ((so_lc [("joint", 4)] nd (si_seq (se_var 3)) (blkOk_by (own := [("joint", 4)]) (by kernel_rfl)) (by decide) (fun _ _ _ _ _ => (sg_name 4 nd)) (fun _ _ _ _ _ => sp_nil) (fun _ _ _ _ _ => (se_call (ok__belief T B) (hr.mono (by decide)) T.f.F__belief.m T.f.F__belief.f.kp T.f.F__belief.b .nil (fun _ => .nil) passL (sa_cons (se_var 4) sa_nil))))).se))))
/-! ### _totals -/
def b__totals : Fr0 → R Out := (bRet (vComp (([("act", 2)] : List (Str × Nat)).map (·.2)) (iRange1 (aCons (vCall fLen (aCons (vBin oIdx (vVar 0) (vC (.int 0))) aNil)) aNil)) (gSet 2) tYesB (vCall fSum (aCons (vComp (([("weight", 3), ("row", 4)] : List (Str × Nat)).map (·.2)) (iZip (aCons (vVar 1) (aCons (vVar 0) aNil))) (gTupD 2 (gsCons (gSet 3) (gsCons (gSet 4) gsNil))) tYesB (vBin oMul (vVar 3) (vBin oIdx (vVar 4) (vVar 2)))) aNil))))
def m__totals : List D → R D := runDef 2 5 false b__totals
theorem sc__totals : FnScope ["rows", "joint", "act", "weight", "row"] ["rows", "joint"] (defScope s__totals) := ⟨rfl, rfl, rfl, by decide +kernel, rfl, by decide +kernel, by decide +kernel⟩
theorem ok__totals (T : Tx K mg) (B : Bx T base) : FnOk P w K mg base (L2.CX P w) 2 T.f.F__totals.a T.f.F__totals.d ["rows", "joint"] (spM K (T.cs w) 2 false m__totals) :=
  VM.ok_def (s1 := b__totals) T.f.F__totals.f sc__totals rfl rfl fun cdv A outer s H E hr => by
    have nd := sc__totals.nd
    have hu := hu_wide hr
    unfold b__totals
    exact (sss_one (ss_ret ((so_lc [("act", 2)] nd (si_range1 T.z.range (sa_cons (se_callB call_len okLen T.z.len rfl (sa_cons (se_idx (se_var 0) se_int) sa_nil)) sa_nil)) (blkOk_by (own := [("act", 2)]) (by kernel_rfl)) (by decide) (fun _ _ _ _ _ => (sg_name 2 nd)) (fun _ _ _ _ _ => sp_nil) (fun _ _ _ _ _ => (se_callB (cr_sumA rfl) okSum T.z.sum rfl (sa_cons ((so_lc [("weight", 3), ("row", 4)] nd (si_zip T.z.zip (sa_cons (se_var 1) (sa_cons (se_var 0) sa_nil))) (blkOk_by (own := [("weight", 3), ("row", 4)]) (by kernel_rfl)) (by decide) (fun _ _ _ _ _ => (sg_tup rfl (sgs_cons (sg_name 3 nd) (sgs_cons (sg_name 4 nd) sgs_nil)))) (fun _ _ _ _ _ => sp_nil) (fun _ _ _ _ _ => (se_mul (se_var 3) (se_idx (se_var 4) (se_var 2)))))).se sa_nil))))).se))
/-! ### _act_done -/
def b__act_done : Fr0 → R Out := (bSeq (bIf (bNot (vTest (vCall fAny (aCons (vVar 1) aNil)))) (bRet (vC .non)) bNil)
    (bSeq (bSet 2 (vFn 2 [] m__totals (aCons (vProp 0 m_Matter_gains (vVar 0)) (aCons (vVar 1) aNil))))
    (bSeq (bSet 3 (vFn 2 [] m__totals (aCons (vProp 0 m_Matter_worths (vVar 0)) (aCons (vVar 1) aNil))))
    (bSeq (bSet 4 (vCall fMax (aCons (vVar 2) aNil)))
    (bSeq (bSet 7 (vComp (([("act", 5), ("gain", 6)] : List (Str × Nat)).map (·.2)) (iEnum (aCons (vVar 2) aNil)) (gTupD 2 (gsCons (gSet 5) (gsCons (gSet 6) gsNil))) (vTest (vBin oEqA (vVar 6) (vVar 4))) (vVar 5)))
    (bRet (vMaxKey (vVar 7) [3] (vBin oIdx (vVar 1) (vVar 0)))))))))
def m__act_done : List D → R D := runDef 2 8 false b__act_done
theorem sc__act_done : FnScope ["matter", "joint", "gains", "worths", "greatest", "act", "gain", "best_acts"] ["matter", "joint"] (defScope s__act_done) := ⟨rfl, rfl, rfl, by decide +kernel, rfl, by decide +kernel, by decide +kernel⟩
theorem ok__act_done (T : Tx K mg) (B : Bx T base) : FnOk P w K mg base (L2.CX P w) 4 T.f.F__act_done.a T.f.F__act_done.d ["matter", "joint"] (spM K (T.cs w) 2 false m__act_done) :=
  VM.ok_defC (s1 := b__act_done) T.f.F__act_done.f T.t.t__act_done.e sc__act_done rfl rfl fun A outer s H E hr => by
    have nd := sc__act_done.nd
    have hu := hu_wide hr
    unfold b__act_done
    exact (sss_cons (ss_if (st_not (st_val (se_callB (cr_anyT rfl) okAny T.z.any rfl (sa_cons (se_var 1) sa_nil)))) (sss_one (ss_ret se_non)) sss_nil)
      (sss_cons (ss_set 2 nd (se_call (ok__totals T B) (hr.mono (by decide)) T.f.F__totals.m T.f.F__totals.f.kp T.f.F__totals.b .nil (fun _ => .nil) (passes_call (takes_of rfl rfl rfl rfl) fun _ _ _ _ h => h) (sa_cons (se_prop T.m.C_Matter.cl T.m.pr_Matter_gains (ok_Matter_gains T B) (hr.mono (by decide)) T.m.M_Matter_gains.b (se_var 0)) (sa_cons (se_var 1) sa_nil))))
      (sss_cons (ss_set 3 nd (se_call (ok__totals T B) (hr.mono (by decide)) T.f.F__totals.m T.f.F__totals.f.kp T.f.F__totals.b .nil (fun _ => .nil) (passes_call (takes_of rfl rfl rfl rfl) fun _ _ _ _ h => h) (sa_cons (se_prop T.m.C_Matter.cl T.m.pr_Matter_worths (ok_Matter_worths T B) (hr.mono (by decide)) T.m.M_Matter_worths.b (se_var 0)) (sa_cons (se_var 1) sa_nil))))
      (sss_cons (ss_set 4 nd (se_callB (cr_max rfl) okMax T.z.max rfl (sa_cons (se_var 2) sa_nil)))
      (sss_cons (ss_setLc 7 [("act", 5), ("gain", 6)] nd (si_enum T.z.enumerate (sa_cons (se_var 2) sa_nil)) (blkOk_by (own := [("act", 5), ("gain", 6)]) (by kernel_rfl)) (by decide) (fun _ _ _ _ _ => (sg_tup rfl (sgs_cons (sg_name 5 nd) (sgs_cons (sg_name 6 nd) sgs_nil)))) (fun _ _ _ _ _ => (sp_one (st_cmp (op_eqA rfl hu) okEqA (se_var 6) (se_var 4) (nomark _)))) (fun _ _ _ _ _ => (se_var 5)) (sw_true rfl rfl rfl (by decide +kernel)))
      (sss_one (ss_ret (se_maxKey (a := "act") (fr := ["worths"]) (js := [3]) (lamP_by (by kernel_rfl)) (hr.mono (by decide)) B.tb__act_done List.mem_cons_self rfl T.z.max (se_var 7) (fun _ _ _ _ _ => (se_idx (se_var 1) (se_var 0)))))))))))
/-! ### acts_after -/
def b_acts_after : Fr0 → R Out := (bSeq (bDrop (vFn 2 [] m_check_table (aCons (vVar 0) (aCons (vVar 1) aNil))))
    (bSeq (bAsg (vFn 2 [] m__joint_chances (aCons (vVar 0) (aCons (vVar 1) aNil))) (gTupD 2 (gsCons (gSet 2) (gsCons (gSet 3) gsNil))))
    (bRet (vComp (([("joint", 4)] : List (Str × Nat)).map (·.2)) (iSeq (vVar 3)) (gSet 4) tYesB (vFn 2 [] m__act_done (aCons (vVar 0) (aCons (vVar 4) aNil)))))))
def m_acts_after : List D → R D := runDef 2 5 false b_acts_after
theorem sc_acts_after : FnScope ["matter", "table", "_", "joints", "joint"] ["matter", "table"] (defScope s_acts_after) := ⟨rfl, rfl, rfl, by decide +kernel, rfl, by decide +kernel, by decide +kernel⟩
theorem ok_acts_after (T : Tx K mg) (B : Bx T base) : FnOk P w K mg base (L2.CX P w) 8 T.f.F_acts_after.a T.f.F_acts_after.d ["matter", "table"] (spM K (T.cs w) 2 false m_acts_after) :=
  VM.ok_def (s1 := b_acts_after) T.f.F_acts_after.f sc_acts_after rfl rfl fun cdv A outer s H E hr => by
    have nd := sc_acts_after.nd
    have hu := hu_wide hr
    unfold b_acts_after
    exact (sss_cons (ss_drop (se_call (ok_check_table T B) (hr.mono (by decide)) T.f.F_check_table.m T.f.F_check_table.f.kp T.f.F_check_table.b .nil (fun _ => .nil) (passes_call (takes_of rfl rfl rfl rfl) fun _ _ _ _ h => h) (sa_cons (se_var 0) (sa_cons (se_var 1) sa_nil))))
      (sss_cons (ss_asg (se_call (ok__joint_chances T B) (hr.mono (by decide)) T.f.F__joint_chances.m T.f.F__joint_chances.f.kp T.f.F__joint_chances.b .nil (fun _ => .nil) (passes_call (takes_of rfl rfl rfl rfl) fun _ _ _ _ h => h) (sa_cons (se_var 0) (sa_cons (se_var 1) sa_nil))) (sg_tup rfl (sgs_cons (sg_name 2 nd) (sgs_cons (sg_name 3 nd) sgs_nil))))
      (sss_one (ss_ret ((so_lc [("joint", 4)] nd (si_seq (se_var 3)) (blkOk_by (own := [("joint", 4)]) (by kernel_rfl)) (by decide) (fun _ _ _ _ _ => (sg_name 4 nd)) (fun _ _ _ _ _ => sp_nil) (fun _ _ _ _ _ => (se_call (ok__act_done T B) (hr.mono (by decide)) T.f.F__act_done.m T.f.F__act_done.f.kp T.f.F__act_done.b .nil (fun _ => .nil) passL (sa_cons (se_var 0) (sa_cons (se_var 4) sa_nil)))))).se))))
/-! ### swerves -/
def b_swerves : Fr0 → R Out := (bSeq (bDrop (vFn 2 [] m_check_table (aCons (vVar 0) (aCons (vVar 1) aNil))))
    (bSeq (bAsg (vFn 2 [] m__joint_chances (aCons (vVar 0) (aCons (vVar 1) aNil))) (gTupD 2 (gsCons (gSet 2) (gsCons (gSet 3) gsNil))))
    (bSeq (bSetO 4 (vC (.dct [])))
    (bSeq (bFor (iEnum (aCons (vVar 3) aNil)) (gTupD 2 (gsCons (gSet 5) (gsCons (gSet 6) gsNil))) (bSeq (bSet 7 (vFn 2 [] m__act_done (aCons (vVar 0) (aCons (vVar 6) aNil))))
    (bIf (vTest (vBin oNotN (vVar 7) (vC .non))) (bSeq (bSet 8 (vFn 2 [] m__totals (aCons (vProp 0 m_Matter_gains (vVar 0)) (aCons (vVar 6) aNil))))
    (bFor (iEnum (aCons (vVar 8) aNil)) (gTupD 2 (gsCons (gSet 9) (gsCons (gSet 10) gsNil))) (bIf (vTest (vBin oNeA (vVar 9) (vVar 7))) (bPutX 4 (vTup (aCons (vVar 5) (aCons (vVar 9) aNil))) (vFn 2 [] m_ratio (aCons (vBin oSub (vBin oIdx (vVar 8) (vVar 7)) (vVar 10)) (aCons (vVar 2) aNil)))) bNil))) bNil)))
    (bFrz 4 (bRet (vVar 4)))))))
def m_swerves : List D → R D := runDef 2 11 false b_swerves
theorem sc_swerves : FnScope ["matter", "table", "divisor", "joints", "losses", "word", "joint", "done", "gains", "act", "gain"] ["matter", "table"] (defScope s_swerves) := ⟨rfl, rfl, rfl, by decide +kernel, rfl, by decide +kernel, by decide +kernel⟩
theorem ok_swerves (T : Tx K mg) (B : Bx T base) : FnOk P w K mg base (L2.CX P w) 8 T.f.F_swerves.a T.f.F_swerves.d ["matter", "table"] (spM K (T.cs w) 2 false m_swerves) :=
  VM.ok_def (s1 := b_swerves) T.f.F_swerves.f sc_swerves rfl rfl fun cdv A outer s H E hr => by
    have nd := sc_swerves.nd
    have hu := hu_wide hr
    unfold b_swerves
    exact (sss_cons (ss_drop (se_call (ok_check_table T B) (hr.mono (by decide)) T.f.F_check_table.m T.f.F_check_table.f.kp T.f.F_check_table.b .nil (fun _ => .nil) (passes_call (takes_of rfl rfl rfl rfl) fun _ _ _ _ h => h) (sa_cons (se_var 0) (sa_cons (se_var 1) sa_nil))))
      (sss_cons (ss_asg (se_call (ok__joint_chances T B) (hr.mono (by decide)) T.f.F__joint_chances.m T.f.F__joint_chances.f.kp T.f.F__joint_chances.b .nil (fun _ => .nil) (passes_call (takes_of rfl rfl rfl rfl) fun _ _ _ _ h => h) (sa_cons (se_var 0) (sa_cons (se_var 1) sa_nil))) (sg_tup rfl (sgs_cons (sg_name 2 nd) (sgs_cons (sg_name 3 nd) sgs_nil))))
      (sss_cons (ss_setO 4 nd (so_dct0 rfl))
      (sss_cons (ss_for (passes_of rfl) (si_enum T.z.enumerate (sa_cons (se_var 3) sa_nil)) (sg_tup rfl (sgs_cons (sg_name 5 nd) (sgs_cons (sg_name 6 nd) sgs_nil))) (sss_cons (ss_set 7 nd (se_call (ok__act_done T B) (hr.mono (by decide)) T.f.F__act_done.m T.f.F__act_done.f.kp T.f.F__act_done.b .nil (fun _ => .nil) (passes_call (takes_of rfl rfl rfl rfl) fun _ _ _ _ h => h) (sa_cons (se_var 0) (sa_cons (se_var 6) sa_nil))))
      (sss_one (ss_if (st_cmp op_notN okNotN (se_var 7) se_non (nomark _)) (sss_cons (ss_set 8 nd (se_call (ok__totals T B) (hr.mono (by decide)) T.f.F__totals.m T.f.F__totals.f.kp T.f.F__totals.b .nil (fun _ => .nil) (passes_call (takes_of rfl rfl rfl rfl) fun _ _ _ _ h => h) (sa_cons (se_prop T.m.C_Matter.cl T.m.pr_Matter_gains (ok_Matter_gains T B) (hr.mono (by decide)) T.m.M_Matter_gains.b (se_var 0)) (sa_cons (se_var 6) sa_nil))))
      (sss_one (ss_for (passes_of rfl) (si_enum T.z.enumerate (sa_cons (se_var 8) sa_nil)) (sg_tup rfl (sgs_cons (sg_name 9 nd) (sgs_cons (sg_name 10 nd) sgs_nil))) (sss_one (ss_if (st_cmp (op_neA rfl hu) okNeA (se_var 9) (se_var 7) (nomark _)) (sss_one (ss_putX 4 rfl hr.units (se_call (ok_ratio T B) (hr.mono (by decide)) T.f.F_ratio.m T.f.F_ratio.f.kp T.f.F_ratio.b .nil (fun _ => .nil) (passes_call (takes_of rfl rfl rfl rfl) fun _ _ _ _ h => h) (sa_cons (se_sub (se_idx (se_var 8) (se_var 7)) (se_var 10)) (sa_cons (se_var 2) sa_nil))) (se_tup (sa_cons (se_var 5) (sa_cons (se_var 9) sa_nil))))) sss_nil))))) sss_nil))))
      (sss_one (ss_frz 4 (ss_ret (se_var 4))))))))
/-! ### _overall -/
def b__overall : Fr0 → R Out := (bSeq (bAsg (vFn 2 [] m__joint_chances (aCons (vVar 0) (aCons (vVar 1) aNil))) (gTupD 2 (gsCons (gSet 3) (gsCons (gSet 4) gsNil))))
    (bSeq (bSet 5 (vC (.int 0)))
    (bSeq (bFor (iSeq (vVar 4)) (gSet 6) (bSeq (bSet 7 (vFn 2 [] m__act_done (aCons (vVar 0) (aCons (vVar 6) aNil))))
    (bIf (vTest (vBin oNotN (vVar 7) (vC .non))) (bAug 5 oAdd (vBin oIdx (vFn 2 [] m__totals (aCons (vVar 2) (aCons (vVar 6) aNil))) (vVar 7))) bNil)))
    (bRet (vFn 2 [] m_ratio (aCons (vVar 5) (aCons (vVar 3) aNil)))))))
def m__overall : List D → R D := runDef 3 8 false b__overall
theorem sc__overall : FnScope ["matter", "table", "rows", "divisor", "joints", "overall", "joint", "act"] ["matter", "table", "rows"] (defScope s__overall) := ⟨rfl, rfl, rfl, by decide +kernel, rfl, by decide +kernel, by decide +kernel⟩
theorem ok__overall (T : Tx K mg) (B : Bx T base) : FnOk P w K mg base (L2.CX P w) 5 T.f.F__overall.a T.f.F__overall.d ["matter", "table", "rows"] (spM K (T.cs w) 3 false m__overall) :=
  VM.ok_def (s1 := b__overall) T.f.F__overall.f sc__overall rfl rfl fun cdv A outer s H E hr => by
    have nd := sc__overall.nd
    have hu := hu_wide hr
    unfold b__overall
    exact (sss_cons (ss_asg (se_call (ok__joint_chances T B) (hr.mono (by decide)) T.f.F__joint_chances.m T.f.F__joint_chances.f.kp T.f.F__joint_chances.b .nil (fun _ => .nil) (passes_call (takes_of rfl rfl rfl rfl) fun _ _ _ _ h => h) (sa_cons (se_var 0) (sa_cons (se_var 1) sa_nil))) (sg_tup rfl (sgs_cons (sg_name 3 nd) (sgs_cons (sg_name 4 nd) sgs_nil))))
      (sss_cons (ss_set 5 nd se_int)
      (sss_cons (ss_for (passes_of rfl) (si_seq (se_var 4)) (sg_name 6 nd) (sss_cons (ss_set 7 nd (se_call (ok__act_done T B) (hr.mono (by decide)) T.f.F__act_done.m T.f.F__act_done.f.kp T.f.F__act_done.b .nil (fun _ => .nil) (passes_call (takes_of rfl rfl rfl rfl) fun _ _ _ _ h => h) (sa_cons (se_var 0) (sa_cons (se_var 6) sa_nil))))
      (sss_one (ss_if (st_cmp op_notN okNotN (se_var 7) se_non (nomark _)) (sss_one (ss_aug 5 nd ip_add okIpAdd (se_idx (se_call (ok__totals T B) (hr.mono (by decide)) T.f.F__totals.m T.f.F__totals.f.kp T.f.F__totals.b .nil (fun _ => .nil) (passes_call (takes_of rfl rfl rfl rfl) fun _ _ _ _ h => h) (sa_cons (se_var 2) (sa_cons (se_var 6) sa_nil))) (se_var 7)))) sss_nil))))
      (sss_one (ss_ret (se_call (ok_ratio T B) (hr.mono (by decide)) T.f.F_ratio.m T.f.F_ratio.f.kp T.f.F_ratio.b .nil (fun _ => .nil) (passes_call (takes_of rfl rfl rfl rfl) fun _ _ _ _ h => h) (sa_cons (se_var 5) (sa_cons (se_var 3) sa_nil))))))))
/-! ### worth_of -/
def b_worth_of : Fr0 → R Out := (bSeq (bDrop (vFn 2 [] m_check_table (aCons (vVar 0) (aCons (vVar 1) aNil))))
    (bRet (vFn 3 [] m__overall (aCons (vVar 0) (aCons (vVar 1) (aCons (vProp 0 m_Matter_worths (vVar 0)) aNil))))))
def m_worth_of : List D → R D := runDef 2 2 false b_worth_of
theorem sc_worth_of : FnScope ["matter", "table"] ["matter", "table"] (defScope s_worth_of) := ⟨rfl, rfl, rfl, by decide +kernel, rfl, by decide +kernel, by decide +kernel⟩
theorem ok_worth_of (T : Tx K mg) (B : Bx T base) : FnOk P w K mg base (L2.CX P w) 8 T.f.F_worth_of.a T.f.F_worth_of.d ["matter", "table"] (spM K (T.cs w) 2 false m_worth_of) :=
  VM.ok_def (s1 := b_worth_of) T.f.F_worth_of.f sc_worth_of rfl rfl fun cdv A outer s H E hr => by
    have nd := sc_worth_of.nd
    have hu := hu_wide hr
    unfold b_worth_of
    exact (sss_cons (ss_drop (se_call (ok_check_table T B) (hr.mono (by decide)) T.f.F_check_table.m T.f.F_check_table.f.kp T.f.F_check_table.b .nil (fun _ => .nil) (passes_call (takes_of rfl rfl rfl rfl) fun _ _ _ _ h => h) (sa_cons (se_var 0) (sa_cons (se_var 1) sa_nil))))
      (sss_one (ss_ret (se_call (ok__overall T B) (hr.mono (by decide)) T.f.F__overall.m T.f.F__overall.f.kp T.f.F__overall.b .nil (fun _ => .nil) (passes_call (takes_of rfl rfl rfl rfl) fun _ _ _ _ h => h) (sa_cons (se_var 0) (sa_cons (se_var 1) (sa_cons (se_prop T.m.C_Matter.cl T.m.pr_Matter_worths (ok_Matter_worths T B) (hr.mono (by decide)) T.m.M_Matter_worths.b (se_var 0)) sa_nil)))))))
/-! ### _law_value -/
def b__law_value : Fr0 → R Out := (bSeq (bSet 3 (vTup (aCons (vC (.int 0)) (aCons (vC (.int 1)) aNil))))
    (bSeq (bFor (iRange1 (aCons (vCall fLen (aCons (vBin oIdx (vVar 1) (vC (.int 0))) aNil)) aNil)) (gSet 4) (bSeq (bSet 5 (vFn 3 [] m__law_shares (aCons (vVar 0) (aCons (vVar 1) (aCons (vVar 4) aNil)))))
    (bIf (vTest (vBin oGt (vBin oIdx (vFn 1 [] m__law_sum (aCons (vVar 5) aNil)) (vC (.int 0))) (vC (.int 0)))) (bSet 3 (vFn 2 [] m__law_plus (aCons (vVar 3) (aCons (vFn 3 [] m__law_count (aCons (vVar 5) (aCons (vVar 2) (aCons (vFn 2 [] m__law_done (aCons (vVar 0) (aCons (vVar 5) aNil))) aNil)))) aNil)))) bNil)))
    (bRet (vVar 3))))
def m__law_value : List D → R D := runDef 3 6 false b__law_value
theorem sc__law_value : FnScope ["_law_plain", "_law_table_here", "_law_rows", "_law_found", "_law_word", "_law_shares_here"] ["_law_plain", "_law_table_here", "_law_rows"] (defScope s__law_value) := ⟨rfl, rfl, rfl, by decide +kernel, rfl, by decide +kernel, by decide +kernel⟩
theorem ok__law_value (T : Tx K mg) (B : Bx T base) : FnOk P w K mg base (L2.CX P w) 7 T.f.F__law_value.a T.f.F__law_value.d ["_law_plain", "_law_table_here", "_law_rows"] (spM K (T.cs w) 3 false m__law_value) :=
  VM.ok_def (s1 := b__law_value) T.f.F__law_value.f sc__law_value rfl rfl fun cdv A outer s H E hr => by
    have nd := sc__law_value.nd
    have hu := hu_wide hr
    unfold b__law_value
    exact (sss_cons (ss_set 3 nd (se_tup (sa_cons se_int (sa_cons se_int sa_nil))))
      (sss_cons (ss_for (passes_of rfl) (si_range1 T.z.range (sa_cons (se_callB call_len okLen T.z.len rfl (sa_cons (se_idx (se_var 1) se_int) sa_nil)) sa_nil)) (sg_name 4 nd) (sss_cons (ss_set 5 nd (se_call (ok__law_shares T B) (hr.mono (by decide)) T.f.F__law_shares.m T.f.F__law_shares.f.kp T.f.F__law_shares.b .nil (fun _ => .nil) (passes_call (takes_of rfl rfl rfl rfl) fun _ _ _ _ h => h) (sa_cons (se_var 0) (sa_cons (se_var 1) (sa_cons (se_var 4) sa_nil)))))
      (sss_one (ss_if (st_cmp op_gt okGt (se_idx (se_call (ok__law_sum T B) (hr.mono (by decide)) T.f.F__law_sum.m T.f.F__law_sum.f.kp T.f.F__law_sum.b .nil (fun _ => .nil) (passes_call (takes_of rfl rfl rfl rfl) fun _ _ _ _ h => h) (sa_cons (se_var 5) sa_nil)) se_int) se_int (nomark _)) (sss_one (ss_set 3 nd (se_call (ok__law_plus T B) (hr.mono (by decide)) T.f.F__law_plus.m T.f.F__law_plus.f.kp T.f.F__law_plus.b .nil (fun _ => .nil) (passes_call (takes_of rfl rfl rfl rfl) fun _ _ _ _ h => h) (sa_cons (se_var 3) (sa_cons (se_call (ok__law_count T B) (hr.mono (by decide)) T.f.F__law_count.m T.f.F__law_count.f.kp T.f.F__law_count.b .nil (fun _ => .nil) (passes_call (takes_of rfl rfl rfl rfl) fun _ _ _ _ h => h) (sa_cons (se_var 5) (sa_cons (se_var 2) (sa_cons (se_call (ok__law_done T B) (hr.mono (by decide)) T.f.F__law_done.m T.f.F__law_done.f.kp T.f.F__law_done.b .nil (fun _ => .nil) (passes_call (takes_of rfl rfl rfl rfl) fun _ _ _ _ h => h) (sa_cons (se_var 0) (sa_cons (se_var 5) sa_nil))) sa_nil)))) sa_nil))))) sss_nil))))
      (sss_one (ss_ret (se_var 3)))))
/-! ### gain_of -/
def b_gain_of : Fr0 → R Out := (bSeq (bDrop (vFn 2 [] m_check_table (aCons (vVar 0) (aCons (vVar 1) aNil))))
    (bRet (vFn 3 [] m__overall (aCons (vVar 0) (aCons (vVar 1) (aCons (vProp 0 m_Matter_gains (vVar 0)) aNil))))))
def m_gain_of : List D → R D := runDef 2 2 false b_gain_of
theorem sc_gain_of : FnScope ["matter", "table"] ["matter", "table"] (defScope s_gain_of) := ⟨rfl, rfl, rfl, by decide +kernel, rfl, by decide +kernel, by decide +kernel⟩
theorem ok_gain_of (T : Tx K mg) (B : Bx T base) : FnOk P w K mg base (L2.CX P w) 8 T.f.F_gain_of.a T.f.F_gain_of.d ["matter", "table"] (spM K (T.cs w) 2 false m_gain_of) :=
  VM.ok_def (s1 := b_gain_of) T.f.F_gain_of.f sc_gain_of rfl rfl fun cdv A outer s H E hr => by
    have nd := sc_gain_of.nd
    have hu := hu_wide hr
    unfold b_gain_of
    exact (sss_cons (ss_drop (se_call (ok_check_table T B) (hr.mono (by decide)) T.f.F_check_table.m T.f.F_check_table.f.kp T.f.F_check_table.b .nil (fun _ => .nil) (passes_call (takes_of rfl rfl rfl rfl) fun _ _ _ _ h => h) (sa_cons (se_var 0) (sa_cons (se_var 1) sa_nil))))
      (sss_one (ss_ret (se_call (ok__overall T B) (hr.mono (by decide)) T.f.F__overall.m T.f.F__overall.f.kp T.f.F__overall.b .nil (fun _ => .nil) (passes_call (takes_of rfl rfl rfl rfl) fun _ _ _ _ h => h) (sa_cons (se_var 0) (sa_cons (se_var 1) (sa_cons (se_prop T.m.C_Matter.cl T.m.pr_Matter_gains (ok_Matter_gains T B) (hr.mono (by decide)) T.m.M_Matter_gains.b (se_var 0)) sa_nil)))))))
/-! ### _law_told_right -/
def b__law_told_right : Fr0 → R Out := (bSeq (bMix [3, 4, 5, 6] (mFrz (vCall fLen (aCons (vBin oIdx (vVar 2) (vC (.int 0))) aNil)) (mOwn (vLst aNil) (mOwn (vLst aNil) (mOwn (vC (.dct [])) mNil)))))
    (bSeq (bFor (iRange1 (aCons (vVar 3) aNil)) (gSet 7) (bSeq (bSet 8 (vFn 3 [] m__law_shares (aCons (vVar 0) (aCons (vVar 2) (aCons (vVar 7) aNil)))))
    (bSeq (bSet 9 (vFn 1 [] m__law_sum (aCons (vVar 8) aNil)))
    (bIf (vTest (vBin oEqA (vBin oIdx (vVar 9) (vC (.int 0))) (vC (.int 0)))) (bSeq (bApp 4 (vC .non))
    (bApp 5 (vC .non))) (bSeq (bSet 10 (vFn 2 [] m__law_done (aCons (vVar 0) (aCons (vVar 8) aNil))))
    (bSeq (bApp 4 (vCall fTuple (aCons (vComp (([("_law_one", 11)] : List (Str × Nat)).map (·.2)) (iSeq (vVar 8)) (gSet 11) tYesB (vFn 2 [] m__law_over (aCons (vVar 11) (aCons (vVar 9) aNil)))) aNil)))
    (bSeq (bApp 5 (vVar 10))
    (bFor (iRange1 (aCons (vCall fLen (aCons (vBin oIdx (vBin oIdx (vVar 0) (vC (.int 1))) (vC (.int 0))) aNil)) aNil)) (gSet 12) (bIf (vTest (vBin oNeA (vVar 12) (vVar 10))) (bSeq (bSet 13 (vFn 3 [] m__law_count (aCons (vVar 8) (aCons (vBin oIdx (vVar 0) (vC (.int 1))) (aCons (vVar 12) aNil)))))
    (bPutX 6 (vTup (aCons (vVar 7) (aCons (vVar 12) aNil))) (vFn 2 [] m__law_minus (aCons (vFn 3 [] m__law_count (aCons (vVar 8) (aCons (vBin oIdx (vVar 0) (vC (.int 1))) (aCons (vVar 10) aNil)))) (aCons (vVar 13) aNil))))) bNil)))))))))
    (bSeq (bFrz 6 (bFrz 5 (bFrz 4 (bIf (bOr (vTest (vBin oNeA (vFn 2 [] m_beliefs (aCons (vVar 1) (aCons (vVar 2) aNil))) (vVar 4))) (bOr (vTest (vBin oNeA (vFn 2 [] m_acts_after (aCons (vVar 1) (aCons (vVar 2) aNil))) (vVar 5))) (vTest (vBin oNeA (vFn 2 [] m_swerves (aCons (vVar 1) (aCons (vVar 2) aNil))) (vVar 6))))) (bRet (vC (.bl false))) bNil))))
    (bSeq (bIf (bNot (vTest (vBin oEqA (vFn 2 [] m_worth_of (aCons (vVar 1) (aCons (vVar 2) aNil))) (vFn 3 [] m__law_value (aCons (vVar 0) (aCons (vVar 2) (aCons (vBin oIdx (vVar 0) (vC (.int 2))) aNil))))))) (bRet (vC (.bl false))) bNil)
    (bRet (vBin oEqA (vFn 2 [] m_gain_of (aCons (vVar 1) (aCons (vVar 2) aNil))) (vFn 3 [] m__law_value (aCons (vVar 0) (aCons (vVar 2) (aCons (vBin oIdx (vVar 0) (vC (.int 1))) aNil))))))))))
def m__law_told_right : List D → R D := runDef 3 14 false b__law_told_right
theorem sc__law_told_right : FnScope ["_law_plain", "_law_matter_here", "_law_table_here", "_law_words", "_law_held", "_law_acts", "_law_lost", "_law_word", "_law_shares_here", "_law_whole", "_law_done_here", "_law_one", "_law_act", "_law_more"] ["_law_plain", "_law_matter_here", "_law_table_here"] (defScope s__law_told_right) := ⟨rfl, rfl, rfl, by decide +kernel, rfl, by decide +kernel, by decide +kernel⟩
theorem ok__law_told_right (T : Tx K mg) (B : Bx T base) : FnOk P w K mg base (L2.CX P w) 9 T.f.F__law_told_right.a T.f.F__law_told_right.d ["_law_plain", "_law_matter_here", "_law_table_here"] (spM K (T.cs w) 3 false m__law_told_right) :=
  VM.ok_def (s1 := b__law_told_right) T.f.F__law_told_right.f sc__law_told_right rfl rfl fun cdv A outer s H E hr => by
    have nd := sc__law_told_right.nd
    have hu := hu_wide hr
    unfold b__law_told_right
    exact (sss_cons (ss_mixN (sm_frz (se_callB call_len okLen T.z.len rfl (sa_cons (se_idx (se_var 2) se_int) sa_nil)) (sm_own (so_lst sa_nil) (sm_own (so_lst sa_nil) (sm_own (so_dct0 rfl) sm_nil)))) (ng_cons 3 nd (ng_cons 4 nd (ng_cons 5 nd (ng_cons 6 nd ng_nil)))))
      (sss_cons (ss_for (passes_of rfl) (si_range1 T.z.range (sa_cons (se_var 3) sa_nil)) (sg_name 7 nd) (sss_cons (ss_set 8 nd (se_call (ok__law_shares T B) (hr.mono (by decide)) T.f.F__law_shares.m T.f.F__law_shares.f.kp T.f.F__law_shares.b .nil (fun _ => .nil) (passes_call (takes_of rfl rfl rfl rfl) fun _ _ _ _ h => h) (sa_cons (se_var 0) (sa_cons (se_var 2) (sa_cons (se_var 7) sa_nil)))))
      (sss_cons (ss_set 9 nd (se_call (ok__law_sum T B) (hr.mono (by decide)) T.f.F__law_sum.m T.f.F__law_sum.f.kp T.f.F__law_sum.b .nil (fun _ => .nil) (passes_call (takes_of rfl rfl rfl rfl) fun _ _ _ _ h => h) (sa_cons (se_var 8) sa_nil)))
      (sss_one (ss_if (st_cmp (op_eqA rfl hu) okEqA (se_idx (se_var 9) se_int) se_int (nomark _)) (sss_cons (ss_app 4 se_non)
      (sss_one (ss_app 5 se_non))) (sss_cons (ss_set 10 nd (se_call (ok__law_done T B) (hr.mono (by decide)) T.f.F__law_done.m T.f.F__law_done.f.kp T.f.F__law_done.b .nil (fun _ => .nil) (passes_call (takes_of rfl rfl rfl rfl) fun _ _ _ _ h => h) (sa_cons (se_var 0) (sa_cons (se_var 8) sa_nil))))
      (sss_cons (ss_app 4 (se_callTy call_tuple_of okTuple T.z.tuple rfl (sa_cons ((so_lc [("_law_one", 11)] nd (si_seq (se_var 8)) (blkOk_by (own := [("_law_one", 11)]) (by kernel_rfl)) (by decide) (fun _ _ _ _ _ => (sg_name 11 nd)) (fun _ _ _ _ _ => sp_nil) (fun _ _ _ _ _ => (se_call (ok__law_over T B) (hr.mono (by decide)) T.f.F__law_over.m T.f.F__law_over.f.kp T.f.F__law_over.b .nil (fun _ => .nil) passL (sa_cons (se_var 11) (sa_cons (se_var 9) sa_nil)))))).se sa_nil)))
      (sss_cons (ss_app 5 (se_var 10))
      (sss_one (ss_for (passes_of rfl) (si_range1 T.z.range (sa_cons (se_callB call_len okLen T.z.len rfl (sa_cons (se_idx (se_idx (se_var 0) se_int) se_int) sa_nil)) sa_nil)) (sg_name 12 nd) (sss_one (ss_if (st_cmp (op_neA rfl hu) okNeA (se_var 12) (se_var 10) (nomark _)) (sss_cons (ss_set 13 nd (se_call (ok__law_count T B) (hr.mono (by decide)) T.f.F__law_count.m T.f.F__law_count.f.kp T.f.F__law_count.b .nil (fun _ => .nil) (passes_call (takes_of rfl rfl rfl rfl) fun _ _ _ _ h => h) (sa_cons (se_var 8) (sa_cons (se_idx (se_var 0) se_int) (sa_cons (se_var 12) sa_nil)))))
      (sss_one (ss_putX 6 rfl hr.units (se_call (ok__law_minus T B) (hr.mono (by decide)) T.f.F__law_minus.m T.f.F__law_minus.f.kp T.f.F__law_minus.b .nil (fun _ => .nil) (passes_call (takes_of rfl rfl rfl rfl) fun _ _ _ _ h => h) (sa_cons (se_call (ok__law_count T B) (hr.mono (by decide)) T.f.F__law_count.m T.f.F__law_count.f.kp T.f.F__law_count.b .nil (fun _ => .nil) (passes_call (takes_of rfl rfl rfl rfl) fun _ _ _ _ h => h) (sa_cons (se_var 8) (sa_cons (se_idx (se_var 0) se_int) (sa_cons (se_var 10) sa_nil)))) (sa_cons (se_var 13) sa_nil))) (se_tup (sa_cons (se_var 7) (sa_cons (se_var 12) sa_nil)))))) sss_nil))))))))))))
      (sss_cons (ss_frz 6 (ss_frz 5 (ss_frz 4 (ss_if (sw_or (st_cmp (op_neA rfl hu) okNeA (se_call (ok_beliefs T B) (hr.mono (by decide)) T.f.F_beliefs.m T.f.F_beliefs.f.kp T.f.F_beliefs.b .nil (fun _ => .nil) (passes_call (takes_of rfl rfl rfl rfl) fun _ _ _ _ h => h) (sa_cons (se_var 1) (sa_cons (se_var 2) sa_nil))) (se_var 4) (nomark _)) (sw_or (st_cmp (op_neA rfl hu) okNeA (se_call (ok_acts_after T B) (hr.mono (by decide)) T.f.F_acts_after.m T.f.F_acts_after.f.kp T.f.F_acts_after.b .nil (fun _ => .nil) (passes_call (takes_of rfl rfl rfl rfl) fun _ _ _ _ h => h) (sa_cons (se_var 1) (sa_cons (se_var 2) sa_nil))) (se_var 5) (nomark _)) (sw_or1 (st_cmp (op_neA rfl hu) okNeA (se_call (ok_swerves T B) (hr.mono (by decide)) T.f.F_swerves.m T.f.F_swerves.f.kp T.f.F_swerves.b .nil (fun _ => .nil) (passes_call (takes_of rfl rfl rfl rfl) fun _ _ _ _ h => h) (sa_cons (se_var 1) (sa_cons (se_var 2) sa_nil))) (se_var 6) (nomark _))))).st (sss_one (ss_ret se_bl)) sss_nil))))
      (sss_cons (ss_if (st_not (st_cmp (op_eqA rfl hu) okEqA (se_call (ok_worth_of T B) (hr.mono (by decide)) T.f.F_worth_of.m T.f.F_worth_of.f.kp T.f.F_worth_of.b .nil (fun _ => .nil) (passes_call (takes_of rfl rfl rfl rfl) fun _ _ _ _ h => h) (sa_cons (se_var 1) (sa_cons (se_var 2) sa_nil))) (se_call (ok__law_value T B) (hr.mono (by decide)) T.f.F__law_value.m T.f.F__law_value.f.kp T.f.F__law_value.b .nil (fun _ => .nil) (passes_call (takes_of rfl rfl rfl rfl) fun _ _ _ _ h => h) (sa_cons (se_var 0) (sa_cons (se_var 2) (sa_cons (se_idx (se_var 0) se_int) sa_nil)))) (nomark _))) (sss_one (ss_ret se_bl)) sss_nil)
      (sss_one (ss_ret (se_cmp (op_eqA rfl hu) okEqA (se_call (ok_gain_of T B) (hr.mono (by decide)) T.f.F_gain_of.m T.f.F_gain_of.f.kp T.f.F_gain_of.b .nil (fun _ => .nil) (passes_call (takes_of rfl rfl rfl rfl) fun _ _ _ _ h => h) (sa_cons (se_var 1) (sa_cons (se_var 2) sa_nil))) (se_call (ok__law_value T B) (hr.mono (by decide)) T.f.F__law_value.m T.f.F__law_value.f.kp T.f.F__law_value.b .nil (fun _ => .nil) (passes_call (takes_of rfl rfl rfl rfl) fun _ _ _ _ h => h) (sa_cons (se_var 0) (sa_cons (se_var 2) (sa_cons (se_idx (se_var 0) se_int) sa_nil)))) (nomark _))))))))
/-! ### law -/
def b_law : Fr0 → R Out := (bSeq (bSet 1 (vFn 2 [] m__law_matter (aCons (vVar 0) (aCons (vC (.int 0)) aNil))))
    (bSeq (bMix [2, 3] (mFrz (vMk 3 m_Matterdd_initdd (aCons (vBin oIdx (vVar 1) (vC (.int 0))) (aCons (vBin oIdx (vVar 1) (vC (.int 1))) (aCons (vBin oIdx (vVar 1) (vC (.int 2))) aNil)))) (mFrz (vCall fLen (aCons (vBin oIdx (vVar 1) (vC (.int 0))) aNil)) mNil)))
    (bSeq (bIf (bOr (vTest (vBin oNeA (vProp 0 m_Matter_parts (vVar 2)) (vBin oIdx (vVar 1) (vC (.int 0))))) (bOr (vTest (vBin oNeA (vProp 0 m_Matter_gains (vVar 2)) (vBin oIdx (vVar 1) (vC (.int 1))))) (bOr (vTest (vBin oNeA (vProp 0 m_Matter_worths (vVar 2)) (vBin oIdx (vVar 1) (vC (.int 2))))) (vTest (vBin oNeA (vLenO 0 m_Matterdd_lendd (vVar 2)) (vVar 3)))))) (bRet (vC (.bl false))) bNil)
    (bSeq (bSet 6 (vComp (([("_law_place", 4)] : List (Str × Nat)).map (·.2)) (iRange1 (aCons (vVar 3) aNil)) (gSet 4) tYesB (vCall fTuple (aCons (vComp (([("_law_one", 5)] : List (Str × Nat)).map (·.2)) (iRange1 (aCons (vVar 3) aNil)) (gSet 5) tYesB (vTup (aCons (vIf (vTest (vBin oEqA (vVar 5) (vVar 4))) (vC (.int 1)) (vC (.int 0))) (aCons (vC (.int 1)) aNil)))) aNil))))
    (bSeq (bIf (bOr (vTest (vBin oNeA (vFn 1 [] m_whole_table (aCons (vVar 2) aNil)) (vCall fTuple (aCons (vVar 6) aNil)))) (vTest (vBin oNeA (vFn 1 [] m_silent_table (aCons (vVar 2) aNil)) (vBin oRepT (vTup (aCons (vTup (aCons (vTup (aCons (vC (.int 1)) (aCons (vC (.int 1)) aNil))) aNil)) aNil)) (vVar 3))))) (bRet (vC (.bl false))) bNil)
    (bSeq (bSetO 7 (vLst (aCons (vCall fTuple (aCons (vVar 6) aNil)) (aCons (vBin oRepT (vTup (aCons (vTup (aCons (vTup (aCons (vC (.int 1)) (aCons (vC (.int 1)) aNil))) aNil)) aNil)) (vVar 3)) aNil))))
    (bSeq (bFor (iRange1 (aCons (vC (.int 3)) aNil)) (gSet 8) (bApp 7 (vFn 4 [] m__law_table (aCons (vVar 0) (aCons (vBin oAdd (vC (.int 40)) (vBin oMul (vC (.int 21)) (vVar 8))) (aCons (vVar 1) (aCons (vBin oAdd (vC (.int 1)) (vBin oMod (vCall fInt (aCons (vFn 2 [] m__law_cell_at (aCons (vVar 0) (aCons (vBin oAdd (vC (.int 105)) (vVar 8)) aNil))) aNil)) (vC (.int 4)))) aNil)))))))
    (bFrz 7 (bRet (vCall fAll (aCons (vComp (([("_law_table_here", 9)] : List (Str × Nat)).map (·.2)) (iSeq (vVar 7)) (gSet 9) tYesB (vFn 3 [] m__law_told_right (aCons (vVar 1) (aCons (vVar 2) (aCons (vVar 9) aNil))))) aNil)))))))))))
def m_law : List D → R D := runDef 1 10 false b_law
theorem sc_law : FnScope ["_law_script", "_law_plain", "_law_matter_here", "_law_many", "_law_place", "_law_one", "_law_every", "_law_tables", "_law_turn", "_law_table_here"] ["_law_script"] (defScope s_law) := ⟨rfl, rfl, rfl, by decide +kernel, rfl, by decide +kernel, by decide +kernel⟩
theorem ok_law (T : Tx K mg) (B : Bx T base) : FnOk P w K mg base (L2.CX P w) 10 T.f.F_law.a T.f.F_law.d ["_law_script"] (spM K (T.cs w) 1 false m_law) :=
  VM.ok_def (s1 := b_law) T.f.F_law.f sc_law rfl rfl fun cdv A outer s H E hr => by
    have nd := sc_law.nd
    have hu := hu_wide hr
    unfold b_law
    exact (sss_cons (ss_set 1 nd (se_call (ok__law_matter T B) (hr.mono (by decide)) T.f.F__law_matter.m T.f.F__law_matter.f.kp T.f.F__law_matter.b .nil (fun _ => .nil) (passes_call (takes_of rfl rfl rfl rfl) fun _ _ _ _ h => h) (sa_cons (se_var 0) (sa_cons se_int sa_nil))))
      (sss_cons (ss_mixN (sm_frz ((so_make T.m.mk_Matter (ok_Matterdd_initdd T B) (hr.mono (by decide)) T.m.C_Matter.g T.m.M_Matterdd_initdd.b (passes_call (takes_of rfl rfl rfl rfl) fun _ _ _ _ h => h) (sa_cons (se_idx (se_var 1) se_int) (sa_cons (se_idx (se_var 1) se_int) (sa_cons (se_idx (se_var 1) se_int) sa_nil))))).se (sm_frz (se_callB call_len okLen T.z.len rfl (sa_cons (se_idx (se_var 1) se_int) sa_nil)) sm_nil)) (ng_cons 2 nd (ng_cons 3 nd ng_nil)))
      (sss_cons (ss_if (sw_or (st_cmp (op_neA rfl hu) okNeA (se_prop T.m.C_Matter.cl T.m.pr_Matter_parts (ok_Matter_parts T B) (hr.mono (by decide)) T.m.M_Matter_parts.b (se_var 2)) (se_idx (se_var 1) se_int) (nomark _)) (sw_or (st_cmp (op_neA rfl hu) okNeA (se_prop T.m.C_Matter.cl T.m.pr_Matter_gains (ok_Matter_gains T B) (hr.mono (by decide)) T.m.M_Matter_gains.b (se_var 2)) (se_idx (se_var 1) se_int) (nomark _)) (sw_or (st_cmp (op_neA rfl hu) okNeA (se_prop T.m.C_Matter.cl T.m.pr_Matter_worths (ok_Matter_worths T B) (hr.mono (by decide)) T.m.M_Matter_worths.b (se_var 2)) (se_idx (se_var 1) se_int) (nomark _)) (sw_or1 (st_cmp (op_neA rfl hu) okNeA (se_lenO T.z.len (ok_Matterdd_lendd T B) (hr.mono (by decide)) T.m.at_Matterdd_lendd T.m.fn_Matterdd_lendd T.m.M_Matterdd_lendd.b (se_var 2)) (se_var 3) (nomark _)))))).st (sss_one (ss_ret se_bl)) sss_nil)
      (sss_cons (ss_setLc 6 [("_law_place", 4)] nd (si_range1 T.z.range (sa_cons (se_var 3) sa_nil)) (blkOk_by (own := [("_law_place", 4)]) (by kernel_rfl)) (by decide) (fun _ _ _ _ _ => (sg_name 4 nd)) (fun _ _ _ _ _ => sp_nil) (fun _ _ _ _ _ => (se_callTy call_tuple_of okTuple T.z.tuple rfl (sa_cons ((so_lc [("_law_one", 5)] nd (si_range1 T.z.range (sa_cons (se_var 3) sa_nil)) (blkOk_by (own := [("_law_one", 5)]) (by kernel_rfl)) (by decide) (fun _ _ _ _ _ => (sg_name 5 nd)) (fun _ _ _ _ _ => sp_nil) (fun _ _ _ _ _ => (se_tup (sa_cons (se_ifExp (st_cmp (op_eqA rfl hu) okEqA (se_var 5) (se_var 4) (nomark _)) se_int se_int) (sa_cons se_int sa_nil)))))).se sa_nil))) (sw_true rfl rfl rfl (by decide +kernel)))
      (sss_cons (ss_if (sw_or (st_cmp (op_neA rfl hu) okNeA (se_call (ok_whole_table T B) (hr.mono (by decide)) T.f.F_whole_table.m T.f.F_whole_table.f.kp T.f.F_whole_table.b .nil (fun _ => .nil) (passes_call (takes_of rfl rfl rfl rfl) fun _ _ _ _ h => h) (sa_cons (se_var 2) sa_nil)) (se_callTy call_tuple_of okTuple T.z.tuple rfl (sa_cons (se_var 6) sa_nil)) (nomark _)) (sw_or1 (st_cmp (op_neA rfl hu) okNeA (se_call (ok_silent_table T B) (hr.mono (by decide)) T.f.F_silent_table.m T.f.F_silent_table.f.kp T.f.F_silent_table.b .nil (fun _ => .nil) (passes_call (takes_of rfl rfl rfl rfl) fun _ _ _ _ h => h) (sa_cons (se_var 2) sa_nil)) (se_bin op_repT okRepT (se_tup (sa_cons (se_tup (sa_cons (se_tup (sa_cons se_int (sa_cons se_int sa_nil))) sa_nil)) sa_nil)) (se_var 3)) (nomark _)))).st (sss_one (ss_ret se_bl)) sss_nil)
      (sss_cons (ss_setO 7 nd (so_lst (sa_cons (se_callTy call_tuple_of okTuple T.z.tuple rfl (sa_cons (se_var 6) sa_nil)) (sa_cons (se_bin op_repT okRepT (se_tup (sa_cons (se_tup (sa_cons (se_tup (sa_cons se_int (sa_cons se_int sa_nil))) sa_nil)) sa_nil)) (se_var 3)) sa_nil))))
      (sss_cons (ss_for (passes_of rfl) (si_range1 T.z.range (sa_cons se_int sa_nil)) (sg_name 8 nd) (sss_one (ss_app 7 (se_call (ok__law_table T B) (hr.mono (by decide)) T.f.F__law_table.m T.f.F__law_table.f.kp T.f.F__law_table.b .nil (fun _ => .nil) (passes_call (takes_of rfl rfl rfl rfl) fun _ _ _ _ h => h) (sa_cons (se_var 0) (sa_cons (se_add se_int (se_mul se_int (se_var 8))) (sa_cons (se_var 1) (sa_cons (se_add se_int (se_mod (se_callTy call_int1 okInt T.z.int rfl (sa_cons (se_call (ok__law_cell_at T B) (hr.mono (by decide)) T.f.F__law_cell_at.m T.f.F__law_cell_at.f.kp T.f.F__law_cell_at.b .nil (fun _ => .nil) (passes_call (takes_of rfl rfl rfl rfl) fun _ _ _ _ h => h) (sa_cons (se_var 0) (sa_cons (se_add se_int (se_var 8)) sa_nil))) sa_nil)) se_int)) sa_nil))))))))
      (sss_one (ss_frz 7 (ss_ret (se_callB (cr_all rfl) okAll T.z.all rfl (sa_cons ((so_lc [("_law_table_here", 9)] nd (si_seq (se_var 7)) (blkOk_by (own := [("_law_table_here", 9)]) (by kernel_rfl)) (by decide) (fun _ _ _ _ _ => (sg_name 9 nd)) (fun _ _ _ _ _ => sp_nil) (fun _ _ _ _ _ => (se_call (ok__law_told_right T B) (hr.mono (by decide)) T.f.F__law_told_right.m T.f.F__law_told_right.f.kp T.f.F__law_told_right.b .nil (fun _ => .nil) passL (sa_cons (se_var 1) (sa_cons (se_var 2) (sa_cons (se_var 9) sa_nil))))))).se sa_nil))))))))))))
end
end VM
end
section
set_option Elab.async false
set_option linter.all false
set_option maxRecDepth 100000
set_option autoImplicit false
/-! Mk1: the law's fractions. -/
namespace VM
open PySem PySem.Spec L2
/-- a fraction as a pair -/
def dQ (q : Rat) : D := .tup [.int q.num, .int (q.den : Int)]
theorem mulFits_nat {i j : Int} (h1 : i.natAbs < 2 ^ 9000) (h2 : j.natAbs < 2 ^ 9000) : mulFits i j = true := by
  unfold mulFits
  simp only [Bool.or_eq_true, Bool.and_eq_true, decide_eq_true_eq]
  exact .inr ⟨h1, h2⟩
theorem divFits_nat {j : Int} (h1 : 0 < j) (h2 : j.natAbs < 2 ^ 9000) : divFits j = true := by
  unfold divFits
  simp only [Bool.and_eq_true, decide_eq_true_eq]
  exact ⟨h1, h2⟩
/-! ### the loop of the greatest common divisor -/
def gcdSt (t b : Int) (x y : Int) : Fr0 := [.frz (.int t), .frz (.int b), .frz (.int x), .frz (.int y)]
def gcdBody : Fr0 → R Out := (bMix [2, 3] (mFrz (vVar 3) (mFrz (vBin oMod (vCall fInt (aCons (vVar 2) aNil)) (vVar 3)) mNil)))
def gcdTest : Fr0 → R Bool := (vTest (vBin oNeA (vVar 3) (vC (.int 0))))
theorem eqv_int (i j : Int) : PyData.eqv (.int i) (.int j) = decide (i = j) := by
  simp only [PyData.eqv]
  by_cases h : i = j <;> simp [h]
theorem shaped_int (i : Int) : SeqAt.shaped (.int i) = true := by rfl
theorem gcdTest_at (t b x y : Int) : gcdTest (gcdSt t b x y) = .ok (!decide (y = 0)) := by
  unfold gcdTest gcdSt
  simp only [runDef, bSeq, bNil, bRet, bRetN, bSet, bSetO, bIf, bFrz, bMix, mFrz, mOwn, mNil, setSl, bApp, bPutX, bAug, bAsg, bDrop, gTupD, gsCons, gsNil, gSet, noExc, vVar, vC, vBin, vChain, vNot, vIf, vTup, oTup, vLst, oLst, vFn, vCall, aCons, aNil, vTest, vTruth, bAnd, bOr, bNot, vFld, vMk, vIsC, vIsi, tyName, sub_tt, sub_ii, sub_ib, natc1, natc2, natc3, natc4, decide_true, decide_false, oAdd_ap, oSub_ap, oMul_ap, oDiv_ap, oMod_ap, dI2, dI2c, oLt_ap, oLe_ap, oGt_ap, oGe_ap, oIsN_ap, oNotN_ap, VM.D.isNon, oIdx_l, oIdx_t, fLen, fAbs, fInt, VM.R.bind_ok, VM.R.bind_exc, VM.R.bind_stuck, Option.bind_some, Option.bind_none, ix_1_0, ix_2_0, ix_2_1, ix_3_0, ix_3_1, ix_3_2, ix_4_0, ix_4_1, ix_4_2, ix_4_3, List.map_cons, List.map_nil, List.append_nil, List.cons_append, List.nil_append, List.length_cons, List.length_nil, List.getElem?_cons_zero, List.getElem?_cons_succ, List.getElem?_nil, List.set_cons_zero, List.set_cons_succ, List.replicate_succ, List.replicate_zero, if_true, if_false, reduceIte, Nat.reduceSub, Nat.reduceAdd, Nat.reduceLeDiff, Nat.reduceEqDiff, Bool.not_true, Bool.not_false, Bool.false_eq_true, oNeA, D.dc, oNe, D.pd, shaped_int, Bool.and_self, eqv_int]
theorem gcdBody_at (t b x y : Int) (hy : 0 < y) : gcdBody (gcdSt t b x y) = .ok (.nx (gcdSt t b y (x % y))) := by
  unfold gcdBody gcdSt
  simp only [runDef, bSeq, bNil, bRet, bRetN, bSet, bSetO, bIf, bFrz, bMix, mFrz, mOwn, mNil, setSl, bApp, bPutX, bAug, bAsg, bDrop, gTupD, gsCons, gsNil, gSet, noExc, vVar, vC, vBin, vChain, vNot, vIf, vTup, oTup, vLst, oLst, vFn, vCall, aCons, aNil, vTest, vTruth, bAnd, bOr, bNot, vFld, vMk, vIsC, vIsi, tyName, sub_tt, sub_ii, sub_ib, natc1, natc2, natc3, natc4, decide_true, decide_false, oAdd_ap, oSub_ap, oMul_ap, oDiv_ap, oMod_ap, dI2, dI2c, oLt_ap, oLe_ap, oGt_ap, oGe_ap, oIsN_ap, oNotN_ap, VM.D.isNon, oIdx_l, oIdx_t, fLen, fAbs, fInt, VM.R.bind_ok, VM.R.bind_exc, VM.R.bind_stuck, Option.bind_some, Option.bind_none, ix_1_0, ix_2_0, ix_2_1, ix_3_0, ix_3_1, ix_3_2, ix_4_0, ix_4_1, ix_4_2, ix_4_3, List.map_cons, List.map_nil, List.append_nil, List.cons_append, List.nil_append, List.length_cons, List.length_nil, List.getElem?_cons_zero, List.getElem?_cons_succ, List.getElem?_nil, List.set_cons_zero, List.set_cons_succ, List.replicate_succ, List.replicate_zero, if_true, if_false, reduceIte, Nat.reduceSub, Nat.reduceAdd, Nat.reduceLeDiff, Nat.reduceEqDiff, Bool.not_true, Bool.not_false, Bool.false_eq_true, decide_eq_true hy]
theorem gcd_loop (t b : Int) : ∀ (n : Nat) (x y : Nat), y < n → whileL gcdTest gcdBody n (gcdSt t b x y) = .ok (.nx (gcdSt t b (Nat.gcd x y : Nat) 0))
  | 0, _, _, h => absurd h (Nat.not_lt_zero _)
  | n + 1, x, y, h => by
    unfold whileL
    rw [gcdTest_at]
    by_cases hy : y = 0
    · subst hy
      simp [R.bind]
    · have hy' : 0 < y := Nat.pos_of_ne_zero hy
      have hn : (!decide ((y : Int) = 0)) = true := by simp [hy]
      simp only [hn, R.bind_ok, if_true]
      rw [gcdBody_at t b x y (by omega)]
      simp only [R.bind_ok]
      have hm : (x : Int) % (y : Int) = ((x % y : Nat) : Int) := by simp
      rw [hm, gcd_loop t b n y (x % y) (by have := Nat.mod_lt x hy'; omega)]
      rw [Nat.gcd_comm y, ← Nat.gcd_rec, Nat.gcd_comm]
theorem abs_nat (i : Int) : (if i < 0 then -i else i) = (i.natAbs : Int) := by
  split <;> omega
theorem low_at (t b : Int) (hb : 0 < b) (h2 : b.natAbs < 2 ^ 9000) : m__law_low [.int t, .int b] = .ok (dQ (Rat.divInt t b)) := by
  have hg : 0 < Nat.gcd t.natAbs b.natAbs := Nat.gcd_pos_of_pos_right _ (by omega)
  have hgb : Nat.gcd t.natAbs b.natAbs ≤ b.natAbs := Nat.gcd_le_right _ (by omega)
  have loop : bWhile (fuelOf 3) gcdTest gcdBody [.frz (.int t), .frz (.int b), .frz (.int (t.natAbs : Int)), .frz (.int (b.natAbs : Int))] = .ok (.nx (gcdSt t b (Nat.gcd t.natAbs b.natAbs : Nat) 0)) := gcd_loop t b (b.natAbs + 1) t.natAbs b.natAbs (Nat.lt_succ_self _)
  have e1 : (Rat.divInt t b).num = t / (Nat.gcd t.natAbs b.natAbs : Nat) := by
    rw [Rat.num_divInt, Int.sign_eq_one_of_pos hb, Int.one_mul]
    congr 2
    rw [Int.gcd, Nat.gcd_comm]
  have e2 : ((Rat.divInt t b).den : Int) = b / (Nat.gcd t.natAbs b.natAbs : Nat) := by
    rw [Rat.den_divInt, if_neg (by omega), Int.gcd, Nat.gcd_comm]
    have : b = (b.natAbs : Int) := by omega
    rw [this]
    simp
  have df : divFits (Nat.gcd t.natAbs b.natAbs : Nat) = true := divFits_nat (by exact_mod_cast hg) (by simpa using Nat.lt_of_le_of_lt hgb h2)
  unfold m__law_low b__law_low
  change runDef 2 4 false (bSeq _ (bSeq (bWhile (fuelOf 3) gcdTest gcdBody) _)) _ = _
  simp only [runDef, bSeq, bNil, bRet, bRetN, bSet, bSetO, bIf, bFrz, bMix, mFrz, mOwn, mNil, setSl, bApp, bPutX, bAug, bAsg, bDrop, gTupD, gsCons, gsNil, gSet, noExc, vVar, vC, vBin, vChain, vNot, vIf, vTup, oTup, vLst, oLst, vFn, vCall, aCons, aNil, vTest, vTruth, bAnd, bOr, bNot, vFld, vMk, vIsC, vIsi, tyName, sub_tt, sub_ii, sub_ib, natc1, natc2, natc3, natc4, decide_true, decide_false, oAdd_ap, oSub_ap, oMul_ap, oDiv_ap, oMod_ap, dI2, dI2c, oLt_ap, oLe_ap, oGt_ap, oGe_ap, oIsN_ap, oNotN_ap, VM.D.isNon, oIdx_l, oIdx_t, fLen, fAbs, fInt, VM.R.bind_ok, VM.R.bind_exc, VM.R.bind_stuck, Option.bind_some, Option.bind_none, ix_1_0, ix_2_0, ix_2_1, ix_3_0, ix_3_1, ix_3_2, ix_4_0, ix_4_1, ix_4_2, ix_4_3, List.map_cons, List.map_nil, List.append_nil, List.cons_append, List.nil_append, List.length_cons, List.length_nil, List.getElem?_cons_zero, List.getElem?_cons_succ, List.getElem?_nil, List.set_cons_zero, List.set_cons_succ, List.replicate_succ, List.replicate_zero, if_true, if_false, reduceIte, Nat.reduceSub, Nat.reduceAdd, Nat.reduceLeDiff, Nat.reduceEqDiff, Bool.not_true, Bool.not_false, Bool.false_eq_true, abs_nat, loop]
  unfold gcdSt
  simp only [runDef, bSeq, bNil, bRet, bRetN, bSet, bSetO, bIf, bFrz, bMix, mFrz, mOwn, mNil, setSl, bApp, bPutX, bAug, bAsg, bDrop, gTupD, gsCons, gsNil, gSet, noExc, vVar, vC, vBin, vChain, vNot, vIf, vTup, oTup, vLst, oLst, vFn, vCall, aCons, aNil, vTest, vTruth, bAnd, bOr, bNot, vFld, vMk, vIsC, vIsi, tyName, sub_tt, sub_ii, sub_ib, natc1, natc2, natc3, natc4, decide_true, decide_false, oAdd_ap, oSub_ap, oMul_ap, oDiv_ap, oMod_ap, dI2, dI2c, oLt_ap, oLe_ap, oGt_ap, oGe_ap, oIsN_ap, oNotN_ap, VM.D.isNon, oIdx_l, oIdx_t, fLen, fAbs, fInt, VM.R.bind_ok, VM.R.bind_exc, VM.R.bind_stuck, Option.bind_some, Option.bind_none, ix_1_0, ix_2_0, ix_2_1, ix_3_0, ix_3_1, ix_3_2, ix_4_0, ix_4_1, ix_4_2, ix_4_3, List.map_cons, List.map_nil, List.append_nil, List.cons_append, List.nil_append, List.length_cons, List.length_nil, List.getElem?_cons_zero, List.getElem?_cons_succ, List.getElem?_nil, List.set_cons_zero, List.set_cons_succ, List.replicate_succ, List.replicate_zero, if_true, if_false, reduceIte, Nat.reduceSub, Nat.reduceAdd, Nat.reduceLeDiff, Nat.reduceEqDiff, Bool.not_true, Bool.not_false, Bool.false_eq_true, decide_eq_true hb, df]
  rw [dQ, e1, e2]
/-! ### fractions -/
/-- above and below there are at most k bits -/
def QFit (k : Nat) (q : Rat) : Prop := q.num.natAbs < 2 ^ k ∧ q.den < 2 ^ k
theorem QFit.mono {j k : Nat} {q : Rat} (h : QFit j q) (hk : j ≤ k) : QFit k q := ⟨Nat.lt_of_lt_of_le h.1 (Nat.pow_le_pow_right (by decide) hk), Nat.lt_of_lt_of_le h.2 (Nat.pow_le_pow_right (by decide) hk)⟩
theorem lt_pow_mono {n j k : Nat} (h : n < 2 ^ j) (hk : j ≤ k) : n < 2 ^ k := Nat.lt_of_lt_of_le h (Nat.pow_le_pow_right (by decide) hk)
theorem natAbs_ediv_le (t : Int) (g : Nat) (h : (g : Int) ∣ t) : (t / (g : Int)).natAbs ≤ t.natAbs := by
  obtain ⟨c, rfl⟩ := h
  by_cases hg : g = 0
  · subst hg; simp
  · rw [Int.mul_ediv_cancel_left _ (by exact_mod_cast hg), Int.natAbs_mul]
    exact Nat.le_mul_of_pos_left _ (by simpa using Nat.pos_of_ne_zero hg)
theorem QFit.divInt {k : Nat} {t b : Int} (ht : t.natAbs < 2 ^ k) (hb : 0 < b) (h2 : b.natAbs < 2 ^ k) : QFit k (Rat.divInt t b) := by
  refine ⟨?_, ?_⟩
  · rw [Rat.num_divInt, Int.sign_eq_one_of_pos hb, Int.one_mul]
    refine Nat.lt_of_le_of_lt (natAbs_ediv_le t _ ?_) ht
    exact Int.gcd_dvd_right ..
  · rw [Rat.den_divInt, if_neg (by omega)]
    exact Nat.lt_of_le_of_lt (Nat.div_le_self _ _) h2
theorem mul_bits {a b : Int} {i j : Nat} (h1 : a.natAbs < 2 ^ i) (h2 : b.natAbs < 2 ^ j) : (a * b).natAbs < 2 ^ (i + j) := by
  rw [Int.natAbs_mul, Nat.pow_add]
  exact Nat.mul_lt_mul'' h1 h2
theorem add_bits {a b : Int} {i j : Nat} (h1 : a.natAbs < 2 ^ i) (h2 : b.natAbs < 2 ^ j) : (a + b).natAbs < 2 ^ (max i j + 1) := by
  have := Int.natAbs_add_le a b
  have g1 := lt_pow_mono h1 (Nat.le_max_left i j)
  have g2 := lt_pow_mono h2 (Nat.le_max_right i j)
  rw [Nat.pow_succ]
  omega
theorem den_pos (q : Rat) : 0 < (q.den : Int) := by exact_mod_cast q.den_pos
theorem add_divInt (p q : Rat) : p + q = Rat.divInt (p.num * q.den + q.num * p.den) (p.den * q.den) := by
  conv => lhs; rw [← Rat.num_divInt_den p, ← Rat.num_divInt_den q]
  exact Rat.divInt_add_divInt _ _ (Int.ne_of_gt (den_pos p)) (Int.ne_of_gt (den_pos q))
theorem mul_divInt (p q : Rat) : p * q = Rat.divInt (p.num * q.num) (p.den * q.den) := by
  conv => lhs; rw [← Rat.num_divInt_den p, ← Rat.num_divInt_den q]
  exact Rat.divInt_mul_divInt _ _
theorem QFit.numI {k : Nat} {q : Rat} (h : QFit k q) : q.num.natAbs < 2 ^ k := h.1
theorem QFit.denI {k : Nat} {q : Rat} (h : QFit k q) : ((q.den : Int)).natAbs < 2 ^ k := by simpa using h.2
theorem QFit.add {i j : Nat} {p q : Rat} (hp : QFit i p) (hq : QFit j q) : QFit (i + j + 1) (p + q) := by
  rw [add_divInt]
  refine .divInt ?_ (Int.mul_pos (den_pos p) (den_pos q)) (lt_pow_mono (mul_bits hp.denI hq.denI) (Nat.le_succ _))
  exact lt_pow_mono (add_bits (mul_bits hp.numI hq.denI) (mul_bits hq.numI hp.denI)) (by omega)
theorem QFit.mul {i j : Nat} {p q : Rat} (hp : QFit i p) (hq : QFit j q) : QFit (i + j) (p * q) := by
  rw [mul_divInt]
  exact .divInt (mul_bits hp.numI hq.numI) (Int.mul_pos (den_pos p) (den_pos q)) (mul_bits hp.denI hq.denI)
theorem fits {a b : Int} {i j : Nat} (h1 : a.natAbs < 2 ^ i) (h2 : b.natAbs < 2 ^ j) (hi : i ≤ 4000) (hj : j ≤ 4000) : mulFits a b = true := mulFits_nat (lt_pow_mono h1 (by omega)) (lt_pow_mono h2 (by omega))
theorem plus_at {i j : Nat} {p q : Rat} (hp : QFit i p) (hq : QFit j q) (hi : i ≤ 4000) (hj : j ≤ 4000) : m__law_plus [dQ p, dQ q] = .ok (dQ (p + q)) := by
  unfold m__law_plus b__law_plus dQ
  simp only [runDef, bSeq, bNil, bRet, bRetN, bSet, bSetO, bIf, bFrz, bMix, mFrz, mOwn, mNil, setSl, bApp, bPutX, bAug, bAsg, bDrop, gTupD, gsCons, gsNil, gSet, noExc, vVar, vC, vBin, vChain, vNot, vIf, vTup, oTup, vLst, oLst, vFn, vCall, aCons, aNil, vTest, vTruth, bAnd, bOr, bNot, vFld, vMk, vIsC, vIsi, tyName, sub_tt, sub_ii, sub_ib, natc1, natc2, natc3, natc4, decide_true, decide_false, oAdd_ap, oSub_ap, oMul_ap, oDiv_ap, oMod_ap, dI2, dI2c, oLt_ap, oLe_ap, oGt_ap, oGe_ap, oIsN_ap, oNotN_ap, VM.D.isNon, oIdx_l, oIdx_t, fLen, fAbs, fInt, VM.R.bind_ok, VM.R.bind_exc, VM.R.bind_stuck, Option.bind_some, Option.bind_none, ix_1_0, ix_2_0, ix_2_1, ix_3_0, ix_3_1, ix_3_2, ix_4_0, ix_4_1, ix_4_2, ix_4_3, List.map_cons, List.map_nil, List.append_nil, List.cons_append, List.nil_append, List.length_cons, List.length_nil, List.getElem?_cons_zero, List.getElem?_cons_succ, List.getElem?_nil, List.set_cons_zero, List.set_cons_succ, List.replicate_succ, List.replicate_zero, if_true, if_false, reduceIte, Nat.reduceSub, Nat.reduceAdd, Nat.reduceLeDiff, Nat.reduceEqDiff, Bool.not_true, Bool.not_false, Bool.false_eq_true, fits hp.numI hq.denI hi hj, fits hq.numI hp.denI hj hi, fits hp.denI hq.denI hi hj]
  rw [low_at _ _ (Int.mul_pos (den_pos p) (den_pos q)) (lt_pow_mono (mul_bits hp.denI hq.denI) (by omega)), ← add_divInt]
  rfl
theorem times_at {i j : Nat} {p q : Rat} (hp : QFit i p) (hq : QFit j q) (hi : i ≤ 4000) (hj : j ≤ 4000) : m__law_times [dQ p, dQ q] = .ok (dQ (p * q)) := by
  unfold m__law_times b__law_times dQ
  simp only [runDef, bSeq, bNil, bRet, bRetN, bSet, bSetO, bIf, bFrz, bMix, mFrz, mOwn, mNil, setSl, bApp, bPutX, bAug, bAsg, bDrop, gTupD, gsCons, gsNil, gSet, noExc, vVar, vC, vBin, vChain, vNot, vIf, vTup, oTup, vLst, oLst, vFn, vCall, aCons, aNil, vTest, vTruth, bAnd, bOr, bNot, vFld, vMk, vIsC, vIsi, tyName, sub_tt, sub_ii, sub_ib, natc1, natc2, natc3, natc4, decide_true, decide_false, oAdd_ap, oSub_ap, oMul_ap, oDiv_ap, oMod_ap, dI2, dI2c, oLt_ap, oLe_ap, oGt_ap, oGe_ap, oIsN_ap, oNotN_ap, VM.D.isNon, oIdx_l, oIdx_t, fLen, fAbs, fInt, VM.R.bind_ok, VM.R.bind_exc, VM.R.bind_stuck, Option.bind_some, Option.bind_none, ix_1_0, ix_2_0, ix_2_1, ix_3_0, ix_3_1, ix_3_2, ix_4_0, ix_4_1, ix_4_2, ix_4_3, List.map_cons, List.map_nil, List.append_nil, List.cons_append, List.nil_append, List.length_cons, List.length_nil, List.getElem?_cons_zero, List.getElem?_cons_succ, List.getElem?_nil, List.set_cons_zero, List.set_cons_succ, List.replicate_succ, List.replicate_zero, if_true, if_false, reduceIte, Nat.reduceSub, Nat.reduceAdd, Nat.reduceLeDiff, Nat.reduceEqDiff, Bool.not_true, Bool.not_false, Bool.false_eq_true, fits hp.numI hq.numI hi hj, fits hp.denI hq.denI hi hj]
  rw [low_at _ _ (Int.mul_pos (den_pos p) (den_pos q)) (lt_pow_mono (mul_bits hp.denI hq.denI) (by omega)), ← mul_divInt]
  rfl
theorem less_at {i j : Nat} {p q : Rat} (hp : QFit i p) (hq : QFit j q) (hi : i ≤ 4000) (hj : j ≤ 4000) : m__law_less [dQ p, dQ q] = .ok (.bl (decide (p < q))) := by
  unfold m__law_less b__law_less dQ
  simp only [runDef, bSeq, bNil, bRet, bRetN, bSet, bSetO, bIf, bFrz, bMix, mFrz, mOwn, mNil, setSl, bApp, bPutX, bAug, bAsg, bDrop, gTupD, gsCons, gsNil, gSet, noExc, vVar, vC, vBin, vChain, vNot, vIf, vTup, oTup, vLst, oLst, vFn, vCall, aCons, aNil, vTest, vTruth, bAnd, bOr, bNot, vFld, vMk, vIsC, vIsi, tyName, sub_tt, sub_ii, sub_ib, natc1, natc2, natc3, natc4, decide_true, decide_false, oAdd_ap, oSub_ap, oMul_ap, oDiv_ap, oMod_ap, dI2, dI2c, oLt_ap, oLe_ap, oGt_ap, oGe_ap, oIsN_ap, oNotN_ap, VM.D.isNon, oIdx_l, oIdx_t, fLen, fAbs, fInt, VM.R.bind_ok, VM.R.bind_exc, VM.R.bind_stuck, Option.bind_some, Option.bind_none, ix_1_0, ix_2_0, ix_2_1, ix_3_0, ix_3_1, ix_3_2, ix_4_0, ix_4_1, ix_4_2, ix_4_3, List.map_cons, List.map_nil, List.append_nil, List.cons_append, List.nil_append, List.length_cons, List.length_nil, List.getElem?_cons_zero, List.getElem?_cons_succ, List.getElem?_nil, List.set_cons_zero, List.set_cons_succ, List.replicate_succ, List.replicate_zero, if_true, if_false, reduceIte, Nat.reduceSub, Nat.reduceAdd, Nat.reduceLeDiff, Nat.reduceEqDiff, Bool.not_true, Bool.not_false, Bool.false_eq_true, fits hp.numI hq.denI hi hj, fits hq.numI hp.denI hj hi]
  simp only [Rat.lt_iff]
theorem dQ_neg (q : Rat) : dQ (-q) = .tup [.int (0 - q.num), .int (q.den : Int)] := by
  unfold dQ
  rw [show (-q).num = -q.num from rfl, show (-q).den = q.den from rfl, Int.zero_sub]
theorem QFit.neg {k : Nat} {q : Rat} (h : QFit k q) : QFit k (-q) := ⟨by rw [show (-q).num = -q.num from rfl, Int.natAbs_neg]; exact h.1, h.2⟩
theorem minus_at {i j : Nat} {p q : Rat} (hp : QFit i p) (hq : QFit j q) (hi : i ≤ 4000) (hj : j ≤ 4000) : m__law_minus [dQ p, dQ q] = .ok (dQ (p - q)) := by
  have h := plus_at hp hq.neg hi hj
  rw [dQ_neg] at h
  unfold m__law_minus b__law_minus
  have e : dQ q = .tup [.int q.num, .int (q.den : Int)] := rfl
  rw [e]
  simp only [runDef, bSeq, bNil, bRet, bRetN, bSet, bSetO, bIf, bFrz, bMix, mFrz, mOwn, mNil, setSl, bApp, bPutX, bAug, bAsg, bDrop, gTupD, gsCons, gsNil, gSet, noExc, vVar, vC, vBin, vChain, vNot, vIf, vTup, oTup, vLst, oLst, vFn, vCall, aCons, aNil, vTest, vTruth, bAnd, bOr, bNot, vFld, vMk, vIsC, vIsi, tyName, sub_tt, sub_ii, sub_ib, natc1, natc2, natc3, natc4, decide_true, decide_false, oAdd_ap, oSub_ap, oMul_ap, oDiv_ap, oMod_ap, dI2, dI2c, oLt_ap, oLe_ap, oGt_ap, oGe_ap, oIsN_ap, oNotN_ap, VM.D.isNon, oIdx_l, oIdx_t, fLen, fAbs, fInt, VM.R.bind_ok, VM.R.bind_exc, VM.R.bind_stuck, Option.bind_some, Option.bind_none, ix_1_0, ix_2_0, ix_2_1, ix_3_0, ix_3_1, ix_3_2, ix_4_0, ix_4_1, ix_4_2, ix_4_3, List.map_cons, List.map_nil, List.append_nil, List.cons_append, List.nil_append, List.length_cons, List.length_nil, List.getElem?_cons_zero, List.getElem?_cons_succ, List.getElem?_nil, List.set_cons_zero, List.set_cons_succ, List.replicate_succ, List.replicate_zero, if_true, if_false, reduceIte, Nat.reduceSub, Nat.reduceAdd, Nat.reduceLeDiff, Nat.reduceEqDiff, Bool.not_true, Bool.not_false, Bool.false_eq_true, h]
  rw [Rat.sub_eq_add_neg]
theorem rat_eq (q : Rat) : q = (q.num : Rat) / (q.den : Rat) := by
  have := Rat.num_divInt_den q
  rw [Rat.divInt_eq_div] at this
  exact this.symm
theorem over_at {i j : Nat} {p q : Rat} (hp : QFit i p) (hq : QFit j q) (hi : i ≤ 4000) (hj : j ≤ 4000) (h0 : 0 < q.num) : m__law_over [dQ p, dQ q] = .ok (dQ (p / q)) := by
  have e : p / q = Rat.divInt (p.num * q.den) (p.den * q.num) := by
    rw [Rat.divInt_eq_div]
    have h1 := rat_eq p
    have h2 := rat_eq q
    have h3 : (p.den : Rat) ≠ 0 := by exact_mod_cast p.den_nz
    have h4 : (q.den : Rat) ≠ 0 := by exact_mod_cast q.den_nz
    have h5 : (q.num : Rat) ≠ 0 := by exact_mod_cast (Int.ne_of_gt h0)
    conv => lhs; rw [h1, h2]
    simp only [Rat.intCast_mul, Rat.intCast_natCast]
    grind
  unfold m__law_over b__law_over dQ
  simp only [runDef, bSeq, bNil, bRet, bRetN, bSet, bSetO, bIf, bFrz, bMix, mFrz, mOwn, mNil, setSl, bApp, bPutX, bAug, bAsg, bDrop, gTupD, gsCons, gsNil, gSet, noExc, vVar, vC, vBin, vChain, vNot, vIf, vTup, oTup, vLst, oLst, vFn, vCall, aCons, aNil, vTest, vTruth, bAnd, bOr, bNot, vFld, vMk, vIsC, vIsi, tyName, sub_tt, sub_ii, sub_ib, natc1, natc2, natc3, natc4, decide_true, decide_false, oAdd_ap, oSub_ap, oMul_ap, oDiv_ap, oMod_ap, dI2, dI2c, oLt_ap, oLe_ap, oGt_ap, oGe_ap, oIsN_ap, oNotN_ap, VM.D.isNon, oIdx_l, oIdx_t, fLen, fAbs, fInt, VM.R.bind_ok, VM.R.bind_exc, VM.R.bind_stuck, Option.bind_some, Option.bind_none, ix_1_0, ix_2_0, ix_2_1, ix_3_0, ix_3_1, ix_3_2, ix_4_0, ix_4_1, ix_4_2, ix_4_3, List.map_cons, List.map_nil, List.append_nil, List.cons_append, List.nil_append, List.length_cons, List.length_nil, List.getElem?_cons_zero, List.getElem?_cons_succ, List.getElem?_nil, List.set_cons_zero, List.set_cons_succ, List.replicate_succ, List.replicate_zero, if_true, if_false, reduceIte, Nat.reduceSub, Nat.reduceAdd, Nat.reduceLeDiff, Nat.reduceEqDiff, Bool.not_true, Bool.not_false, Bool.false_eq_true, fits hp.numI hq.denI hi hj, fits hp.denI hq.numI hi hj]
  rw [low_at _ _ (Int.mul_pos (den_pos p) h0) (lt_pow_mono (mul_bits hp.denI hq.numI) (by omega)), ← e]
  rfl
/-! ### sums -/
def qsum (l : List Rat) : Rat := l.foldl (· + ·) 0
theorem sum_fold {k : Nat} : ∀ (l : List Rat) (x : Rat) (j : Nat) (L : D) (z : Slot), QFit j x → (∀ q ∈ l, QFit k q) → j + l.length * (k + 1) ≤ 4000 → ∃ z',
    forL (bTurn (gSet 2) (bSet 1 (vFn 2 [] m__law_plus (aCons (vVar 1) (aCons (vVar 2) aNil))))) (l.map dQ) [.frz L, .frz (dQ x), z] = .ok (.nx [.frz L, .frz (dQ (l.foldl (· + ·) x)), z']) ∧ QFit (j + l.length * (k + 1)) (l.foldl (· + ·) x)
  | [], x, j, L, z, hx, _, _ => ⟨z, rfl, by simpa using hx⟩
  | q :: l, x, j, L, z, hx, h, hb => by
    rw [List.length_cons, Nat.add_mul] at hb
    have hq := h q List.mem_cons_self
    have hpl := plus_at hx hq (by omega) (by omega)
    obtain ⟨z', h1, h2⟩ := sum_fold (k := k) l (x + q) (j + k + 1) L (.frz (dQ q)) (hx.add hq) (fun p hp => h p (List.mem_cons_of_mem _ hp)) (by omega)
    refine ⟨z', ?_, by rw [List.length_cons, Nat.add_mul, List.foldl_cons]; exact h2.mono (by omega)⟩
    simp only [List.map_cons, forL, bTurn]
    simp only [runDef, bSeq, bNil, bRet, bRetN, bSet, bSetO, bIf, bFrz, bMix, mFrz, mOwn, mNil, setSl, bApp, bPutX, bAug, bAsg, bDrop, gTupD, gsCons, gsNil, gSet, noExc, vVar, vC, vBin, vChain, vNot, vIf, vTup, oTup, vLst, oLst, vFn, vCall, aCons, aNil, vTest, vTruth, bAnd, bOr, bNot, vFld, vMk, vIsC, vIsi, tyName, sub_tt, sub_ii, sub_ib, natc1, natc2, natc3, natc4, decide_true, decide_false, oAdd_ap, oSub_ap, oMul_ap, oDiv_ap, oMod_ap, dI2, dI2c, oLt_ap, oLe_ap, oGt_ap, oGe_ap, oIsN_ap, oNotN_ap, VM.D.isNon, oIdx_l, oIdx_t, fLen, fAbs, fInt, VM.R.bind_ok, VM.R.bind_exc, VM.R.bind_stuck, Option.bind_some, Option.bind_none, ix_1_0, ix_2_0, ix_2_1, ix_3_0, ix_3_1, ix_3_2, ix_4_0, ix_4_1, ix_4_2, ix_4_3, List.map_cons, List.map_nil, List.append_nil, List.cons_append, List.nil_append, List.length_cons, List.length_nil, List.getElem?_cons_zero, List.getElem?_cons_succ, List.getElem?_nil, List.set_cons_zero, List.set_cons_succ, List.replicate_succ, List.replicate_zero, if_true, if_false, reduceIte, Nat.reduceSub, Nat.reduceAdd, Nat.reduceLeDiff, Nat.reduceEqDiff, Bool.not_true, Bool.not_false, Bool.false_eq_true, hpl]
    exact h1
theorem sum_at {k : Nat} {l : List Rat} (h : ∀ q ∈ l, QFit k q) (hb : 1 + l.length * (k + 1) ≤ 4000) : m__law_sum [.lst (l.map dQ)] = .ok (dQ (qsum l)) ∧ QFit (1 + l.length * (k + 1)) (qsum l) := by
  have h0 : QFit 1 (0 : Rat) := ⟨by decide, by decide⟩
  obtain ⟨z', h1, h2⟩ := sum_fold l 0 1 (.lst (l.map dQ)) .none h0 h hb
  refine ⟨?_, h2⟩
  have e : D.tup [.int 0, .int 1] = dQ 0 := rfl
  unfold m__law_sum b__law_sum
  simp only [runDef, bSeq, bNil, bRet, bRetN, bSet, bSetO, bIf, bFrz, bMix, mFrz, mOwn, mNil, setSl, bApp, bPutX, bAug, bAsg, bDrop, gTupD, gsCons, gsNil, gSet, noExc, vVar, vC, vBin, vChain, vNot, vIf, vTup, oTup, vLst, oLst, vFn, vCall, aCons, aNil, vTest, vTruth, bAnd, bOr, bNot, vFld, vMk, vIsC, vIsi, tyName, sub_tt, sub_ii, sub_ib, natc1, natc2, natc3, natc4, decide_true, decide_false, oAdd_ap, oSub_ap, oMul_ap, oDiv_ap, oMod_ap, dI2, dI2c, oLt_ap, oLe_ap, oGt_ap, oGe_ap, oIsN_ap, oNotN_ap, VM.D.isNon, oIdx_l, oIdx_t, fLen, fAbs, fInt, VM.R.bind_ok, VM.R.bind_exc, VM.R.bind_stuck, Option.bind_some, Option.bind_none, ix_1_0, ix_2_0, ix_2_1, ix_3_0, ix_3_1, ix_3_2, ix_4_0, ix_4_1, ix_4_2, ix_4_3, List.map_cons, List.map_nil, List.append_nil, List.cons_append, List.nil_append, List.length_cons, List.length_nil, List.getElem?_cons_zero, List.getElem?_cons_succ, List.getElem?_nil, List.set_cons_zero, List.set_cons_succ, List.replicate_succ, List.replicate_zero, if_true, if_false, reduceIte, Nat.reduceSub, Nat.reduceAdd, Nat.reduceLeDiff, Nat.reduceEqDiff, Bool.not_true, Bool.not_false, Bool.false_eq_true, bFor, iSeq, D.items, e, h1]
  rfl
end VM
end
section
set_option Elab.async false
set_option linter.all false
set_option maxRecDepth 100000
set_option autoImplicit false
/-! Mk2: matters and tables; the law's counts. -/
namespace VM
open PySem PySem.Spec L2
def tI (l : List Int) : D := .tup (l.map D.int)
/-- a matter: the parts, the gains, the worths -/
structure Mat where
  n : Nat
  a : Nat
  P : List Int
  G : List (List Int)
  W : List (List Int)
def rowsD (l : List (List Int)) : D := .tup (l.map tI)
def plainD (M : Mat) : D := .tup [tI M.P, rowsD M.G, rowsD M.W]
structure Mat.Ok (M : Mat) : Prop where
  n2 : 2 ≤ M.n
  n4 : M.n ≤ 4
  a2 : 2 ≤ M.a
  a4 : M.a ≤ 4
  lP : M.P.length = M.n
  P1 : ∀ x ∈ M.P, 1 ≤ x ∧ x ≤ 6
  lG : M.G.length = M.n
  G1 : ∀ r ∈ M.G, r.length = M.a ∧ ∀ x ∈ r, -9 ≤ x ∧ x ≤ 9
  lW : M.W.length = M.n
  W1 : ∀ r ∈ M.W, r.length = M.a ∧ ∀ x ∈ r, 0 ≤ x ∧ x ≤ 9
/-- rows of a matter: gains or worths -/
structure RowsOk (M : Mat) (R : List (List Int)) : Prop where
  l : R.length = M.n
  r : ∀ r ∈ R, r.length = M.a ∧ ∀ x ∈ r, -9 ≤ x ∧ x ≤ 9
theorem Mat.Ok.gr {M : Mat} (h : M.Ok) : RowsOk M M.G := ⟨h.lG, h.G1⟩
theorem Mat.Ok.wr {M : Mat} (h : M.Ok) : RowsOk M M.W := ⟨h.lW, fun r hr => ⟨(h.W1 r hr).1, fun x hx => ⟨by have := ((h.W1 r hr).2 x hx).1; omega, ((h.W1 r hr).2 x hx).2⟩⟩⟩
theorem sum_pos : ∀ (l : List Int), (∀ x ∈ l, 1 ≤ x ∧ x ≤ 6) → (l.length : Int) ≤ l.sum ∧ l.sum ≤ 6 * l.length
  | [], _ => by simp
  | x :: l, h => by
    have h1 := h x List.mem_cons_self
    have h2 := sum_pos l fun y hy => h y (List.mem_cons_of_mem _ hy)
    simp only [List.sum_cons, List.length_cons]
    omega
theorem Mat.Ok.sp {M : Mat} (h : M.Ok) : 0 < M.P.sum ∧ M.P.sum ≤ 24 := by
  have := sum_pos M.P h.P1
  have := h.lP
  have := h.n2
  have := h.n4
  omega
/-- a table: rows of fractions from 0 to 1, 1 together, small -/
structure Tab where
  w : Nat
  T : List (List Rat)
def tabD (T : Tab) : D := .tup (T.T.map fun r => .tup (r.map dQ))
structure Tab.Ok (M : Mat) (T : Tab) : Prop where
  w1 : 1 ≤ T.w
  w4 : T.w ≤ 4
  l : T.T.length = M.n
  r : ∀ r ∈ T.T, r.length = T.w ∧ (∀ q ∈ r, 0 ≤ q.num ∧ q.num ≤ q.den ∧ q.den ≤ 12) ∧ qsum r = 1
/-! ### the law's counts -/
def chance (M : Mat) (i : Nat) : Rat := Rat.divInt (M.P.getD i 0) M.P.sum
theorem getD_some {α : Type} {l : List α} {i : Nat} {d : α} (h : i < l.length) : l[i]? = some (l.getD i d) := by
  simp [List.getD, h]
theorem chance_at {M : Mat} (h : M.Ok) {i : Nat} (hi : i < M.n) : m__law_chance [plainD M, .int (i : Nat)] = .ok (dQ (chance M i)) := by
  have hs := h.sp
  have hx : (M.P.map D.int)[i]? = some (.int (M.P.getD i 0)) := by
    rw [List.getElem?_map, getD_some (d := 0) (by rw [h.lP]; exact hi)]
    rfl
  have h24 : M.P.sum.natAbs < 2 ^ 9000 := lt_pow_mono (j := 5) (by omega) (by decide)
  have hI : (ixN (M.P.map D.int).length (i : Nat)).bind (fun j => (M.P.map D.int)[j]?) = some (.int (M.P.getD i 0)) := atI_nat hx
  unfold m__law_chance b__law_chance plainD tI
  simp only [runDef, bSeq, bNil, bRet, bRetN, bSet, bSetO, bIf, bFrz, bMix, mFrz, mOwn, mNil, setSl, bApp, bPutX, bAug, bAsg, bDrop, gTupD, gsCons, gsNil, gSet, noExc, vVar, vC, vBin, vChain, vNot, vIf, vTup, oTup, vLst, oLst, vFn, vCall, aCons, aNil, vTest, vTruth, bAnd, bOr, bNot, vFld, vMk, vIsC, vIsi, tyName, sub_tt, sub_ii, sub_ib, natc1, natc2, natc3, natc4, decide_true, decide_false, oAdd_ap, oSub_ap, oMul_ap, oDiv_ap, oMod_ap, dI2, dI2c, oLt_ap, oLe_ap, oGt_ap, oGe_ap, oIsN_ap, oNotN_ap, VM.D.isNon, oIdx_l, oIdx_t, fLen, fAbs, fInt, VM.R.bind_ok, VM.R.bind_exc, VM.R.bind_stuck, Option.bind_some, Option.bind_none, ix_1_0, ix_2_0, ix_2_1, ix_3_0, ix_3_1, ix_3_2, ix_4_0, ix_4_1, ix_4_2, ix_4_3, List.map_cons, List.map_nil, List.append_nil, List.cons_append, List.nil_append, List.length_cons, List.length_nil, List.getElem?_cons_zero, List.getElem?_cons_succ, List.getElem?_nil, List.set_cons_zero, List.set_cons_succ, List.replicate_succ, List.replicate_zero, if_true, if_false, reduceIte, Nat.reduceSub, Nat.reduceAdd, Nat.reduceLeDiff, Nat.reduceEqDiff, Bool.not_true, Bool.not_false, Bool.false_eq_true, hI, fSum, ints?_map]
  rw [low_at _ _ hs.1 h24]
  rfl
theorem chance_fit {M : Mat} (h : M.Ok) {i : Nat} (hi : i < M.n) : QFit 5 (chance M i) := by
  have hs := h.sp
  have hx : M.P.getD i 0 ∈ M.P := by
    rw [List.getD_eq_getElem?_getD, List.getElem?_eq_getElem (by rw [h.lP]; exact hi)]
    exact List.getElem_mem _
  have := h.P1 _ hx
  exact .divInt (by omega) hs.1 (by omega)
def shares (M : Mat) (T : Tab) (j : Nat) : List Rat := T.T.zipIdx.map fun p => chance M p.2 * p.1.getD j 0
theorem zipIdx_mem {α : Type} {l : List α} {p : α × Nat} (h : p ∈ l.zipIdx) : p.2 < l.length ∧ l[p.2]? = some p.1 := by
  have := List.mem_zipIdx_iff_getElem?.mp h
  exact ⟨(List.getElem?_eq_some_iff.mp this).1, this⟩
theorem Tab.Ok.el {M : Mat} {T : Tab} (h : T.Ok M) {r : List Rat} (hr : r ∈ T.T) {j : Nat} (hj : j < T.w) : r[j]? = some (r.getD j 0) ∧ QFit 4 (r.getD j 0) ∧ 0 ≤ (r.getD j 0).num := by
  obtain ⟨h1, h2, _⟩ := h.r r hr
  have hl : j < r.length := by rw [h1]; exact hj
  have hm : r.getD j 0 ∈ r := by
    rw [List.getD_eq_getElem?_getD, List.getElem?_eq_getElem hl]
    exact List.getElem_mem _
  obtain ⟨g1, g2, g3⟩ := h2 _ hm
  exact ⟨getD_some hl, ⟨by omega, by omega⟩, g1⟩
theorem shares_at {M : Mat} {T : Tab} (hM : M.Ok) (hT : T.Ok M) {j : Nat} (hj : j < T.w) : m__law_shares [plainD M, tabD T, .int (j : Nat)] = .ok (.lst ((shares M T j).map dQ)) := by
  have hl := hT.l
  have n4 := hM.n4
  have hc := vComp_at (vs := [3, 4]) (mi := iEnum (aCons (vVar 1) aNil)) (g := gTupD 2 (gsCons (gSet 3) (gsCons (gSet 4) gsNil))) (nt := tYesB)
    (me := vFn 2 [] m__law_times (aCons (vFn 2 [] m__law_chance (aCons (vVar 0) (aCons (vVar 3) aNil))) (aCons (vBin oIdx (vVar 4) (vVar 2)) aNil)))
    (ρ := [.frz (plainD M), .frz (tabD T), .frz (.int (j : Nat)), .none, .none])
    (fun p : List Rat × Nat => D.tup [.int (p.2 : Nat), .tup (p.1.map dQ)]) (fun p => dQ (chance M p.2 * p.1.getD j 0)) T.T.zipIdx
    (by
      unfold tabD
      simp only [runDef, bSeq, bNil, bRet, bRetN, bSet, bSetO, bIf, bFrz, bMix, mFrz, mOwn, mNil, setSl, bApp, bPutX, bAug, bAsg, bDrop, gTupD, gsCons, gsNil, gSet, noExc, vVar, vC, vBin, vChain, vNot, vIf, vTup, oTup, vLst, oLst, vFn, vCall, aCons, aNil, vTest, vTruth, bAnd, bOr, bNot, vFld, vMk, vIsC, vIsi, tyName, sub_tt, sub_ii, sub_ib, natc1, natc2, natc3, natc4, decide_true, decide_false, oAdd_ap, oSub_ap, oMul_ap, oDiv_ap, oMod_ap, dI2, dI2c, oLt_ap, oLe_ap, oGt_ap, oGe_ap, oIsN_ap, oNotN_ap, VM.D.isNon, oIdx_l, oIdx_t, fLen, fAbs, fInt, VM.R.bind_ok, VM.R.bind_exc, VM.R.bind_stuck, Option.bind_some, Option.bind_none, ix_1_0, ix_2_0, ix_2_1, ix_3_0, ix_3_1, ix_3_2, ix_4_0, ix_4_1, ix_4_2, ix_4_3, List.map_cons, List.map_nil, List.append_nil, List.cons_append, List.nil_append, List.length_cons, List.length_nil, List.getElem?_cons_zero, List.getElem?_cons_succ, List.getElem?_nil, List.set_cons_zero, List.set_cons_succ, List.replicate_succ, List.replicate_zero, if_true, if_false, reduceIte, Nat.reduceSub, Nat.reduceAdd, Nat.reduceLeDiff, Nat.reduceEqDiff, Bool.not_true, Bool.not_false, Bool.false_eq_true, iEnum, D.items]
      rw [enumD_map (fun r : List Rat => D.tup (r.map dQ))])
    (by simp; omega)
    (fun p hp => by
      obtain ⟨hi, hr⟩ := zipIdx_mem hp
      have hi' : p.2 < M.n := by rw [← hl]; exact hi
      obtain ⟨e1, e2, _⟩ := hT.el (List.mem_of_getElem? hr) hj
      refine turn_yes tgt2 ?_
      simp only [wipeR]
      simp only [runDef, bSeq, bNil, bRet, bRetN, bSet, bSetO, bIf, bFrz, bMix, mFrz, mOwn, mNil, setSl, bApp, bPutX, bAug, bAsg, bDrop, gTupD, gsCons, gsNil, gSet, noExc, vVar, vC, vBin, vChain, vNot, vIf, vTup, oTup, vLst, oLst, vFn, vCall, aCons, aNil, vTest, vTruth, bAnd, bOr, bNot, vFld, vMk, vIsC, vIsi, tyName, sub_tt, sub_ii, sub_ib, natc1, natc2, natc3, natc4, decide_true, decide_false, oAdd_ap, oSub_ap, oMul_ap, oDiv_ap, oMod_ap, dI2, dI2c, oLt_ap, oLe_ap, oGt_ap, oGe_ap, oIsN_ap, oNotN_ap, VM.D.isNon, oIdx_l, oIdx_t, fLen, fAbs, fInt, VM.R.bind_ok, VM.R.bind_exc, VM.R.bind_stuck, Option.bind_some, Option.bind_none, ix_1_0, ix_2_0, ix_2_1, ix_3_0, ix_3_1, ix_3_2, ix_4_0, ix_4_1, ix_4_2, ix_4_3, List.map_cons, List.map_nil, List.append_nil, List.cons_append, List.nil_append, List.length_cons, List.length_nil, List.getElem?_cons_zero, List.getElem?_cons_succ, List.getElem?_nil, List.set_cons_zero, List.set_cons_succ, List.replicate_succ, List.replicate_zero, if_true, if_false, reduceIte, Nat.reduceSub, Nat.reduceAdd, Nat.reduceLeDiff, Nat.reduceEqDiff, Bool.not_true, Bool.not_false, Bool.false_eq_true, chance_at hM hi', idx_map dQ e1, times_at (chance_fit hM hi') e2 (by decide) (by decide)])
  unfold m__law_shares b__law_shares
  simp only [runDef, bSeq, bNil, bRet, bRetN, bSet, bSetO, bIf, bFrz, bMix, mFrz, mOwn, mNil, setSl, bApp, bPutX, bAug, bAsg, bDrop, gTupD, gsCons, gsNil, gSet, noExc, vVar, vC, vBin, vChain, vNot, vIf, vTup, oTup, vLst, oLst, vFn, vCall, aCons, aNil, vTest, vTruth, bAnd, bOr, bNot, vFld, vMk, vIsC, vIsi, tyName, sub_tt, sub_ii, sub_ib, natc1, natc2, natc3, natc4, decide_true, decide_false, oAdd_ap, oSub_ap, oMul_ap, oDiv_ap, oMod_ap, dI2, dI2c, oLt_ap, oLe_ap, oGt_ap, oGe_ap, oIsN_ap, oNotN_ap, VM.D.isNon, oIdx_l, oIdx_t, fLen, fAbs, fInt, VM.R.bind_ok, VM.R.bind_exc, VM.R.bind_stuck, Option.bind_some, Option.bind_none, ix_1_0, ix_2_0, ix_2_1, ix_3_0, ix_3_1, ix_3_2, ix_4_0, ix_4_1, ix_4_2, ix_4_3, List.map_cons, List.map_nil, List.append_nil, List.cons_append, List.nil_append, List.length_cons, List.length_nil, List.getElem?_cons_zero, List.getElem?_cons_succ, List.getElem?_nil, List.set_cons_zero, List.set_cons_succ, List.replicate_succ, List.replicate_zero, if_true, if_false, reduceIte, Nat.reduceSub, Nat.reduceAdd, Nat.reduceLeDiff, Nat.reduceEqDiff, Bool.not_true, Bool.not_false, Bool.false_eq_true, hc]
  simp only [shares, List.map_map]
  rfl
theorem shares_fit {M : Mat} {T : Tab} (hM : M.Ok) (hT : T.Ok M) {j : Nat} (hj : j < T.w) : ∀ q ∈ shares M T j, QFit 9 q := fun q hq => by
  obtain ⟨p, hp, rfl⟩ := List.mem_map.mp hq
  obtain ⟨hi, hr⟩ := zipIdx_mem hp
  exact (chance_fit hM (by rw [← hT.l]; exact hi)).mul (hT.el (List.mem_of_getElem? hr) hj).2.1
theorem shares_len {M : Mat} {T : Tab} (hT : T.Ok M) (j : Nat) : (shares M T j).length = M.n := by simp [shares, hT.l]
def counts (s : List Rat) (R : List (List Int)) (a : Nat) : Rat := qsum ((s.zip R).map fun p => p.1 * ((p.2.getD a 0 : Int) : Rat))
theorem dQ_int (x : Int) : D.tup [.int x, .int 1] = dQ (x : Rat) := rfl
theorem int_fit {x : Int} (h : -9 ≤ x ∧ x ≤ 9) : QFit 4 (x : Rat) := ⟨show x.natAbs < 16 by omega, show (1 : Nat) < 16 by decide⟩
theorem row_el {M : Mat} {R : List (List Int)} (h : RowsOk M R) {r : List Int} (hr : r ∈ R) {a : Nat} (ha : a < M.a) : r[a]? = some (r.getD a 0) ∧ -9 ≤ r.getD a 0 ∧ r.getD a 0 ≤ 9 := by
  obtain ⟨h1, h2⟩ := h.r r hr
  have hl : a < r.length := by rw [h1]; exact ha
  have hm : r.getD a 0 ∈ r := by
    rw [List.getD_eq_getElem?_getD, List.getElem?_eq_getElem hl]
    exact List.getElem_mem _
  exact ⟨getD_some hl, h2 _ hm⟩
theorem count_at {M : Mat} {R : List (List Int)} {s : List Rat} (hM : M.Ok) (hR : RowsOk M R) (hs : ∀ q ∈ s, QFit 9 q) (hl : s.length = M.n) {a : Nat} (ha : a < M.a) :
    m__law_count [.lst (s.map dQ), rowsD R, .int (a : Nat)] = .ok (dQ (counts s R a)) ∧ QFit 60 (counts s R a) := by
  have n4 := hM.n4
  have hz : ∀ p ∈ s.zip R, p.1 ∈ s ∧ p.2 ∈ R := fun p hp => ⟨(List.of_mem_zip hp).1, (List.of_mem_zip hp).2⟩
  have lz : (s.zip R).length ≤ 4 := by rw [List.length_zip]; omega
  have hf : ∀ q ∈ (s.zip R).map fun p => p.1 * ((p.2.getD a 0 : Int) : Rat), QFit 13 q := fun q hq => by
    obtain ⟨p, hp, rfl⟩ := List.mem_map.mp hq
    obtain ⟨h1, h2⟩ := hz p hp
    exact (hs _ h1).mul (int_fit (row_el hR h2 ha).2)
  have hsum := sum_at hf (by rw [List.length_map]; omega)
  refine ⟨?_, hsum.2.mono (by rw [List.length_map]; omega)⟩
  have hc := vComp_at (vs := [3, 4]) (mi := iZip (aCons (vVar 0) (aCons (vVar 1) aNil))) (g := gTupD 2 (gsCons (gSet 3) (gsCons (gSet 4) gsNil))) (nt := tYesB)
    (me := vFn 2 [] m__law_times (aCons (vVar 3) (aCons (vTup (aCons (vBin oIdx (vVar 4) (vVar 2)) (aCons (vC (.int 1)) aNil))) aNil)))
    (ρ := [.frz (.lst (s.map dQ)), .frz (rowsD R), .frz (.int (a : Nat)), .none, .none])
    (fun p : Rat × List Int => D.tup [dQ p.1, tI p.2]) (fun p => dQ (p.1 * ((p.2.getD a 0 : Int) : Rat))) (s.zip R)
    (by
      unfold rowsD
      simp only [runDef, bSeq, bNil, bRet, bRetN, bSet, bSetO, bIf, bFrz, bMix, mFrz, mOwn, mNil, setSl, bApp, bPutX, bAug, bAsg, bDrop, gTupD, gsCons, gsNil, gSet, noExc, vVar, vC, vBin, vChain, vNot, vIf, vTup, oTup, vLst, oLst, vFn, vCall, aCons, aNil, vTest, vTruth, bAnd, bOr, bNot, vFld, vMk, vIsC, vIsi, tyName, sub_tt, sub_ii, sub_ib, natc1, natc2, natc3, natc4, decide_true, decide_false, oAdd_ap, oSub_ap, oMul_ap, oDiv_ap, oMod_ap, dI2, dI2c, oLt_ap, oLe_ap, oGt_ap, oGe_ap, oIsN_ap, oNotN_ap, VM.D.isNon, oIdx_l, oIdx_t, fLen, fAbs, fInt, VM.R.bind_ok, VM.R.bind_exc, VM.R.bind_stuck, Option.bind_some, Option.bind_none, ix_1_0, ix_2_0, ix_2_1, ix_3_0, ix_3_1, ix_3_2, ix_4_0, ix_4_1, ix_4_2, ix_4_3, List.map_cons, List.map_nil, List.append_nil, List.cons_append, List.nil_append, List.length_cons, List.length_nil, List.getElem?_cons_zero, List.getElem?_cons_succ, List.getElem?_nil, List.set_cons_zero, List.set_cons_succ, List.replicate_succ, List.replicate_zero, if_true, if_false, reduceIte, Nat.reduceSub, Nat.reduceAdd, Nat.reduceLeDiff, Nat.reduceEqDiff, Bool.not_true, Bool.not_false, Bool.false_eq_true, iZip, D.items]
      rw [zipD_map])
    (by omega)
    (fun p hp => by
      obtain ⟨h1, h2⟩ := hz p hp
      have hrow := row_el hR h2 ha
      refine turn_yes tgt2 ?_
      simp only [wipeR]
      unfold tI
      simp only [runDef, bSeq, bNil, bRet, bRetN, bSet, bSetO, bIf, bFrz, bMix, mFrz, mOwn, mNil, setSl, bApp, bPutX, bAug, bAsg, bDrop, gTupD, gsCons, gsNil, gSet, noExc, vVar, vC, vBin, vChain, vNot, vIf, vTup, oTup, vLst, oLst, vFn, vCall, aCons, aNil, vTest, vTruth, bAnd, bOr, bNot, vFld, vMk, vIsC, vIsi, tyName, sub_tt, sub_ii, sub_ib, natc1, natc2, natc3, natc4, decide_true, decide_false, oAdd_ap, oSub_ap, oMul_ap, oDiv_ap, oMod_ap, dI2, dI2c, oLt_ap, oLe_ap, oGt_ap, oGe_ap, oIsN_ap, oNotN_ap, VM.D.isNon, oIdx_l, oIdx_t, fLen, fAbs, fInt, VM.R.bind_ok, VM.R.bind_exc, VM.R.bind_stuck, Option.bind_some, Option.bind_none, ix_1_0, ix_2_0, ix_2_1, ix_3_0, ix_3_1, ix_3_2, ix_4_0, ix_4_1, ix_4_2, ix_4_3, List.map_cons, List.map_nil, List.append_nil, List.cons_append, List.nil_append, List.length_cons, List.length_nil, List.getElem?_cons_zero, List.getElem?_cons_succ, List.getElem?_nil, List.set_cons_zero, List.set_cons_succ, List.replicate_succ, List.replicate_zero, if_true, if_false, reduceIte, Nat.reduceSub, Nat.reduceAdd, Nat.reduceLeDiff, Nat.reduceEqDiff, Bool.not_true, Bool.not_false, Bool.false_eq_true, idx_map D.int hrow.1, dQ_int, times_at (hs _ h1) (int_fit hrow.2) (by decide) (by decide)])
  unfold m__law_count b__law_count
  have e : (s.zip R).map (fun p => dQ (p.1 * ((p.2.getD a 0 : Int) : Rat))) = ((s.zip R).map fun p => p.1 * ((p.2.getD a 0 : Int) : Rat)).map dQ := by rw [List.map_map]; rfl
  rw [e] at hc
  simp only [runDef, bSeq, bNil, bRet, bRetN, bSet, bSetO, bIf, bFrz, bMix, mFrz, mOwn, mNil, setSl, bApp, bPutX, bAug, bAsg, bDrop, gTupD, gsCons, gsNil, gSet, noExc, vVar, vC, vBin, vChain, vNot, vIf, vTup, oTup, vLst, oLst, vFn, vCall, aCons, aNil, vTest, vTruth, bAnd, bOr, bNot, vFld, vMk, vIsC, vIsi, tyName, sub_tt, sub_ii, sub_ib, natc1, natc2, natc3, natc4, decide_true, decide_false, oAdd_ap, oSub_ap, oMul_ap, oDiv_ap, oMod_ap, dI2, dI2c, oLt_ap, oLe_ap, oGt_ap, oGe_ap, oIsN_ap, oNotN_ap, VM.D.isNon, oIdx_l, oIdx_t, fLen, fAbs, fInt, VM.R.bind_ok, VM.R.bind_exc, VM.R.bind_stuck, Option.bind_some, Option.bind_none, ix_1_0, ix_2_0, ix_2_1, ix_3_0, ix_3_1, ix_3_2, ix_4_0, ix_4_1, ix_4_2, ix_4_3, List.map_cons, List.map_nil, List.append_nil, List.cons_append, List.nil_append, List.length_cons, List.length_nil, List.getElem?_cons_zero, List.getElem?_cons_succ, List.getElem?_nil, List.set_cons_zero, List.set_cons_succ, List.replicate_succ, List.replicate_zero, if_true, if_false, reduceIte, Nat.reduceSub, Nat.reduceAdd, Nat.reduceLeDiff, Nat.reduceEqDiff, Bool.not_true, Bool.not_false, Bool.false_eq_true, hc, hsum.1]
  rfl
end VM
end
section
set_option Elab.async false
set_option linter.all false
set_option maxRecDepth 100000
set_option autoImplicit false
/-! Mk3: the act that the law takes for done; the law's values. -/
namespace VM
open PySem PySem.Spec L2
/-- a loop by an invariant of the turn and the slots -/
theorem forL_pred {α : Type} {s : D → Fr0 → R Out} (e : α → D) (I : Nat → Fr0 → Prop) : ∀ (l : List α) (i0 : Nat) (ρ : Fr0), I i0 ρ → (∀ (i : Nat) (a : α) (ρ : Fr0), l[i]? = some a → I (i0 + i) ρ → ∃ ρ', s (e a) ρ = .ok (.nx ρ') ∧ I (i0 + i + 1) ρ') →
    ∃ ρ', forL s (l.map e) ρ = .ok (.nx ρ') ∧ I (i0 + l.length) ρ'
  | [], i0, ρ, h, _ => ⟨ρ, rfl, h⟩
  | a :: l, i0, ρ, h, hs => by
    obtain ⟨ρ1, h1, h2⟩ := hs 0 a ρ rfl h
    obtain ⟨ρ2, h3, h4⟩ := forL_pred e I l (i0 + 1) ρ1 h2 fun i b ρ hb hi => by
      have := hs (i + 1) b ρ (by simpa using hb) (by rw [show i0 + (i + 1) = i0 + 1 + i by omega]; exact hi)
      rw [show i0 + 1 + i + 1 = i0 + (i + 1) + 1 by omega]
      exact this
    refine ⟨ρ2, ?_, by rw [List.length_cons, show i0 + (l.length + 1) = i0 + 1 + l.length by omega]; exact h4⟩
    simp only [List.map_cons, forL, h1, R.bind_ok, h3]
theorem rangeD1 (lo : Int) (n : Nat) : rangeD lo n = (List.range n).map fun i => D.int (lo + (i : Nat)) := rfl
theorem shaped_2 (i j : Int) : SeqAt.shaped (.tuple [.int i, .int j]) = true := by rfl
theorem eqv_2 (i j k l : Int) : PyData.eqv (.tuple [.int i, .int j]) (.tuple [.int k, .int l]) = (decide (i = k) && decide (j = l)) := by
  simp only [PyData.eqv, PyData.eqvAll, Bool.and_true]
  by_cases h1 : i = k <;> by_cases h2 : j = l <;> simp [h1, h2]
theorem rat_ext_iff (p q : Rat) : (decide (p.num = q.num) && decide ((p.den : Int) = (q.den : Int))) = decide (p = q) := by
  by_cases h : p = q
  · subst h; simp
  · rw [decide_eq_false h]
    by_cases h1 : p.num = q.num
    · have : ¬ (p.den : Int) = (q.den : Int) := fun h2 => h (Rat.ext h1 (by exact_mod_cast h2))
      simp [this]
    · simp [h1]
theorem eq_dQ (p q : Rat) : oEqA (dQ p) (dQ q) = .ok (.bl (decide (p = q))) := by
  unfold dQ oEqA oEq
  simp only [D.dc, D.pd, pdAll, Option.map_some, shaped_2, Bool.and_self, if_true, eqv_2, rat_ext_iff]
/-- the better of two acts -/
def better (M : Mat) (s : List Rat) (t a : Nat) : Prop := counts s M.G t < counts s M.G a ∨ (counts s M.G a = counts s M.G t ∧ counts s M.W t < counts s M.W a)
instance (M : Mat) (s : List Rat) (t a : Nat) : Decidable (better M s t a) := by unfold better; infer_instance
def topUp (M : Mat) (s : List Rat) : Nat → Nat
  | 0 => 0
  | i + 1 => if better M s (topUp M s i) (i + 1) then i + 1 else topUp M s i
def lawDone (M : Mat) (s : List Rat) : Nat := topUp M s (M.a - 1)
theorem topUp_le (M : Mat) (s : List Rat) : ∀ i, topUp M s i ≤ i
  | 0 => Nat.le_refl _
  | i + 1 => by
    unfold topUp
    have := topUp_le M s i
    split <;> omega
theorem len_G {M : Mat} (h : M.Ok) : M.G[0]? = some (M.G.getD 0 []) ∧ (M.G.getD 0 []).length = M.a := by
  have hl : 0 < M.G.length := by rw [h.lG]; have := h.n2; omega
  refine ⟨getD_some hl, (h.G1 _ ?_).1⟩
  rw [List.getD_eq_getElem?_getD, List.getElem?_eq_getElem hl]
  exact List.getElem_mem _
theorem idx0 {α : Type} (e : α → D) {l : List α} {a : α} (h : l[0]? = some a) : (ixN (l.map e).length 0).bind (fun j => (l.map e)[j]?) = some (e a) := idx_map (i := 0) e h
theorem done_at {M : Mat} {s : List Rat} (hM : M.Ok) (hs : ∀ q ∈ s, QFit 9 q) (hl : s.length = M.n) : m__law_done [plainD M, .lst (s.map dQ)] = .ok (.int (lawDone M s : Nat)) := by
  have a2 := hM.a2
  have a4 := hM.a4
  obtain ⟨hG0, hGl⟩ := len_G hM
  have hcG := fun a (ha : a < M.a) => count_at hM hM.gr hs hl ha
  have hcW := fun a (ha : a < M.a) => count_at hM hM.wr hs hl ha
  have hlen : (((M.G.getD 0 []).map D.int).length : Int) = (M.a : Nat) := by rw [List.length_map, hGl]
  obtain ⟨ρ', h1, h2⟩ := forL_pred (s := bTurn (gSet 3) (bSeq (bMix [4, 5] (mFrz (vFn 3 [] m__law_count (aCons (vVar 1) (aCons (vBin oIdx (vVar 0) (vC (.int 1))) (aCons (vVar 3) aNil)))) (mFrz (vFn 3 [] m__law_count (aCons (vVar 1) (aCons (vBin oIdx (vVar 0) (vC (.int 1))) (aCons (vVar 2) aNil)))) mNil)))
    (bSeq (bMix [6, 7] (mFrz (vFn 3 [] m__law_count (aCons (vVar 1) (aCons (vBin oIdx (vVar 0) (vC (.int 2))) (aCons (vVar 3) aNil)))) (mFrz (vFn 3 [] m__law_count (aCons (vVar 1) (aCons (vBin oIdx (vVar 0) (vC (.int 2))) (aCons (vVar 2) aNil)))) mNil)))
    (bIf (bOr (vTest (vFn 2 [] m__law_less (aCons (vVar 5) (aCons (vVar 4) aNil)))) (bAnd (vTest (vBin oEqA (vVar 4) (vVar 5))) (vTest (vFn 2 [] m__law_less (aCons (vVar 7) (aCons (vVar 6) aNil)))))) (bSet 2 (vVar 3)) bNil))))
    (fun i : Nat => D.int (1 + (i : Nat))) (fun i ρ => ∃ z3 z4 z5 z6 z7, ρ = [.frz (plainD M), .frz (.lst (s.map dQ)), .frz (.int (topUp M s i : Nat)), z3, z4, z5, z6, z7]) (List.range (M.a - 1)) 0
    [.frz (plainD M), .frz (.lst (s.map dQ)), .frz (.int 0), .none, .none, .none, .none, .none] ⟨_, _, _, _, _, rfl⟩ (fun i x ρ hx hI => by
      obtain ⟨z3, z4, z5, z6, z7, rfl⟩ := hI
      rw [Nat.zero_add]
      have hi : i < M.a - 1 := by
        have := (List.getElem?_eq_some_iff.mp hx).1
        simpa using this
      have ex : x = i := by simpa [hi] using hx.symm
      subst ex
      have ht := topUp_le M s x
      have g1 := hcG (x + 1) (by omega)
      have g2 := hcG (topUp M s x) (by omega)
      have w1 := hcW (x + 1) (by omega)
      have w2 := hcW (topUp M s x) (by omega)
      have e1 : (1 : Int) + (x : Nat) = ((x + 1 : Nat) : Int) := by omega
      have l1 := less_at g2.2 g1.2 (by decide) (by decide)
      have l2 := less_at w2.2 w1.2 (by decide) (by decide)
      unfold bTurn plainD
      rw [e1]
      simp only [runDef, bSeq, bNil, bRet, bRetN, bSet, bSetO, bIf, bFrz, bMix, mFrz, mOwn, mNil, setSl, bApp, bPutX, bAug, bAsg, bDrop, gTupD, gsCons, gsNil, gSet, noExc, vVar, vC, vBin, vChain, vNot, vIf, vTup, oTup, vLst, oLst, vFn, vCall, aCons, aNil, vTest, vTruth, bAnd, bOr, bNot, vFld, vMk, vIsC, vIsi, tyName, sub_tt, sub_ii, sub_ib, natc1, natc2, natc3, natc4, decide_true, decide_false, oAdd_ap, oSub_ap, oMul_ap, oDiv_ap, oMod_ap, dI2, dI2c, oLt_ap, oLe_ap, oGt_ap, oGe_ap, oIsN_ap, oNotN_ap, VM.D.isNon, oIdx_l, oIdx_t, fLen, fAbs, fInt, VM.R.bind_ok, VM.R.bind_exc, VM.R.bind_stuck, Option.bind_some, Option.bind_none, ix_1_0, ix_2_0, ix_2_1, ix_3_0, ix_3_1, ix_3_2, ix_4_0, ix_4_1, ix_4_2, ix_4_3, List.map_cons, List.map_nil, List.append_nil, List.cons_append, List.nil_append, List.length_cons, List.length_nil, List.getElem?_cons_zero, List.getElem?_cons_succ, List.getElem?_nil, List.set_cons_zero, List.set_cons_succ, List.replicate_succ, List.replicate_zero, if_true, if_false, reduceIte, Nat.reduceSub, Nat.reduceAdd, Nat.reduceLeDiff, Nat.reduceEqDiff, Bool.not_true, Bool.not_false, Bool.false_eq_true, g1.1, g2.1, w1.1, w2.1, l1, l2, eq_dQ]
      by_cases c1 : counts s M.G (topUp M s x) < counts s M.G (x + 1)
      · rw [decide_eq_true c1]
        have hb : better M s (topUp M s x) (x + 1) := .inl c1
        simp only [runDef, bSeq, bNil, bRet, bRetN, bSet, bSetO, bIf, bFrz, bMix, mFrz, mOwn, mNil, setSl, bApp, bPutX, bAug, bAsg, bDrop, gTupD, gsCons, gsNil, gSet, noExc, vVar, vC, vBin, vChain, vNot, vIf, vTup, oTup, vLst, oLst, vFn, vCall, aCons, aNil, vTest, vTruth, bAnd, bOr, bNot, vFld, vMk, vIsC, vIsi, tyName, sub_tt, sub_ii, sub_ib, natc1, natc2, natc3, natc4, decide_true, decide_false, oAdd_ap, oSub_ap, oMul_ap, oDiv_ap, oMod_ap, dI2, dI2c, oLt_ap, oLe_ap, oGt_ap, oGe_ap, oIsN_ap, oNotN_ap, VM.D.isNon, oIdx_l, oIdx_t, fLen, fAbs, fInt, VM.R.bind_ok, VM.R.bind_exc, VM.R.bind_stuck, Option.bind_some, Option.bind_none, ix_1_0, ix_2_0, ix_2_1, ix_3_0, ix_3_1, ix_3_2, ix_4_0, ix_4_1, ix_4_2, ix_4_3, List.map_cons, List.map_nil, List.append_nil, List.cons_append, List.nil_append, List.length_cons, List.length_nil, List.getElem?_cons_zero, List.getElem?_cons_succ, List.getElem?_nil, List.set_cons_zero, List.set_cons_succ, List.replicate_succ, List.replicate_zero, if_true, if_false, reduceIte, Nat.reduceSub, Nat.reduceAdd, Nat.reduceLeDiff, Nat.reduceEqDiff, Bool.not_true, Bool.not_false, Bool.false_eq_true]
        exact ⟨_, rfl, _, _, _, _, _, by rw [topUp, if_pos hb]⟩
      · rw [decide_eq_false c1]
        by_cases c2 : counts s M.G (x + 1) = counts s M.G (topUp M s x)
        · rw [decide_eq_true c2]
          by_cases c3 : counts s M.W (topUp M s x) < counts s M.W (x + 1)
          · rw [decide_eq_true c3]
            have hb : better M s (topUp M s x) (x + 1) := .inr ⟨c2, c3⟩
            simp only [runDef, bSeq, bNil, bRet, bRetN, bSet, bSetO, bIf, bFrz, bMix, mFrz, mOwn, mNil, setSl, bApp, bPutX, bAug, bAsg, bDrop, gTupD, gsCons, gsNil, gSet, noExc, vVar, vC, vBin, vChain, vNot, vIf, vTup, oTup, vLst, oLst, vFn, vCall, aCons, aNil, vTest, vTruth, bAnd, bOr, bNot, vFld, vMk, vIsC, vIsi, tyName, sub_tt, sub_ii, sub_ib, natc1, natc2, natc3, natc4, decide_true, decide_false, oAdd_ap, oSub_ap, oMul_ap, oDiv_ap, oMod_ap, dI2, dI2c, oLt_ap, oLe_ap, oGt_ap, oGe_ap, oIsN_ap, oNotN_ap, VM.D.isNon, oIdx_l, oIdx_t, fLen, fAbs, fInt, VM.R.bind_ok, VM.R.bind_exc, VM.R.bind_stuck, Option.bind_some, Option.bind_none, ix_1_0, ix_2_0, ix_2_1, ix_3_0, ix_3_1, ix_3_2, ix_4_0, ix_4_1, ix_4_2, ix_4_3, List.map_cons, List.map_nil, List.append_nil, List.cons_append, List.nil_append, List.length_cons, List.length_nil, List.getElem?_cons_zero, List.getElem?_cons_succ, List.getElem?_nil, List.set_cons_zero, List.set_cons_succ, List.replicate_succ, List.replicate_zero, if_true, if_false, reduceIte, Nat.reduceSub, Nat.reduceAdd, Nat.reduceLeDiff, Nat.reduceEqDiff, Bool.not_true, Bool.not_false, Bool.false_eq_true]
            exact ⟨_, rfl, _, _, _, _, _, by rw [topUp, if_pos hb]⟩
          · rw [decide_eq_false c3]
            have hb : ¬ better M s (topUp M s x) (x + 1) := fun z => z.elim c1 fun z => c3 z.2
            simp only [runDef, bSeq, bNil, bRet, bRetN, bSet, bSetO, bIf, bFrz, bMix, mFrz, mOwn, mNil, setSl, bApp, bPutX, bAug, bAsg, bDrop, gTupD, gsCons, gsNil, gSet, noExc, vVar, vC, vBin, vChain, vNot, vIf, vTup, oTup, vLst, oLst, vFn, vCall, aCons, aNil, vTest, vTruth, bAnd, bOr, bNot, vFld, vMk, vIsC, vIsi, tyName, sub_tt, sub_ii, sub_ib, natc1, natc2, natc3, natc4, decide_true, decide_false, oAdd_ap, oSub_ap, oMul_ap, oDiv_ap, oMod_ap, dI2, dI2c, oLt_ap, oLe_ap, oGt_ap, oGe_ap, oIsN_ap, oNotN_ap, VM.D.isNon, oIdx_l, oIdx_t, fLen, fAbs, fInt, VM.R.bind_ok, VM.R.bind_exc, VM.R.bind_stuck, Option.bind_some, Option.bind_none, ix_1_0, ix_2_0, ix_2_1, ix_3_0, ix_3_1, ix_3_2, ix_4_0, ix_4_1, ix_4_2, ix_4_3, List.map_cons, List.map_nil, List.append_nil, List.cons_append, List.nil_append, List.length_cons, List.length_nil, List.getElem?_cons_zero, List.getElem?_cons_succ, List.getElem?_nil, List.set_cons_zero, List.set_cons_succ, List.replicate_succ, List.replicate_zero, if_true, if_false, reduceIte, Nat.reduceSub, Nat.reduceAdd, Nat.reduceLeDiff, Nat.reduceEqDiff, Bool.not_true, Bool.not_false, Bool.false_eq_true]
            exact ⟨_, rfl, _, _, _, _, _, by rw [topUp, if_neg hb]⟩
        · rw [decide_eq_false c2]
          have hb : ¬ better M s (topUp M s x) (x + 1) := fun z => z.elim c1 fun z => c2 z.1
          simp only [runDef, bSeq, bNil, bRet, bRetN, bSet, bSetO, bIf, bFrz, bMix, mFrz, mOwn, mNil, setSl, bApp, bPutX, bAug, bAsg, bDrop, gTupD, gsCons, gsNil, gSet, noExc, vVar, vC, vBin, vChain, vNot, vIf, vTup, oTup, vLst, oLst, vFn, vCall, aCons, aNil, vTest, vTruth, bAnd, bOr, bNot, vFld, vMk, vIsC, vIsi, tyName, sub_tt, sub_ii, sub_ib, natc1, natc2, natc3, natc4, decide_true, decide_false, oAdd_ap, oSub_ap, oMul_ap, oDiv_ap, oMod_ap, dI2, dI2c, oLt_ap, oLe_ap, oGt_ap, oGe_ap, oIsN_ap, oNotN_ap, VM.D.isNon, oIdx_l, oIdx_t, fLen, fAbs, fInt, VM.R.bind_ok, VM.R.bind_exc, VM.R.bind_stuck, Option.bind_some, Option.bind_none, ix_1_0, ix_2_0, ix_2_1, ix_3_0, ix_3_1, ix_3_2, ix_4_0, ix_4_1, ix_4_2, ix_4_3, List.map_cons, List.map_nil, List.append_nil, List.cons_append, List.nil_append, List.length_cons, List.length_nil, List.getElem?_cons_zero, List.getElem?_cons_succ, List.getElem?_nil, List.set_cons_zero, List.set_cons_succ, List.replicate_succ, List.replicate_zero, if_true, if_false, reduceIte, Nat.reduceSub, Nat.reduceAdd, Nat.reduceLeDiff, Nat.reduceEqDiff, Bool.not_true, Bool.not_false, Bool.false_eq_true]
          exact ⟨_, rfl, _, _, _, _, _, by rw [topUp, if_neg hb]⟩)
  obtain ⟨z3, z4, z5, z6, z7, rfl⟩ := h2
  have hr : (rangeOk 1 && rangeOk (M.a : Nat)) = true := by
    unfold rangeOk
    simp only [Bool.and_eq_true, decide_eq_true_eq]
    omega
  have et : ((M.a : Nat) - 1 : Int).toNat = M.a - 1 := by omega
  unfold m__law_done b__law_done plainD rowsD tI
  simp only [runDef, bSeq, bNil, bRet, bRetN, bSet, bSetO, bIf, bFrz, bMix, mFrz, mOwn, mNil, setSl, bApp, bPutX, bAug, bAsg, bDrop, gTupD, gsCons, gsNil, gSet, noExc, vVar, vC, vBin, vChain, vNot, vIf, vTup, oTup, vLst, oLst, vFn, vCall, aCons, aNil, vTest, vTruth, bAnd, bOr, bNot, vFld, vMk, vIsC, vIsi, tyName, sub_tt, sub_ii, sub_ib, natc1, natc2, natc3, natc4, decide_true, decide_false, oAdd_ap, oSub_ap, oMul_ap, oDiv_ap, oMod_ap, dI2, dI2c, oLt_ap, oLe_ap, oGt_ap, oGe_ap, oIsN_ap, oNotN_ap, VM.D.isNon, oIdx_l, oIdx_t, fLen, fAbs, fInt, VM.R.bind_ok, VM.R.bind_exc, VM.R.bind_stuck, Option.bind_some, Option.bind_none, ix_1_0, ix_2_0, ix_2_1, ix_3_0, ix_3_1, ix_3_2, ix_4_0, ix_4_1, ix_4_2, ix_4_3, List.map_cons, List.map_nil, List.append_nil, List.cons_append, List.nil_append, List.length_cons, List.length_nil, List.getElem?_cons_zero, List.getElem?_cons_succ, List.getElem?_nil, List.set_cons_zero, List.set_cons_succ, List.replicate_succ, List.replicate_zero, if_true, if_false, reduceIte, Nat.reduceSub, Nat.reduceAdd, Nat.reduceLeDiff, Nat.reduceEqDiff, Bool.not_true, Bool.not_false, Bool.false_eq_true, idx0 (fun l : List Int => D.tup (l.map D.int)) hG0, hlen, bFor, iRange2, hr, et, rangeD1]
  unfold plainD rowsD tI at h1
  rw [h1]
  simp only [runDef, bSeq, bNil, bRet, bRetN, bSet, bSetO, bIf, bFrz, bMix, mFrz, mOwn, mNil, setSl, bApp, bPutX, bAug, bAsg, bDrop, gTupD, gsCons, gsNil, gSet, noExc, vVar, vC, vBin, vChain, vNot, vIf, vTup, oTup, vLst, oLst, vFn, vCall, aCons, aNil, vTest, vTruth, bAnd, bOr, bNot, vFld, vMk, vIsC, vIsi, tyName, sub_tt, sub_ii, sub_ib, natc1, natc2, natc3, natc4, decide_true, decide_false, oAdd_ap, oSub_ap, oMul_ap, oDiv_ap, oMod_ap, dI2, dI2c, oLt_ap, oLe_ap, oGt_ap, oGe_ap, oIsN_ap, oNotN_ap, VM.D.isNon, oIdx_l, oIdx_t, fLen, fAbs, fInt, VM.R.bind_ok, VM.R.bind_exc, VM.R.bind_stuck, Option.bind_some, Option.bind_none, ix_1_0, ix_2_0, ix_2_1, ix_3_0, ix_3_1, ix_3_2, ix_4_0, ix_4_1, ix_4_2, ix_4_3, List.map_cons, List.map_nil, List.append_nil, List.cons_append, List.nil_append, List.length_cons, List.length_nil, List.getElem?_cons_zero, List.getElem?_cons_succ, List.getElem?_nil, List.set_cons_zero, List.set_cons_succ, List.replicate_succ, List.replicate_zero, if_true, if_false, reduceIte, Nat.reduceSub, Nat.reduceAdd, Nat.reduceLeDiff, Nat.reduceEqDiff, Bool.not_true, Bool.not_false, Bool.false_eq_true, Nat.zero_add, List.length_range]
  rfl
end VM
end
section
set_option Elab.async false
set_option linter.all false
set_option maxRecDepth 100000
set_option autoImplicit false
/-! Mk4: the program's checks, its integers over a common divisor. -/
namespace VM
open PySem PySem.Spec L2
def instD (M : Mat) : D := .ins 0 [("_parts", tI M.P), ("_gains", rowsD M.G), ("_worths", rowsD M.W)]
theorem parts_at (M : Mat) : m_Matter_parts [instD M] = .ok (tI M.P) := by rfl
theorem gains_at (M : Mat) : m_Matter_gains [instD M] = .ok (rowsD M.G) := by rfl
theorem worths_at (M : Mat) : m_Matter_worths [instD M] = .ok (rowsD M.W) := by rfl
theorem mlen_at (M : Mat) : m_Matterdd_lendd [instD M] = .ok (.int (M.P.length : Nat)) := by
  have : m_Matterdd_lendd [instD M] = .ok (.int ((M.P.map D.int).length : Nat)) := rfl
  rw [this, List.length_map]
theorem plain_at (x : Int) : m_is_plain_integer [.int x] = .ok (.bl true) := by rfl
theorem within_at (x l h : Int) : m_is_integer_within [.int x, .int l, .int h] = .ok (.bl (decide (l ≤ x) && decide (x ≤ h))) := by
  unfold m_is_integer_within b_is_integer_within
  simp only [runDef, bSeq, bNil, bRet, bRetN, bSet, bSetO, bIf, bFrz, bMix, mFrz, mOwn, mNil, setSl, bApp, bPutX, bAug, bAsg, bDrop, gTupD, gsCons, gsNil, gSet, noExc, vVar, vC, vBin, vChain, vNot, vIf, vTup, oTup, vLst, oLst, vFn, vCall, aCons, aNil, vTest, vTruth, bAnd, bOr, bNot, vFld, vMk, vIsC, vIsi, tyName, sub_tt, sub_ii, sub_ib, natc1, natc2, natc3, natc4, decide_true, decide_false, oAdd_ap, oSub_ap, oMul_ap, oDiv_ap, oMod_ap, dI2, dI2c, oLt_ap, oLe_ap, oGt_ap, oGe_ap, oIsN_ap, oNotN_ap, VM.D.isNon, oIdx_l, oIdx_t, fLen, fAbs, fInt, VM.R.bind_ok, VM.R.bind_exc, VM.R.bind_stuck, Option.bind_some, Option.bind_none, ix_1_0, ix_2_0, ix_2_1, ix_3_0, ix_3_1, ix_3_2, ix_4_0, ix_4_1, ix_4_2, ix_4_3, List.map_cons, List.map_nil, List.append_nil, List.cons_append, List.nil_append, List.length_cons, List.length_nil, List.getElem?_cons_zero, List.getElem?_cons_succ, List.getElem?_nil, List.set_cons_zero, List.set_cons_succ, List.replicate_succ, List.replicate_zero, if_true, if_false, reduceIte, Nat.reduceSub, Nat.reduceAdd, Nat.reduceLeDiff, Nat.reduceEqDiff, Bool.not_true, Bool.not_false, Bool.false_eq_true, vAnd, plain_at]
  by_cases h1 : l ≤ x <;> simp [h1, R.bind]
theorem neA_int (i j : Int) : oNeA (.int i) (.int j) = .ok (.bl (!decide (i = j))) := by
  unfold oNeA oNe
  simp only [D.dc, D.pd, shaped_int, Bool.and_self, if_true, eqv_int]
theorem eqA_int (i j : Int) : oEqA (.int i) (.int j) = .ok (.bl (decide (i = j))) := by
  unfold oEqA oEq
  simp only [D.dc, D.pd, shaped_int, Bool.and_self, if_true, eqv_int]
theorem ratio_ok (q : Rat) : m_is_ratio [dQ q] = .ok (.bl true) := by
  have hd : decide ((q.den : Int) ≥ 1) = true := decide_eq_true (by have := q.den_pos; omega)
  have hg : Nat.gcd q.num.natAbs (q.den : Int).natAbs = 1 := by
    rw [Int.natAbs_natCast]
    exact q.reduced
  unfold m_is_ratio b_is_ratio dQ
  simp only [runDef, bSeq, bNil, bRet, bRetN, bSet, bSetO, bIf, bFrz, bMix, mFrz, mOwn, mNil, setSl, bApp, bPutX, bAug, bAsg, bDrop, gTupD, gsCons, gsNil, gSet, noExc, vVar, vC, vBin, vChain, vNot, vIf, vTup, oTup, vLst, oLst, vFn, vCall, aCons, aNil, vTest, vTruth, bAnd, bOr, bNot, vFld, vMk, vIsC, vIsi, tyName, sub_tt, sub_ii, sub_ib, natc1, natc2, natc3, natc4, decide_true, decide_false, oAdd_ap, oSub_ap, oMul_ap, oDiv_ap, oMod_ap, dI2, dI2c, oLt_ap, oLe_ap, oGt_ap, oGe_ap, oIsN_ap, oNotN_ap, VM.D.isNon, oIdx_l, oIdx_t, fLen, fAbs, fInt, VM.R.bind_ok, VM.R.bind_exc, VM.R.bind_stuck, Option.bind_some, Option.bind_none, ix_1_0, ix_2_0, ix_2_1, ix_3_0, ix_3_1, ix_3_2, ix_4_0, ix_4_1, ix_4_2, ix_4_3, List.map_cons, List.map_nil, List.append_nil, List.cons_append, List.nil_append, List.length_cons, List.length_nil, List.getElem?_cons_zero, List.getElem?_cons_succ, List.getElem?_nil, List.set_cons_zero, List.set_cons_succ, List.replicate_succ, List.replicate_zero, if_true, if_false, reduceIte, Nat.reduceSub, Nat.reduceAdd, Nat.reduceLeDiff, Nat.reduceEqDiff, Bool.not_true, Bool.not_false, Bool.false_eq_true, plain_at, neA_int, eqA_int, vAnd, fGcd, d2, hg, hd]
theorem chance_ok {q : Rat} (h0 : 0 ≤ q.num) (h1 : q.num ≤ q.den) : m_is_chance [dQ q] = .ok (.bl true) := by
  have hr := ratio_ok q
  unfold dQ at hr
  unfold m_is_chance b_is_chance dQ
  simp only [runDef, bSeq, bNil, bRet, bRetN, bSet, bSetO, bIf, bFrz, bMix, mFrz, mOwn, mNil, setSl, bApp, bPutX, bAug, bAsg, bDrop, gTupD, gsCons, gsNil, gSet, noExc, vVar, vC, vBin, vChain, vNot, vIf, vTup, oTup, vLst, oLst, vFn, vCall, aCons, aNil, vTest, vTruth, bAnd, bOr, bNot, vFld, vMk, vIsC, vIsi, tyName, sub_tt, sub_ii, sub_ib, natc1, natc2, natc3, natc4, decide_true, decide_false, oAdd_ap, oSub_ap, oMul_ap, oDiv_ap, oMod_ap, dI2, dI2c, oLt_ap, oLe_ap, oGt_ap, oGe_ap, oIsN_ap, oNotN_ap, VM.D.isNon, oIdx_l, oIdx_t, fLen, fAbs, fInt, VM.R.bind_ok, VM.R.bind_exc, VM.R.bind_stuck, Option.bind_some, Option.bind_none, ix_1_0, ix_2_0, ix_2_1, ix_3_0, ix_3_1, ix_3_2, ix_4_0, ix_4_1, ix_4_2, ix_4_3, List.map_cons, List.map_nil, List.append_nil, List.cons_append, List.nil_append, List.length_cons, List.length_nil, List.getElem?_cons_zero, List.getElem?_cons_succ, List.getElem?_nil, List.set_cons_zero, List.set_cons_succ, List.replicate_succ, List.replicate_zero, if_true, if_false, reduceIte, Nat.reduceSub, Nat.reduceAdd, Nat.reduceLeDiff, Nat.reduceEqDiff, Bool.not_true, Bool.not_false, Bool.false_eq_true, vAnd, hr, decide_eq_true h0, decide_eq_true h1]
/-! ### the common divisor -/
def commonU (l : List Rat) : Nat := l.foldl (fun c q => Nat.lcm c q.den) 1
theorem commonU_dvd (l : List Rat) : ∀ c : Nat, c ∣ l.foldl (fun c q => Nat.lcm c q.den) c ∧ ∀ q ∈ l, q.den ∣ l.foldl (fun c q => Nat.lcm c q.den) c := by
  induction l with
  | nil => intro c; exact ⟨Nat.dvd_refl _, fun q hq => by cases hq⟩
  | cons x l ih =>
    intro c
    obtain ⟨h1, h2⟩ := ih (Nat.lcm c x.den)
    refine ⟨Nat.dvd_trans (Nat.dvd_lcm_left c x.den) h1, fun q hq => ?_⟩
    rcases List.mem_cons.mp hq with rfl | hq
    · exact Nat.dvd_trans (Nat.dvd_lcm_right c q.den) h1
    · exact h2 q hq
/-- it divides 27720, so it is small -/
theorem commonU_small (l : List Rat) (h : ∀ q ∈ l, q.den ≤ 12) : ∀ c : Nat, c ∣ 27720 → l.foldl (fun c q => Nat.lcm c q.den) c ∣ 27720 := by
  induction l with
  | nil => exact fun c hc => hc
  | cons x l ih =>
    intro c hc
    refine ih (fun q hq => h q (List.mem_cons_of_mem _ hq)) _ (Nat.lcm_dvd hc ?_)
    have h1 := h x List.mem_cons_self
    have h2 := x.den_pos
    have : ∀ d : Nat, d < 13 → 0 < d → d ∣ 27720 := by decide
    exact this _ (by omega) h2
theorem lcmFits_small {i j : Nat} (hi : i ≤ 27720) (hj : j ≤ 27720) : lcmFits (i : Int) (j : Int) = true := by
  unfold lcmFits
  rw [Int.natAbs_natCast, Int.natAbs_natCast, Bool.and_eq_true, decide_eq_true_iff, decide_eq_true_iff]
  exact ⟨lt_pow_mono (j := 15) (by omega) (by decide), lt_pow_mono (j := 15) (by omega) (by decide)⟩
structure SmallD (l : List Rat) : Prop where
  d : ∀ q ∈ l, q.den ≤ 12
theorem common_at {l : List Rat} (h : ∀ q ∈ l, q.den ≤ 12) {L : D} (hL : L.items = .ok (l.map dQ)) : m_common_under [L] = .ok (.int (commonU l : Nat)) := by
  obtain ⟨ρ', h1, h2⟩ := forL_pred (s := bTurn (gTupD 2 (gsCons (gSet 2) (gsCons (gSet 3) gsNil))) (bSet 1 (vCall fLcm (aCons (vVar 1) (aCons (vVar 3) aNil))))) dQ
    (fun i ρ => ∃ z2 z3, ρ = [.frz L, .frz (.int ((l.take i).foldl (fun c q => Nat.lcm c q.den) 1 : Nat)), z2, z3]) l 0 [.frz L, .frz (.int 1), .none, .none] ⟨_, _, rfl⟩ (fun i q ρ hq hI => by
      obtain ⟨z2, z3, rfl⟩ := hI
      rw [Nat.zero_add]
      have hil := (List.getElem?_eq_some_iff.mp hq).1
      have ht : l.take (i + 1) = l.take i ++ [q] := by rw [List.take_succ, hq]; rfl
      have hc : (l.take i).foldl (fun c q => Nat.lcm c q.den) 1 ≤ 27720 := Nat.le_of_dvd (by decide) (commonU_small _ (fun p hp => h p (List.mem_of_mem_take hp)) 1 (by decide))
      have hqm := h q (List.mem_of_getElem? hq)
      have hf := lcmFits_small hc (Nat.le_trans hqm (by decide : 12 ≤ 27720))
      refine ⟨_, ?_, .frz (.int q.num), .frz (.int q.den), rfl⟩
      unfold bTurn dQ
      rw [tgt2]
      simp only [runDef, bSeq, bNil, bRet, bRetN, bSet, bSetO, bIf, bFrz, bMix, mFrz, mOwn, mNil, setSl, bApp, bPutX, bAug, bAsg, bDrop, gTupD, gsCons, gsNil, gSet, noExc, vVar, vC, vBin, vChain, vNot, vIf, vTup, oTup, vLst, oLst, vFn, vCall, aCons, aNil, vTest, vTruth, bAnd, bOr, bNot, vFld, vMk, vIsC, vIsi, tyName, sub_tt, sub_ii, sub_ib, natc1, natc2, natc3, natc4, decide_true, decide_false, oAdd_ap, oSub_ap, oMul_ap, oDiv_ap, oMod_ap, dI2, dI2c, oLt_ap, oLe_ap, oGt_ap, oGe_ap, oIsN_ap, oNotN_ap, VM.D.isNon, oIdx_l, oIdx_t, fLen, fAbs, fInt, VM.R.bind_ok, VM.R.bind_exc, VM.R.bind_stuck, Option.bind_some, Option.bind_none, ix_1_0, ix_2_0, ix_2_1, ix_3_0, ix_3_1, ix_3_2, ix_4_0, ix_4_1, ix_4_2, ix_4_3, List.map_cons, List.map_nil, List.append_nil, List.cons_append, List.nil_append, List.length_cons, List.length_nil, List.getElem?_cons_zero, List.getElem?_cons_succ, List.getElem?_nil, List.set_cons_zero, List.set_cons_succ, List.replicate_succ, List.replicate_zero, if_true, if_false, reduceIte, Nat.reduceSub, Nat.reduceAdd, Nat.reduceLeDiff, Nat.reduceEqDiff, Bool.not_true, Bool.not_false, Bool.false_eq_true, fLcm, d2, hf, Int.natAbs_natCast, ht, List.foldl_append, List.foldl_cons, List.foldl_nil])
  obtain ⟨z2, z3, rfl⟩ := h2
  unfold m_common_under b_common_under
  simp only [runDef, bSeq, bNil, bRet, bRetN, bSet, bSetO, bIf, bFrz, bMix, mFrz, mOwn, mNil, setSl, bApp, bPutX, bAug, bAsg, bDrop, gTupD, gsCons, gsNil, gSet, noExc, vVar, vC, vBin, vChain, vNot, vIf, vTup, oTup, vLst, oLst, vFn, vCall, aCons, aNil, vTest, vTruth, bAnd, bOr, bNot, vFld, vMk, vIsC, vIsi, tyName, sub_tt, sub_ii, sub_ib, natc1, natc2, natc3, natc4, decide_true, decide_false, oAdd_ap, oSub_ap, oMul_ap, oDiv_ap, oMod_ap, dI2, dI2c, oLt_ap, oLe_ap, oGt_ap, oGe_ap, oIsN_ap, oNotN_ap, VM.D.isNon, oIdx_l, oIdx_t, fLen, fAbs, fInt, VM.R.bind_ok, VM.R.bind_exc, VM.R.bind_stuck, Option.bind_some, Option.bind_none, ix_1_0, ix_2_0, ix_2_1, ix_3_0, ix_3_1, ix_3_2, ix_4_0, ix_4_1, ix_4_2, ix_4_3, List.map_cons, List.map_nil, List.append_nil, List.cons_append, List.nil_append, List.length_cons, List.length_nil, List.getElem?_cons_zero, List.getElem?_cons_succ, List.getElem?_nil, List.set_cons_zero, List.set_cons_succ, List.replicate_succ, List.replicate_zero, if_true, if_false, reduceIte, Nat.reduceSub, Nat.reduceAdd, Nat.reduceLeDiff, Nat.reduceEqDiff, Bool.not_true, Bool.not_false, Bool.false_eq_true, bFor, iSeq, hL, h1, Nat.zero_add, List.take_length]
  rfl
def sc (q : Rat) (C : Nat) : Int := q.num * ((C : Int) / (q.den : Int))
theorem sc_rat {q : Rat} {C : Nat} (h : q.den ∣ C) : ((sc q C : Int) : Rat) = q * (C : Rat) := by
  obtain ⟨k, rfl⟩ := h
  have hd : ((q.den : Nat) : Int) ≠ 0 := by exact_mod_cast q.den_nz
  have e : ((q.den * k : Nat) : Int) / (q.den : Int) = (k : Int) := by
    rw [Int.natCast_mul, Int.mul_ediv_cancel_left _ hd]
  unfold sc
  rw [e, Rat.intCast_mul]
  have h1 := rat_eq q
  have h3 : (q.den : Rat) ≠ 0 := by exact_mod_cast q.den_nz
  conv => rhs; rw [h1]
  rw [Rat.natCast_mul, Rat.intCast_natCast]
  grind
theorem scaled_at {q : Rat} {C : Nat} (h1 : q.num.natAbs < 16) (h2 : q.den ≤ 12) (hC : C ≤ 27720) : m_scaled [dQ q, .int (C : Nat)] = .ok (.int (sc q C)) := by
  have hd : divFits (q.den : Int) = true := divFits_nat (den_pos q) (lt_pow_mono (j := 4) (by rw [Int.natAbs_natCast]; omega) (by decide))
  have hle : ((C : Int) / (q.den : Int)).natAbs < 2 ^ 15 := by
    have : (C : Int) / (q.den : Int) = ((C / q.den : Nat) : Int) := by simp
    rw [this, Int.natAbs_natCast]
    have := Nat.div_le_self C q.den
    omega
  have hm := fits (i := 4) (j := 15) h1 hle (by decide) (by decide)
  unfold m_scaled b_scaled
  have e : dQ q = .tup [.int q.num, .int (q.den : Int)] := rfl
  rw [e]
  simp only [runDef, bSeq, bNil, bRet, bRetN, bSet, bSetO, bIf, bFrz, bMix, mFrz, mOwn, mNil, setSl, bApp, bPutX, bAug, bAsg, bDrop, gTupD, gsCons, gsNil, gSet, noExc, vVar, vC, vBin, vChain, vNot, vIf, vTup, oTup, vLst, oLst, vFn, vCall, aCons, aNil, vTest, vTruth, bAnd, bOr, bNot, vFld, vMk, vIsC, vIsi, tyName, sub_tt, sub_ii, sub_ib, natc1, natc2, natc3, natc4, decide_true, decide_false, oAdd_ap, oSub_ap, oMul_ap, oDiv_ap, oMod_ap, dI2, dI2c, oLt_ap, oLe_ap, oGt_ap, oGe_ap, oIsN_ap, oNotN_ap, VM.D.isNon, oIdx_l, oIdx_t, fLen, fAbs, fInt, VM.R.bind_ok, VM.R.bind_exc, VM.R.bind_stuck, Option.bind_some, Option.bind_none, ix_1_0, ix_2_0, ix_2_1, ix_3_0, ix_3_1, ix_3_2, ix_4_0, ix_4_1, ix_4_2, ix_4_3, List.map_cons, List.map_nil, List.append_nil, List.cons_append, List.nil_append, List.length_cons, List.length_nil, List.getElem?_cons_zero, List.getElem?_cons_succ, List.getElem?_nil, List.set_cons_zero, List.set_cons_succ, List.replicate_succ, List.replicate_zero, if_true, if_false, reduceIte, Nat.reduceSub, Nat.reduceAdd, Nat.reduceLeDiff, Nat.reduceEqDiff, Bool.not_true, Bool.not_false, Bool.false_eq_true, hd, hm]
  rfl
end VM
end
section
set_option Elab.async false
set_option linter.all false
set_option maxRecDepth 100000
set_option autoImplicit false
/-! Mk5: a table is one; the chances of cases and words together. -/
namespace VM
open PySem PySem.Spec L2
theorem qfold (l : List Rat) : ∀ x : Rat, l.foldl (· + ·) x = x + l.foldl (· + ·) 0 := by
  induction l with
  | nil => intro x; simp [Rat.add_zero]
  | cons q l ih =>
    intro x
    rw [List.foldl_cons, List.foldl_cons, ih (x + q), ih (0 + q)]
    grind
theorem qsum_cons (q : Rat) (l : List Rat) : qsum (q :: l) = q + qsum l := by
  unfold qsum
  rw [List.foldl_cons, qfold]
  grind
theorem qsum_nil : qsum [] = 0 := rfl
theorem sum_sc {C : Nat} : ∀ l : List Rat, (∀ q ∈ l, q.den ∣ C) → (((l.map fun q => sc q C).sum : Int) : Rat) = qsum l * (C : Rat)
  | [], _ => by rw [qsum_nil]; simp [Rat.zero_mul]
  | q :: l, h => by
    rw [List.map_cons, List.sum_cons, qsum_cons, Rat.intCast_add, sc_rat (h q List.mem_cons_self), sum_sc l fun p hp => h p (List.mem_cons_of_mem _ hp)]
    grind
theorem bools_true {α : Type} (l : List α) : bools? (l.map fun _ => D.bl true) = some (l.map fun _ => true) := by
  induction l with
  | nil => rfl
  | cons a l ih => simp [bools?, ih]
theorem all_true {α : Type} (l : List α) : fAll [.lst (l.map fun _ => D.bl true)] = .ok (.bl true) := by
  simp only [fAll, bools_true]
  congr 2
  simp
structure RowOk (w : Nat) (r : List Rat) : Prop where
  l : r.length = w
  e : ∀ q ∈ r, 0 ≤ q.num ∧ q.num ≤ q.den ∧ q.den ≤ 12
  s : qsum r = 1
theorem Tab.Ok.row {M : Mat} {T : Tab} (h : T.Ok M) {r : List Rat} (hr : r ∈ T.T) : RowOk T.w r := ⟨(h.r r hr).1, (h.r r hr).2.1, (h.r r hr).2.2⟩
theorem RowOk.num {w : Nat} {r : List Rat} (h : RowOk w r) {q : Rat} (hq : q ∈ r) : q.num.natAbs < 16 := by
  obtain ⟨h1, h2, h3⟩ := h.e q hq
  omega
theorem C_small {l : List Rat} (h : ∀ q ∈ l, q.den ≤ 12) : commonU l ≤ 27720 := Nat.le_of_dvd (by decide) (commonU_small l h 1 (by decide))
theorem one_at {w : Nat} {r : List Rat} (h : RowOk w r) (hw : w ≤ 4) : m_are_one_together [.tup (r.map dQ)] = .ok (.bl true) := by
  have hd := fun q hq => (h.e q hq).2.2
  have hc := common_at (L := .tup (r.map dQ)) hd rfl
  have hs := C_small hd
  have hv := (commonU_dvd r 1).2
  have hcomp := vComp_at (vs := [2]) (mi := iSeq (vVar 0)) (g := gSet 2) (nt := tYesB) (me := vFn 2 [] m_scaled (aCons (vVar 2) (aCons (vVar 1) aNil))) (ρ := [.frz (.tup (r.map dQ)), .frz (.int (commonU r : Nat)), .none])
    dQ (fun q => D.int (sc q (commonU r))) r (by simp only [runDef, bSeq, bNil, bRet, bRetN, bSet, bSetO, bIf, bFrz, bMix, mFrz, mOwn, mNil, setSl, bApp, bPutX, bAug, bAsg, bDrop, gTupD, gsCons, gsNil, gSet, noExc, vVar, vC, vBin, vChain, vNot, vIf, vTup, oTup, vLst, oLst, vFn, vCall, aCons, aNil, vTest, vTruth, bAnd, bOr, bNot, vFld, vMk, vIsC, vIsi, tyName, sub_tt, sub_ii, sub_ib, natc1, natc2, natc3, natc4, decide_true, decide_false, oAdd_ap, oSub_ap, oMul_ap, oDiv_ap, oMod_ap, dI2, dI2c, oLt_ap, oLe_ap, oGt_ap, oGe_ap, oIsN_ap, oNotN_ap, VM.D.isNon, oIdx_l, oIdx_t, fLen, fAbs, fInt, VM.R.bind_ok, VM.R.bind_exc, VM.R.bind_stuck, Option.bind_some, Option.bind_none, ix_1_0, ix_2_0, ix_2_1, ix_3_0, ix_3_1, ix_3_2, ix_4_0, ix_4_1, ix_4_2, ix_4_3, List.map_cons, List.map_nil, List.append_nil, List.cons_append, List.nil_append, List.length_cons, List.length_nil, List.getElem?_cons_zero, List.getElem?_cons_succ, List.getElem?_nil, List.set_cons_zero, List.set_cons_succ, List.replicate_succ, List.replicate_zero, if_true, if_false, reduceIte, Nat.reduceSub, Nat.reduceAdd, Nat.reduceLeDiff, Nat.reduceEqDiff, Bool.not_true, Bool.not_false, Bool.false_eq_true, iSeq, D.items]) (by have := h.l; omega) (fun q hq => by
      refine turn_yes (show gSet 2 _ _ = .ok _ from rfl) ?_
      simp only [wipeR]
      simp only [runDef, bSeq, bNil, bRet, bRetN, bSet, bSetO, bIf, bFrz, bMix, mFrz, mOwn, mNil, setSl, bApp, bPutX, bAug, bAsg, bDrop, gTupD, gsCons, gsNil, gSet, noExc, vVar, vC, vBin, vChain, vNot, vIf, vTup, oTup, vLst, oLst, vFn, vCall, aCons, aNil, vTest, vTruth, bAnd, bOr, bNot, vFld, vMk, vIsC, vIsi, tyName, sub_tt, sub_ii, sub_ib, natc1, natc2, natc3, natc4, decide_true, decide_false, oAdd_ap, oSub_ap, oMul_ap, oDiv_ap, oMod_ap, dI2, dI2c, oLt_ap, oLe_ap, oGt_ap, oGe_ap, oIsN_ap, oNotN_ap, VM.D.isNon, oIdx_l, oIdx_t, fLen, fAbs, fInt, VM.R.bind_ok, VM.R.bind_exc, VM.R.bind_stuck, Option.bind_some, Option.bind_none, ix_1_0, ix_2_0, ix_2_1, ix_3_0, ix_3_1, ix_3_2, ix_4_0, ix_4_1, ix_4_2, ix_4_3, List.map_cons, List.map_nil, List.append_nil, List.cons_append, List.nil_append, List.length_cons, List.length_nil, List.getElem?_cons_zero, List.getElem?_cons_succ, List.getElem?_nil, List.set_cons_zero, List.set_cons_succ, List.replicate_succ, List.replicate_zero, if_true, if_false, reduceIte, Nat.reduceSub, Nat.reduceAdd, Nat.reduceLeDiff, Nat.reduceEqDiff, Bool.not_true, Bool.not_false, Bool.false_eq_true, scaled_at (h.num hq) (hd q hq) hs])
  have e : (r.map fun q => D.int (sc q (commonU r))) = (r.map fun q => sc q (commonU r)).map D.int := by rw [List.map_map]; rfl
  have hsum : (r.map fun q => sc q (commonU r)).sum = (commonU r : Int) := by
    have := sum_sc r hv
    rw [h.s, Rat.one_mul] at this
    have e2 : ((commonU r : Nat) : Rat) = (((commonU r : Nat) : Int) : Rat) := (Rat.intCast_natCast _).symm
    have e3 : (((r.map fun q => sc q (commonU r)).sum : Int) : Rat) = (((commonU r : Nat) : Int) : Rat) := this.trans e2
    exact_mod_cast e3
  rw [e] at hcomp
  unfold m_are_one_together b_are_one_together
  simp only [runDef, bSeq, bNil, bRet, bRetN, bSet, bSetO, bIf, bFrz, bMix, mFrz, mOwn, mNil, setSl, bApp, bPutX, bAug, bAsg, bDrop, gTupD, gsCons, gsNil, gSet, noExc, vVar, vC, vBin, vChain, vNot, vIf, vTup, oTup, vLst, oLst, vFn, vCall, aCons, aNil, vTest, vTruth, bAnd, bOr, bNot, vFld, vMk, vIsC, vIsi, tyName, sub_tt, sub_ii, sub_ib, natc1, natc2, natc3, natc4, decide_true, decide_false, oAdd_ap, oSub_ap, oMul_ap, oDiv_ap, oMod_ap, dI2, dI2c, oLt_ap, oLe_ap, oGt_ap, oGe_ap, oIsN_ap, oNotN_ap, VM.D.isNon, oIdx_l, oIdx_t, fLen, fAbs, fInt, VM.R.bind_ok, VM.R.bind_exc, VM.R.bind_stuck, Option.bind_some, Option.bind_none, ix_1_0, ix_2_0, ix_2_1, ix_3_0, ix_3_1, ix_3_2, ix_4_0, ix_4_1, ix_4_2, ix_4_3, List.map_cons, List.map_nil, List.append_nil, List.cons_append, List.nil_append, List.length_cons, List.length_nil, List.getElem?_cons_zero, List.getElem?_cons_succ, List.getElem?_nil, List.set_cons_zero, List.set_cons_succ, List.replicate_succ, List.replicate_zero, if_true, if_false, reduceIte, Nat.reduceSub, Nat.reduceAdd, Nat.reduceLeDiff, Nat.reduceEqDiff, Bool.not_true, Bool.not_false, Bool.false_eq_true, hc, hcomp, fSum, ints?_map, hsum, eqA_int]
theorem chances_at {w : Nat} {r : List Rat} (h : RowOk w r) (hw : w ≤ 4) : m_are_chances [.tup (r.map dQ), .int (w : Nat)] = .ok (.bl true) := by
  have hone := one_at h hw
  have hcomp := vComp_at (vs := [2]) (mi := iSeq (vVar 0)) (g := gSet 2) (nt := tYesB) (me := vFn 1 [] m_is_chance (aCons (vVar 2) aNil)) (ρ := [.frz (.tup (r.map dQ)), .frz (.int (w : Nat)), .none])
    dQ (fun _ => D.bl true) r (by simp only [runDef, bSeq, bNil, bRet, bRetN, bSet, bSetO, bIf, bFrz, bMix, mFrz, mOwn, mNil, setSl, bApp, bPutX, bAug, bAsg, bDrop, gTupD, gsCons, gsNil, gSet, noExc, vVar, vC, vBin, vChain, vNot, vIf, vTup, oTup, vLst, oLst, vFn, vCall, aCons, aNil, vTest, vTruth, bAnd, bOr, bNot, vFld, vMk, vIsC, vIsi, tyName, sub_tt, sub_ii, sub_ib, natc1, natc2, natc3, natc4, decide_true, decide_false, oAdd_ap, oSub_ap, oMul_ap, oDiv_ap, oMod_ap, dI2, dI2c, oLt_ap, oLe_ap, oGt_ap, oGe_ap, oIsN_ap, oNotN_ap, VM.D.isNon, oIdx_l, oIdx_t, fLen, fAbs, fInt, VM.R.bind_ok, VM.R.bind_exc, VM.R.bind_stuck, Option.bind_some, Option.bind_none, ix_1_0, ix_2_0, ix_2_1, ix_3_0, ix_3_1, ix_3_2, ix_4_0, ix_4_1, ix_4_2, ix_4_3, List.map_cons, List.map_nil, List.append_nil, List.cons_append, List.nil_append, List.length_cons, List.length_nil, List.getElem?_cons_zero, List.getElem?_cons_succ, List.getElem?_nil, List.set_cons_zero, List.set_cons_succ, List.replicate_succ, List.replicate_zero, if_true, if_false, reduceIte, Nat.reduceSub, Nat.reduceAdd, Nat.reduceLeDiff, Nat.reduceEqDiff, Bool.not_true, Bool.not_false, Bool.false_eq_true, iSeq, D.items]) (by have := h.l; omega) (fun q hq => by
      refine turn_yes (show gSet 2 _ _ = .ok _ from rfl) ?_
      simp only [wipeR]
      simp only [runDef, bSeq, bNil, bRet, bRetN, bSet, bSetO, bIf, bFrz, bMix, mFrz, mOwn, mNil, setSl, bApp, bPutX, bAug, bAsg, bDrop, gTupD, gsCons, gsNil, gSet, noExc, vVar, vC, vBin, vChain, vNot, vIf, vTup, oTup, vLst, oLst, vFn, vCall, aCons, aNil, vTest, vTruth, bAnd, bOr, bNot, vFld, vMk, vIsC, vIsi, tyName, sub_tt, sub_ii, sub_ib, natc1, natc2, natc3, natc4, decide_true, decide_false, oAdd_ap, oSub_ap, oMul_ap, oDiv_ap, oMod_ap, dI2, dI2c, oLt_ap, oLe_ap, oGt_ap, oGe_ap, oIsN_ap, oNotN_ap, VM.D.isNon, oIdx_l, oIdx_t, fLen, fAbs, fInt, VM.R.bind_ok, VM.R.bind_exc, VM.R.bind_stuck, Option.bind_some, Option.bind_none, ix_1_0, ix_2_0, ix_2_1, ix_3_0, ix_3_1, ix_3_2, ix_4_0, ix_4_1, ix_4_2, ix_4_3, List.map_cons, List.map_nil, List.append_nil, List.cons_append, List.nil_append, List.length_cons, List.length_nil, List.getElem?_cons_zero, List.getElem?_cons_succ, List.getElem?_nil, List.set_cons_zero, List.set_cons_succ, List.replicate_succ, List.replicate_zero, if_true, if_false, reduceIte, Nat.reduceSub, Nat.reduceAdd, Nat.reduceLeDiff, Nat.reduceEqDiff, Bool.not_true, Bool.not_false, Bool.false_eq_true, chance_ok (h.e q hq).1 (h.e q hq).2.1])
  have hl : ((r.map dQ).length : Int) = (w : Nat) := by rw [List.length_map, h.l]
  unfold m_are_chances b_are_chances
  simp only [runDef, bSeq, bNil, bRet, bRetN, bSet, bSetO, bIf, bFrz, bMix, mFrz, mOwn, mNil, setSl, bApp, bPutX, bAug, bAsg, bDrop, gTupD, gsCons, gsNil, gSet, noExc, vVar, vC, vBin, vChain, vNot, vIf, vTup, oTup, vLst, oLst, vFn, vCall, aCons, aNil, vTest, vTruth, bAnd, bOr, bNot, vFld, vMk, vIsC, vIsi, tyName, sub_tt, sub_ii, sub_ib, natc1, natc2, natc3, natc4, decide_true, decide_false, oAdd_ap, oSub_ap, oMul_ap, oDiv_ap, oMod_ap, dI2, dI2c, oLt_ap, oLe_ap, oGt_ap, oGe_ap, oIsN_ap, oNotN_ap, VM.D.isNon, oIdx_l, oIdx_t, fLen, fAbs, fInt, VM.R.bind_ok, VM.R.bind_exc, VM.R.bind_stuck, Option.bind_some, Option.bind_none, ix_1_0, ix_2_0, ix_2_1, ix_3_0, ix_3_1, ix_3_2, ix_4_0, ix_4_1, ix_4_2, ix_4_3, List.map_cons, List.map_nil, List.append_nil, List.cons_append, List.nil_append, List.length_cons, List.length_nil, List.getElem?_cons_zero, List.getElem?_cons_succ, List.getElem?_nil, List.set_cons_zero, List.set_cons_succ, List.replicate_succ, List.replicate_zero, if_true, if_false, reduceIte, Nat.reduceSub, Nat.reduceAdd, Nat.reduceLeDiff, Nat.reduceEqDiff, Bool.not_true, Bool.not_false, Bool.false_eq_true, hl, neA_int, vAnd, hcomp, all_true, hone]
end VM
end
section
set_option Elab.async false
set_option linter.all false
set_option maxRecDepth 100000
set_option autoImplicit false
/-! Mk6: the program's integers over a common divisor. -/
namespace VM
open PySem PySem.Spec L2
theorem row0 {M : Mat} {T : Tab} (hM : M.Ok) (h : T.Ok M) : T.T[0]? = some (T.T.getD 0 []) ∧ T.T.getD 0 [] ∈ T.T := by
  have hl : 0 < T.T.length := by rw [h.l]; have := hM.n2; omega
  refine ⟨getD_some hl, ?_⟩
  rw [List.getD_eq_getElem?_getD, List.getElem?_eq_getElem hl]
  exact List.getElem_mem _
abbrev rD (r : List Rat) : D := .tup (r.map dQ)
theorem inst_eq (M : Mat) : instD M = .ins 0 [("_parts", tI M.P), ("_gains", rowsD M.G), ("_worths", rowsD M.W)] := rfl
theorem lenO_at {M : Mat} (hM : M.Ok) {ρ : Fr0} (h : vVar 0 ρ = .ok (instD M)) : vLenO 0 m_Matterdd_lendd (vVar 0) ρ = .ok (.int (M.n : Nat)) := by
  have hm := mlen_at M
  rw [hM.lP] at hm
  have n4 := hM.n4
  unfold vLenO
  rw [h, R.bind_ok, inst_eq]
  dsimp only
  rw [if_pos rfl, ← inst_eq, hm]
  simp only [noExc, R.bind_ok]
  rw [if_pos ⟨by omega, by omega⟩]
theorem is_table_at {M : Mat} {T : Tab} (hM : M.Ok) (h : T.Ok M) : m_is_table [instD M, tabD T] = .ok (.bl true) := by
  obtain ⟨h0, hm⟩ := row0 hM h
  have w1 := h.w1
  have w4 := h.w4
  have n4 := hM.n4
  have hcomp := vComp_at (vs := [3]) (mi := iSeq (vVar 1)) (g := gSet 3) (nt := tYesB) (me := vFn 2 [] m_are_chances (aCons (vVar 3) (aCons (vVar 2) aNil))) (ρ := [.frz (instD M), .frz (.tup (T.T.map rD)), .frz (.int (T.w : Nat)), .none])
    rD (fun _ => D.bl true) T.T (by simp only [runDef, bSeq, bNil, bRet, bRetN, bSet, bSetO, bIf, bFrz, bMix, mFrz, mOwn, mNil, setSl, bApp, bPutX, bAug, bAsg, bDrop, gTupD, gsCons, gsNil, gSet, noExc, vVar, vC, vBin, vChain, vNot, vIf, vTup, oTup, vLst, oLst, vFn, vCall, aCons, aNil, vTest, vTruth, bAnd, bOr, bNot, vFld, vMk, vIsC, vIsi, tyName, sub_tt, sub_ii, sub_ib, natc1, natc2, natc3, natc4, decide_true, decide_false, oAdd_ap, oSub_ap, oMul_ap, oDiv_ap, oMod_ap, dI2, dI2c, oLt_ap, oLe_ap, oGt_ap, oGe_ap, oIsN_ap, oNotN_ap, VM.D.isNon, oIdx_l, oIdx_t, fLen, fAbs, fInt, VM.R.bind_ok, VM.R.bind_exc, VM.R.bind_stuck, Option.bind_some, Option.bind_none, ix_1_0, ix_2_0, ix_2_1, ix_3_0, ix_3_1, ix_3_2, ix_4_0, ix_4_1, ix_4_2, ix_4_3, List.map_cons, List.map_nil, List.append_nil, List.cons_append, List.nil_append, List.length_cons, List.length_nil, List.getElem?_cons_zero, List.getElem?_cons_succ, List.getElem?_nil, List.set_cons_zero, List.set_cons_succ, List.replicate_succ, List.replicate_zero, if_true, if_false, reduceIte, Nat.reduceSub, Nat.reduceAdd, Nat.reduceLeDiff, Nat.reduceEqDiff, Bool.not_true, Bool.not_false, Bool.false_eq_true, iSeq, D.items]) (by have := h.l; omega) (fun r hr => by
      refine turn_yes (show gSet 3 _ _ = .ok _ from rfl) ?_
      simp only [wipeR]
      simp only [runDef, bSeq, bNil, bRet, bRetN, bSet, bSetO, bIf, bFrz, bMix, mFrz, mOwn, mNil, setSl, bApp, bPutX, bAug, bAsg, bDrop, gTupD, gsCons, gsNil, gSet, noExc, vVar, vC, vBin, vChain, vNot, vIf, vTup, oTup, vLst, oLst, vFn, vCall, aCons, aNil, vTest, vTruth, bAnd, bOr, bNot, vFld, vMk, vIsC, vIsi, tyName, sub_tt, sub_ii, sub_ib, natc1, natc2, natc3, natc4, decide_true, decide_false, oAdd_ap, oSub_ap, oMul_ap, oDiv_ap, oMod_ap, dI2, dI2c, oLt_ap, oLe_ap, oGt_ap, oGe_ap, oIsN_ap, oNotN_ap, VM.D.isNon, oIdx_l, oIdx_t, fLen, fAbs, fInt, VM.R.bind_ok, VM.R.bind_exc, VM.R.bind_stuck, Option.bind_some, Option.bind_none, ix_1_0, ix_2_0, ix_2_1, ix_3_0, ix_3_1, ix_3_2, ix_4_0, ix_4_1, ix_4_2, ix_4_3, List.map_cons, List.map_nil, List.append_nil, List.cons_append, List.nil_append, List.length_cons, List.length_nil, List.getElem?_cons_zero, List.getElem?_cons_succ, List.getElem?_nil, List.set_cons_zero, List.set_cons_succ, List.replicate_succ, List.replicate_zero, if_true, if_false, reduceIte, Nat.reduceSub, Nat.reduceAdd, Nat.reduceLeDiff, Nat.reduceEqDiff, Bool.not_true, Bool.not_false, Bool.false_eq_true, chances_at (h.row hr) w4])
  have hl : ((T.T.map rD).length : Int) = (M.n : Nat) := by rw [List.length_map, h.l]
  have hl2 : (((T.T.getD 0 []).map dQ).length : Int) = (T.w : Nat) := by rw [List.length_map, (h.row hm).l]
  have hO := fun (z1 z2 z3 : Slot) => lenO_at hM (ρ := [.frz (instD M), z1, z2, z3]) rfl
  have c1 : decide ((1 : Int) ≤ (T.w : Nat)) = true := decide_eq_true (by omega)
  have c2 : decide (((T.w : Nat) : Int) ≤ 4) = true := decide_eq_true (by omega)
  unfold m_is_table b_is_table
  have eT : tabD T = .tup (T.T.map rD) := rfl
  rw [eT]
  simp only [runDef, bSeq, bNil, bRet, bRetN, bSet, bSetO, bIf, bFrz, bMix, mFrz, mOwn, mNil, setSl, bApp, bPutX, bAug, bAsg, bDrop, gTupD, gsCons, gsNil, gSet, noExc, vVar, vC, vBin, vChain, vNot, vIf, vTup, oTup, vLst, oLst, vFn, vCall, aCons, aNil, vTest, vTruth, bAnd, bOr, bNot, vFld, vMk, vIsC, vIsi, tyName, sub_tt, sub_ii, sub_ib, natc1, natc2, natc3, natc4, decide_true, decide_false, oAdd_ap, oSub_ap, oMul_ap, oDiv_ap, oMod_ap, dI2, dI2c, oLt_ap, oLe_ap, oGt_ap, oGe_ap, oIsN_ap, oNotN_ap, VM.D.isNon, oIdx_l, oIdx_t, fLen, fAbs, fInt, VM.R.bind_ok, VM.R.bind_exc, VM.R.bind_stuck, Option.bind_some, Option.bind_none, ix_1_0, ix_2_0, ix_2_1, ix_3_0, ix_3_1, ix_3_2, ix_4_0, ix_4_1, ix_4_2, ix_4_3, List.map_cons, List.map_nil, List.append_nil, List.cons_append, List.nil_append, List.length_cons, List.length_nil, List.getElem?_cons_zero, List.getElem?_cons_succ, List.getElem?_nil, List.set_cons_zero, List.set_cons_succ, List.replicate_succ, List.replicate_zero, if_true, if_false, reduceIte, Nat.reduceSub, Nat.reduceAdd, Nat.reduceLeDiff, Nat.reduceEqDiff, Bool.not_true, Bool.not_false, Bool.false_eq_true, hl, hO, neA_int, idx0 rD h0, vAnd]
  simp only [runDef, bSeq, bNil, bRet, bRetN, bSet, bSetO, bIf, bFrz, bMix, mFrz, mOwn, mNil, setSl, bApp, bPutX, bAug, bAsg, bDrop, gTupD, gsCons, gsNil, gSet, noExc, vVar, vC, vBin, vChain, vNot, vIf, vTup, oTup, vLst, oLst, vFn, vCall, aCons, aNil, vTest, vTruth, bAnd, bOr, bNot, vFld, vMk, vIsC, vIsi, tyName, sub_tt, sub_ii, sub_ib, natc1, natc2, natc3, natc4, decide_true, decide_false, oAdd_ap, oSub_ap, oMul_ap, oDiv_ap, oMod_ap, dI2, dI2c, oLt_ap, oLe_ap, oGt_ap, oGe_ap, oIsN_ap, oNotN_ap, VM.D.isNon, oIdx_l, oIdx_t, fLen, fAbs, fInt, VM.R.bind_ok, VM.R.bind_exc, VM.R.bind_stuck, Option.bind_some, Option.bind_none, ix_1_0, ix_2_0, ix_2_1, ix_3_0, ix_3_1, ix_3_2, ix_4_0, ix_4_1, ix_4_2, ix_4_3, List.map_cons, List.map_nil, List.append_nil, List.cons_append, List.nil_append, List.length_cons, List.length_nil, List.getElem?_cons_zero, List.getElem?_cons_succ, List.getElem?_nil, List.set_cons_zero, List.set_cons_succ, List.replicate_succ, List.replicate_zero, if_true, if_false, reduceIte, Nat.reduceSub, Nat.reduceAdd, Nat.reduceLeDiff, Nat.reduceEqDiff, Bool.not_true, Bool.not_false, Bool.false_eq_true, hl2, c1, c2, hcomp, all_true]
theorem check_matter_at (M : Mat) : m_check_matter [instD M] = .ok .non := by rfl
theorem check_at {M : Mat} {T : Tab} (hM : M.Ok) (h : T.Ok M) : m_check_table [instD M, tabD T] = .ok .non := by
  unfold m_check_table b_check_table
  simp only [runDef, bSeq, bNil, bRet, bRetN, bSet, bSetO, bIf, bFrz, bMix, mFrz, mOwn, mNil, setSl, bApp, bPutX, bAug, bAsg, bDrop, gTupD, gsCons, gsNil, gSet, noExc, vVar, vC, vBin, vChain, vNot, vIf, vTup, oTup, vLst, oLst, vFn, vCall, aCons, aNil, vTest, vTruth, bAnd, bOr, bNot, vFld, vMk, vIsC, vIsi, tyName, sub_tt, sub_ii, sub_ib, natc1, natc2, natc3, natc4, decide_true, decide_false, oAdd_ap, oSub_ap, oMul_ap, oDiv_ap, oMod_ap, dI2, dI2c, oLt_ap, oLe_ap, oGt_ap, oGe_ap, oIsN_ap, oNotN_ap, VM.D.isNon, oIdx_l, oIdx_t, fLen, fAbs, fInt, VM.R.bind_ok, VM.R.bind_exc, VM.R.bind_stuck, Option.bind_some, Option.bind_none, ix_1_0, ix_2_0, ix_2_1, ix_3_0, ix_3_1, ix_3_2, ix_4_0, ix_4_1, ix_4_2, ix_4_3, List.map_cons, List.map_nil, List.append_nil, List.cons_append, List.nil_append, List.length_cons, List.length_nil, List.getElem?_cons_zero, List.getElem?_cons_succ, List.getElem?_nil, List.set_cons_zero, List.set_cons_succ, List.replicate_succ, List.replicate_zero, if_true, if_false, reduceIte, Nat.reduceSub, Nat.reduceAdd, Nat.reduceLeDiff, Nat.reduceEqDiff, Bool.not_true, Bool.not_false, Bool.false_eq_true, check_matter_at, is_table_at hM h]
/-! ### chances together -/
def flat (T : Tab) : List Rat := T.T.flatMap fun r => r
def comm (T : Tab) : Nat := commonU (flat T)
theorem flat_len : ∀ (l : List (List Rat)) (w : Nat), (∀ r ∈ l, r.length = w) → (l.flatMap fun r => r).length = l.length * w
  | [], w, _ => by simp
  | r :: l, w, h => by
    rw [List.flatMap_cons, List.length_append, flat_len l w fun x hx => h x (List.mem_cons_of_mem _ hx), h r List.mem_cons_self, List.length_cons, Nat.add_mul]
    omega
theorem flat_mem {T : Tab} {q : Rat} (h : q ∈ flat T) : ∃ r ∈ T.T, q ∈ r := by
  obtain ⟨r, hr, hq⟩ := List.mem_flatMap.mp h
  exact ⟨r, hr, hq⟩
theorem flat_den {M : Mat} {T : Tab} (h : T.Ok M) : ∀ q ∈ flat T, q.den ≤ 12 := fun q hq => by
  obtain ⟨r, hr, hq⟩ := flat_mem hq
  exact ((h.row hr).e q hq).2.2
theorem comm_le {M : Mat} {T : Tab} (h : T.Ok M) : comm T ≤ 27720 := C_small (flat_den h)
theorem comm_dvd {T : Tab} {r : List Rat} (hr : r ∈ T.T) {q : Rat} (hq : q ∈ r) : q.den ∣ comm T := (commonU_dvd (flat T) 1).2 q (List.mem_flatMap.mpr ⟨r, hr, hq⟩)
theorem comm_pos (T : Tab) {M : Mat} (h : T.Ok M) : 0 < comm T := by
  have : comm T ∣ 27720 := commonU_small (flat T) (flat_den h) 1 (by decide)
  exact Nat.pos_of_dvd_of_pos this (by decide)
/-- the chances of each case together with the word j, times the divisor -/
def jn (M : Mat) (T : Tab) (j : Nat) : List Int := (M.P.zip T.T).map fun p => p.1 * sc (p.2.getD j 0) (comm T)
def dv (M : Mat) (T : Tab) : Int := M.P.sum * (comm T : Int)
def lI (l : List Int) : D := .lst (l.map D.int)
theorem prop_at {M : Mat} {g : List D → R D} {x : D} {ρ : Fr0} (hg : g [instD M] = .ok x) (h : vVar 0 ρ = .ok (instD M)) : vProp 0 g (vVar 0) ρ = .ok x := by
  unfold vProp
  rw [h, R.bind_ok, inst_eq]
  dsimp only
  rw [if_pos rfl, ← inst_eq, hg]
  rfl
theorem sc_bits {q : Rat} {C : Nat} (h1 : q.num.natAbs < 16) (hC : C ≤ 27720) : (sc q C).natAbs < 2 ^ 19 := by
  have : ((C : Int) / (q.den : Int)).natAbs < 2 ^ 15 := by
    have e : (C : Int) / (q.den : Int) = ((C / q.den : Nat) : Int) := by simp
    rw [e, Int.natAbs_natCast]
    have := Nat.div_le_self C q.den
    omega
  exact mul_bits (i := 4) (j := 15) h1 this
theorem joint_at {M : Mat} {T : Tab} (hM : M.Ok) (h : T.Ok M) : m__joint_chances [instD M, tabD T] = .ok (.tup [.int (dv M T), .lst ((List.range T.w).map fun j => lI (jn M T j))]) := by
  obtain ⟨h0, hm⟩ := row0 hM h
  have w1 := h.w1
  have w4 := h.w4
  have n4 := hM.n4
  have hl := h.l
  have hC := comm_le h
  have lz : (M.P.zip T.T).length ≤ 4 := by rw [List.length_zip]; omega
  have hz : ∀ p ∈ M.P.zip T.T, p.1 ∈ M.P ∧ p.2 ∈ T.T := fun p hp => ⟨(List.of_mem_zip hp).1, (List.of_mem_zip hp).2⟩
  have c1 := vComp2_at (vs := [2, 3]) (vs1 := [3]) (mi := iSeq (vVar 1)) (g := gSet 2) (nt := tYesB) (mi1 := iSeq (vVar 2)) (g1 := gSet 3) (nt1 := tYesB) (me := vVar 3) (ρ := [.frz (instD M), .frz (.tup (T.T.map rD)), .none, .none, .none, .none, .none, .none, .none])
    rD (fun r => r) dQ T.T (by simp only [runDef, bSeq, bNil, bRet, bRetN, bSet, bSetO, bIf, bFrz, bMix, mFrz, mOwn, mNil, setSl, bApp, bPutX, bAug, bAsg, bDrop, gTupD, gsCons, gsNil, gSet, noExc, vVar, vC, vBin, vChain, vNot, vIf, vTup, oTup, vLst, oLst, vFn, vCall, aCons, aNil, vTest, vTruth, bAnd, bOr, bNot, vFld, vMk, vIsC, vIsi, tyName, sub_tt, sub_ii, sub_ib, natc1, natc2, natc3, natc4, decide_true, decide_false, oAdd_ap, oSub_ap, oMul_ap, oDiv_ap, oMod_ap, dI2, dI2c, oLt_ap, oLe_ap, oGt_ap, oGe_ap, oIsN_ap, oNotN_ap, VM.D.isNon, oIdx_l, oIdx_t, fLen, fAbs, fInt, VM.R.bind_ok, VM.R.bind_exc, VM.R.bind_stuck, Option.bind_some, Option.bind_none, ix_1_0, ix_2_0, ix_2_1, ix_3_0, ix_3_1, ix_3_2, ix_4_0, ix_4_1, ix_4_2, ix_4_3, List.map_cons, List.map_nil, List.append_nil, List.cons_append, List.nil_append, List.length_cons, List.length_nil, List.getElem?_cons_zero, List.getElem?_cons_succ, List.getElem?_nil, List.set_cons_zero, List.set_cons_succ, List.replicate_succ, List.replicate_zero, if_true, if_false, reduceIte, Nat.reduceSub, Nat.reduceAdd, Nat.reduceLeDiff, Nat.reduceEqDiff, Bool.not_true, Bool.not_false, Bool.false_eq_true, iSeq, D.items]) (by rw [flat_len T.T T.w fun r hr => (h.row hr).l]; have : T.T.length * T.w ≤ 4 * 4 := Nat.mul_le_mul (by omega) w4; omega) (fun r hr => by
      refine turn2_yes (es := r.map dQ) (show gSet 2 _ _ = .ok _ from rfl) rfl (by simp only [runDef, bSeq, bNil, bRet, bRetN, bSet, bSetO, bIf, bFrz, bMix, mFrz, mOwn, mNil, setSl, bApp, bPutX, bAug, bAsg, bDrop, gTupD, gsCons, gsNil, gSet, noExc, vVar, vC, vBin, vChain, vNot, vIf, vTup, oTup, vLst, oLst, vFn, vCall, aCons, aNil, vTest, vTruth, bAnd, bOr, bNot, vFld, vMk, vIsC, vIsi, tyName, sub_tt, sub_ii, sub_ib, natc1, natc2, natc3, natc4, decide_true, decide_false, oAdd_ap, oSub_ap, oMul_ap, oDiv_ap, oMod_ap, dI2, dI2c, oLt_ap, oLe_ap, oGt_ap, oGe_ap, oIsN_ap, oNotN_ap, VM.D.isNon, oIdx_l, oIdx_t, fLen, fAbs, fInt, VM.R.bind_ok, VM.R.bind_exc, VM.R.bind_stuck, Option.bind_some, Option.bind_none, ix_1_0, ix_2_0, ix_2_1, ix_3_0, ix_3_1, ix_3_2, ix_4_0, ix_4_1, ix_4_2, ix_4_3, List.map_cons, List.map_nil, List.append_nil, List.cons_append, List.nil_append, List.length_cons, List.length_nil, List.getElem?_cons_zero, List.getElem?_cons_succ, List.getElem?_nil, List.set_cons_zero, List.set_cons_succ, List.replicate_succ, List.replicate_zero, if_true, if_false, reduceIte, Nat.reduceSub, Nat.reduceAdd, Nat.reduceLeDiff, Nat.reduceEqDiff, Bool.not_true, Bool.not_false, Bool.false_eq_true, iSeq, D.items, wipeR]) (compL_map dQ dQ r fun q hq => turn_yes (show gSet 3 _ _ = .ok _ from rfl) ?_)
      simp only [wipeR]
      simp only [runDef, bSeq, bNil, bRet, bRetN, bSet, bSetO, bIf, bFrz, bMix, mFrz, mOwn, mNil, setSl, bApp, bPutX, bAug, bAsg, bDrop, gTupD, gsCons, gsNil, gSet, noExc, vVar, vC, vBin, vChain, vNot, vIf, vTup, oTup, vLst, oLst, vFn, vCall, aCons, aNil, vTest, vTruth, bAnd, bOr, bNot, vFld, vMk, vIsC, vIsi, tyName, sub_tt, sub_ii, sub_ib, natc1, natc2, natc3, natc4, decide_true, decide_false, oAdd_ap, oSub_ap, oMul_ap, oDiv_ap, oMod_ap, dI2, dI2c, oLt_ap, oLe_ap, oGt_ap, oGe_ap, oIsN_ap, oNotN_ap, VM.D.isNon, oIdx_l, oIdx_t, fLen, fAbs, fInt, VM.R.bind_ok, VM.R.bind_exc, VM.R.bind_stuck, Option.bind_some, Option.bind_none, ix_1_0, ix_2_0, ix_2_1, ix_3_0, ix_3_1, ix_3_2, ix_4_0, ix_4_1, ix_4_2, ix_4_3, List.map_cons, List.map_nil, List.append_nil, List.cons_append, List.nil_append, List.length_cons, List.length_nil, List.getElem?_cons_zero, List.getElem?_cons_succ, List.getElem?_nil, List.set_cons_zero, List.set_cons_succ, List.replicate_succ, List.replicate_zero, if_true, if_false, reduceIte, Nat.reduceSub, Nat.reduceAdd, Nat.reduceLeDiff, Nat.reduceEqDiff, Bool.not_true, Bool.not_false, Bool.false_eq_true])
  have hcu : m_common_under [.lst ((flat T).map dQ)] = .ok (.int (comm T : Nat)) := common_at (flat_den h) rfl
  have c2 := vComp_at (vs := [5, 2]) (mi := iZip (aCons (vProp 0 m_Matter_parts (vVar 0)) (aCons (vVar 1) aNil))) (g := gTupD 2 (gsCons (gSet 5) (gsCons (gSet 2) gsNil))) (nt := tYesB)
    (me := vComp [3] (iSeq (vVar 2)) (gSet 3) tYesB (vBin oMul (vVar 5) (vFn 2 [] m_scaled (aCons (vVar 3) (aCons (vVar 4) aNil)))))
    (ρ := [.frz (instD M), .frz (.tup (T.T.map rD)), .none, .none, .frz (.int (comm T : Nat)), .none, .none, .none, .none])
    (fun p : Int × List Rat => D.tup [.int p.1, rD p.2]) (fun p => lI (p.2.map fun q => p.1 * sc q (comm T))) (M.P.zip T.T)
    (by
      simp only [runDef, bSeq, bNil, bRet, bRetN, bSet, bSetO, bIf, bFrz, bMix, mFrz, mOwn, mNil, setSl, bApp, bPutX, bAug, bAsg, bDrop, gTupD, gsCons, gsNil, gSet, noExc, vVar, vC, vBin, vChain, vNot, vIf, vTup, oTup, vLst, oLst, vFn, vCall, aCons, aNil, vTest, vTruth, bAnd, bOr, bNot, vFld, vMk, vIsC, vIsi, tyName, sub_tt, sub_ii, sub_ib, natc1, natc2, natc3, natc4, decide_true, decide_false, oAdd_ap, oSub_ap, oMul_ap, oDiv_ap, oMod_ap, dI2, dI2c, oLt_ap, oLe_ap, oGt_ap, oGe_ap, oIsN_ap, oNotN_ap, VM.D.isNon, oIdx_l, oIdx_t, fLen, fAbs, fInt, VM.R.bind_ok, VM.R.bind_exc, VM.R.bind_stuck, Option.bind_some, Option.bind_none, ix_1_0, ix_2_0, ix_2_1, ix_3_0, ix_3_1, ix_3_2, ix_4_0, ix_4_1, ix_4_2, ix_4_3, List.map_cons, List.map_nil, List.append_nil, List.cons_append, List.nil_append, List.length_cons, List.length_nil, List.getElem?_cons_zero, List.getElem?_cons_succ, List.getElem?_nil, List.set_cons_zero, List.set_cons_succ, List.replicate_succ, List.replicate_zero, if_true, if_false, reduceIte, Nat.reduceSub, Nat.reduceAdd, Nat.reduceLeDiff, Nat.reduceEqDiff, Bool.not_true, Bool.not_false, Bool.false_eq_true, iZip, prop_at (parts_at M) (ρ := [.frz (instD M), .frz (.tup (T.T.map rD)), .none, .none, .frz (.int (comm T : Nat)), .none, .none, .none, .none]) rfl]
      unfold tI
      simp only [runDef, bSeq, bNil, bRet, bRetN, bSet, bSetO, bIf, bFrz, bMix, mFrz, mOwn, mNil, setSl, bApp, bPutX, bAug, bAsg, bDrop, gTupD, gsCons, gsNil, gSet, noExc, vVar, vC, vBin, vChain, vNot, vIf, vTup, oTup, vLst, oLst, vFn, vCall, aCons, aNil, vTest, vTruth, bAnd, bOr, bNot, vFld, vMk, vIsC, vIsi, tyName, sub_tt, sub_ii, sub_ib, natc1, natc2, natc3, natc4, decide_true, decide_false, oAdd_ap, oSub_ap, oMul_ap, oDiv_ap, oMod_ap, dI2, dI2c, oLt_ap, oLe_ap, oGt_ap, oGe_ap, oIsN_ap, oNotN_ap, VM.D.isNon, oIdx_l, oIdx_t, fLen, fAbs, fInt, VM.R.bind_ok, VM.R.bind_exc, VM.R.bind_stuck, Option.bind_some, Option.bind_none, ix_1_0, ix_2_0, ix_2_1, ix_3_0, ix_3_1, ix_3_2, ix_4_0, ix_4_1, ix_4_2, ix_4_3, List.map_cons, List.map_nil, List.append_nil, List.cons_append, List.nil_append, List.length_cons, List.length_nil, List.getElem?_cons_zero, List.getElem?_cons_succ, List.getElem?_nil, List.set_cons_zero, List.set_cons_succ, List.replicate_succ, List.replicate_zero, if_true, if_false, reduceIte, Nat.reduceSub, Nat.reduceAdd, Nat.reduceLeDiff, Nat.reduceEqDiff, Bool.not_true, Bool.not_false, Bool.false_eq_true, D.items]
      rw [zipD_map])
    (by omega)
    (fun p hp => by
      obtain ⟨h1, h2⟩ := hz p hp
      have hp6 := hM.P1 _ h1
      have hr := h.row h2
      refine turn_yes tgt2 ?_
      simp only [wipeR]
      rw [vComp_at dQ (fun q => D.int (p.1 * sc q (comm T))) p.2 (by simp only [runDef, bSeq, bNil, bRet, bRetN, bSet, bSetO, bIf, bFrz, bMix, mFrz, mOwn, mNil, setSl, bApp, bPutX, bAug, bAsg, bDrop, gTupD, gsCons, gsNil, gSet, noExc, vVar, vC, vBin, vChain, vNot, vIf, vTup, oTup, vLst, oLst, vFn, vCall, aCons, aNil, vTest, vTruth, bAnd, bOr, bNot, vFld, vMk, vIsC, vIsi, tyName, sub_tt, sub_ii, sub_ib, natc1, natc2, natc3, natc4, decide_true, decide_false, oAdd_ap, oSub_ap, oMul_ap, oDiv_ap, oMod_ap, dI2, dI2c, oLt_ap, oLe_ap, oGt_ap, oGe_ap, oIsN_ap, oNotN_ap, VM.D.isNon, oIdx_l, oIdx_t, fLen, fAbs, fInt, VM.R.bind_ok, VM.R.bind_exc, VM.R.bind_stuck, Option.bind_some, Option.bind_none, ix_1_0, ix_2_0, ix_2_1, ix_3_0, ix_3_1, ix_3_2, ix_4_0, ix_4_1, ix_4_2, ix_4_3, List.map_cons, List.map_nil, List.append_nil, List.cons_append, List.nil_append, List.length_cons, List.length_nil, List.getElem?_cons_zero, List.getElem?_cons_succ, List.getElem?_nil, List.set_cons_zero, List.set_cons_succ, List.replicate_succ, List.replicate_zero, if_true, if_false, reduceIte, Nat.reduceSub, Nat.reduceAdd, Nat.reduceLeDiff, Nat.reduceEqDiff, Bool.not_true, Bool.not_false, Bool.false_eq_true, iSeq, D.items]) (by have := hr.l; omega) (fun q hq => by
        refine turn_yes (show gSet 3 _ _ = .ok _ from rfl) ?_
        have hq16 := hr.num hq
        simp only [wipeR]
        simp only [runDef, bSeq, bNil, bRet, bRetN, bSet, bSetO, bIf, bFrz, bMix, mFrz, mOwn, mNil, setSl, bApp, bPutX, bAug, bAsg, bDrop, gTupD, gsCons, gsNil, gSet, noExc, vVar, vC, vBin, vChain, vNot, vIf, vTup, oTup, vLst, oLst, vFn, vCall, aCons, aNil, vTest, vTruth, bAnd, bOr, bNot, vFld, vMk, vIsC, vIsi, tyName, sub_tt, sub_ii, sub_ib, natc1, natc2, natc3, natc4, decide_true, decide_false, oAdd_ap, oSub_ap, oMul_ap, oDiv_ap, oMod_ap, dI2, dI2c, oLt_ap, oLe_ap, oGt_ap, oGe_ap, oIsN_ap, oNotN_ap, VM.D.isNon, oIdx_l, oIdx_t, fLen, fAbs, fInt, VM.R.bind_ok, VM.R.bind_exc, VM.R.bind_stuck, Option.bind_some, Option.bind_none, ix_1_0, ix_2_0, ix_2_1, ix_3_0, ix_3_1, ix_3_2, ix_4_0, ix_4_1, ix_4_2, ix_4_3, List.map_cons, List.map_nil, List.append_nil, List.cons_append, List.nil_append, List.length_cons, List.length_nil, List.getElem?_cons_zero, List.getElem?_cons_succ, List.getElem?_nil, List.set_cons_zero, List.set_cons_succ, List.replicate_succ, List.replicate_zero, if_true, if_false, reduceIte, Nat.reduceSub, Nat.reduceAdd, Nat.reduceLeDiff, Nat.reduceEqDiff, Bool.not_true, Bool.not_false, Bool.false_eq_true, scaled_at hq16 (hr.e q hq).2.2 hC, fits (i := 3) (j := 19) (show p.1.natAbs < 2 ^ 3 by omega) (sc_bits hq16 hC) (by decide) (by decide)])]
      unfold lI
      rw [List.map_map]
      rfl)
  have c3 := vComp_at (vs := [7]) (mi := iRange1 (aCons (vCall fLen (aCons (vBin oIdx (vVar 1) (vC (.int 0))) aNil)) aNil)) (g := gSet 7) (nt := tYesB) (me := vComp [2] (iSeq (vVar 6)) (gSet 2) tYesB (vBin oIdx (vVar 2) (vVar 7)))
    (ρ := [.frz (instD M), .frz (.tup (T.T.map rD)), .none, .none, .frz (.int (comm T : Nat)), .none, .frz (.lst ((M.P.zip T.T).map fun p => lI (p.2.map fun q => p.1 * sc q (comm T)))), .none, .none])
    (fun j : Nat => D.int (j : Nat)) (fun j => lI (jn M T j)) (List.range T.w)
    (by
      have hl2 : (((T.T.getD 0 []).map dQ).length : Int) = (T.w : Nat) := by rw [List.length_map, (h.row hm).l]
      have hr : rangeOk (T.w : Nat) = true := by
        unfold rangeOk
        simp only [Bool.and_eq_true, decide_eq_true_eq]
        omega
      simp only [runDef, bSeq, bNil, bRet, bRetN, bSet, bSetO, bIf, bFrz, bMix, mFrz, mOwn, mNil, setSl, bApp, bPutX, bAug, bAsg, bDrop, gTupD, gsCons, gsNil, gSet, noExc, vVar, vC, vBin, vChain, vNot, vIf, vTup, oTup, vLst, oLst, vFn, vCall, aCons, aNil, vTest, vTruth, bAnd, bOr, bNot, vFld, vMk, vIsC, vIsi, tyName, sub_tt, sub_ii, sub_ib, natc1, natc2, natc3, natc4, decide_true, decide_false, oAdd_ap, oSub_ap, oMul_ap, oDiv_ap, oMod_ap, dI2, dI2c, oLt_ap, oLe_ap, oGt_ap, oGe_ap, oIsN_ap, oNotN_ap, VM.D.isNon, oIdx_l, oIdx_t, fLen, fAbs, fInt, VM.R.bind_ok, VM.R.bind_exc, VM.R.bind_stuck, Option.bind_some, Option.bind_none, ix_1_0, ix_2_0, ix_2_1, ix_3_0, ix_3_1, ix_3_2, ix_4_0, ix_4_1, ix_4_2, ix_4_3, List.map_cons, List.map_nil, List.append_nil, List.cons_append, List.nil_append, List.length_cons, List.length_nil, List.getElem?_cons_zero, List.getElem?_cons_succ, List.getElem?_nil, List.set_cons_zero, List.set_cons_succ, List.replicate_succ, List.replicate_zero, if_true, if_false, reduceIte, Nat.reduceSub, Nat.reduceAdd, Nat.reduceLeDiff, Nat.reduceEqDiff, Bool.not_true, Bool.not_false, Bool.false_eq_true, iRange1, idx0 rD h0, hl2, hr, Int.toNat_natCast, rangeD_map])
    (by rw [List.length_range]; omega)
    (fun j hj => by
      have hj' : j < T.w := List.mem_range.mp hj
      refine turn_yes (show gSet 7 _ _ = .ok _ from rfl) ?_
      simp only [wipeR]
      rw [vComp_at (fun p : Int × List Rat => lI (p.2.map fun q => p.1 * sc q (comm T))) (fun p => D.int (p.1 * sc (p.2.getD j 0) (comm T))) (M.P.zip T.T) (by simp only [runDef, bSeq, bNil, bRet, bRetN, bSet, bSetO, bIf, bFrz, bMix, mFrz, mOwn, mNil, setSl, bApp, bPutX, bAug, bAsg, bDrop, gTupD, gsCons, gsNil, gSet, noExc, vVar, vC, vBin, vChain, vNot, vIf, vTup, oTup, vLst, oLst, vFn, vCall, aCons, aNil, vTest, vTruth, bAnd, bOr, bNot, vFld, vMk, vIsC, vIsi, tyName, sub_tt, sub_ii, sub_ib, natc1, natc2, natc3, natc4, decide_true, decide_false, oAdd_ap, oSub_ap, oMul_ap, oDiv_ap, oMod_ap, dI2, dI2c, oLt_ap, oLe_ap, oGt_ap, oGe_ap, oIsN_ap, oNotN_ap, VM.D.isNon, oIdx_l, oIdx_t, fLen, fAbs, fInt, VM.R.bind_ok, VM.R.bind_exc, VM.R.bind_stuck, Option.bind_some, Option.bind_none, ix_1_0, ix_2_0, ix_2_1, ix_3_0, ix_3_1, ix_3_2, ix_4_0, ix_4_1, ix_4_2, ix_4_3, List.map_cons, List.map_nil, List.append_nil, List.cons_append, List.nil_append, List.length_cons, List.length_nil, List.getElem?_cons_zero, List.getElem?_cons_succ, List.getElem?_nil, List.set_cons_zero, List.set_cons_succ, List.replicate_succ, List.replicate_zero, if_true, if_false, reduceIte, Nat.reduceSub, Nat.reduceAdd, Nat.reduceLeDiff, Nat.reduceEqDiff, Bool.not_true, Bool.not_false, Bool.false_eq_true, iSeq, D.items]) (by omega) (fun p hp => by
        obtain ⟨h1, h2⟩ := hz p hp
        have he := (h.el h2 hj').1
        have he2 : (p.2.map fun q => p.1 * sc q (comm T))[j]? = some (p.1 * sc (p.2.getD j 0) (comm T)) := by rw [List.getElem?_map, he]; rfl
        refine turn_yes (show gSet 2 _ _ = .ok _ from rfl) ?_
        simp only [wipeR]
        unfold lI
        simp only [runDef, bSeq, bNil, bRet, bRetN, bSet, bSetO, bIf, bFrz, bMix, mFrz, mOwn, mNil, setSl, bApp, bPutX, bAug, bAsg, bDrop, gTupD, gsCons, gsNil, gSet, noExc, vVar, vC, vBin, vChain, vNot, vIf, vTup, oTup, vLst, oLst, vFn, vCall, aCons, aNil, vTest, vTruth, bAnd, bOr, bNot, vFld, vMk, vIsC, vIsi, tyName, sub_tt, sub_ii, sub_ib, natc1, natc2, natc3, natc4, decide_true, decide_false, oAdd_ap, oSub_ap, oMul_ap, oDiv_ap, oMod_ap, dI2, dI2c, oLt_ap, oLe_ap, oGt_ap, oGe_ap, oIsN_ap, oNotN_ap, VM.D.isNon, oIdx_l, oIdx_t, fLen, fAbs, fInt, VM.R.bind_ok, VM.R.bind_exc, VM.R.bind_stuck, Option.bind_some, Option.bind_none, ix_1_0, ix_2_0, ix_2_1, ix_3_0, ix_3_1, ix_3_2, ix_4_0, ix_4_1, ix_4_2, ix_4_3, List.map_cons, List.map_nil, List.append_nil, List.cons_append, List.nil_append, List.length_cons, List.length_nil, List.getElem?_cons_zero, List.getElem?_cons_succ, List.getElem?_nil, List.set_cons_zero, List.set_cons_succ, List.replicate_succ, List.replicate_zero, if_true, if_false, reduceIte, Nat.reduceSub, Nat.reduceAdd, Nat.reduceLeDiff, Nat.reduceEqDiff, Bool.not_true, Bool.not_false, Bool.false_eq_true, idx_map D.int he2])]
      unfold lI jn
      rw [List.map_map]
      rfl)
  have hs := hM.sp
  have eT : tabD T = .tup (T.T.map rD) := rfl
  have eF : (T.T.flatMap fun r => r) = flat T := rfl
  rw [eF] at c1
  unfold m__joint_chances b__joint_chances
  rw [eT]
  simp only [runDef, bSeq, bNil, bRet, bRetN, bSet, bSetO, bIf, bFrz, bMix, mFrz, mOwn, mNil, setSl, bApp, bPutX, bAug, bAsg, bDrop, gTupD, gsCons, gsNil, gSet, noExc, vVar, vC, vBin, vChain, vNot, vIf, vTup, oTup, vLst, oLst, vFn, vCall, aCons, aNil, vTest, vTruth, bAnd, bOr, bNot, vFld, vMk, vIsC, vIsi, tyName, sub_tt, sub_ii, sub_ib, natc1, natc2, natc3, natc4, decide_true, decide_false, oAdd_ap, oSub_ap, oMul_ap, oDiv_ap, oMod_ap, dI2, dI2c, oLt_ap, oLe_ap, oGt_ap, oGe_ap, oIsN_ap, oNotN_ap, VM.D.isNon, oIdx_l, oIdx_t, fLen, fAbs, fInt, VM.R.bind_ok, VM.R.bind_exc, VM.R.bind_stuck, Option.bind_some, Option.bind_none, ix_1_0, ix_2_0, ix_2_1, ix_3_0, ix_3_1, ix_3_2, ix_4_0, ix_4_1, ix_4_2, ix_4_3, List.map_cons, List.map_nil, List.append_nil, List.cons_append, List.nil_append, List.length_cons, List.length_nil, List.getElem?_cons_zero, List.getElem?_cons_succ, List.getElem?_nil, List.set_cons_zero, List.set_cons_succ, List.replicate_succ, List.replicate_zero, if_true, if_false, reduceIte, Nat.reduceSub, Nat.reduceAdd, Nat.reduceLeDiff, Nat.reduceEqDiff, Bool.not_true, Bool.not_false, Bool.false_eq_true, c1, hcu, c2, c3, prop_at (parts_at M) (ρ := [.frz (instD M), .frz (.tup (T.T.map rD)), .none, .none, .frz (.int (comm T : Nat)), .none, .frz (.lst ((M.P.zip T.T).map fun p => lI (p.2.map fun q => p.1 * sc q (comm T)))), .none, .frz (.lst ((List.range T.w).map fun j => lI (jn M T j)))]) rfl]
  unfold tI
  simp only [runDef, bSeq, bNil, bRet, bRetN, bSet, bSetO, bIf, bFrz, bMix, mFrz, mOwn, mNil, setSl, bApp, bPutX, bAug, bAsg, bDrop, gTupD, gsCons, gsNil, gSet, noExc, vVar, vC, vBin, vChain, vNot, vIf, vTup, oTup, vLst, oLst, vFn, vCall, aCons, aNil, vTest, vTruth, bAnd, bOr, bNot, vFld, vMk, vIsC, vIsi, tyName, sub_tt, sub_ii, sub_ib, natc1, natc2, natc3, natc4, decide_true, decide_false, oAdd_ap, oSub_ap, oMul_ap, oDiv_ap, oMod_ap, dI2, dI2c, oLt_ap, oLe_ap, oGt_ap, oGe_ap, oIsN_ap, oNotN_ap, VM.D.isNon, oIdx_l, oIdx_t, fLen, fAbs, fInt, VM.R.bind_ok, VM.R.bind_exc, VM.R.bind_stuck, Option.bind_some, Option.bind_none, ix_1_0, ix_2_0, ix_2_1, ix_3_0, ix_3_1, ix_3_2, ix_4_0, ix_4_1, ix_4_2, ix_4_3, List.map_cons, List.map_nil, List.append_nil, List.cons_append, List.nil_append, List.length_cons, List.length_nil, List.getElem?_cons_zero, List.getElem?_cons_succ, List.getElem?_nil, List.set_cons_zero, List.set_cons_succ, List.replicate_succ, List.replicate_zero, if_true, if_false, reduceIte, Nat.reduceSub, Nat.reduceAdd, Nat.reduceLeDiff, Nat.reduceEqDiff, Bool.not_true, Bool.not_false, Bool.false_eq_true, fSum, ints?_map, fits (i := 5) (j := 15) (show M.P.sum.natAbs < 2 ^ 5 by omega) (show ((comm T : Nat) : Int).natAbs < 2 ^ 15 by rw [Int.natAbs_natCast]; omega) (by decide) (by decide)]
  rfl
end VM
end
section
set_option Elab.async false
set_option linter.all false
set_option maxRecDepth 100000
set_option autoImplicit false
/-! Mk7: what the program takes for done. -/
namespace VM
open PySem PySem.Spec L2
structure JsOk (M : Mat) (js : List Int) : Prop where
  l : js.length = M.n
  e : ∀ x ∈ js, 0 ≤ x ∧ x.natAbs < 2 ^ 22
def tot (js : List Int) (R : List (List Int)) (a : Nat) : Int := ((js.zip R).map fun p => p.1 * p.2.getD a 0).sum
def tots (M : Mat) (js : List Int) (R : List (List Int)) : List Int := (List.range M.a).map (tot js R)
theorem rowsA {M : Mat} {R : List (List Int)} (hM : M.Ok) (h : RowsOk M R) : R[0]? = some (R.getD 0 []) ∧ (R.getD 0 []).length = M.a := by
  have hl : 0 < R.length := by rw [h.l]; have := hM.n2; omega
  refine ⟨getD_some hl, (h.r _ ?_).1⟩
  rw [List.getD_eq_getElem?_getD, List.getElem?_eq_getElem hl]
  exact List.getElem_mem _
theorem rangeOk_nat {n : Nat} (h : n ≤ 1000) : rangeOk (n : Int) = true := by
  unfold rangeOk
  simp only [Bool.and_eq_true, decide_eq_true_eq]
  omega
theorem totals_at {M : Mat} {R : List (List Int)} {js : List Int} (hM : M.Ok) (hR : RowsOk M R) (hj : JsOk M js) : m__totals [rowsD R, lI js] = .ok (lI (tots M js R)) := by
  have n4 := hM.n4
  have a4 := hM.a4
  obtain ⟨h0, hA⟩ := rowsA hM hR
  have lz : (js.zip R).length ≤ 4 := by rw [List.length_zip, hj.l, hR.l]; omega
  have hz : ∀ p ∈ js.zip R, p.1 ∈ js ∧ p.2 ∈ R := fun p hp => ⟨(List.of_mem_zip hp).1, (List.of_mem_zip hp).2⟩
  have hl : (((R.getD 0 []).map D.int).length : Int) = (M.a : Nat) := by rw [List.length_map, hA]
  have c := vComp_at (vs := [2]) (mi := iRange1 (aCons (vCall fLen (aCons (vBin oIdx (vVar 0) (vC (.int 0))) aNil)) aNil)) (g := gSet 2) (nt := tYesB)
    (me := vCall fSum (aCons (vComp [3, 4] (iZip (aCons (vVar 1) (aCons (vVar 0) aNil))) (gTupD 2 (gsCons (gSet 3) (gsCons (gSet 4) gsNil))) tYesB (vBin oMul (vVar 3) (vBin oIdx (vVar 4) (vVar 2)))) aNil))
    (ρ := [.frz (.tup (R.map tI)), .frz (.lst (js.map D.int)), .none, .none, .none]) (fun j : Nat => D.int (j : Nat)) (fun a => D.int (tot js R a)) (List.range M.a)
    (by
      simp only [runDef, bSeq, bNil, bRet, bRetN, bSet, bSetO, bIf, bFrz, bMix, mFrz, mOwn, mNil, setSl, bApp, bPutX, bAug, bAsg, bDrop, gTupD, gsCons, gsNil, gSet, noExc, vVar, vC, vBin, vChain, vNot, vIf, vTup, oTup, vLst, oLst, vFn, vCall, aCons, aNil, vTest, vTruth, bAnd, bOr, bNot, vFld, vMk, vIsC, vIsi, tyName, sub_tt, sub_ii, sub_ib, natc1, natc2, natc3, natc4, decide_true, decide_false, oAdd_ap, oSub_ap, oMul_ap, oDiv_ap, oMod_ap, dI2, dI2c, oLt_ap, oLe_ap, oGt_ap, oGe_ap, oIsN_ap, oNotN_ap, VM.D.isNon, oIdx_l, oIdx_t, fLen, fAbs, fInt, VM.R.bind_ok, VM.R.bind_exc, VM.R.bind_stuck, Option.bind_some, Option.bind_none, ix_1_0, ix_2_0, ix_2_1, ix_3_0, ix_3_1, ix_3_2, ix_4_0, ix_4_1, ix_4_2, ix_4_3, List.map_cons, List.map_nil, List.append_nil, List.cons_append, List.nil_append, List.length_cons, List.length_nil, List.getElem?_cons_zero, List.getElem?_cons_succ, List.getElem?_nil, List.set_cons_zero, List.set_cons_succ, List.replicate_succ, List.replicate_zero, if_true, if_false, reduceIte, Nat.reduceSub, Nat.reduceAdd, Nat.reduceLeDiff, Nat.reduceEqDiff, Bool.not_true, Bool.not_false, Bool.false_eq_true, iRange1, idx0 tI h0]
      unfold tI
      simp only [runDef, bSeq, bNil, bRet, bRetN, bSet, bSetO, bIf, bFrz, bMix, mFrz, mOwn, mNil, setSl, bApp, bPutX, bAug, bAsg, bDrop, gTupD, gsCons, gsNil, gSet, noExc, vVar, vC, vBin, vChain, vNot, vIf, vTup, oTup, vLst, oLst, vFn, vCall, aCons, aNil, vTest, vTruth, bAnd, bOr, bNot, vFld, vMk, vIsC, vIsi, tyName, sub_tt, sub_ii, sub_ib, natc1, natc2, natc3, natc4, decide_true, decide_false, oAdd_ap, oSub_ap, oMul_ap, oDiv_ap, oMod_ap, dI2, dI2c, oLt_ap, oLe_ap, oGt_ap, oGe_ap, oIsN_ap, oNotN_ap, VM.D.isNon, oIdx_l, oIdx_t, fLen, fAbs, fInt, VM.R.bind_ok, VM.R.bind_exc, VM.R.bind_stuck, Option.bind_some, Option.bind_none, ix_1_0, ix_2_0, ix_2_1, ix_3_0, ix_3_1, ix_3_2, ix_4_0, ix_4_1, ix_4_2, ix_4_3, List.map_cons, List.map_nil, List.append_nil, List.cons_append, List.nil_append, List.length_cons, List.length_nil, List.getElem?_cons_zero, List.getElem?_cons_succ, List.getElem?_nil, List.set_cons_zero, List.set_cons_succ, List.replicate_succ, List.replicate_zero, if_true, if_false, reduceIte, Nat.reduceSub, Nat.reduceAdd, Nat.reduceLeDiff, Nat.reduceEqDiff, Bool.not_true, Bool.not_false, Bool.false_eq_true, hl, rangeOk_nat (n := M.a) (by omega), Int.toNat_natCast, rangeD_map])
    (by rw [List.length_range]; omega)
    (fun a ha => by
      have ha' : a < M.a := List.mem_range.mp ha
      have ci := vComp_at (vs := [3, 4]) (mi := iZip (aCons (vVar 1) (aCons (vVar 0) aNil))) (g := gTupD 2 (gsCons (gSet 3) (gsCons (gSet 4) gsNil))) (nt := tYesB) (me := vBin oMul (vVar 3) (vBin oIdx (vVar 4) (vVar 2)))
        (ρ := [.frz (.tup (R.map tI)), .frz (.lst (js.map D.int)), .frz (.int (a : Nat)), .none, .none])
        (fun p : Int × List Int => D.tup [.int p.1, tI p.2]) (fun p => D.int (p.1 * p.2.getD a 0)) (js.zip R) (by simp only [runDef, bSeq, bNil, bRet, bRetN, bSet, bSetO, bIf, bFrz, bMix, mFrz, mOwn, mNil, setSl, bApp, bPutX, bAug, bAsg, bDrop, gTupD, gsCons, gsNil, gSet, noExc, vVar, vC, vBin, vChain, vNot, vIf, vTup, oTup, vLst, oLst, vFn, vCall, aCons, aNil, vTest, vTruth, bAnd, bOr, bNot, vFld, vMk, vIsC, vIsi, tyName, sub_tt, sub_ii, sub_ib, natc1, natc2, natc3, natc4, decide_true, decide_false, oAdd_ap, oSub_ap, oMul_ap, oDiv_ap, oMod_ap, dI2, dI2c, oLt_ap, oLe_ap, oGt_ap, oGe_ap, oIsN_ap, oNotN_ap, VM.D.isNon, oIdx_l, oIdx_t, fLen, fAbs, fInt, VM.R.bind_ok, VM.R.bind_exc, VM.R.bind_stuck, Option.bind_some, Option.bind_none, ix_1_0, ix_2_0, ix_2_1, ix_3_0, ix_3_1, ix_3_2, ix_4_0, ix_4_1, ix_4_2, ix_4_3, List.map_cons, List.map_nil, List.append_nil, List.cons_append, List.nil_append, List.length_cons, List.length_nil, List.getElem?_cons_zero, List.getElem?_cons_succ, List.getElem?_nil, List.set_cons_zero, List.set_cons_succ, List.replicate_succ, List.replicate_zero, if_true, if_false, reduceIte, Nat.reduceSub, Nat.reduceAdd, Nat.reduceLeDiff, Nat.reduceEqDiff, Bool.not_true, Bool.not_false, Bool.false_eq_true, iZip, D.items]; rw [zipD_map]) (by omega) (fun p hp => by
          obtain ⟨h1, h2⟩ := hz p hp
          have hrow := row_el hR h2 ha'
          refine turn_yes tgt2 ?_
          simp only [wipeR]
          unfold tI
          simp only [runDef, bSeq, bNil, bRet, bRetN, bSet, bSetO, bIf, bFrz, bMix, mFrz, mOwn, mNil, setSl, bApp, bPutX, bAug, bAsg, bDrop, gTupD, gsCons, gsNil, gSet, noExc, vVar, vC, vBin, vChain, vNot, vIf, vTup, oTup, vLst, oLst, vFn, vCall, aCons, aNil, vTest, vTruth, bAnd, bOr, bNot, vFld, vMk, vIsC, vIsi, tyName, sub_tt, sub_ii, sub_ib, natc1, natc2, natc3, natc4, decide_true, decide_false, oAdd_ap, oSub_ap, oMul_ap, oDiv_ap, oMod_ap, dI2, dI2c, oLt_ap, oLe_ap, oGt_ap, oGe_ap, oIsN_ap, oNotN_ap, VM.D.isNon, oIdx_l, oIdx_t, fLen, fAbs, fInt, VM.R.bind_ok, VM.R.bind_exc, VM.R.bind_stuck, Option.bind_some, Option.bind_none, ix_1_0, ix_2_0, ix_2_1, ix_3_0, ix_3_1, ix_3_2, ix_4_0, ix_4_1, ix_4_2, ix_4_3, List.map_cons, List.map_nil, List.append_nil, List.cons_append, List.nil_append, List.length_cons, List.length_nil, List.getElem?_cons_zero, List.getElem?_cons_succ, List.getElem?_nil, List.set_cons_zero, List.set_cons_succ, List.replicate_succ, List.replicate_zero, if_true, if_false, reduceIte, Nat.reduceSub, Nat.reduceAdd, Nat.reduceLeDiff, Nat.reduceEqDiff, Bool.not_true, Bool.not_false, Bool.false_eq_true, idx_map D.int hrow.1, fits (i := 22) (j := 4) (hj.e _ h1).2 (show (p.2.getD a 0).natAbs < 2 ^ 4 by omega) (by decide) (by decide)])
      have e : (js.zip R).map (fun p => D.int (p.1 * p.2.getD a 0)) = ((js.zip R).map fun p => p.1 * p.2.getD a 0).map D.int := by rw [List.map_map]; rfl
      rw [e] at ci
      refine turn_yes (show gSet 2 _ _ = .ok _ from rfl) ?_
      simp only [wipeR]
      simp only [runDef, bSeq, bNil, bRet, bRetN, bSet, bSetO, bIf, bFrz, bMix, mFrz, mOwn, mNil, setSl, bApp, bPutX, bAug, bAsg, bDrop, gTupD, gsCons, gsNil, gSet, noExc, vVar, vC, vBin, vChain, vNot, vIf, vTup, oTup, vLst, oLst, vFn, vCall, aCons, aNil, vTest, vTruth, bAnd, bOr, bNot, vFld, vMk, vIsC, vIsi, tyName, sub_tt, sub_ii, sub_ib, natc1, natc2, natc3, natc4, decide_true, decide_false, oAdd_ap, oSub_ap, oMul_ap, oDiv_ap, oMod_ap, dI2, dI2c, oLt_ap, oLe_ap, oGt_ap, oGe_ap, oIsN_ap, oNotN_ap, VM.D.isNon, oIdx_l, oIdx_t, fLen, fAbs, fInt, VM.R.bind_ok, VM.R.bind_exc, VM.R.bind_stuck, Option.bind_some, Option.bind_none, ix_1_0, ix_2_0, ix_2_1, ix_3_0, ix_3_1, ix_3_2, ix_4_0, ix_4_1, ix_4_2, ix_4_3, List.map_cons, List.map_nil, List.append_nil, List.cons_append, List.nil_append, List.length_cons, List.length_nil, List.getElem?_cons_zero, List.getElem?_cons_succ, List.getElem?_nil, List.set_cons_zero, List.set_cons_succ, List.replicate_succ, List.replicate_zero, if_true, if_false, reduceIte, Nat.reduceSub, Nat.reduceAdd, Nat.reduceLeDiff, Nat.reduceEqDiff, Bool.not_true, Bool.not_false, Bool.false_eq_true, ci, fSum, ints?_map]
      rfl)
  have e : (List.range M.a).map (fun a => D.int (tot js R a)) = (tots M js R).map D.int := by unfold tots; rw [List.map_map]; rfl
  rw [e] at c
  unfold m__totals b__totals rowsD lI
  simp only [runDef, bSeq, bNil, bRet, bRetN, bSet, bSetO, bIf, bFrz, bMix, mFrz, mOwn, mNil, setSl, bApp, bPutX, bAug, bAsg, bDrop, gTupD, gsCons, gsNil, gSet, noExc, vVar, vC, vBin, vChain, vNot, vIf, vTup, oTup, vLst, oLst, vFn, vCall, aCons, aNil, vTest, vTruth, bAnd, bOr, bNot, vFld, vMk, vIsC, vIsi, tyName, sub_tt, sub_ii, sub_ib, natc1, natc2, natc3, natc4, decide_true, decide_false, oAdd_ap, oSub_ap, oMul_ap, oDiv_ap, oMod_ap, dI2, dI2c, oLt_ap, oLe_ap, oGt_ap, oGe_ap, oIsN_ap, oNotN_ap, VM.D.isNon, oIdx_l, oIdx_t, fLen, fAbs, fInt, VM.R.bind_ok, VM.R.bind_exc, VM.R.bind_stuck, Option.bind_some, Option.bind_none, ix_1_0, ix_2_0, ix_2_1, ix_3_0, ix_3_1, ix_3_2, ix_4_0, ix_4_1, ix_4_2, ix_4_3, List.map_cons, List.map_nil, List.append_nil, List.cons_append, List.nil_append, List.length_cons, List.length_nil, List.getElem?_cons_zero, List.getElem?_cons_succ, List.getElem?_nil, List.set_cons_zero, List.set_cons_succ, List.replicate_succ, List.replicate_zero, if_true, if_false, reduceIte, Nat.reduceSub, Nat.reduceAdd, Nat.reduceLeDiff, Nat.reduceEqDiff, Bool.not_true, Bool.not_false, Bool.false_eq_true, c]
theorem trus_ints (js : List Int) : trus? (js.map D.int) = some (js.map (· != 0)) := by
  induction js with
  | nil => rfl
  | cons x js ih => simp [trus?, ih]
/-! ### the greatest -/
def bestOf (w : Nat → Int) : Nat → List Nat → Nat
  | b, [] => b
  | b, a :: l => if w b < w a then bestOf w a l else bestOf w b l
theorem maxK_at (w : Nat → Int) (key : D → R D) : ∀ (l : List Nat) (b : Nat), (∀ a ∈ l, key (.int (a : Nat)) = .ok (.int (w a))) → maxK key (.int (b : Nat)) (w b) (l.map fun a => D.int (a : Nat)) = .ok (.int (bestOf w b l : Nat))
  | [], b, _ => rfl
  | a :: l, b, h => by
    simp only [List.map_cons, maxK, h a List.mem_cons_self, R.bind_ok, bestOf]
    by_cases c : w b < w a
    · rw [if_pos c, if_pos c]
      exact maxK_at w key l a fun x hx => h x (List.mem_cons_of_mem _ hx)
    · rw [if_neg c, if_neg c]
      exact maxK_at w key l b fun x hx => h x (List.mem_cons_of_mem _ hx)
/-- the first of the best: by g, then by w -/
structure IsTop (g w : Nat → Int) (A t : Nat) : Prop where
  lt : t < A
  up : ∀ b, b < A → g b < g t ∨ (g b = g t ∧ w b ≤ w t)
  first : ∀ b, b < t → ¬ (g b = g t ∧ w b = w t)
theorem IsTop.uniq {g w : Nat → Int} {A t t' : Nat} (h : IsTop g w A t) (h' : IsTop g w A t') : t = t' := by
  have e : g t = g t' ∧ w t = w t' := by
    rcases h.up t' h'.lt with a | ⟨a, b⟩ <;> rcases h'.up t h.lt with c | ⟨c, d⟩ <;> omega
  rcases Nat.lt_trichotomy t t' with c | c | c
  · exact absurd e (h'.first t c)
  · exact c
  · exact absurd ⟨e.1.symm, e.2.symm⟩ (h.first t' c)
theorem bestOf_top (w : Nat → Int) : ∀ (l : List Nat) (b : Nat), (b :: l).Pairwise (· < ·) → bestOf w b l ∈ b :: l ∧ (∀ a ∈ b :: l, w a ≤ w (bestOf w b l)) ∧ ∀ a ∈ b :: l, a < bestOf w b l → w a < w (bestOf w b l)
  | [], b, _ => by simp [bestOf]
  | a :: l, b, h => by
    rw [List.pairwise_cons] at h
    obtain ⟨h1, h2⟩ := h
    unfold bestOf
    by_cases c : w b < w a
    · rw [if_pos c]
      obtain ⟨i1, i2, i3⟩ := bestOf_top w l a h2
      have ia := i2 a List.mem_cons_self
      refine ⟨List.mem_cons_of_mem _ i1, fun x hx => ?_, fun x hx hlt => ?_⟩
      · rcases List.mem_cons.mp hx with rfl | hx
        · omega
        · exact i2 x hx
      · rcases List.mem_cons.mp hx with rfl | hx
        · omega
        · exact i3 x hx hlt
    · rw [if_neg c]
      have hb : (b :: l).Pairwise (· < ·) := by
        rw [List.pairwise_cons] at h2 ⊢
        exact ⟨fun x hx => h1 x (List.mem_cons_of_mem _ hx), h2.2⟩
      obtain ⟨i1, i2, i3⟩ := bestOf_top w l b hb
      have ib := i2 b List.mem_cons_self
      refine ⟨?_, fun x hx => ?_, fun x hx hlt => ?_⟩
      · rcases List.mem_cons.mp i1 with e | e
        · rw [e]; exact List.mem_cons_self
        · exact List.mem_cons_of_mem _ (List.mem_cons_of_mem _ e)
      · rcases List.mem_cons.mp hx with rfl | hx
        · exact ib
        · rcases List.mem_cons.mp hx with rfl | hx
          · omega
          · exact i2 x (List.mem_cons_of_mem _ hx)
      · rcases List.mem_cons.mp hx with rfl | hx
        · exact i3 _ List.mem_cons_self hlt
        · rcases List.mem_cons.mp hx with rfl | hx
          · have hba := h1 x List.mem_cons_self
            have := i3 b List.mem_cons_self (by omega)
            omega
          · exact i3 x (List.mem_cons_of_mem _ hx) hlt
end VM
end
section
set_option Elab.async false
set_option linter.all false
set_option maxRecDepth 100000
set_option autoImplicit false
/-! Mk8: both take the same act. -/
namespace VM
open PySem PySem.Spec L2
theorem listMax_of {l : List Int} {m : Int} (h1 : m ∈ l) (h2 : ∀ x ∈ l, x ≤ m) : listMax l = some m := by
  have : ∃ k, listMax l = some k := by
    cases l with
    | nil => cases h1
    | cons x l => exact ⟨_, rfl⟩
  obtain ⟨k, hk⟩ := this
  rw [hk, listMax_iff hk h1 h2]
theorem exists_max (g : Nat → Int) : ∀ A : Nat, 0 < A → ∃ t, t < A ∧ ∀ a, a < A → g a ≤ g t
  | 0, h => absurd h (Nat.lt_irrefl 0)
  | 1, _ => ⟨0, by omega, fun a ha => by have : a = 0 := by omega
                                         subst this; exact Int.le_refl _⟩
  | A + 2, _ => by
    obtain ⟨t, h1, h2⟩ := exists_max g (A + 1) (by omega)
    by_cases c : g t ≤ g (A + 1)
    · refine ⟨A + 1, by omega, fun a ha => ?_⟩
      by_cases e : a = A + 1
      · subst e; exact Int.le_refl _
      · have := h2 a (by omega); omega
    · refine ⟨t, by omega, fun a ha => ?_⟩
      by_cases e : a = A + 1
      · subst e; omega
      · exact h2 a (by omega)
/-- the acts of the greatest gain -/
def bests (g : Nat → Int) (A : Nat) (m : Int) : List Nat := (List.range A).filter fun a => decide (g a = m)
def progDone (g w : Nat → Int) (A : Nat) (m : Int) : Nat := match bests g A m with
  | [] => 0
  | b :: l => bestOf w b l
theorem prog_top {g w : Nat → Int} {A : Nat} {m : Int} (hm : ∃ t, t < A ∧ g t = m) (hx : ∀ a, a < A → g a ≤ m) : IsTop g w A (progDone g w A m) ∧ bests g A m ≠ [] := by
  have hmem : ∀ a, a ∈ bests g A m ↔ a < A ∧ g a = m := fun a => by simp [bests]
  have hp : (bests g A m).Pairwise (· < ·) := List.Pairwise.filter _ List.pairwise_lt_range
  unfold progDone
  cases hb : bests g A m with
  | nil =>
    obtain ⟨t, h1, h2⟩ := hm
    have := (hmem t).mpr ⟨h1, h2⟩
    rw [hb] at this
    cases this
  | cons b l =>
    rw [hb] at hp hmem
    obtain ⟨i1, i2, i3⟩ := bestOf_top w l b hp
    dsimp only
    obtain ⟨k1, k2⟩ := (hmem _).mp i1
    refine ⟨⟨k1, fun a ha => ?_, fun a ha z => ?_⟩, by simp⟩
    · by_cases c : g a = m
      · exact .inr ⟨by rw [c, k2], i2 a ((hmem a).mpr ⟨ha, c⟩)⟩
      · have := hx a ha
        exact .inl (by omega)
    · have ha' : a ∈ b :: l := (hmem a).mpr ⟨by omega, by rw [z.1, k2]⟩
      have := i3 a ha' ha
      omega
theorem act_at {M : Mat} {js : List Int} (hM : M.Ok) (hj : JsOk M js) : ∃ t, IsTop (tot js M.G) (tot js M.W) M.a t ∧ m__act_done [instD M, lI js] = .ok (if js.any (· != 0) then .int (t : Nat) else .non) := by
  have a2 := hM.a2
  have a4 := hM.a4
  have hG := totals_at hM hM.gr hj
  have hW := totals_at hM hM.wr hj
  obtain ⟨tm, htm, hmax⟩ := exists_max (tot js M.G) M.a (by omega)
  obtain ⟨hIs, hne⟩ := prog_top (g := tot js M.G) (w := tot js M.W) (A := M.a) (m := tot js M.G tm) ⟨tm, htm, rfl⟩ hmax
  have hmx : listMax (tots M js M.G) = some (tot js M.G tm) := listMax_of (List.mem_map.mpr ⟨tm, List.mem_range.mpr htm, rfl⟩) fun x hx => by
    obtain ⟨a, ha, rfl⟩ := List.mem_map.mp hx
    exact hmax a (List.mem_range.mp ha)
  refine ⟨_, hIs, ?_⟩
  have hany : fAny [lI js] = .ok (.bl (js.any (· != 0))) := by
    unfold lI
    simp only [fAny, trus_ints]
    congr 2
    rw [List.any_map]
    rfl
  cases hb : js.any (· != 0) with
  | false =>
    rw [hb] at hany
    unfold m__act_done b__act_done
    simp only [runDef, bSeq, bNil, bRet, bRetN, bSet, bSetO, bIf, bFrz, bMix, mFrz, mOwn, mNil, setSl, bApp, bPutX, bAug, bAsg, bDrop, gTupD, gsCons, gsNil, gSet, noExc, vVar, vC, vBin, vChain, vNot, vIf, vTup, oTup, vLst, oLst, vFn, vCall, aCons, aNil, vTest, vTruth, bAnd, bOr, bNot, vFld, vMk, vIsC, vIsi, tyName, sub_tt, sub_ii, sub_ib, natc1, natc2, natc3, natc4, decide_true, decide_false, oAdd_ap, oSub_ap, oMul_ap, oDiv_ap, oMod_ap, dI2, dI2c, oLt_ap, oLe_ap, oGt_ap, oGe_ap, oIsN_ap, oNotN_ap, VM.D.isNon, oIdx_l, oIdx_t, fLen, fAbs, fInt, VM.R.bind_ok, VM.R.bind_exc, VM.R.bind_stuck, Option.bind_some, Option.bind_none, ix_1_0, ix_2_0, ix_2_1, ix_3_0, ix_3_1, ix_3_2, ix_4_0, ix_4_1, ix_4_2, ix_4_3, List.map_cons, List.map_nil, List.append_nil, List.cons_append, List.nil_append, List.length_cons, List.length_nil, List.getElem?_cons_zero, List.getElem?_cons_succ, List.getElem?_nil, List.set_cons_zero, List.set_cons_succ, List.replicate_succ, List.replicate_zero, if_true, if_false, reduceIte, Nat.reduceSub, Nat.reduceAdd, Nat.reduceLeDiff, Nat.reduceEqDiff, Bool.not_true, Bool.not_false, Bool.false_eq_true, hany]
  | true =>
    rw [hb] at hany
    have c := vComp_if (vs := [5, 6]) (mi := iEnum (aCons (vVar 2) aNil)) (g := gTupD 2 (gsCons (gSet 5) (gsCons (gSet 6) gsNil))) (nt := vTest (vBin oEqA (vVar 6) (vVar 4))) (me := vVar 5)
      (ρ := [.frz (instD M), .frz (lI js), .frz (.lst ((tots M js M.G).map D.int)), .frz (.lst ((tots M js M.W).map D.int)), .frz (.int (tot js M.G tm)), .none, .none, .none])
      (fun p : Int × Nat => D.tup [.int (p.2 : Nat), .int p.1]) (fun p => D.int (p.2 : Nat)) (fun p => decide (p.1 = tot js M.G tm)) (tots M js M.G).zipIdx (by simp only [runDef, bSeq, bNil, bRet, bRetN, bSet, bSetO, bIf, bFrz, bMix, mFrz, mOwn, mNil, setSl, bApp, bPutX, bAug, bAsg, bDrop, gTupD, gsCons, gsNil, gSet, noExc, vVar, vC, vBin, vChain, vNot, vIf, vTup, oTup, vLst, oLst, vFn, vCall, aCons, aNil, vTest, vTruth, bAnd, bOr, bNot, vFld, vMk, vIsC, vIsi, tyName, sub_tt, sub_ii, sub_ib, natc1, natc2, natc3, natc4, decide_true, decide_false, oAdd_ap, oSub_ap, oMul_ap, oDiv_ap, oMod_ap, dI2, dI2c, oLt_ap, oLe_ap, oGt_ap, oGe_ap, oIsN_ap, oNotN_ap, VM.D.isNon, oIdx_l, oIdx_t, fLen, fAbs, fInt, VM.R.bind_ok, VM.R.bind_exc, VM.R.bind_stuck, Option.bind_some, Option.bind_none, ix_1_0, ix_2_0, ix_2_1, ix_3_0, ix_3_1, ix_3_2, ix_4_0, ix_4_1, ix_4_2, ix_4_3, List.map_cons, List.map_nil, List.append_nil, List.cons_append, List.nil_append, List.length_cons, List.length_nil, List.getElem?_cons_zero, List.getElem?_cons_succ, List.getElem?_nil, List.set_cons_zero, List.set_cons_succ, List.replicate_succ, List.replicate_zero, if_true, if_false, reduceIte, Nat.reduceSub, Nat.reduceAdd, Nat.reduceLeDiff, Nat.reduceEqDiff, Bool.not_true, Bool.not_false, Bool.false_eq_true, iEnum, D.items]; rw [enumD_map]) (by simp [tots]; omega) (fun p hp => by
        refine turn_if (b := decide (p.1 = tot js M.G tm)) tgt2 ?_ (fun _ => ?_)
        · simp only [wipeR]
          simp only [runDef, bSeq, bNil, bRet, bRetN, bSet, bSetO, bIf, bFrz, bMix, mFrz, mOwn, mNil, setSl, bApp, bPutX, bAug, bAsg, bDrop, gTupD, gsCons, gsNil, gSet, noExc, vVar, vC, vBin, vChain, vNot, vIf, vTup, oTup, vLst, oLst, vFn, vCall, aCons, aNil, vTest, vTruth, bAnd, bOr, bNot, vFld, vMk, vIsC, vIsi, tyName, sub_tt, sub_ii, sub_ib, natc1, natc2, natc3, natc4, decide_true, decide_false, oAdd_ap, oSub_ap, oMul_ap, oDiv_ap, oMod_ap, dI2, dI2c, oLt_ap, oLe_ap, oGt_ap, oGe_ap, oIsN_ap, oNotN_ap, VM.D.isNon, oIdx_l, oIdx_t, fLen, fAbs, fInt, VM.R.bind_ok, VM.R.bind_exc, VM.R.bind_stuck, Option.bind_some, Option.bind_none, ix_1_0, ix_2_0, ix_2_1, ix_3_0, ix_3_1, ix_3_2, ix_4_0, ix_4_1, ix_4_2, ix_4_3, List.map_cons, List.map_nil, List.append_nil, List.cons_append, List.nil_append, List.length_cons, List.length_nil, List.getElem?_cons_zero, List.getElem?_cons_succ, List.getElem?_nil, List.set_cons_zero, List.set_cons_succ, List.replicate_succ, List.replicate_zero, if_true, if_false, reduceIte, Nat.reduceSub, Nat.reduceAdd, Nat.reduceLeDiff, Nat.reduceEqDiff, Bool.not_true, Bool.not_false, Bool.false_eq_true, eqA_int]
        · simp only [wipeR]
          simp only [runDef, bSeq, bNil, bRet, bRetN, bSet, bSetO, bIf, bFrz, bMix, mFrz, mOwn, mNil, setSl, bApp, bPutX, bAug, bAsg, bDrop, gTupD, gsCons, gsNil, gSet, noExc, vVar, vC, vBin, vChain, vNot, vIf, vTup, oTup, vLst, oLst, vFn, vCall, aCons, aNil, vTest, vTruth, bAnd, bOr, bNot, vFld, vMk, vIsC, vIsi, tyName, sub_tt, sub_ii, sub_ib, natc1, natc2, natc3, natc4, decide_true, decide_false, oAdd_ap, oSub_ap, oMul_ap, oDiv_ap, oMod_ap, dI2, dI2c, oLt_ap, oLe_ap, oGt_ap, oGe_ap, oIsN_ap, oNotN_ap, VM.D.isNon, oIdx_l, oIdx_t, fLen, fAbs, fInt, VM.R.bind_ok, VM.R.bind_exc, VM.R.bind_stuck, Option.bind_some, Option.bind_none, ix_1_0, ix_2_0, ix_2_1, ix_3_0, ix_3_1, ix_3_2, ix_4_0, ix_4_1, ix_4_2, ix_4_3, List.map_cons, List.map_nil, List.append_nil, List.cons_append, List.nil_append, List.length_cons, List.length_nil, List.getElem?_cons_zero, List.getElem?_cons_succ, List.getElem?_nil, List.set_cons_zero, List.set_cons_succ, List.replicate_succ, List.replicate_zero, if_true, if_false, reduceIte, Nat.reduceSub, Nat.reduceAdd, Nat.reduceLeDiff, Nat.reduceEqDiff, Bool.not_true, Bool.not_false, Bool.false_eq_true])
    have e : ((tots M js M.G).zipIdx.filter fun p => decide (p.1 = tot js M.G tm)).map (fun p => D.int (p.2 : Nat)) = (bests (tot js M.G) M.a (tot js M.G tm)).map fun a => D.int (a : Nat) := by
      have : (tots M js M.G).zipIdx = (List.range M.a).map fun a => (tot js M.G a, a) := by
        refine List.ext_getElem? fun i => ?_
        simp only [tots, List.getElem?_zipIdx, List.getElem?_map, List.getElem?_range, Nat.zero_add]
        by_cases hi : i < M.a <;> simp [hi]
      rw [this, List.filter_map, List.map_map]
      rfl
    rw [e] at c
    cases hbs : bests (tot js M.G) M.a (tot js M.G tm) with
    | nil => exact absurd hbs hne
    | cons b l =>
      rw [hbs, List.map_cons] at c
      have hmem : ∀ a ∈ b :: l, a < M.a := fun a ha => by
        rw [← hbs] at ha
        exact List.mem_range.mp (List.mem_filter.mp ha).1
      have hkey : ∀ (ρ : Fr0), ρ[3]? = some (.frz (.lst ((tots M js M.W).map D.int))) → ∀ a, a < M.a → keyD (vBin oIdx (vVar 1) (vVar 0)) ρ [3] (.int (a : Nat)) = .ok (.int (tot js M.W a)) := fun ρ hρ a ha => by
        have hw : (tots M js M.W)[a]? = some (tot js M.W a) := by simp [tots, ha]
        unfold keyD capt
        simp only [List.map_cons, List.map_nil, hρ, capt1]
        simp only [runDef, bSeq, bNil, bRet, bRetN, bSet, bSetO, bIf, bFrz, bMix, mFrz, mOwn, mNil, setSl, bApp, bPutX, bAug, bAsg, bDrop, gTupD, gsCons, gsNil, gSet, noExc, vVar, vC, vBin, vChain, vNot, vIf, vTup, oTup, vLst, oLst, vFn, vCall, aCons, aNil, vTest, vTruth, bAnd, bOr, bNot, vFld, vMk, vIsC, vIsi, tyName, sub_tt, sub_ii, sub_ib, natc1, natc2, natc3, natc4, decide_true, decide_false, oAdd_ap, oSub_ap, oMul_ap, oDiv_ap, oMod_ap, dI2, dI2c, oLt_ap, oLe_ap, oGt_ap, oGe_ap, oIsN_ap, oNotN_ap, VM.D.isNon, oIdx_l, oIdx_t, fLen, fAbs, fInt, VM.R.bind_ok, VM.R.bind_exc, VM.R.bind_stuck, Option.bind_some, Option.bind_none, ix_1_0, ix_2_0, ix_2_1, ix_3_0, ix_3_1, ix_3_2, ix_4_0, ix_4_1, ix_4_2, ix_4_3, List.map_cons, List.map_nil, List.append_nil, List.cons_append, List.nil_append, List.length_cons, List.length_nil, List.getElem?_cons_zero, List.getElem?_cons_succ, List.getElem?_nil, List.set_cons_zero, List.set_cons_succ, List.replicate_succ, List.replicate_zero, if_true, if_false, reduceIte, Nat.reduceSub, Nat.reduceAdd, Nat.reduceLeDiff, Nat.reduceEqDiff, Bool.not_true, Bool.not_false, Bool.false_eq_true, idx_map D.int hw]
      have hmk := fun ρ (hρ : ρ[3]? = some (.frz (.lst ((tots M js M.W).map D.int)))) => maxK_at (tot js M.W) (keyD (vBin oIdx (vVar 1) (vVar 0)) ρ [3]) l b fun a ha => hkey ρ hρ a (hmem a (List.mem_cons_of_mem _ ha))
      have ep : progDone (tot js M.G) (tot js M.W) M.a (tot js M.G tm) = bestOf (tot js M.W) b l := by unfold progDone; rw [hbs]
      rw [ep]
      unfold m__act_done b__act_done
      simp only [runDef, bSeq, bNil, bRet, bRetN, bSet, bSetO, bIf, bFrz, bMix, mFrz, mOwn, mNil, setSl, bApp, bPutX, bAug, bAsg, bDrop, gTupD, gsCons, gsNil, gSet, noExc, vVar, vC, vBin, vChain, vNot, vIf, vTup, oTup, vLst, oLst, vFn, vCall, aCons, aNil, vTest, vTruth, bAnd, bOr, bNot, vFld, vMk, vIsC, vIsi, tyName, sub_tt, sub_ii, sub_ib, natc1, natc2, natc3, natc4, decide_true, decide_false, oAdd_ap, oSub_ap, oMul_ap, oDiv_ap, oMod_ap, dI2, dI2c, oLt_ap, oLe_ap, oGt_ap, oGe_ap, oIsN_ap, oNotN_ap, VM.D.isNon, oIdx_l, oIdx_t, fLen, fAbs, fInt, VM.R.bind_ok, VM.R.bind_exc, VM.R.bind_stuck, Option.bind_some, Option.bind_none, ix_1_0, ix_2_0, ix_2_1, ix_3_0, ix_3_1, ix_3_2, ix_4_0, ix_4_1, ix_4_2, ix_4_3, List.map_cons, List.map_nil, List.append_nil, List.cons_append, List.nil_append, List.length_cons, List.length_nil, List.getElem?_cons_zero, List.getElem?_cons_succ, List.getElem?_nil, List.set_cons_zero, List.set_cons_succ, List.replicate_succ, List.replicate_zero, if_true, if_false, reduceIte, Nat.reduceSub, Nat.reduceAdd, Nat.reduceLeDiff, Nat.reduceEqDiff, Bool.not_true, Bool.not_false, Bool.false_eq_true, hany, prop_at (gains_at M) (ρ := [.frz (instD M), .frz (lI js), .none, .none, .none, .none, .none, .none]) rfl, hG]
      simp only [runDef, bSeq, bNil, bRet, bRetN, bSet, bSetO, bIf, bFrz, bMix, mFrz, mOwn, mNil, setSl, bApp, bPutX, bAug, bAsg, bDrop, gTupD, gsCons, gsNil, gSet, noExc, vVar, vC, vBin, vChain, vNot, vIf, vTup, oTup, vLst, oLst, vFn, vCall, aCons, aNil, vTest, vTruth, bAnd, bOr, bNot, vFld, vMk, vIsC, vIsi, tyName, sub_tt, sub_ii, sub_ib, natc1, natc2, natc3, natc4, decide_true, decide_false, oAdd_ap, oSub_ap, oMul_ap, oDiv_ap, oMod_ap, dI2, dI2c, oLt_ap, oLe_ap, oGt_ap, oGe_ap, oIsN_ap, oNotN_ap, VM.D.isNon, oIdx_l, oIdx_t, fLen, fAbs, fInt, VM.R.bind_ok, VM.R.bind_exc, VM.R.bind_stuck, Option.bind_some, Option.bind_none, ix_1_0, ix_2_0, ix_2_1, ix_3_0, ix_3_1, ix_3_2, ix_4_0, ix_4_1, ix_4_2, ix_4_3, List.map_cons, List.map_nil, List.append_nil, List.cons_append, List.nil_append, List.length_cons, List.length_nil, List.getElem?_cons_zero, List.getElem?_cons_succ, List.getElem?_nil, List.set_cons_zero, List.set_cons_succ, List.replicate_succ, List.replicate_zero, if_true, if_false, reduceIte, Nat.reduceSub, Nat.reduceAdd, Nat.reduceLeDiff, Nat.reduceEqDiff, Bool.not_true, Bool.not_false, Bool.false_eq_true, prop_at (worths_at M) (ρ := [.frz (instD M), .frz (lI js), .frz (lI (tots M js M.G)), .none, .none, .none, .none, .none]) rfl, hW]
      unfold lI
      unfold lI at c
      simp only [runDef, bSeq, bNil, bRet, bRetN, bSet, bSetO, bIf, bFrz, bMix, mFrz, mOwn, mNil, setSl, bApp, bPutX, bAug, bAsg, bDrop, gTupD, gsCons, gsNil, gSet, noExc, vVar, vC, vBin, vChain, vNot, vIf, vTup, oTup, vLst, oLst, vFn, vCall, aCons, aNil, vTest, vTruth, bAnd, bOr, bNot, vFld, vMk, vIsC, vIsi, tyName, sub_tt, sub_ii, sub_ib, natc1, natc2, natc3, natc4, decide_true, decide_false, oAdd_ap, oSub_ap, oMul_ap, oDiv_ap, oMod_ap, dI2, dI2c, oLt_ap, oLe_ap, oGt_ap, oGe_ap, oIsN_ap, oNotN_ap, VM.D.isNon, oIdx_l, oIdx_t, fLen, fAbs, fInt, VM.R.bind_ok, VM.R.bind_exc, VM.R.bind_stuck, Option.bind_some, Option.bind_none, ix_1_0, ix_2_0, ix_2_1, ix_3_0, ix_3_1, ix_3_2, ix_4_0, ix_4_1, ix_4_2, ix_4_3, List.map_cons, List.map_nil, List.append_nil, List.cons_append, List.nil_append, List.length_cons, List.length_nil, List.getElem?_cons_zero, List.getElem?_cons_succ, List.getElem?_nil, List.set_cons_zero, List.set_cons_succ, List.replicate_succ, List.replicate_zero, if_true, if_false, reduceIte, Nat.reduceSub, Nat.reduceAdd, Nat.reduceLeDiff, Nat.reduceEqDiff, Bool.not_true, Bool.not_false, Bool.false_eq_true, fMax, ints?_map, hmx, c]
      simp only [runDef, bSeq, bNil, bRet, bRetN, bSet, bSetO, bIf, bFrz, bMix, mFrz, mOwn, mNil, setSl, bApp, bPutX, bAug, bAsg, bDrop, gTupD, gsCons, gsNil, gSet, noExc, vVar, vC, vBin, vChain, vNot, vIf, vTup, oTup, vLst, oLst, vFn, vCall, aCons, aNil, vTest, vTruth, bAnd, bOr, bNot, vFld, vMk, vIsC, vIsi, tyName, sub_tt, sub_ii, sub_ib, natc1, natc2, natc3, natc4, decide_true, decide_false, oAdd_ap, oSub_ap, oMul_ap, oDiv_ap, oMod_ap, dI2, dI2c, oLt_ap, oLe_ap, oGt_ap, oGe_ap, oIsN_ap, oNotN_ap, VM.D.isNon, oIdx_l, oIdx_t, fLen, fAbs, fInt, VM.R.bind_ok, VM.R.bind_exc, VM.R.bind_stuck, Option.bind_some, Option.bind_none, ix_1_0, ix_2_0, ix_2_1, ix_3_0, ix_3_1, ix_3_2, ix_4_0, ix_4_1, ix_4_2, ix_4_3, List.map_cons, List.map_nil, List.append_nil, List.cons_append, List.nil_append, List.length_cons, List.length_nil, List.getElem?_cons_zero, List.getElem?_cons_succ, List.getElem?_nil, List.set_cons_zero, List.set_cons_succ, List.replicate_succ, List.replicate_zero, if_true, if_false, reduceIte, Nat.reduceSub, Nat.reduceAdd, Nat.reduceLeDiff, Nat.reduceEqDiff, Bool.not_true, Bool.not_false, Bool.false_eq_true, vMaxKey, D.listItems, maxKD]
      rw [hkey _ rfl b (hmem b List.mem_cons_self)]
      simp only [R.bind_ok]
      rw [hmk _ rfl]
      rfl
end VM
end
section
set_option Elab.async false
set_option linter.all false
set_option maxRecDepth 100000
set_option autoImplicit false
/-! Mk9: the law's fractions and the program's integers. -/
namespace VM
open PySem PySem.Spec L2
/-- each integer is the fraction times d -/
inductive Rel (d : Rat) : List Rat → List Int → Prop
  | nil : Rel d [] []
  | cons {q : Rat} {x : Int} {s : List Rat} {js : List Int} : (x : Rat) = q * d → Rel d s js → Rel d (q :: s) (x :: js)
theorem rel_tot {d : Rat} {a : Nat} : ∀ {s : List Rat} {js : List Int} (R : List (List Int)), Rel d s js → ((tot js R a : Int) : Rat) = counts s R a * d
  | _, _, R, .nil => by
    have h1 : tot [] R a = 0 := by simp [tot]
    have h2 : counts [] R a = 0 := by simp [counts, qsum_nil]
    rw [h1, h2, Rat.zero_mul]
    rfl
  | _, _, [], .cons _ _ => by
    have h1 : ∀ l, tot l [] a = 0 := fun l => by simp [tot]
    have h2 : ∀ l, counts l [] a = 0 := fun l => by simp [counts, qsum_nil]
    rw [h1, h2, Rat.zero_mul]
    rfl
  | q :: s, x :: js, r :: R, .cons h t => by
    have ih := rel_tot (a := a) R t
    have h1 : tot (x :: js) (r :: R) a = x * r.getD a 0 + tot js R a := by simp [tot]
    have h2 : counts (q :: s) (r :: R) a = q * ((r.getD a 0 : Int) : Rat) + counts s R a := by
      unfold counts
      rw [List.zip_cons_cons, List.map_cons, qsum_cons]
    rw [h1, h2, Rat.intCast_add, Rat.intCast_mul, ih, h]
    grind
theorem rel_sum {d : Rat} : ∀ {s : List Rat} {js : List Int}, Rel d s js → ((js.sum : Int) : Rat) = qsum s * d
  | _, _, .nil => by rw [qsum_nil, Rat.zero_mul]; rfl
  | _, _, .cons h t => by
    rw [List.sum_cons, qsum_cons, Rat.intCast_add, rel_sum t, h]
    grind
theorem rel_map {α : Type} {d : Rat} {f : α → Rat} {g : α → Int} : ∀ l : List α, (∀ a ∈ l, ((g a : Int) : Rat) = f a * d) → Rel d (l.map f) (l.map g)
  | [], _ => .nil
  | a :: l, h => .cons (h a List.mem_cons_self) (rel_map l fun b hb => h b (List.mem_cons_of_mem _ hb))
theorem lt_of_rel {p q d : Rat} {x y : Int} (hd : 0 < d) (h1 : (x : Rat) = p * d) (h2 : (y : Rat) = q * d) : p < q ↔ x < y := by
  rw [← Rat.intCast_lt_intCast, h1, h2]
  constructor
  · intro h; exact Rat.mul_lt_mul_of_pos_right h hd
  · intro h
    by_cases c : p < q
    · exact c
    · have : q ≤ p := Rat.not_lt.mp c
      have := Rat.mul_le_mul_of_nonneg_right this (Rat.le_of_lt hd)
      exact absurd h (Rat.not_lt.mpr this)
theorem eq_of_rel {p q d : Rat} {x y : Int} (hd : 0 < d) (h1 : (x : Rat) = p * d) (h2 : (y : Rat) = q * d) : p = q ↔ x = y := by
  have hn : d ≠ 0 := fun z => by rw [z] at hd; exact absurd hd (Rat.lt_irrefl)
  constructor
  · intro h; subst h; rw [← h2] at h1; exact_mod_cast h1
  · intro h; subst h; rw [h1] at h2; grind
/-- the law's act is the first of the best, too -/
theorem law_top {M : Mat} {s : List Rat} {js : List Int} {d : Rat} (hd : 0 < d) (hr : Rel d s js) : ∀ i : Nat, IsTop (tot js M.G) (tot js M.W) (i + 1) (topUp M s i)
  | 0 => ⟨by simp [topUp], fun b hb => by
      have : b = 0 := by omega
      subst this
      exact .inr ⟨rfl, Int.le_refl _⟩, fun b hb => by simp [topUp] at hb⟩
  | i + 1 => by
    obtain ⟨h1, h2, h3⟩ := law_top hd hr i (M := M)
    have hb : better M s (topUp M s i) (i + 1) ↔ (tot js M.G (topUp M s i) < tot js M.G (i + 1) ∨ (tot js M.G (i + 1) = tot js M.G (topUp M s i) ∧ tot js M.W (topUp M s i) < tot js M.W (i + 1))) := by
      unfold better
      rw [lt_of_rel hd (rel_tot M.G hr) (rel_tot M.G hr), eq_of_rel hd (rel_tot M.G hr) (rel_tot M.G hr), lt_of_rel hd (rel_tot M.W hr) (rel_tot M.W hr)]
    unfold topUp
    by_cases c : better M s (topUp M s i) (i + 1)
    · rw [if_pos c]
      have c' := hb.mp c
      refine ⟨by omega, fun b hb => ?_, fun b hb z => ?_⟩
      · by_cases e : b = i + 1
        · subst e; exact .inr ⟨rfl, Int.le_refl _⟩
        · have := h2 b (by omega)
          omega
      · have := h2 b (by omega)
        omega
    · rw [if_neg c]
      have c' : ¬ _ := fun z => c (hb.mpr z)
      refine ⟨by omega, fun b hb => ?_, h3⟩
      by_cases e : b = i + 1
      · subst e; omega
      · exact h2 b (by omega)
theorem done_eq {M : Mat} {s : List Rat} {js : List Int} {d : Rat} {t : Nat} (hM : M.Ok) (hd : 0 < d) (hr : Rel d s js) (ht : IsTop (tot js M.G) (tot js M.W) M.a t) : lawDone M s = t := by
  have a2 := hM.a2
  have h := law_top hd hr (M.a - 1) (M := M)
  rw [show M.a - 1 + 1 = M.a by omega] at h
  exact h.uniq ht
/-! ### the two of a table -/
theorem shares_zip {M : Mat} {T : Tab} (hM : M.Ok) (hT : T.Ok M) (j : Nat) : shares M T j = (M.P.zip T.T).map fun p => Rat.divInt p.1 M.P.sum * p.2.getD j 0 := by
  have l1 := hM.lP
  have l2 := hT.l
  refine List.ext_getElem? fun i => ?_
  simp only [shares, List.getElem?_map, List.getElem?_zipIdx, List.getElem?_zip_eq_some, Nat.zero_add]
  by_cases hi : i < M.n
  · have e1 : M.P[i]? = some (M.P.getD i 0) := getD_some (by omega)
    have e2 : T.T[i]? = some (T.T.getD i []) := getD_some (by omega)
    have e3 : (M.P.zip T.T)[i]? = some (M.P.getD i 0, T.T.getD i []) := List.getElem?_zip_eq_some.mpr ⟨e1, e2⟩
    rw [e2, e3]
    rfl
  · have e2 : T.T[i]? = none := List.getElem?_eq_none (by omega)
    have e3 : (M.P.zip T.T)[i]? = none := List.getElem?_eq_none (by rw [List.length_zip]; omega)
    rw [e2, e3]
    rfl
theorem dv_pos {M : Mat} {T : Tab} (hM : M.Ok) (hT : T.Ok M) : 0 < dv M T := Int.mul_pos hM.sp.1 (by exact_mod_cast comm_pos T hT)
theorem dv_small {M : Mat} {T : Tab} (hM : M.Ok) (hT : T.Ok M) : (dv M T).natAbs < 2 ^ 20 := by
  have h := hM.sp
  have hc := comm_le hT
  exact mul_bits (i := 5) (j := 15) (show M.P.sum.natAbs < 2 ^ 5 by omega) (show ((comm T : Nat) : Int).natAbs < 2 ^ 15 by rw [Int.natAbs_natCast]; omega)
theorem rel_at {M : Mat} {T : Tab} (hM : M.Ok) (hT : T.Ok M) {j : Nat} (hj : j < T.w) : Rel ((dv M T : Int) : Rat) (shares M T j) (jn M T j) := by
  rw [shares_zip hM hT]
  refine rel_map _ fun p hp => ?_
  have h2 := (List.of_mem_zip hp).2
  have hq : p.2.getD j 0 ∈ p.2 := by
    have hl : j < p.2.length := by rw [(hT.row h2).l]; exact hj
    rw [List.getD_eq_getElem?_getD, List.getElem?_eq_getElem hl]
    exact List.getElem_mem _
  have hs := hM.sp.1
  have hs' : ((M.P.sum : Int) : Rat) ≠ 0 := by exact_mod_cast (Int.ne_of_gt hs)
  rw [Rat.intCast_mul, sc_rat (comm_dvd h2 hq), Rat.divInt_eq_div]
  unfold dv
  rw [Rat.intCast_mul, Rat.intCast_natCast]
  grind
theorem js_ok {M : Mat} {T : Tab} (hM : M.Ok) (hT : T.Ok M) {j : Nat} (hj : j < T.w) : JsOk M (jn M T j) := by
  have l1 := hM.lP
  have l2 := hT.l
  refine ⟨by unfold jn; rw [List.length_map, List.length_zip]; omega, fun x hx => ?_⟩
  obtain ⟨p, hp, rfl⟩ := List.mem_map.mp hx
  obtain ⟨h1, h2⟩ := List.of_mem_zip hp
  have hp6 := hM.P1 _ h1
  obtain ⟨_, h3, h4⟩ := hT.el h2 hj
  have hq : p.2.getD j 0 ∈ p.2 := by
    have hl : j < p.2.length := by rw [(hT.row h2).l]; exact hj
    rw [List.getD_eq_getElem?_getD, List.getElem?_eq_getElem hl]
    exact List.getElem_mem _
  refine ⟨Int.mul_nonneg (by omega) (Int.mul_nonneg h4 (Int.ediv_nonneg (Int.natCast_nonneg _) (Int.natCast_nonneg _))), ?_⟩
  exact mul_bits (i := 3) (j := 19) (show p.1.natAbs < 2 ^ 3 by omega) (sc_bits ((hT.row h2).num hq) (comm_le hT))
end VM
end
section
set_option Elab.async false
set_option linter.all false
set_option maxRecDepth 100000
set_option autoImplicit false
/-! Mk10: beliefs, acts, averages of both. -/
namespace VM
open PySem PySem.Spec L2
theorem ratio_at (t b : Int) (hb : 0 < b) (h2 : b.natAbs < 2 ^ 9000) : m_ratio [.int t, .int b] = .ok (dQ (Rat.divInt t b)) := by
  have hg : 0 < Nat.gcd t.natAbs b.natAbs := Nat.gcd_pos_of_pos_right _ (by omega)
  have hgb : Nat.gcd t.natAbs b.natAbs ≤ b.natAbs := Nat.gcd_le_right _ (by omega)
  have e1 : (Rat.divInt t b).num = t / (Nat.gcd t.natAbs b.natAbs : Nat) := by
    rw [Rat.num_divInt, Int.sign_eq_one_of_pos hb, Int.one_mul]
    congr 2
    rw [Int.gcd, Nat.gcd_comm]
  have e2 : ((Rat.divInt t b).den : Int) = b / (Nat.gcd t.natAbs b.natAbs : Nat) := by
    rw [Rat.den_divInt, if_neg (by omega), Int.gcd, Nat.gcd_comm]
    have : b = (b.natAbs : Int) := by omega
    rw [this]
    simp
  have df : divFits (Nat.gcd t.natAbs b.natAbs : Nat) = true := divFits_nat (by exact_mod_cast hg) (by simpa using Nat.lt_of_le_of_lt hgb h2)
  unfold m_ratio b_ratio
  simp only [runDef, bSeq, bNil, bRet, bRetN, bSet, bSetO, bIf, bFrz, bMix, mFrz, mOwn, mNil, setSl, bApp, bPutX, bAug, bAsg, bDrop, gTupD, gsCons, gsNil, gSet, noExc, vVar, vC, vBin, vChain, vNot, vIf, vTup, oTup, vLst, oLst, vFn, vCall, aCons, aNil, vTest, vTruth, bAnd, bOr, bNot, vFld, vMk, vIsC, vIsi, tyName, sub_tt, sub_ii, sub_ib, natc1, natc2, natc3, natc4, decide_true, decide_false, oAdd_ap, oSub_ap, oMul_ap, oDiv_ap, oMod_ap, dI2, dI2c, oLt_ap, oLe_ap, oGt_ap, oGe_ap, oIsN_ap, oNotN_ap, VM.D.isNon, oIdx_l, oIdx_t, fLen, fAbs, fInt, VM.R.bind_ok, VM.R.bind_exc, VM.R.bind_stuck, Option.bind_some, Option.bind_none, ix_1_0, ix_2_0, ix_2_1, ix_3_0, ix_3_1, ix_3_2, ix_4_0, ix_4_1, ix_4_2, ix_4_3, List.map_cons, List.map_nil, List.append_nil, List.cons_append, List.nil_append, List.length_cons, List.length_nil, List.getElem?_cons_zero, List.getElem?_cons_succ, List.getElem?_nil, List.set_cons_zero, List.set_cons_succ, List.replicate_succ, List.replicate_zero, if_true, if_false, reduceIte, Nat.reduceSub, Nat.reduceAdd, Nat.reduceLeDiff, Nat.reduceEqDiff, Bool.not_true, Bool.not_false, Bool.false_eq_true, fGcd, d2, df]
  rw [dQ, e1, e2]
def said (M : Mat) (T : Tab) (j : Nat) : Bool := (jn M T j).any (· != 0)
def whole (M : Mat) (T : Tab) (j : Nat) : Rat := qsum (shares M T j)
theorem sum_any : ∀ l : List Int, (∀ x ∈ l, 0 ≤ x) → (0 ≤ l.sum) ∧ (l.any (· != 0) = decide (l.sum ≠ 0))
  | [], _ => by simp
  | x :: l, h => by
    obtain ⟨h1, h2⟩ := sum_any l fun y hy => h y (List.mem_cons_of_mem _ hy)
    have h0 := h x List.mem_cons_self
    refine ⟨by simp only [List.sum_cons]; omega, ?_⟩
    simp only [List.any_cons, List.sum_cons, h2]
    by_cases hx : x = 0
    · subst hx; simp
    · have : x + l.sum ≠ 0 := by omega
      simp [hx, this]
section
variable {M : Mat} {T : Tab} (hM : M.Ok) (hT : T.Ok M)
include hM hT
theorem d_pos : (0 : Rat) < ((dv M T : Int) : Rat) := by exact_mod_cast dv_pos hM hT
theorem said_iff {j : Nat} (hj : j < T.w) : said M T j = decide ((jn M T j).sum ≠ 0) ∧ 0 ≤ (jn M T j).sum := by
  have h := sum_any (jn M T j) fun x hx => ((js_ok hM hT hj).e x hx).1
  exact ⟨h.2, h.1⟩
theorem whole_zero {j : Nat} (hj : j < T.w) (h : said M T j = false) : whole M T j = 0 ∧ (jn M T j).sum = 0 := by
  have h1 := (said_iff hM hT hj).1
  rw [h] at h1
  have h2 : (jn M T j).sum = 0 := by simpa using h1.symm
  have h3 := rel_sum (rel_at hM hT hj)
  have hd := d_pos hM hT
  rw [h2] at h3
  refine ⟨?_, h2⟩
  have hn : ((dv M T : Int) : Rat) ≠ 0 := fun z => by rw [z] at hd; exact absurd hd Rat.lt_irrefl
  have : qsum (shares M T j) * ((dv M T : Int) : Rat) = 0 := h3.symm
  unfold whole
  grind
theorem whole_pos {j : Nat} (hj : j < T.w) (h : said M T j = true) : 0 < (whole M T j).num ∧ 0 < (jn M T j).sum := by
  obtain ⟨h1, h0⟩ := said_iff hM hT hj
  rw [h] at h1
  have h2 : (jn M T j).sum ≠ 0 := by simpa using h1.symm
  have h3 := rel_sum (rel_at hM hT hj)
  have hd := d_pos hM hT
  have hp : 0 < (jn M T j).sum := by omega
  refine ⟨?_, hp⟩
  have : (0 : Rat) < whole M T j := (lt_of_rel hd (x := 0) (by rw [Rat.zero_mul]; rfl) h3).mpr hp
  have := (Rat.lt_iff _ _).mp this
  simpa using this
theorem act_word {j : Nat} (hj : j < T.w) : m__act_done [instD M, lI (jn M T j)] = .ok (if said M T j then .int (lawDone M (shares M T j) : Nat) else .non) := by
  obtain ⟨t, h1, h2⟩ := act_at hM (js_ok hM hT hj)
  rw [h2, done_eq hM (d_pos hM hT) (rel_at hM hT hj) h1]
  rfl
def heldD (M : Mat) (T : Tab) (j : Nat) : D := if said M T j then .tup ((shares M T j).map fun q => dQ (q / whole M T j)) else .non
def actD (M : Mat) (T : Tab) (j : Nat) : D := if said M T j then .int (lawDone M (shares M T j) : Nat) else .non
omit hM hT in
theorem rel_belief {d W : Rat} {S : Int} (hd : d ≠ 0) (hS : (S : Rat) = W * d) (hW : W ≠ 0) : ∀ {s : List Rat} {js : List Int}, Rel d s js → (js.map fun x => dQ (Rat.divInt x S)) = s.map fun q => dQ (q / W)
  | _, _, .nil => rfl
  | q :: s, x :: js, .cons h t => by
    rw [List.map_cons, List.map_cons, rel_belief hd hS hW t]
    congr 2
    rw [Rat.divInt_eq_div, h, hS]
    grind
theorem belief_at {j : Nat} (hj : j < T.w) : m__belief [lI (jn M T j)] = .ok (heldD M T j) := by
  have ok := js_ok hM hT hj
  have n4 := hM.n4
  have hd := d_pos hM hT
  have hn : ((dv M T : Int) : Rat) ≠ 0 := fun z => by rw [z] at hd; exact absurd hd Rat.lt_irrefl
  unfold heldD
  cases hs : said M T j with
  | false =>
    obtain ⟨_, h0⟩ := whole_zero hM hT hj hs
    unfold m__belief b__belief lI
    simp only [runDef, bSeq, bNil, bRet, bRetN, bSet, bSetO, bIf, bFrz, bMix, mFrz, mOwn, mNil, setSl, bApp, bPutX, bAug, bAsg, bDrop, gTupD, gsCons, gsNil, gSet, noExc, vVar, vC, vBin, vChain, vNot, vIf, vTup, oTup, vLst, oLst, vFn, vCall, aCons, aNil, vTest, vTruth, bAnd, bOr, bNot, vFld, vMk, vIsC, vIsi, tyName, sub_tt, sub_ii, sub_ib, natc1, natc2, natc3, natc4, decide_true, decide_false, oAdd_ap, oSub_ap, oMul_ap, oDiv_ap, oMod_ap, dI2, dI2c, oLt_ap, oLe_ap, oGt_ap, oGe_ap, oIsN_ap, oNotN_ap, VM.D.isNon, oIdx_l, oIdx_t, fLen, fAbs, fInt, VM.R.bind_ok, VM.R.bind_exc, VM.R.bind_stuck, Option.bind_some, Option.bind_none, ix_1_0, ix_2_0, ix_2_1, ix_3_0, ix_3_1, ix_3_2, ix_4_0, ix_4_1, ix_4_2, ix_4_3, List.map_cons, List.map_nil, List.append_nil, List.cons_append, List.nil_append, List.length_cons, List.length_nil, List.getElem?_cons_zero, List.getElem?_cons_succ, List.getElem?_nil, List.set_cons_zero, List.set_cons_succ, List.replicate_succ, List.replicate_zero, if_true, if_false, reduceIte, Nat.reduceSub, Nat.reduceAdd, Nat.reduceLeDiff, Nat.reduceEqDiff, Bool.not_true, Bool.not_false, Bool.false_eq_true, fSum, ints?_map, h0, eqA_int]
  | true =>
    obtain ⟨h1, h0⟩ := whole_pos hM hT hj hs
    have hz : ¬ (jn M T j).sum = 0 := by omega
    have hsm : (jn M T j).sum.natAbs < 2 ^ 9000 := by
      have : (jn M T j).sum ≤ 2 ^ 22 * (jn M T j).length := by
        have : ∀ l : List Int, (∀ x ∈ l, x.natAbs < 2 ^ 22) → l.sum ≤ 2 ^ 22 * l.length := fun l => by
          induction l with
          | nil => simp
          | cons x l ih =>
            intro h
            have a := h x List.mem_cons_self
            have b := ih fun y hy => h y (List.mem_cons_of_mem _ hy)
            simp only [List.sum_cons, List.length_cons]
            omega
        exact this _ fun x hx => (ok.e x hx).2
      have hl := ok.l
      exact lt_pow_mono (j := 25) (by omega) (by decide)
    have hrel := rel_belief (W := whole M T j) (S := (jn M T j).sum) hn (rel_sum (rel_at hM hT hj)) (fun z => by rw [z] at h1; exact absurd h1 (by decide)) (rel_at hM hT hj)
    have c := vComp_at (vs := [2]) (mi := iSeq (vVar 0)) (g := gSet 2) (nt := tYesB) (me := vFn 2 [] m_ratio (aCons (vVar 2) (aCons (vVar 1) aNil))) (ρ := [.frz (.lst ((jn M T j).map D.int)), .frz (.int (jn M T j).sum), .none])
      D.int (fun x => dQ (Rat.divInt x (jn M T j).sum)) (jn M T j) (by simp only [runDef, bSeq, bNil, bRet, bRetN, bSet, bSetO, bIf, bFrz, bMix, mFrz, mOwn, mNil, setSl, bApp, bPutX, bAug, bAsg, bDrop, gTupD, gsCons, gsNil, gSet, noExc, vVar, vC, vBin, vChain, vNot, vIf, vTup, oTup, vLst, oLst, vFn, vCall, aCons, aNil, vTest, vTruth, bAnd, bOr, bNot, vFld, vMk, vIsC, vIsi, tyName, sub_tt, sub_ii, sub_ib, natc1, natc2, natc3, natc4, decide_true, decide_false, oAdd_ap, oSub_ap, oMul_ap, oDiv_ap, oMod_ap, dI2, dI2c, oLt_ap, oLe_ap, oGt_ap, oGe_ap, oIsN_ap, oNotN_ap, VM.D.isNon, oIdx_l, oIdx_t, fLen, fAbs, fInt, VM.R.bind_ok, VM.R.bind_exc, VM.R.bind_stuck, Option.bind_some, Option.bind_none, ix_1_0, ix_2_0, ix_2_1, ix_3_0, ix_3_1, ix_3_2, ix_4_0, ix_4_1, ix_4_2, ix_4_3, List.map_cons, List.map_nil, List.append_nil, List.cons_append, List.nil_append, List.length_cons, List.length_nil, List.getElem?_cons_zero, List.getElem?_cons_succ, List.getElem?_nil, List.set_cons_zero, List.set_cons_succ, List.replicate_succ, List.replicate_zero, if_true, if_false, reduceIte, Nat.reduceSub, Nat.reduceAdd, Nat.reduceLeDiff, Nat.reduceEqDiff, Bool.not_true, Bool.not_false, Bool.false_eq_true, iSeq, D.items]) (by have := ok.l; omega) (fun x hx => by
        refine turn_yes (show gSet 2 _ _ = .ok _ from rfl) ?_
        simp only [wipeR]
        simp only [runDef, bSeq, bNil, bRet, bRetN, bSet, bSetO, bIf, bFrz, bMix, mFrz, mOwn, mNil, setSl, bApp, bPutX, bAug, bAsg, bDrop, gTupD, gsCons, gsNil, gSet, noExc, vVar, vC, vBin, vChain, vNot, vIf, vTup, oTup, vLst, oLst, vFn, vCall, aCons, aNil, vTest, vTruth, bAnd, bOr, bNot, vFld, vMk, vIsC, vIsi, tyName, sub_tt, sub_ii, sub_ib, natc1, natc2, natc3, natc4, decide_true, decide_false, oAdd_ap, oSub_ap, oMul_ap, oDiv_ap, oMod_ap, dI2, dI2c, oLt_ap, oLe_ap, oGt_ap, oGe_ap, oIsN_ap, oNotN_ap, VM.D.isNon, oIdx_l, oIdx_t, fLen, fAbs, fInt, VM.R.bind_ok, VM.R.bind_exc, VM.R.bind_stuck, Option.bind_some, Option.bind_none, ix_1_0, ix_2_0, ix_2_1, ix_3_0, ix_3_1, ix_3_2, ix_4_0, ix_4_1, ix_4_2, ix_4_3, List.map_cons, List.map_nil, List.append_nil, List.cons_append, List.nil_append, List.length_cons, List.length_nil, List.getElem?_cons_zero, List.getElem?_cons_succ, List.getElem?_nil, List.set_cons_zero, List.set_cons_succ, List.replicate_succ, List.replicate_zero, if_true, if_false, reduceIte, Nat.reduceSub, Nat.reduceAdd, Nat.reduceLeDiff, Nat.reduceEqDiff, Bool.not_true, Bool.not_false, Bool.false_eq_true, ratio_at x _ h0 hsm])
    rw [hrel] at c
    unfold m__belief b__belief lI
    simp only [runDef, bSeq, bNil, bRet, bRetN, bSet, bSetO, bIf, bFrz, bMix, mFrz, mOwn, mNil, setSl, bApp, bPutX, bAug, bAsg, bDrop, gTupD, gsCons, gsNil, gSet, noExc, vVar, vC, vBin, vChain, vNot, vIf, vTup, oTup, vLst, oLst, vFn, vCall, aCons, aNil, vTest, vTruth, bAnd, bOr, bNot, vFld, vMk, vIsC, vIsi, tyName, sub_tt, sub_ii, sub_ib, natc1, natc2, natc3, natc4, decide_true, decide_false, oAdd_ap, oSub_ap, oMul_ap, oDiv_ap, oMod_ap, dI2, dI2c, oLt_ap, oLe_ap, oGt_ap, oGe_ap, oIsN_ap, oNotN_ap, VM.D.isNon, oIdx_l, oIdx_t, fLen, fAbs, fInt, VM.R.bind_ok, VM.R.bind_exc, VM.R.bind_stuck, Option.bind_some, Option.bind_none, ix_1_0, ix_2_0, ix_2_1, ix_3_0, ix_3_1, ix_3_2, ix_4_0, ix_4_1, ix_4_2, ix_4_3, List.map_cons, List.map_nil, List.append_nil, List.cons_append, List.nil_append, List.length_cons, List.length_nil, List.getElem?_cons_zero, List.getElem?_cons_succ, List.getElem?_nil, List.set_cons_zero, List.set_cons_succ, List.replicate_succ, List.replicate_zero, if_true, if_false, reduceIte, Nat.reduceSub, Nat.reduceAdd, Nat.reduceLeDiff, Nat.reduceEqDiff, Bool.not_true, Bool.not_false, Bool.false_eq_true, fSum, ints?_map, eqA_int, decide_eq_false hz, c, fTuple]
theorem beliefs_at : m_beliefs [instD M, tabD T] = .ok (.lst ((List.range T.w).map (heldD M T))) := by
  have w4 := hT.w4
  have c := vComp_at (vs := [4]) (mi := iSeq (vVar 3)) (g := gSet 4) (nt := tYesB) (me := vFn 1 [] m__belief (aCons (vVar 4) aNil)) (ρ := [.frz (instD M), .frz (tabD T), .frz (.int (dv M T)), .frz (.lst ((List.range T.w).map fun j => lI (jn M T j))), .none])
    (fun j => lI (jn M T j)) (heldD M T) (List.range T.w) (by simp only [runDef, bSeq, bNil, bRet, bRetN, bSet, bSetO, bIf, bFrz, bMix, mFrz, mOwn, mNil, setSl, bApp, bPutX, bAug, bAsg, bDrop, gTupD, gsCons, gsNil, gSet, noExc, vVar, vC, vBin, vChain, vNot, vIf, vTup, oTup, vLst, oLst, vFn, vCall, aCons, aNil, vTest, vTruth, bAnd, bOr, bNot, vFld, vMk, vIsC, vIsi, tyName, sub_tt, sub_ii, sub_ib, natc1, natc2, natc3, natc4, decide_true, decide_false, oAdd_ap, oSub_ap, oMul_ap, oDiv_ap, oMod_ap, dI2, dI2c, oLt_ap, oLe_ap, oGt_ap, oGe_ap, oIsN_ap, oNotN_ap, VM.D.isNon, oIdx_l, oIdx_t, fLen, fAbs, fInt, VM.R.bind_ok, VM.R.bind_exc, VM.R.bind_stuck, Option.bind_some, Option.bind_none, ix_1_0, ix_2_0, ix_2_1, ix_3_0, ix_3_1, ix_3_2, ix_4_0, ix_4_1, ix_4_2, ix_4_3, List.map_cons, List.map_nil, List.append_nil, List.cons_append, List.nil_append, List.length_cons, List.length_nil, List.getElem?_cons_zero, List.getElem?_cons_succ, List.getElem?_nil, List.set_cons_zero, List.set_cons_succ, List.replicate_succ, List.replicate_zero, if_true, if_false, reduceIte, Nat.reduceSub, Nat.reduceAdd, Nat.reduceLeDiff, Nat.reduceEqDiff, Bool.not_true, Bool.not_false, Bool.false_eq_true, iSeq, D.items]) (by rw [List.length_range]; omega) (fun j hj => by
      refine turn_yes (show gSet 4 _ _ = .ok _ from rfl) ?_
      simp only [wipeR]
      simp only [runDef, bSeq, bNil, bRet, bRetN, bSet, bSetO, bIf, bFrz, bMix, mFrz, mOwn, mNil, setSl, bApp, bPutX, bAug, bAsg, bDrop, gTupD, gsCons, gsNil, gSet, noExc, vVar, vC, vBin, vChain, vNot, vIf, vTup, oTup, vLst, oLst, vFn, vCall, aCons, aNil, vTest, vTruth, bAnd, bOr, bNot, vFld, vMk, vIsC, vIsi, tyName, sub_tt, sub_ii, sub_ib, natc1, natc2, natc3, natc4, decide_true, decide_false, oAdd_ap, oSub_ap, oMul_ap, oDiv_ap, oMod_ap, dI2, dI2c, oLt_ap, oLe_ap, oGt_ap, oGe_ap, oIsN_ap, oNotN_ap, VM.D.isNon, oIdx_l, oIdx_t, fLen, fAbs, fInt, VM.R.bind_ok, VM.R.bind_exc, VM.R.bind_stuck, Option.bind_some, Option.bind_none, ix_1_0, ix_2_0, ix_2_1, ix_3_0, ix_3_1, ix_3_2, ix_4_0, ix_4_1, ix_4_2, ix_4_3, List.map_cons, List.map_nil, List.append_nil, List.cons_append, List.nil_append, List.length_cons, List.length_nil, List.getElem?_cons_zero, List.getElem?_cons_succ, List.getElem?_nil, List.set_cons_zero, List.set_cons_succ, List.replicate_succ, List.replicate_zero, if_true, if_false, reduceIte, Nat.reduceSub, Nat.reduceAdd, Nat.reduceLeDiff, Nat.reduceEqDiff, Bool.not_true, Bool.not_false, Bool.false_eq_true, belief_at hM hT (List.mem_range.mp hj)])
  unfold m_beliefs b_beliefs
  simp only [runDef, bSeq, bNil, bRet, bRetN, bSet, bSetO, bIf, bFrz, bMix, mFrz, mOwn, mNil, setSl, bApp, bPutX, bAug, bAsg, bDrop, gTupD, gsCons, gsNil, gSet, noExc, vVar, vC, vBin, vChain, vNot, vIf, vTup, oTup, vLst, oLst, vFn, vCall, aCons, aNil, vTest, vTruth, bAnd, bOr, bNot, vFld, vMk, vIsC, vIsi, tyName, sub_tt, sub_ii, sub_ib, natc1, natc2, natc3, natc4, decide_true, decide_false, oAdd_ap, oSub_ap, oMul_ap, oDiv_ap, oMod_ap, dI2, dI2c, oLt_ap, oLe_ap, oGt_ap, oGe_ap, oIsN_ap, oNotN_ap, VM.D.isNon, oIdx_l, oIdx_t, fLen, fAbs, fInt, VM.R.bind_ok, VM.R.bind_exc, VM.R.bind_stuck, Option.bind_some, Option.bind_none, ix_1_0, ix_2_0, ix_2_1, ix_3_0, ix_3_1, ix_3_2, ix_4_0, ix_4_1, ix_4_2, ix_4_3, List.map_cons, List.map_nil, List.append_nil, List.cons_append, List.nil_append, List.length_cons, List.length_nil, List.getElem?_cons_zero, List.getElem?_cons_succ, List.getElem?_nil, List.set_cons_zero, List.set_cons_succ, List.replicate_succ, List.replicate_zero, if_true, if_false, reduceIte, Nat.reduceSub, Nat.reduceAdd, Nat.reduceLeDiff, Nat.reduceEqDiff, Bool.not_true, Bool.not_false, Bool.false_eq_true, check_at hM hT, joint_at hM hT, c]
theorem acts_at : m_acts_after [instD M, tabD T] = .ok (.lst ((List.range T.w).map (actD M T))) := by
  have w4 := hT.w4
  have c := vComp_at (vs := [4]) (mi := iSeq (vVar 3)) (g := gSet 4) (nt := tYesB) (me := vFn 2 [] m__act_done (aCons (vVar 0) (aCons (vVar 4) aNil))) (ρ := [.frz (instD M), .frz (tabD T), .frz (.int (dv M T)), .frz (.lst ((List.range T.w).map fun j => lI (jn M T j))), .none])
    (fun j => lI (jn M T j)) (actD M T) (List.range T.w) (by simp only [runDef, bSeq, bNil, bRet, bRetN, bSet, bSetO, bIf, bFrz, bMix, mFrz, mOwn, mNil, setSl, bApp, bPutX, bAug, bAsg, bDrop, gTupD, gsCons, gsNil, gSet, noExc, vVar, vC, vBin, vChain, vNot, vIf, vTup, oTup, vLst, oLst, vFn, vCall, aCons, aNil, vTest, vTruth, bAnd, bOr, bNot, vFld, vMk, vIsC, vIsi, tyName, sub_tt, sub_ii, sub_ib, natc1, natc2, natc3, natc4, decide_true, decide_false, oAdd_ap, oSub_ap, oMul_ap, oDiv_ap, oMod_ap, dI2, dI2c, oLt_ap, oLe_ap, oGt_ap, oGe_ap, oIsN_ap, oNotN_ap, VM.D.isNon, oIdx_l, oIdx_t, fLen, fAbs, fInt, VM.R.bind_ok, VM.R.bind_exc, VM.R.bind_stuck, Option.bind_some, Option.bind_none, ix_1_0, ix_2_0, ix_2_1, ix_3_0, ix_3_1, ix_3_2, ix_4_0, ix_4_1, ix_4_2, ix_4_3, List.map_cons, List.map_nil, List.append_nil, List.cons_append, List.nil_append, List.length_cons, List.length_nil, List.getElem?_cons_zero, List.getElem?_cons_succ, List.getElem?_nil, List.set_cons_zero, List.set_cons_succ, List.replicate_succ, List.replicate_zero, if_true, if_false, reduceIte, Nat.reduceSub, Nat.reduceAdd, Nat.reduceLeDiff, Nat.reduceEqDiff, Bool.not_true, Bool.not_false, Bool.false_eq_true, iSeq, D.items]) (by rw [List.length_range]; omega) (fun j hj => by
      refine turn_yes (show gSet 4 _ _ = .ok _ from rfl) ?_
      simp only [wipeR]
      simp only [runDef, bSeq, bNil, bRet, bRetN, bSet, bSetO, bIf, bFrz, bMix, mFrz, mOwn, mNil, setSl, bApp, bPutX, bAug, bAsg, bDrop, gTupD, gsCons, gsNil, gSet, noExc, vVar, vC, vBin, vChain, vNot, vIf, vTup, oTup, vLst, oLst, vFn, vCall, aCons, aNil, vTest, vTruth, bAnd, bOr, bNot, vFld, vMk, vIsC, vIsi, tyName, sub_tt, sub_ii, sub_ib, natc1, natc2, natc3, natc4, decide_true, decide_false, oAdd_ap, oSub_ap, oMul_ap, oDiv_ap, oMod_ap, dI2, dI2c, oLt_ap, oLe_ap, oGt_ap, oGe_ap, oIsN_ap, oNotN_ap, VM.D.isNon, oIdx_l, oIdx_t, fLen, fAbs, fInt, VM.R.bind_ok, VM.R.bind_exc, VM.R.bind_stuck, Option.bind_some, Option.bind_none, ix_1_0, ix_2_0, ix_2_1, ix_3_0, ix_3_1, ix_3_2, ix_4_0, ix_4_1, ix_4_2, ix_4_3, List.map_cons, List.map_nil, List.append_nil, List.cons_append, List.nil_append, List.length_cons, List.length_nil, List.getElem?_cons_zero, List.getElem?_cons_succ, List.getElem?_nil, List.set_cons_zero, List.set_cons_succ, List.replicate_succ, List.replicate_zero, if_true, if_false, reduceIte, Nat.reduceSub, Nat.reduceAdd, Nat.reduceLeDiff, Nat.reduceEqDiff, Bool.not_true, Bool.not_false, Bool.false_eq_true, act_word hM hT (List.mem_range.mp hj)]
      rfl)
  unfold m_acts_after b_acts_after
  simp only [runDef, bSeq, bNil, bRet, bRetN, bSet, bSetO, bIf, bFrz, bMix, mFrz, mOwn, mNil, setSl, bApp, bPutX, bAug, bAsg, bDrop, gTupD, gsCons, gsNil, gSet, noExc, vVar, vC, vBin, vChain, vNot, vIf, vTup, oTup, vLst, oLst, vFn, vCall, aCons, aNil, vTest, vTruth, bAnd, bOr, bNot, vFld, vMk, vIsC, vIsi, tyName, sub_tt, sub_ii, sub_ib, natc1, natc2, natc3, natc4, decide_true, decide_false, oAdd_ap, oSub_ap, oMul_ap, oDiv_ap, oMod_ap, dI2, dI2c, oLt_ap, oLe_ap, oGt_ap, oGe_ap, oIsN_ap, oNotN_ap, VM.D.isNon, oIdx_l, oIdx_t, fLen, fAbs, fInt, VM.R.bind_ok, VM.R.bind_exc, VM.R.bind_stuck, Option.bind_some, Option.bind_none, ix_1_0, ix_2_0, ix_2_1, ix_3_0, ix_3_1, ix_3_2, ix_4_0, ix_4_1, ix_4_2, ix_4_3, List.map_cons, List.map_nil, List.append_nil, List.cons_append, List.nil_append, List.length_cons, List.length_nil, List.getElem?_cons_zero, List.getElem?_cons_succ, List.getElem?_nil, List.set_cons_zero, List.set_cons_succ, List.replicate_succ, List.replicate_zero, if_true, if_false, reduceIte, Nat.reduceSub, Nat.reduceAdd, Nat.reduceLeDiff, Nat.reduceEqDiff, Bool.not_true, Bool.not_false, Bool.false_eq_true, check_at hM hT, joint_at hM hT, c]
end
end VM
end
section
set_option Elab.async false
set_option linter.all false
set_option maxRecDepth 100000
set_option autoImplicit false
/-! Mk11: averages and losses of both. -/
namespace VM
open PySem PySem.Spec L2
def bin_not : Fr0 → R D := vBin oNotN (vVar 7) (vC .non)
def accI (M : Mat) (T : Tab) (R : List (List Int)) : Nat → Int
  | 0 => 0
  | k + 1 => if said M T k = true then accI M T R k + tot (jn M T k) R (lawDone M (shares M T k)) else accI M T R k
def accQ (M : Mat) (T : Tab) (R : List (List Int)) : Nat → Rat
  | 0 => 0
  | k + 1 => if said M T k = true then accQ M T R k + counts (shares M T k) R (lawDone M (shares M T k)) else accQ M T R k
section
variable {M : Mat} {T : Tab} {R : List (List Int)} (hM : M.Ok) (hT : T.Ok M)
include hM hT
omit hT in
theorem done_lt (s : List Rat) : lawDone M s < M.a := by
  have := topUp_le M s (M.a - 1)
  have := hM.a2
  unfold lawDone
  omega
theorem acc_rel : ∀ k, k ≤ T.w → ((accI M T R k : Int) : Rat) = accQ M T R k * ((dv M T : Int) : Rat)
  | 0, _ => by
    unfold accI accQ
    rw [Rat.zero_mul]
    rfl
  | k + 1, h => by
    have ih := acc_rel k (by omega)
    unfold accI accQ
    by_cases c : said M T k = true
    · rw [if_pos c, if_pos c, Rat.intCast_add, ih, rel_tot R (rel_at hM hT (by omega))]
      grind
    · rw [if_neg c, if_neg c, ih]
theorem acc_fit (hR : RowsOk M R) : ∀ k, k ≤ T.w → QFit (1 + 61 * k) (accQ M T R k)
  | 0, _ => show QFit (1 + 61 * 0) (0 : Rat) from ⟨by decide, by decide⟩
  | k + 1, h => by
    have ih := acc_fit hR k (by omega)
    have hc := (count_at hM hR (shares_fit hM hT (show k < T.w by omega)) (shares_len hT k) (done_lt hM (shares M T k))).2
    unfold accQ
    by_cases c : said M T k = true
    · rw [if_pos c]
      exact (ih.add hc).mono (by omega)
    · rw [if_neg c]
      exact ih.mono (by omega)
theorem tots_get (js : List Int) {a : Nat} (ha : a < M.a) : (tots M js R)[a]? = some (tot js R a) := by simp [tots, ha]
theorem overall_at (hR : RowsOk M R) : m__overall [instD M, tabD T, rowsD R] = .ok (dQ (accQ M T R T.w)) := by
  have hd := d_pos hM hT
  have hn : ((dv M T : Int) : Rat) ≠ 0 := fun z => by rw [z] at hd; exact absurd hd Rat.lt_irrefl
  obtain ⟨ρ', h1, h2⟩ := forL_pred (s := bTurn (gSet 6) (bSeq (bSet 7 (vFn 2 [] m__act_done (aCons (vVar 0) (aCons (vVar 6) aNil))))
      (bIf (vTest (bin_not)) (bAug 5 oAdd (vBin oIdx (vFn 2 [] m__totals (aCons (vVar 2) (aCons (vVar 6) aNil))) (vVar 7))) bNil)))
    (fun j : Nat => lI (jn M T j)) (fun i ρ => ∃ z6 z7, ρ = [.frz (instD M), .frz (tabD T), .frz (rowsD R), .frz (.int (dv M T)), .frz (.lst ((List.range T.w).map fun j => lI (jn M T j))), .frz (.int (accI M T R i)), z6, z7]) (List.range T.w) 0
    [.frz (instD M), .frz (tabD T), .frz (rowsD R), .frz (.int (dv M T)), .frz (.lst ((List.range T.w).map fun j => lI (jn M T j))), .frz (.int 0), .none, .none] ⟨_, _, rfl⟩ (fun i j ρ hj hI => by
      obtain ⟨z6, z7, rfl⟩ := hI
      rw [Nat.zero_add]
      have hi : i < T.w := by
        have := (List.getElem?_eq_some_iff.mp hj).1
        simpa using this
      have ex : j = i := by simpa [hi] using hj.symm
      subst ex
      have ht := totals_at hM hR (js_ok hM hT hi)
      have ha := done_lt hM (shares M T j)
      unfold bTurn bin_not
      simp only [runDef, bSeq, bNil, bRet, bRetN, bSet, bSetO, bIf, bFrz, bMix, mFrz, mOwn, mNil, setSl, bApp, bPutX, bAug, bAsg, bDrop, gTupD, gsCons, gsNil, gSet, noExc, vVar, vC, vBin, vChain, vNot, vIf, vTup, oTup, vLst, oLst, vFn, vCall, aCons, aNil, vTest, vTruth, bAnd, bOr, bNot, vFld, vMk, vIsC, vIsi, tyName, sub_tt, sub_ii, sub_ib, natc1, natc2, natc3, natc4, decide_true, decide_false, oAdd_ap, oSub_ap, oMul_ap, oDiv_ap, oMod_ap, dI2, dI2c, oLt_ap, oLe_ap, oGt_ap, oGe_ap, oIsN_ap, oNotN_ap, VM.D.isNon, oIdx_l, oIdx_t, fLen, fAbs, fInt, VM.R.bind_ok, VM.R.bind_exc, VM.R.bind_stuck, Option.bind_some, Option.bind_none, ix_1_0, ix_2_0, ix_2_1, ix_3_0, ix_3_1, ix_3_2, ix_4_0, ix_4_1, ix_4_2, ix_4_3, List.map_cons, List.map_nil, List.append_nil, List.cons_append, List.nil_append, List.length_cons, List.length_nil, List.getElem?_cons_zero, List.getElem?_cons_succ, List.getElem?_nil, List.set_cons_zero, List.set_cons_succ, List.replicate_succ, List.replicate_zero, if_true, if_false, reduceIte, Nat.reduceSub, Nat.reduceAdd, Nat.reduceLeDiff, Nat.reduceEqDiff, Bool.not_true, Bool.not_false, Bool.false_eq_true, act_word hM hT hi]
      by_cases c : said M T j = true
      · rw [if_pos c]
        unfold lI at ht ⊢
        simp only [runDef, bSeq, bNil, bRet, bRetN, bSet, bSetO, bIf, bFrz, bMix, mFrz, mOwn, mNil, setSl, bApp, bPutX, bAug, bAsg, bDrop, gTupD, gsCons, gsNil, gSet, noExc, vVar, vC, vBin, vChain, vNot, vIf, vTup, oTup, vLst, oLst, vFn, vCall, aCons, aNil, vTest, vTruth, bAnd, bOr, bNot, vFld, vMk, vIsC, vIsi, tyName, sub_tt, sub_ii, sub_ib, natc1, natc2, natc3, natc4, decide_true, decide_false, oAdd_ap, oSub_ap, oMul_ap, oDiv_ap, oMod_ap, dI2, dI2c, oLt_ap, oLe_ap, oGt_ap, oGe_ap, oIsN_ap, oNotN_ap, VM.D.isNon, oIdx_l, oIdx_t, fLen, fAbs, fInt, VM.R.bind_ok, VM.R.bind_exc, VM.R.bind_stuck, Option.bind_some, Option.bind_none, ix_1_0, ix_2_0, ix_2_1, ix_3_0, ix_3_1, ix_3_2, ix_4_0, ix_4_1, ix_4_2, ix_4_3, List.map_cons, List.map_nil, List.append_nil, List.cons_append, List.nil_append, List.length_cons, List.length_nil, List.getElem?_cons_zero, List.getElem?_cons_succ, List.getElem?_nil, List.set_cons_zero, List.set_cons_succ, List.replicate_succ, List.replicate_zero, if_true, if_false, reduceIte, Nat.reduceSub, Nat.reduceAdd, Nat.reduceLeDiff, Nat.reduceEqDiff, Bool.not_true, Bool.not_false, Bool.false_eq_true, ht, idx_map D.int (tots_get hM hT (R := R) (jn M T j) ha)]
        exact ⟨_, rfl, _, _, by rw [accI, if_pos c]⟩
      · rw [if_neg c]
        simp only [runDef, bSeq, bNil, bRet, bRetN, bSet, bSetO, bIf, bFrz, bMix, mFrz, mOwn, mNil, setSl, bApp, bPutX, bAug, bAsg, bDrop, gTupD, gsCons, gsNil, gSet, noExc, vVar, vC, vBin, vChain, vNot, vIf, vTup, oTup, vLst, oLst, vFn, vCall, aCons, aNil, vTest, vTruth, bAnd, bOr, bNot, vFld, vMk, vIsC, vIsi, tyName, sub_tt, sub_ii, sub_ib, natc1, natc2, natc3, natc4, decide_true, decide_false, oAdd_ap, oSub_ap, oMul_ap, oDiv_ap, oMod_ap, dI2, dI2c, oLt_ap, oLe_ap, oGt_ap, oGe_ap, oIsN_ap, oNotN_ap, VM.D.isNon, oIdx_l, oIdx_t, fLen, fAbs, fInt, VM.R.bind_ok, VM.R.bind_exc, VM.R.bind_stuck, Option.bind_some, Option.bind_none, ix_1_0, ix_2_0, ix_2_1, ix_3_0, ix_3_1, ix_3_2, ix_4_0, ix_4_1, ix_4_2, ix_4_3, List.map_cons, List.map_nil, List.append_nil, List.cons_append, List.nil_append, List.length_cons, List.length_nil, List.getElem?_cons_zero, List.getElem?_cons_succ, List.getElem?_nil, List.set_cons_zero, List.set_cons_succ, List.replicate_succ, List.replicate_zero, if_true, if_false, reduceIte, Nat.reduceSub, Nat.reduceAdd, Nat.reduceLeDiff, Nat.reduceEqDiff, Bool.not_true, Bool.not_false, Bool.false_eq_true]
        exact ⟨_, rfl, _, _, by rw [accI, if_neg c]⟩)
  obtain ⟨z6, z7, rfl⟩ := h2
  have e : Rat.divInt (accI M T R T.w) (dv M T) = accQ M T R T.w := by
    rw [Rat.divInt_eq_div, acc_rel hM hT T.w (Nat.le_refl _)]
    grind
  unfold bin_not at h1
  unfold m__overall b__overall
  simp only [runDef, bSeq, bNil, bRet, bRetN, bSet, bSetO, bIf, bFrz, bMix, mFrz, mOwn, mNil, setSl, bApp, bPutX, bAug, bAsg, bDrop, gTupD, gsCons, gsNil, gSet, noExc, vVar, vC, vBin, vChain, vNot, vIf, vTup, oTup, vLst, oLst, vFn, vCall, aCons, aNil, vTest, vTruth, bAnd, bOr, bNot, vFld, vMk, vIsC, vIsi, tyName, sub_tt, sub_ii, sub_ib, natc1, natc2, natc3, natc4, decide_true, decide_false, oAdd_ap, oSub_ap, oMul_ap, oDiv_ap, oMod_ap, dI2, dI2c, oLt_ap, oLe_ap, oGt_ap, oGe_ap, oIsN_ap, oNotN_ap, VM.D.isNon, oIdx_l, oIdx_t, fLen, fAbs, fInt, VM.R.bind_ok, VM.R.bind_exc, VM.R.bind_stuck, Option.bind_some, Option.bind_none, ix_1_0, ix_2_0, ix_2_1, ix_3_0, ix_3_1, ix_3_2, ix_4_0, ix_4_1, ix_4_2, ix_4_3, List.map_cons, List.map_nil, List.append_nil, List.cons_append, List.nil_append, List.length_cons, List.length_nil, List.getElem?_cons_zero, List.getElem?_cons_succ, List.getElem?_nil, List.set_cons_zero, List.set_cons_succ, List.replicate_succ, List.replicate_zero, if_true, if_false, reduceIte, Nat.reduceSub, Nat.reduceAdd, Nat.reduceLeDiff, Nat.reduceEqDiff, Bool.not_true, Bool.not_false, Bool.false_eq_true, joint_at hM hT, bFor, iSeq, D.items, h1, Nat.zero_add, List.length_range, ratio_at _ _ (dv_pos hM hT) (lt_pow_mono (dv_small hM hT) (by decide)), e]
theorem tab_len : ∃ r0, T.T[0]? = some r0 ∧ ((r0.map dQ).length : Int) = (T.w : Nat) := by
  obtain ⟨h0, hm⟩ := row0 hM hT
  exact ⟨_, h0, by rw [List.length_map, (hT.row hm).l]⟩
theorem whole_at {j : Nat} (hj : j < T.w) : m__law_sum [.lst ((shares M T j).map dQ)] = .ok (dQ (whole M T j)) ∧ QFit 60 (whole M T j) := by
  have h := sum_at (shares_fit hM hT hj) (by rw [shares_len hT]; have := hM.n4; omega)
  exact ⟨h.1, h.2.mono (by rw [shares_len hT]; have := hM.n4; omega)⟩
theorem value_at (hR : RowsOk M R) : m__law_value [plainD M, tabD T, rowsD R] = .ok (dQ (accQ M T R T.w)) := by
  have w4 := hT.w4
  obtain ⟨r0, h0, hl⟩ := tab_len hM hT
  obtain ⟨ρ', h1, h2⟩ := forL_pred (s := bTurn (gSet 4) (bSeq (bSet 5 (vFn 3 [] m__law_shares (aCons (vVar 0) (aCons (vVar 1) (aCons (vVar 4) aNil)))))
      (bIf (vTest (vBin oGt (vBin oIdx (vFn 1 [] m__law_sum (aCons (vVar 5) aNil)) (vC (.int 0))) (vC (.int 0)))) (bSet 3 (vFn 2 [] m__law_plus (aCons (vVar 3) (aCons (vFn 3 [] m__law_count (aCons (vVar 5) (aCons (vVar 2) (aCons (vFn 2 [] m__law_done (aCons (vVar 0) (aCons (vVar 5) aNil))) aNil)))) aNil)))) bNil)))
    (fun j : Nat => D.int (j : Nat)) (fun i ρ => ∃ z4 z5, ρ = [.frz (plainD M), .frz (tabD T), .frz (rowsD R), .frz (dQ (accQ M T R i)), z4, z5]) (List.range T.w) 0
    [.frz (plainD M), .frz (tabD T), .frz (rowsD R), .frz (dQ 0), .none, .none] ⟨_, _, rfl⟩ (fun i j ρ hj hI => by
      obtain ⟨z4, z5, rfl⟩ := hI
      rw [Nat.zero_add]
      have hi : i < T.w := by
        have := (List.getElem?_eq_some_iff.mp hj).1
        simpa using this
      have ex : j = i := by simpa [hi] using hj.symm
      subst ex
      have ha := done_lt hM (shares M T j)
      have hsh := shares_at hM hT hi
      have hw := (whole_at hM hT hi).1
      have hc := count_at hM hR (shares_fit hM hT hi) (shares_len hT j) ha
      have hdn := done_at hM (shares_fit hM hT hi) (shares_len hT j)
      have hf := acc_fit hM hT hR j (by omega)
      have hp := plus_at hf hc.2 (by omega) (by decide)
      have eW : dQ (whole M T j) = .tup [.int (whole M T j).num, .int ((whole M T j).den : Int)] := rfl
      rw [eW] at hw
      unfold bTurn
      simp only [runDef, bSeq, bNil, bRet, bRetN, bSet, bSetO, bIf, bFrz, bMix, mFrz, mOwn, mNil, setSl, bApp, bPutX, bAug, bAsg, bDrop, gTupD, gsCons, gsNil, gSet, noExc, vVar, vC, vBin, vChain, vNot, vIf, vTup, oTup, vLst, oLst, vFn, vCall, aCons, aNil, vTest, vTruth, bAnd, bOr, bNot, vFld, vMk, vIsC, vIsi, tyName, sub_tt, sub_ii, sub_ib, natc1, natc2, natc3, natc4, decide_true, decide_false, oAdd_ap, oSub_ap, oMul_ap, oDiv_ap, oMod_ap, dI2, dI2c, oLt_ap, oLe_ap, oGt_ap, oGe_ap, oIsN_ap, oNotN_ap, VM.D.isNon, oIdx_l, oIdx_t, fLen, fAbs, fInt, VM.R.bind_ok, VM.R.bind_exc, VM.R.bind_stuck, Option.bind_some, Option.bind_none, ix_1_0, ix_2_0, ix_2_1, ix_3_0, ix_3_1, ix_3_2, ix_4_0, ix_4_1, ix_4_2, ix_4_3, List.map_cons, List.map_nil, List.append_nil, List.cons_append, List.nil_append, List.length_cons, List.length_nil, List.getElem?_cons_zero, List.getElem?_cons_succ, List.getElem?_nil, List.set_cons_zero, List.set_cons_succ, List.replicate_succ, List.replicate_zero, if_true, if_false, reduceIte, Nat.reduceSub, Nat.reduceAdd, Nat.reduceLeDiff, Nat.reduceEqDiff, Bool.not_true, Bool.not_false, Bool.false_eq_true, hsh, hw]
      by_cases c : said M T j = true
      · have := (whole_pos hM hT hi c).1
        simp only [runDef, bSeq, bNil, bRet, bRetN, bSet, bSetO, bIf, bFrz, bMix, mFrz, mOwn, mNil, setSl, bApp, bPutX, bAug, bAsg, bDrop, gTupD, gsCons, gsNil, gSet, noExc, vVar, vC, vBin, vChain, vNot, vIf, vTup, oTup, vLst, oLst, vFn, vCall, aCons, aNil, vTest, vTruth, bAnd, bOr, bNot, vFld, vMk, vIsC, vIsi, tyName, sub_tt, sub_ii, sub_ib, natc1, natc2, natc3, natc4, decide_true, decide_false, oAdd_ap, oSub_ap, oMul_ap, oDiv_ap, oMod_ap, dI2, dI2c, oLt_ap, oLe_ap, oGt_ap, oGe_ap, oIsN_ap, oNotN_ap, VM.D.isNon, oIdx_l, oIdx_t, fLen, fAbs, fInt, VM.R.bind_ok, VM.R.bind_exc, VM.R.bind_stuck, Option.bind_some, Option.bind_none, ix_1_0, ix_2_0, ix_2_1, ix_3_0, ix_3_1, ix_3_2, ix_4_0, ix_4_1, ix_4_2, ix_4_3, List.map_cons, List.map_nil, List.append_nil, List.cons_append, List.nil_append, List.length_cons, List.length_nil, List.getElem?_cons_zero, List.getElem?_cons_succ, List.getElem?_nil, List.set_cons_zero, List.set_cons_succ, List.replicate_succ, List.replicate_zero, if_true, if_false, reduceIte, Nat.reduceSub, Nat.reduceAdd, Nat.reduceLeDiff, Nat.reduceEqDiff, Bool.not_true, Bool.not_false, Bool.false_eq_true, decide_eq_true this, hdn, hc.1, hp]
        exact ⟨_, rfl, _, _, by rw [accQ, if_pos c]⟩
      · have c' : said M T j = false := by simpa using c
        have hz := (whole_zero hM hT hi c').1
        have h0 : ¬ (0 : Int) < (whole M T j).num := by rw [hz]; decide
        simp only [runDef, bSeq, bNil, bRet, bRetN, bSet, bSetO, bIf, bFrz, bMix, mFrz, mOwn, mNil, setSl, bApp, bPutX, bAug, bAsg, bDrop, gTupD, gsCons, gsNil, gSet, noExc, vVar, vC, vBin, vChain, vNot, vIf, vTup, oTup, vLst, oLst, vFn, vCall, aCons, aNil, vTest, vTruth, bAnd, bOr, bNot, vFld, vMk, vIsC, vIsi, tyName, sub_tt, sub_ii, sub_ib, natc1, natc2, natc3, natc4, decide_true, decide_false, oAdd_ap, oSub_ap, oMul_ap, oDiv_ap, oMod_ap, dI2, dI2c, oLt_ap, oLe_ap, oGt_ap, oGe_ap, oIsN_ap, oNotN_ap, VM.D.isNon, oIdx_l, oIdx_t, fLen, fAbs, fInt, VM.R.bind_ok, VM.R.bind_exc, VM.R.bind_stuck, Option.bind_some, Option.bind_none, ix_1_0, ix_2_0, ix_2_1, ix_3_0, ix_3_1, ix_3_2, ix_4_0, ix_4_1, ix_4_2, ix_4_3, List.map_cons, List.map_nil, List.append_nil, List.cons_append, List.nil_append, List.length_cons, List.length_nil, List.getElem?_cons_zero, List.getElem?_cons_succ, List.getElem?_nil, List.set_cons_zero, List.set_cons_succ, List.replicate_succ, List.replicate_zero, if_true, if_false, reduceIte, Nat.reduceSub, Nat.reduceAdd, Nat.reduceLeDiff, Nat.reduceEqDiff, Bool.not_true, Bool.not_false, Bool.false_eq_true, decide_eq_false h0]
        exact ⟨_, rfl, _, _, by rw [accQ, if_neg c]⟩)
  obtain ⟨z4, z5, rfl⟩ := h2
  have e0 : D.tup [.int 0, .int 1] = dQ 0 := rfl
  have eT : tabD T = .tup (T.T.map rD) := rfl
  rw [eT] at h1
  unfold m__law_value b__law_value
  rw [eT]
  simp only [runDef, bSeq, bNil, bRet, bRetN, bSet, bSetO, bIf, bFrz, bMix, mFrz, mOwn, mNil, setSl, bApp, bPutX, bAug, bAsg, bDrop, gTupD, gsCons, gsNil, gSet, noExc, vVar, vC, vBin, vChain, vNot, vIf, vTup, oTup, vLst, oLst, vFn, vCall, aCons, aNil, vTest, vTruth, bAnd, bOr, bNot, vFld, vMk, vIsC, vIsi, tyName, sub_tt, sub_ii, sub_ib, natc1, natc2, natc3, natc4, decide_true, decide_false, oAdd_ap, oSub_ap, oMul_ap, oDiv_ap, oMod_ap, dI2, dI2c, oLt_ap, oLe_ap, oGt_ap, oGe_ap, oIsN_ap, oNotN_ap, VM.D.isNon, oIdx_l, oIdx_t, fLen, fAbs, fInt, VM.R.bind_ok, VM.R.bind_exc, VM.R.bind_stuck, Option.bind_some, Option.bind_none, ix_1_0, ix_2_0, ix_2_1, ix_3_0, ix_3_1, ix_3_2, ix_4_0, ix_4_1, ix_4_2, ix_4_3, List.map_cons, List.map_nil, List.append_nil, List.cons_append, List.nil_append, List.length_cons, List.length_nil, List.getElem?_cons_zero, List.getElem?_cons_succ, List.getElem?_nil, List.set_cons_zero, List.set_cons_succ, List.replicate_succ, List.replicate_zero, if_true, if_false, reduceIte, Nat.reduceSub, Nat.reduceAdd, Nat.reduceLeDiff, Nat.reduceEqDiff, Bool.not_true, Bool.not_false, Bool.false_eq_true, e0, idx0 rD h0, hl, bFor, iRange1, rangeOk_nat (n := T.w) (by omega), Int.toNat_natCast, rangeD_map, h1, Nat.zero_add, List.length_range]
end
end VM
end
section
set_option Elab.async false
set_option linter.all false
set_option maxRecDepth 100000
set_option autoImplicit false
/-! Mk12: what swerving loses. -/
namespace VM
open PySem PySem.Spec L2
def lKey (j a : Nat) : D := .tup [.int (j : Nat), .int (a : Nat)]
def lVal (M : Mat) (T : Tab) (j a : Nat) : Rat := counts (shares M T j) M.G (lawDone M (shares M T j)) - counts (shares M T j) M.G a
def stepA (M : Mat) (T : Tab) (j : Nat) (L : List (D × D)) (a : Nat) : List (D × D) := if a = lawDone M (shares M T j) then L else dPut (lKey j a) (dQ (lVal M T j a)) L
def lostJ (M : Mat) (T : Tab) (j : Nat) (L : List (D × D)) (n : Nat) : List (D × D) := (List.range n).foldl (stepA M T j) L
def lost (M : Mat) (T : Tab) : Nat → List (D × D)
  | 0 => []
  | j + 1 => if said M T j = true then lostJ M T j (lost M T j) M.a else lost M T j
theorem dPut_len (k v : D) (L : List (D × D)) : (dPut k v L).length ≤ L.length + 1 := by
  unfold dPut
  split <;> simp
theorem lostJ_len (M : Mat) (T : Tab) (j : Nat) (L : List (D × D)) : ∀ n, (lostJ M T j L n).length ≤ L.length + n
  | 0 => by simp [lostJ]
  | n + 1 => by
    have ih := lostJ_len M T j L n
    unfold lostJ at ih ⊢
    rw [List.range_succ, List.foldl_append, List.foldl_cons, List.foldl_nil]
    have := dPut_len (lKey j n) (dQ (lVal M T j n)) ((List.range n).foldl (stepA M T j) L)
    unfold stepA
    unfold stepA at ih this
    split <;> omega
theorem lostJ_succ (M : Mat) (T : Tab) (j : Nat) (L : List (D × D)) (n : Nat) : lostJ M T j L (n + 1) = stepA M T j (lostJ M T j L n) n := by
  unfold lostJ
  rw [List.range_succ, List.foldl_append, List.foldl_cons, List.foldl_nil]
theorem lost_len (M : Mat) (T : Tab) : ∀ j, (lost M T j).length ≤ j * M.a
  | 0 => by simp [lost]
  | j + 1 => by
    have ih := lost_len M T j
    have h := lostJ_len M T j (lost M T j) M.a
    unfold lost
    rw [Nat.add_mul]
    split <;> omega
theorem lKey_some (j a : Nat) : (lKey j a).key = some (.tup [.num (j : Nat), .num (a : Nat)]) := by rfl
/-- the values are fractions, no key is there twice -/
structure Good (L : List (D × D)) : Prop where
  v : ∀ p ∈ L, ∃ q : Rat, p.2 = dQ q
  n : (L.map fun p => p.1.key).Nodup
theorem Good.nil : Good [] := ⟨(fun p hp => by cases hp), by simp⟩
theorem dGet_none {k : D} {L : List (D × D)} (h : dGet k L = none) : ∀ p ∈ L, p.1.key ≠ k.key := by
  unfold dGet at h
  intro p hp
  have := List.find?_eq_none.mp (Option.map_eq_none_iff.mp h) p hp
  simpa using this
theorem Good.put {L : List (D × D)} (h : Good L) (k : D) (q : Rat) : Good (dPut k (dQ q) L) := by
  unfold dPut
  cases hg : dGet k L with
  | some x =>
    rw [Option.isSome_some, if_pos rfl]
    refine ⟨fun p hp => ?_, ?_⟩
    · obtain ⟨p0, h0, rfl⟩ := List.mem_map.mp hp
      by_cases c : p0.1.key = k.key
      · rw [if_pos c]; exact ⟨q, rfl⟩
      · rw [if_neg c]; exact h.v p0 h0
    · have e : (L.map fun p => if p.1.key = k.key then (p.1, dQ q) else p).map (fun p => p.1.key) = L.map fun p => p.1.key := by
        rw [List.map_map]
        refine List.map_congr_left fun p _ => ?_
        by_cases c : p.1.key = k.key <;> simp [c]
      rw [e]
      exact h.n
  | none =>
    rw [Option.isSome_none, if_neg Bool.false_ne_true]
    refine ⟨fun p hp => ?_, ?_⟩
    · rcases List.mem_append.mp hp with hp | hp
      · exact h.v p hp
      · rw [List.mem_singleton.mp hp]; exact ⟨q, rfl⟩
    · rw [List.map_append, List.map_cons, List.map_nil, List.nodup_append]
      refine ⟨h.n, by simp, fun x hx y hy => ?_⟩
      obtain ⟨p, hp, rfl⟩ := List.mem_map.mp hx
      rw [List.mem_singleton.mp hy]
      exact dGet_none hg p hp
theorem Good.lostJ {M : Mat} {T : Tab} {j : Nat} {L : List (D × D)} (h : Good L) : ∀ n, Good (lostJ M T j L n)
  | 0 => by simpa [VM.lostJ] using h
  | n + 1 => by
    rw [lostJ_succ]
    unfold stepA
    split
    · exact Good.lostJ h n
    · exact (Good.lostJ h n).put _ _
theorem good_lost (M : Mat) (T : Tab) : ∀ j, Good (lost M T j)
  | 0 => .nil
  | j + 1 => by
    unfold lost
    split
    · exact (good_lost M T j).lostJ _
    · exact good_lost M T j
theorem dQ_pd (q : Rat) : (dQ q).pd = some (.tuple [.int q.num, .int (q.den : Int)]) := rfl
theorem good_get {L : List (D × D)} (h : (L.map fun p => p.1.key).Nodup) : ∀ p ∈ L, dGet p.1 L = some p.2 := by
  induction L with
  | nil => intro p hp; cases hp
  | cons x L ih =>
    rw [List.map_cons, List.nodup_cons] at h
    intro p hp
    rcases List.mem_cons.mp hp with rfl | hp
    · simp [dGet, List.find?_cons]
    · have hne : ¬ x.1.key = p.1.key := fun e => h.1 (by rw [e]; exact List.mem_map.mpr ⟨p, hp, rfl⟩)
      have := ih h.2 p hp
      simpa [dGet, List.find?_cons, hne] using this
theorem good_eq {L : List (D × D)} (h : Good L) : oNeA (.dct L) (.dct L) = .ok (.bl false) := by
  have key : ∀ r : List (D × D), (∀ p ∈ r, p ∈ L) → eqEnts L r = some true := fun r => by
    induction r with
    | nil => intro _; rfl
    | cons x r ih =>
      intro hr
      obtain ⟨k, v⟩ := x
      have hm := hr _ List.mem_cons_self
      obtain ⟨q, hq⟩ := h.v _ hm
      have hg := good_get h.n _ hm
      simp only at hq hg
      subst hq
      simp only [eqEnts, hg, dQ_pd, shaped_2, Bool.and_self, if_true, eqv_2, ih fun p hp => hr p (List.mem_cons_of_mem _ hp), Option.map_some, decide_true]
  unfold oNeA
  simp only [D.dc, dctEq, if_true, key L fun p hp => hp]
  rfl
section
variable {M : Mat} {T : Tab} (hM : M.Ok) (hT : T.Ok M)
include hM hT
theorem loss_eq {j a : Nat} (hj : j < T.w) : Rat.divInt (tot (jn M T j) M.G (lawDone M (shares M T j)) - tot (jn M T j) M.G a) (dv M T) = lVal M T j a := by
  have hd := d_pos hM hT
  have hn : ((dv M T : Int) : Rat) ≠ 0 := fun z => by rw [z] at hd; exact absurd hd Rat.lt_irrefl
  rw [Rat.divInt_eq_div, Rat.intCast_sub, rel_tot M.G (rel_at hM hT hj), rel_tot M.G (rel_at hM hT hj)]
  unfold lVal
  grind
theorem swerves_at : m_swerves [instD M, tabD T] = .ok (.dct (lost M T T.w)) := by
  have w4 := hT.w4
  have a4 := hM.a4
  have hdv := lt_pow_mono (dv_small hM hT) (show 20 ≤ 9000 by decide)
  obtain ⟨ρ', h1, h2⟩ := forL_pred (s := bTurn (gTupD 2 (gsCons (gSet 5) (gsCons (gSet 6) gsNil))) (bSeq (bSet 7 (vFn 2 [] m__act_done (aCons (vVar 0) (aCons (vVar 6) aNil))))
      (bIf (vTest (vBin oNotN (vVar 7) (vC .non))) (bSeq (bSet 8 (vFn 2 [] m__totals (aCons (vProp 0 m_Matter_gains (vVar 0)) (aCons (vVar 6) aNil))))
      (bFor (iEnum (aCons (vVar 8) aNil)) (gTupD 2 (gsCons (gSet 9) (gsCons (gSet 10) gsNil))) (bIf (vTest (vBin oNeA (vVar 9) (vVar 7))) (bPutX 4 (vTup (aCons (vVar 5) (aCons (vVar 9) aNil))) (vFn 2 [] m_ratio (aCons (vBin oSub (vBin oIdx (vVar 8) (vVar 7)) (vVar 10)) (aCons (vVar 2) aNil)))) bNil))) bNil)))
    (fun p : Nat × Nat => D.tup [.int (p.2 : Nat), lI (jn M T p.1)]) (fun i ρ => ∃ z5 z6 z7 z8 z9 z10, ρ = [.frz (instD M), .frz (tabD T), .frz (.int (dv M T)), .frz (.lst ((List.range T.w).map fun j => lI (jn M T j))), .own false (.dct (lost M T i)), z5, z6, z7, z8, z9, z10]) (List.range T.w).zipIdx 0
    [.frz (instD M), .frz (tabD T), .frz (.int (dv M T)), .frz (.lst ((List.range T.w).map fun j => lI (jn M T j))), .own false (.dct []), .none, .none, .none, .none, .none, .none] ⟨_, _, _, _, _, _, rfl⟩ (fun i p ρ hp hI => by
      obtain ⟨z5, z6, z7, z8, z9, z10, rfl⟩ := hI
      rw [Nat.zero_add]
      have hi : i < T.w := by
        have := (List.getElem?_eq_some_iff.mp hp).1
        simpa using this
      have ep : p = (i, i) := by
        simp only [List.getElem?_zipIdx, List.getElem?_range, hi, if_true, Option.map_some, Nat.zero_add] at hp
        simpa using hp.symm
      subst ep
      have ha := done_lt hM (shares M T i)
      have ht := totals_at hM hM.gr (js_ok hM hT hi)
      unfold bTurn
      rw [tgt2]
      simp only [runDef, bSeq, bNil, bRet, bRetN, bSet, bSetO, bIf, bFrz, bMix, mFrz, mOwn, mNil, setSl, bApp, bPutX, bAug, bAsg, bDrop, gTupD, gsCons, gsNil, gSet, noExc, vVar, vC, vBin, vChain, vNot, vIf, vTup, oTup, vLst, oLst, vFn, vCall, aCons, aNil, vTest, vTruth, bAnd, bOr, bNot, vFld, vMk, vIsC, vIsi, tyName, sub_tt, sub_ii, sub_ib, natc1, natc2, natc3, natc4, decide_true, decide_false, oAdd_ap, oSub_ap, oMul_ap, oDiv_ap, oMod_ap, dI2, dI2c, oLt_ap, oLe_ap, oGt_ap, oGe_ap, oIsN_ap, oNotN_ap, VM.D.isNon, oIdx_l, oIdx_t, fLen, fAbs, fInt, VM.R.bind_ok, VM.R.bind_exc, VM.R.bind_stuck, Option.bind_some, Option.bind_none, ix_1_0, ix_2_0, ix_2_1, ix_3_0, ix_3_1, ix_3_2, ix_4_0, ix_4_1, ix_4_2, ix_4_3, List.map_cons, List.map_nil, List.append_nil, List.cons_append, List.nil_append, List.length_cons, List.length_nil, List.getElem?_cons_zero, List.getElem?_cons_succ, List.getElem?_nil, List.set_cons_zero, List.set_cons_succ, List.replicate_succ, List.replicate_zero, if_true, if_false, reduceIte, Nat.reduceSub, Nat.reduceAdd, Nat.reduceLeDiff, Nat.reduceEqDiff, Bool.not_true, Bool.not_false, Bool.false_eq_true, act_word hM hT hi]
      by_cases c : said M T i = true
      · rw [if_pos c]
        have hll := lost_len M T i
        have hmul : i * M.a ≤ 4 * 4 := Nat.mul_le_mul (by omega) a4
        obtain ⟨ρ2, g1, g2⟩ := forL_pred (s := bTurn (gTupD 2 (gsCons (gSet 9) (gsCons (gSet 10) gsNil))) (bIf (vTest (vBin oNeA (vVar 9) (vVar 7))) (bPutX 4 (vTup (aCons (vVar 5) (aCons (vVar 9) aNil))) (vFn 2 [] m_ratio (aCons (vBin oSub (vBin oIdx (vVar 8) (vVar 7)) (vVar 10)) (aCons (vVar 2) aNil)))) bNil))
          (fun p : Int × Nat => D.tup [.int (p.2 : Nat), .int p.1]) (fun k ρ => ∃ z9 z10, ρ = [.frz (instD M), .frz (tabD T), .frz (.int (dv M T)), .frz (.lst ((List.range T.w).map fun j => lI (jn M T j))), .own false (.dct (lostJ M T i (lost M T i) k)), .frz (.int (i : Nat)), .frz (lI (jn M T i)), .frz (.int (lawDone M (shares M T i) : Nat)), .frz (.lst ((tots M (jn M T i) M.G).map D.int)), z9, z10])
          (tots M (jn M T i) M.G).zipIdx 0 [.frz (instD M), .frz (tabD T), .frz (.int (dv M T)), .frz (.lst ((List.range T.w).map fun j => lI (jn M T j))), .own false (.dct (lost M T i)), .frz (.int (i : Nat)), .frz (lI (jn M T i)), .frz (.int (lawDone M (shares M T i) : Nat)), .frz (.lst ((tots M (jn M T i) M.G).map D.int)), z9, z10] ⟨_, _, rfl⟩ (fun k p ρ hp hI => by
            obtain ⟨y9, y10, rfl⟩ := hI
            rw [Nat.zero_add]
            have hk : k < M.a := by
              have := (List.getElem?_eq_some_iff.mp hp).1
              simpa [tots] using this
            have ep : p = (tot (jn M T i) M.G k, k) := by
              simp only [List.getElem?_zipIdx, tots_get hM hT (R := M.G) (jn M T i) hk, Option.map_some, Nat.zero_add] at hp
              exact (Option.some.inj hp).symm
            subst ep
            have hlen := lostJ_len M T i (lost M T i) k
            have hdd : ((k : Nat) : Int) = ((lawDone M (shares M T i) : Nat) : Int) ↔ k = lawDone M (shares M T i) := by omega
            unfold bTurn
            rw [tgt2]
            simp only [runDef, bSeq, bNil, bRet, bRetN, bSet, bSetO, bIf, bFrz, bMix, mFrz, mOwn, mNil, setSl, bApp, bPutX, bAug, bAsg, bDrop, gTupD, gsCons, gsNil, gSet, noExc, vVar, vC, vBin, vChain, vNot, vIf, vTup, oTup, vLst, oLst, vFn, vCall, aCons, aNil, vTest, vTruth, bAnd, bOr, bNot, vFld, vMk, vIsC, vIsi, tyName, sub_tt, sub_ii, sub_ib, natc1, natc2, natc3, natc4, decide_true, decide_false, oAdd_ap, oSub_ap, oMul_ap, oDiv_ap, oMod_ap, dI2, dI2c, oLt_ap, oLe_ap, oGt_ap, oGe_ap, oIsN_ap, oNotN_ap, VM.D.isNon, oIdx_l, oIdx_t, fLen, fAbs, fInt, VM.R.bind_ok, VM.R.bind_exc, VM.R.bind_stuck, Option.bind_some, Option.bind_none, ix_1_0, ix_2_0, ix_2_1, ix_3_0, ix_3_1, ix_3_2, ix_4_0, ix_4_1, ix_4_2, ix_4_3, List.map_cons, List.map_nil, List.append_nil, List.cons_append, List.nil_append, List.length_cons, List.length_nil, List.getElem?_cons_zero, List.getElem?_cons_succ, List.getElem?_nil, List.set_cons_zero, List.set_cons_succ, List.replicate_succ, List.replicate_zero, if_true, if_false, reduceIte, Nat.reduceSub, Nat.reduceAdd, Nat.reduceLeDiff, Nat.reduceEqDiff, Bool.not_true, Bool.not_false, Bool.false_eq_true, neA_int]
            by_cases e : k = lawDone M (shares M T i)
            · simp only [runDef, bSeq, bNil, bRet, bRetN, bSet, bSetO, bIf, bFrz, bMix, mFrz, mOwn, mNil, setSl, bApp, bPutX, bAug, bAsg, bDrop, gTupD, gsCons, gsNil, gSet, noExc, vVar, vC, vBin, vChain, vNot, vIf, vTup, oTup, vLst, oLst, vFn, vCall, aCons, aNil, vTest, vTruth, bAnd, bOr, bNot, vFld, vMk, vIsC, vIsi, tyName, sub_tt, sub_ii, sub_ib, natc1, natc2, natc3, natc4, decide_true, decide_false, oAdd_ap, oSub_ap, oMul_ap, oDiv_ap, oMod_ap, dI2, dI2c, oLt_ap, oLe_ap, oGt_ap, oGe_ap, oIsN_ap, oNotN_ap, VM.D.isNon, oIdx_l, oIdx_t, fLen, fAbs, fInt, VM.R.bind_ok, VM.R.bind_exc, VM.R.bind_stuck, Option.bind_some, Option.bind_none, ix_1_0, ix_2_0, ix_2_1, ix_3_0, ix_3_1, ix_3_2, ix_4_0, ix_4_1, ix_4_2, ix_4_3, List.map_cons, List.map_nil, List.append_nil, List.cons_append, List.nil_append, List.length_cons, List.length_nil, List.getElem?_cons_zero, List.getElem?_cons_succ, List.getElem?_nil, List.set_cons_zero, List.set_cons_succ, List.replicate_succ, List.replicate_zero, if_true, if_false, reduceIte, Nat.reduceSub, Nat.reduceAdd, Nat.reduceLeDiff, Nat.reduceEqDiff, Bool.not_true, Bool.not_false, Bool.false_eq_true, decide_eq_true (hdd.mpr e)]
              exact ⟨_, rfl, _, _, by rw [lostJ_succ, stepA, if_pos e]⟩
            · have hkey : (D.tup [.int (i : Nat), .int (k : Nat)]).key.isSome = true := rfl
              have hbig : (lostJ M T i (lost M T i) k).length ≤ 1000000 := by omega
              simp only [runDef, bSeq, bNil, bRet, bRetN, bSet, bSetO, bIf, bFrz, bMix, mFrz, mOwn, mNil, setSl, bApp, bPutX, bAug, bAsg, bDrop, gTupD, gsCons, gsNil, gSet, noExc, vVar, vC, vBin, vChain, vNot, vIf, vTup, oTup, vLst, oLst, vFn, vCall, aCons, aNil, vTest, vTruth, bAnd, bOr, bNot, vFld, vMk, vIsC, vIsi, tyName, sub_tt, sub_ii, sub_ib, natc1, natc2, natc3, natc4, decide_true, decide_false, oAdd_ap, oSub_ap, oMul_ap, oDiv_ap, oMod_ap, dI2, dI2c, oLt_ap, oLe_ap, oGt_ap, oGe_ap, oIsN_ap, oNotN_ap, VM.D.isNon, oIdx_l, oIdx_t, fLen, fAbs, fInt, VM.R.bind_ok, VM.R.bind_exc, VM.R.bind_stuck, Option.bind_some, Option.bind_none, ix_1_0, ix_2_0, ix_2_1, ix_3_0, ix_3_1, ix_3_2, ix_4_0, ix_4_1, ix_4_2, ix_4_3, List.map_cons, List.map_nil, List.append_nil, List.cons_append, List.nil_append, List.length_cons, List.length_nil, List.getElem?_cons_zero, List.getElem?_cons_succ, List.getElem?_nil, List.set_cons_zero, List.set_cons_succ, List.replicate_succ, List.replicate_zero, if_true, if_false, reduceIte, Nat.reduceSub, Nat.reduceAdd, Nat.reduceLeDiff, Nat.reduceEqDiff, Bool.not_true, Bool.not_false, Bool.false_eq_true, decide_eq_false (fun z => e (hdd.mp z)), idx_map D.int (tots_get hM hT (R := M.G) (jn M T i) ha), ratio_at _ _ (dv_pos hM hT) hdv, loss_eq hM hT hi, hkey, hbig, and_self]
              exact ⟨_, rfl, _, _, by rw [lostJ_succ, stepA, if_neg e]; rfl⟩)
        obtain ⟨y9, y10, rfl⟩ := g2
        have hlt : (tots M (jn M T i) M.G).zipIdx.length = M.a := by simp [tots]
        rw [Nat.zero_add, hlt] at g1
        simp only [runDef, bSeq, bNil, bRet, bRetN, bSet, bSetO, bIf, bFrz, bMix, mFrz, mOwn, mNil, setSl, bApp, bPutX, bAug, bAsg, bDrop, gTupD, gsCons, gsNil, gSet, noExc, vVar, vC, vBin, vChain, vNot, vIf, vTup, oTup, vLst, oLst, vFn, vCall, aCons, aNil, vTest, vTruth, bAnd, bOr, bNot, vFld, vMk, vIsC, vIsi, tyName, sub_tt, sub_ii, sub_ib, natc1, natc2, natc3, natc4, decide_true, decide_false, oAdd_ap, oSub_ap, oMul_ap, oDiv_ap, oMod_ap, dI2, dI2c, oLt_ap, oLe_ap, oGt_ap, oGe_ap, oIsN_ap, oNotN_ap, VM.D.isNon, oIdx_l, oIdx_t, fLen, fAbs, fInt, VM.R.bind_ok, VM.R.bind_exc, VM.R.bind_stuck, Option.bind_some, Option.bind_none, ix_1_0, ix_2_0, ix_2_1, ix_3_0, ix_3_1, ix_3_2, ix_4_0, ix_4_1, ix_4_2, ix_4_3, List.map_cons, List.map_nil, List.append_nil, List.cons_append, List.nil_append, List.length_cons, List.length_nil, List.getElem?_cons_zero, List.getElem?_cons_succ, List.getElem?_nil, List.set_cons_zero, List.set_cons_succ, List.replicate_succ, List.replicate_zero, if_true, if_false, reduceIte, Nat.reduceSub, Nat.reduceAdd, Nat.reduceLeDiff, Nat.reduceEqDiff, Bool.not_true, Bool.not_false, Bool.false_eq_true, prop_at (gains_at M) (ρ := [.frz (instD M), .frz (tabD T), .frz (.int (dv M T)), .frz (.lst ((List.range T.w).map fun j => lI (jn M T j))), .own false (.dct (lost M T i)), .frz (.int (i : Nat)), .frz (lI (jn M T i)), .frz (.int (lawDone M (shares M T i) : Nat)), z8, z9, z10]) rfl, ht]
        unfold lI at g1 ⊢
        simp only [runDef, bSeq, bNil, bRet, bRetN, bSet, bSetO, bIf, bFrz, bMix, mFrz, mOwn, mNil, setSl, bApp, bPutX, bAug, bAsg, bDrop, gTupD, gsCons, gsNil, gSet, noExc, vVar, vC, vBin, vChain, vNot, vIf, vTup, oTup, vLst, oLst, vFn, vCall, aCons, aNil, vTest, vTruth, bAnd, bOr, bNot, vFld, vMk, vIsC, vIsi, tyName, sub_tt, sub_ii, sub_ib, natc1, natc2, natc3, natc4, decide_true, decide_false, oAdd_ap, oSub_ap, oMul_ap, oDiv_ap, oMod_ap, dI2, dI2c, oLt_ap, oLe_ap, oGt_ap, oGe_ap, oIsN_ap, oNotN_ap, VM.D.isNon, oIdx_l, oIdx_t, fLen, fAbs, fInt, VM.R.bind_ok, VM.R.bind_exc, VM.R.bind_stuck, Option.bind_some, Option.bind_none, ix_1_0, ix_2_0, ix_2_1, ix_3_0, ix_3_1, ix_3_2, ix_4_0, ix_4_1, ix_4_2, ix_4_3, List.map_cons, List.map_nil, List.append_nil, List.cons_append, List.nil_append, List.length_cons, List.length_nil, List.getElem?_cons_zero, List.getElem?_cons_succ, List.getElem?_nil, List.set_cons_zero, List.set_cons_succ, List.replicate_succ, List.replicate_zero, if_true, if_false, reduceIte, Nat.reduceSub, Nat.reduceAdd, Nat.reduceLeDiff, Nat.reduceEqDiff, Bool.not_true, Bool.not_false, Bool.false_eq_true, bFor, iEnum, D.items]
        rw [enumD_map, g1]
        exact ⟨_, rfl, _, _, _, _, _, _, by rw [lost, if_pos c]⟩
      · rw [if_neg c]
        simp only [runDef, bSeq, bNil, bRet, bRetN, bSet, bSetO, bIf, bFrz, bMix, mFrz, mOwn, mNil, setSl, bApp, bPutX, bAug, bAsg, bDrop, gTupD, gsCons, gsNil, gSet, noExc, vVar, vC, vBin, vChain, vNot, vIf, vTup, oTup, vLst, oLst, vFn, vCall, aCons, aNil, vTest, vTruth, bAnd, bOr, bNot, vFld, vMk, vIsC, vIsi, tyName, sub_tt, sub_ii, sub_ib, natc1, natc2, natc3, natc4, decide_true, decide_false, oAdd_ap, oSub_ap, oMul_ap, oDiv_ap, oMod_ap, dI2, dI2c, oLt_ap, oLe_ap, oGt_ap, oGe_ap, oIsN_ap, oNotN_ap, VM.D.isNon, oIdx_l, oIdx_t, fLen, fAbs, fInt, VM.R.bind_ok, VM.R.bind_exc, VM.R.bind_stuck, Option.bind_some, Option.bind_none, ix_1_0, ix_2_0, ix_2_1, ix_3_0, ix_3_1, ix_3_2, ix_4_0, ix_4_1, ix_4_2, ix_4_3, List.map_cons, List.map_nil, List.append_nil, List.cons_append, List.nil_append, List.length_cons, List.length_nil, List.getElem?_cons_zero, List.getElem?_cons_succ, List.getElem?_nil, List.set_cons_zero, List.set_cons_succ, List.replicate_succ, List.replicate_zero, if_true, if_false, reduceIte, Nat.reduceSub, Nat.reduceAdd, Nat.reduceLeDiff, Nat.reduceEqDiff, Bool.not_true, Bool.not_false, Bool.false_eq_true]
        exact ⟨_, rfl, _, _, _, _, _, _, by rw [lost, if_neg c]⟩)
  obtain ⟨z5, z6, z7, z8, z9, z10, rfl⟩ := h2
  have hlt : (List.range T.w).zipIdx.length = T.w := by simp
  rw [Nat.zero_add, hlt] at h1
  unfold m_swerves b_swerves
  simp only [runDef, bSeq, bNil, bRet, bRetN, bSet, bSetO, bIf, bFrz, bMix, mFrz, mOwn, mNil, setSl, bApp, bPutX, bAug, bAsg, bDrop, gTupD, gsCons, gsNil, gSet, noExc, vVar, vC, vBin, vChain, vNot, vIf, vTup, oTup, vLst, oLst, vFn, vCall, aCons, aNil, vTest, vTruth, bAnd, bOr, bNot, vFld, vMk, vIsC, vIsi, tyName, sub_tt, sub_ii, sub_ib, natc1, natc2, natc3, natc4, decide_true, decide_false, oAdd_ap, oSub_ap, oMul_ap, oDiv_ap, oMod_ap, dI2, dI2c, oLt_ap, oLe_ap, oGt_ap, oGe_ap, oIsN_ap, oNotN_ap, VM.D.isNon, oIdx_l, oIdx_t, fLen, fAbs, fInt, VM.R.bind_ok, VM.R.bind_exc, VM.R.bind_stuck, Option.bind_some, Option.bind_none, ix_1_0, ix_2_0, ix_2_1, ix_3_0, ix_3_1, ix_3_2, ix_4_0, ix_4_1, ix_4_2, ix_4_3, List.map_cons, List.map_nil, List.append_nil, List.cons_append, List.nil_append, List.length_cons, List.length_nil, List.getElem?_cons_zero, List.getElem?_cons_succ, List.getElem?_nil, List.set_cons_zero, List.set_cons_succ, List.replicate_succ, List.replicate_zero, if_true, if_false, reduceIte, Nat.reduceSub, Nat.reduceAdd, Nat.reduceLeDiff, Nat.reduceEqDiff, Bool.not_true, Bool.not_false, Bool.false_eq_true, check_at hM hT, joint_at hM hT, bFor, iEnum, D.items]
  rw [enumD_map, h1]
  simp only [runDef, bSeq, bNil, bRet, bRetN, bSet, bSetO, bIf, bFrz, bMix, mFrz, mOwn, mNil, setSl, bApp, bPutX, bAug, bAsg, bDrop, gTupD, gsCons, gsNil, gSet, noExc, vVar, vC, vBin, vChain, vNot, vIf, vTup, oTup, vLst, oLst, vFn, vCall, aCons, aNil, vTest, vTruth, bAnd, bOr, bNot, vFld, vMk, vIsC, vIsi, tyName, sub_tt, sub_ii, sub_ib, natc1, natc2, natc3, natc4, decide_true, decide_false, oAdd_ap, oSub_ap, oMul_ap, oDiv_ap, oMod_ap, dI2, dI2c, oLt_ap, oLe_ap, oGt_ap, oGe_ap, oIsN_ap, oNotN_ap, VM.D.isNon, oIdx_l, oIdx_t, fLen, fAbs, fInt, VM.R.bind_ok, VM.R.bind_exc, VM.R.bind_stuck, Option.bind_some, Option.bind_none, ix_1_0, ix_2_0, ix_2_1, ix_3_0, ix_3_1, ix_3_2, ix_4_0, ix_4_1, ix_4_2, ix_4_3, List.map_cons, List.map_nil, List.append_nil, List.cons_append, List.nil_append, List.length_cons, List.length_nil, List.getElem?_cons_zero, List.getElem?_cons_succ, List.getElem?_nil, List.set_cons_zero, List.set_cons_succ, List.replicate_succ, List.replicate_zero, if_true, if_false, reduceIte, Nat.reduceSub, Nat.reduceAdd, Nat.reduceLeDiff, Nat.reduceEqDiff, Bool.not_true, Bool.not_false, Bool.false_eq_true]
end
end VM
end
section
set_option Elab.async false
set_option linter.all false
set_option maxRecDepth 100000
set_option autoImplicit false
/-! Mk13: a table is told right. -/
namespace VM
open PySem PySem.Spec L2
/-- data of nesting below n -/
def Fl (n : Nat) (d : D) : Prop := ∃ p, d.pd = some p ∧ p.canLay0 = true ∧ p.depth ≤ n
theorem Fl.mono {n m : Nat} {d : D} (h : Fl n d) (hm : n ≤ m) : Fl m d := let ⟨p, h1, h2, h3⟩ := h; ⟨p, h1, h2, Nat.le_trans h3 hm⟩
theorem Fl.non : Fl 0 .non := ⟨.none, rfl, by simp [PyData.canLay0], by simp [PyData.depth]⟩
theorem Fl.int (i : Int) : Fl 0 (.int i) := ⟨.int i, rfl, by simp [PyData.canLay0], by simp [PyData.depth]⟩
theorem Fl.all {n : Nat} : ∀ ds : List D, (∀ d ∈ ds, Fl n d) → ∃ ps, pdAll ds = some ps ∧ PyData.canLayAll0 ps = true ∧ PyData.depthAll ps ≤ n
  | [], _ => ⟨[], rfl, by simp [PyData.canLayAll0], by simp [PyData.depthAll]⟩
  | d :: ds, h => by
    obtain ⟨p, h1, h2, h3⟩ := h d List.mem_cons_self
    obtain ⟨ps, g1, g2, g3⟩ := Fl.all ds fun x hx => h x (List.mem_cons_of_mem _ hx)
    refine ⟨p :: ps, by simp only [pdAll, h1, g1], by simp [PyData.canLayAll0, h2, g2], ?_⟩
    simp only [PyData.depthAll]
    exact Nat.max_le.mpr ⟨h3, g3⟩
theorem Fl.tup {n : Nat} {ds : List D} (h : ∀ d ∈ ds, Fl n d) : Fl (n + 1) (.tup ds) := by
  obtain ⟨ps, h1, h2, h3⟩ := Fl.all ds h
  exact ⟨.tuple ps, by simp only [D.pd, h1, Option.map_some], by simp only [PyData.canLay0]; exact h2, by simp only [PyData.depth]; omega⟩
theorem Fl.lst {n : Nat} {ds : List D} (h : ∀ d ∈ ds, Fl n d) : Fl (n + 1) (.lst ds) := by
  obtain ⟨ps, h1, h2, h3⟩ := Fl.all ds h
  exact ⟨.list ps, by simp only [D.pd, h1, Option.map_some], by simp only [PyData.canLay0]; exact h2, by simp only [PyData.depth]; omega⟩
theorem Fl.q (q : Rat) : Fl 1 (dQ q) := Fl.tup fun d hd => by
  simp only [List.mem_cons, List.not_mem_nil, or_false] at hd
  rcases hd with rfl | rfl <;> exact Fl.int _
theorem Fl.dc {n : Nat} {d : D} (h : Fl n d) : d.dc = none := by
  obtain ⟨p, h1, _⟩ := h
  cases d with
  | dct _ => simp [D.pd] at h1
  | _ => rfl
theorem Fl.shaped {d : D} (h : Fl 64 d) : ∃ p, d.pd = some p ∧ SeqAt.shaped p = true ∧ PyData.eqv p p = true := by
  obtain ⟨p, h1, h2, h3⟩ := h
  refine ⟨p, h1, ?_, SeqAt.eqv_refl p h2⟩
  unfold SeqAt.shaped
  rw [h2, decide_eq_true h3]
  rfl
theorem Fl.ne {d : D} (h : Fl 64 d) : oNeA d d = .ok (.bl false) := by
  obtain ⟨p, h1, h2, h3⟩ := h.shaped
  unfold oNeA oNe
  simp only [h.dc, h1, h2, Bool.and_self, if_true, h3, Bool.not_true]
theorem Fl.eq {d : D} (h : Fl 64 d) : oEqA d d = .ok (.bl true) := by
  obtain ⟨p, h1, h2, h3⟩ := h.shaped
  unfold oEqA oEq
  simp only [h.dc, h1, h2, Bool.and_self, if_true, h3]
theorem held_fl (M : Mat) (T : Tab) (n : Nat) : Fl 64 (.lst ((List.range n).map (heldD M T))) := by
  refine (Fl.lst (n := 2) fun d hd => ?_).mono (by decide)
  obtain ⟨j, _, rfl⟩ := List.mem_map.mp hd
  unfold heldD
  split
  · refine Fl.tup fun d hd => ?_
    obtain ⟨q, _, rfl⟩ := List.mem_map.mp hd
    exact Fl.q _
  · exact Fl.non.mono (by decide)
theorem acts_fl (M : Mat) (T : Tab) (n : Nat) : Fl 64 (.lst ((List.range n).map (actD M T))) := by
  refine (Fl.lst (n := 0) fun d hd => ?_).mono (by decide)
  obtain ⟨j, _, rfl⟩ := List.mem_map.mp hd
  unfold actD
  split
  · exact Fl.int _
  · exact Fl.non
end VM
end
section
set_option Elab.async false
set_option linter.all false
set_option maxRecDepth 100000
set_option autoImplicit false
/-! Mk14: told right. -/
namespace VM
open PySem PySem.Spec L2
def bin_ne : Fr0 → R D := vBin oNeA (vVar 12) (vVar 10)
section
variable {M : Mat} {T : Tab} (hM : M.Ok) (hT : T.Ok M)
include hM hT
theorem told_loop_act {j : Nat} (hj : j < T.w) (L : List (D × D)) (hL : L.length ≤ 100) (Z4 Z5 : Slot) (z12 z13 z11 : Slot) : ∃ y12 y13,
    forL (bTurn (gSet 12) (bIf (vTest (bin_ne)) (bSeq (bSet 13 (vFn 3 [] m__law_count (aCons (vVar 8) (aCons (vBin oIdx (vVar 0) (vC (.int 1))) (aCons (vVar 12) aNil)))))
      (bPutX 6 (vTup (aCons (vVar 7) (aCons (vVar 12) aNil))) (vFn 2 [] m__law_minus (aCons (vFn 3 [] m__law_count (aCons (vVar 8) (aCons (vBin oIdx (vVar 0) (vC (.int 1))) (aCons (vVar 10) aNil)))) (aCons (vVar 13) aNil))))) bNil))
      ((List.range M.a).map fun a : Nat => D.int (a : Nat)) [.frz (plainD M), .frz (instD M), .frz (tabD T), .frz (.int (T.w : Nat)), Z4, Z5, .own false (.dct L), .frz (.int (j : Nat)), .frz (.lst ((shares M T j).map dQ)), .frz (dQ (whole M T j)), .frz (.int (lawDone M (shares M T j) : Nat)), z11, z12, z13] =
    .ok (.nx [.frz (plainD M), .frz (instD M), .frz (tabD T), .frz (.int (T.w : Nat)), Z4, Z5, .own false (.dct (lostJ M T j L M.a)), .frz (.int (j : Nat)), .frz (.lst ((shares M T j).map dQ)), .frz (dQ (whole M T j)), .frz (.int (lawDone M (shares M T j) : Nat)), z11, y12, y13]) := by
  have a4 := hM.a4
  have hdl := done_lt hM (shares M T j)
  have hc := fun a (ha : a < M.a) => count_at hM hM.gr (shares_fit hM hT hj) (shares_len hT j) ha
  obtain ⟨ρ', h1, h2⟩ := forL_pred (s := bTurn (gSet 12) (bIf (vTest (bin_ne)) (bSeq (bSet 13 (vFn 3 [] m__law_count (aCons (vVar 8) (aCons (vBin oIdx (vVar 0) (vC (.int 1))) (aCons (vVar 12) aNil)))))
      (bPutX 6 (vTup (aCons (vVar 7) (aCons (vVar 12) aNil))) (vFn 2 [] m__law_minus (aCons (vFn 3 [] m__law_count (aCons (vVar 8) (aCons (vBin oIdx (vVar 0) (vC (.int 1))) (aCons (vVar 10) aNil)))) (aCons (vVar 13) aNil))))) bNil))
    (fun a : Nat => D.int (a : Nat)) (fun k ρ => ∃ y12 y13, ρ = [.frz (plainD M), .frz (instD M), .frz (tabD T), .frz (.int (T.w : Nat)), Z4, Z5, .own false (.dct (lostJ M T j L k)), .frz (.int (j : Nat)), .frz (.lst ((shares M T j).map dQ)), .frz (dQ (whole M T j)), .frz (.int (lawDone M (shares M T j) : Nat)), z11, y12, y13]) (List.range M.a) 0 _ ⟨z12, z13, rfl⟩ (fun k a ρ ha hI => by
      obtain ⟨y12, y13, rfl⟩ := hI
      rw [Nat.zero_add]
      have hk : k < M.a := by
        have := (List.getElem?_eq_some_iff.mp ha).1
        simpa using this
      have ex : a = k := by simpa [hk] using ha.symm
      subst ex
      have hlen := lostJ_len M T j L a
      have hdd : ((a : Nat) : Int) = ((lawDone M (shares M T j) : Nat) : Int) ↔ a = lawDone M (shares M T j) := by omega
      unfold bTurn bin_ne
      simp only [runDef, bSeq, bNil, bRet, bRetN, bSet, bSetO, bIf, bFrz, bMix, mFrz, mOwn, mNil, setSl, bApp, bPutX, bAug, bAsg, bDrop, gTupD, gsCons, gsNil, gSet, noExc, vVar, vC, vBin, vChain, vNot, vIf, vTup, oTup, vLst, oLst, vFn, vCall, aCons, aNil, vTest, vTruth, bAnd, bOr, bNot, vFld, vMk, vIsC, vIsi, tyName, sub_tt, sub_ii, sub_ib, natc1, natc2, natc3, natc4, decide_true, decide_false, oAdd_ap, oSub_ap, oMul_ap, oDiv_ap, oMod_ap, dI2, dI2c, oLt_ap, oLe_ap, oGt_ap, oGe_ap, oIsN_ap, oNotN_ap, VM.D.isNon, oIdx_l, oIdx_t, fLen, fAbs, fInt, VM.R.bind_ok, VM.R.bind_exc, VM.R.bind_stuck, Option.bind_some, Option.bind_none, ix_1_0, ix_2_0, ix_2_1, ix_3_0, ix_3_1, ix_3_2, ix_4_0, ix_4_1, ix_4_2, ix_4_3, List.map_cons, List.map_nil, List.append_nil, List.cons_append, List.nil_append, List.length_cons, List.length_nil, List.getElem?_cons_zero, List.getElem?_cons_succ, List.getElem?_nil, List.set_cons_zero, List.set_cons_succ, List.replicate_succ, List.replicate_zero, if_true, if_false, reduceIte, Nat.reduceSub, Nat.reduceAdd, Nat.reduceLeDiff, Nat.reduceEqDiff, Bool.not_true, Bool.not_false, Bool.false_eq_true, neA_int]
      by_cases e : a = lawDone M (shares M T j)
      · simp only [runDef, bSeq, bNil, bRet, bRetN, bSet, bSetO, bIf, bFrz, bMix, mFrz, mOwn, mNil, setSl, bApp, bPutX, bAug, bAsg, bDrop, gTupD, gsCons, gsNil, gSet, noExc, vVar, vC, vBin, vChain, vNot, vIf, vTup, oTup, vLst, oLst, vFn, vCall, aCons, aNil, vTest, vTruth, bAnd, bOr, bNot, vFld, vMk, vIsC, vIsi, tyName, sub_tt, sub_ii, sub_ib, natc1, natc2, natc3, natc4, decide_true, decide_false, oAdd_ap, oSub_ap, oMul_ap, oDiv_ap, oMod_ap, dI2, dI2c, oLt_ap, oLe_ap, oGt_ap, oGe_ap, oIsN_ap, oNotN_ap, VM.D.isNon, oIdx_l, oIdx_t, fLen, fAbs, fInt, VM.R.bind_ok, VM.R.bind_exc, VM.R.bind_stuck, Option.bind_some, Option.bind_none, ix_1_0, ix_2_0, ix_2_1, ix_3_0, ix_3_1, ix_3_2, ix_4_0, ix_4_1, ix_4_2, ix_4_3, List.map_cons, List.map_nil, List.append_nil, List.cons_append, List.nil_append, List.length_cons, List.length_nil, List.getElem?_cons_zero, List.getElem?_cons_succ, List.getElem?_nil, List.set_cons_zero, List.set_cons_succ, List.replicate_succ, List.replicate_zero, if_true, if_false, reduceIte, Nat.reduceSub, Nat.reduceAdd, Nat.reduceLeDiff, Nat.reduceEqDiff, Bool.not_true, Bool.not_false, Bool.false_eq_true, decide_eq_true (hdd.mpr e)]
        exact ⟨_, rfl, _, _, by rw [lostJ_succ, stepA, if_pos e]⟩
      · have hkey : (D.tup [.int (j : Nat), .int (a : Nat)]).key.isSome = true := rfl
        have hbig : (lostJ M T j L a).length ≤ 1000000 := by omega
        have g1 := hc a hk
        have g2 := hc _ hdl
        have hmn := minus_at g2.2 g1.2 (by decide) (by decide)
        unfold plainD at g1 g2 ⊢
        simp only [runDef, bSeq, bNil, bRet, bRetN, bSet, bSetO, bIf, bFrz, bMix, mFrz, mOwn, mNil, setSl, bApp, bPutX, bAug, bAsg, bDrop, gTupD, gsCons, gsNil, gSet, noExc, vVar, vC, vBin, vChain, vNot, vIf, vTup, oTup, vLst, oLst, vFn, vCall, aCons, aNil, vTest, vTruth, bAnd, bOr, bNot, vFld, vMk, vIsC, vIsi, tyName, sub_tt, sub_ii, sub_ib, natc1, natc2, natc3, natc4, decide_true, decide_false, oAdd_ap, oSub_ap, oMul_ap, oDiv_ap, oMod_ap, dI2, dI2c, oLt_ap, oLe_ap, oGt_ap, oGe_ap, oIsN_ap, oNotN_ap, VM.D.isNon, oIdx_l, oIdx_t, fLen, fAbs, fInt, VM.R.bind_ok, VM.R.bind_exc, VM.R.bind_stuck, Option.bind_some, Option.bind_none, ix_1_0, ix_2_0, ix_2_1, ix_3_0, ix_3_1, ix_3_2, ix_4_0, ix_4_1, ix_4_2, ix_4_3, List.map_cons, List.map_nil, List.append_nil, List.cons_append, List.nil_append, List.length_cons, List.length_nil, List.getElem?_cons_zero, List.getElem?_cons_succ, List.getElem?_nil, List.set_cons_zero, List.set_cons_succ, List.replicate_succ, List.replicate_zero, if_true, if_false, reduceIte, Nat.reduceSub, Nat.reduceAdd, Nat.reduceLeDiff, Nat.reduceEqDiff, Bool.not_true, Bool.not_false, Bool.false_eq_true, decide_eq_false (fun z => e (hdd.mp z)), g1.1, g2.1, hmn, hkey, hbig, and_self]
        exact ⟨_, rfl, _, _, by rw [lostJ_succ, stepA, if_neg e]; rfl⟩)
  obtain ⟨y12, y13, rfl⟩ := h2
  rw [Nat.zero_add, List.length_range] at h1
  exact ⟨y12, y13, h1⟩
end
end VM
end
section
set_option Elab.async false
set_option linter.all false
set_option maxRecDepth 100000
set_option autoImplicit false
/-! Mk15: told right, the whole. -/
namespace VM
open PySem PySem.Spec L2
section
variable {M : Mat} {T : Tab} (hM : M.Ok) (hT : T.Ok M)
include hM hT
def wordBody : Fr0 → R Out := (bSeq (bSet 8 (vFn 3 [] m__law_shares (aCons (vVar 0) (aCons (vVar 2) (aCons (vVar 7) aNil)))))
    (bSeq (bSet 9 (vFn 1 [] m__law_sum (aCons (vVar 8) aNil)))
    (bIf (vTest (vBin oEqA (vBin oIdx (vVar 9) (vC (.int 0))) (vC (.int 0)))) (bSeq (bApp 4 (vC .non))
    (bApp 5 (vC .non))) (bSeq (bSet 10 (vFn 2 [] m__law_done (aCons (vVar 0) (aCons (vVar 8) aNil))))
    (bSeq (bApp 4 (vCall fTuple (aCons (vComp (([("_law_one", 11)] : List (Str × Nat)).map (·.2)) (iSeq (vVar 8)) (gSet 11) tYesB (vFn 2 [] m__law_over (aCons (vVar 11) (aCons (vVar 9) aNil)))) aNil)))
    (bSeq (bApp 5 (vVar 10))
    (bFor (iRange1 (aCons (vCall fLen (aCons (vBin oIdx (vBin oIdx (vVar 0) (vC (.int 1))) (vC (.int 0))) aNil)) aNil)) (gSet 12) (bIf (vTest (bin_ne)) (bSeq (bSet 13 (vFn 3 [] m__law_count (aCons (vVar 8) (aCons (vBin oIdx (vVar 0) (vC (.int 1))) (aCons (vVar 12) aNil)))))
    (bPutX 6 (vTup (aCons (vVar 7) (aCons (vVar 12) aNil))) (vFn 2 [] m__law_minus (aCons (vFn 3 [] m__law_count (aCons (vVar 8) (aCons (vBin oIdx (vVar 0) (vC (.int 1))) (aCons (vVar 10) aNil)))) (aCons (vVar 13) aNil))))) bNil))))))))
def toldSt (M : Mat) (T : Tab) (i : Nat) (z7 z8 z9 z10 z11 z12 z13 : Slot) : Fr0 := [.frz (plainD M), .frz (instD M), .frz (tabD T), .frz (.int (T.w : Nat)), .own false (.lst ((List.range i).map (heldD M T))), .own false (.lst ((List.range i).map (actD M T))), .own false (.dct (lost M T i)), z7, z8, z9, z10, z11, z12, z13]
theorem word_at {j : Nat} (hj : j < T.w) (z7 z8 z9 z10 z11 z12 z13 : Slot) : ∃ y7 y8 y9 y10 y11 y12 y13, bTurn (gSet 7) wordBody (.int (j : Nat)) (toldSt M T j z7 z8 z9 z10 z11 z12 z13) = .ok (.nx (toldSt M T (j + 1) y7 y8 y9 y10 y11 y12 y13)) := by
  have w4 := hT.w4
  have a4 := hM.a4
  have n4 := hM.n4
  have hsh := shares_at hM hT hj
  obtain ⟨hw, hwf⟩ := whole_at hM hT hj
  have hsf := shares_fit hM hT hj
  have hsl := shares_len hT j (T := T)
  have hdn := done_at hM hsf hsl
  have hb1 : (List.map (heldD M T) (List.range j)).length ≤ 1000000 := by rw [List.length_map, List.length_range]; omega
  have hb2 : (List.map (actD M T) (List.range j)).length ≤ 1000000 := by rw [List.length_map, List.length_range]; omega
  have eh : (List.range (j + 1)).map (heldD M T) = (List.range j).map (heldD M T) ++ [heldD M T j] := by rw [List.range_succ, List.map_append]; rfl
  have ea : (List.range (j + 1)).map (actD M T) = (List.range j).map (actD M T) ++ [actD M T j] := by rw [List.range_succ, List.map_append]; rfl
  unfold bTurn wordBody toldSt
  rw [eh, ea]
  have hw' := hw
  unfold dQ at hw'
  by_cases c : said M T j = true
  · have hp := (whole_pos hM hT hj c).1
    have hz : ¬ (whole M T j).num = 0 := by omega
    have cc := fun (ρ : Fr0) (h8 : wipeR ρ [11] = ρ.set 11 .none) (e8 : vVar 8 ρ = .ok (.lst ((shares M T j).map dQ))) (e9 : ∀ q : Rat, aCons (vVar 11) (aCons (vVar 9) aNil) ((ρ.set 11 .none).set 11 (.frz (dQ q))) = .ok [dQ q, dQ (whole M T j)]) => vComp_at (vs := [11]) (mi := iSeq (vVar 8)) (g := gSet 11) (nt := tYesB) (me := vFn 2 [] m__law_over (aCons (vVar 11) (aCons (vVar 9) aNil))) (ρ := ρ)
      dQ (fun q => dQ (q / whole M T j)) (shares M T j) (by unfold iSeq; rw [e8]; rfl) (by omega) (fun q hq => by
        refine turn_yes (show gSet 11 _ _ = .ok _ from rfl) ?_
        rw [h8]
        unfold vFn
        rw [e9 q]
        simp only [runDef, bSeq, bNil, bRet, bRetN, bSet, bSetO, bIf, bFrz, bMix, mFrz, mOwn, mNil, setSl, bApp, bPutX, bAug, bAsg, bDrop, gTupD, gsCons, gsNil, gSet, noExc, vVar, vC, vBin, vChain, vNot, vIf, vTup, oTup, vLst, oLst, vFn, vCall, aCons, aNil, vTest, vTruth, bAnd, bOr, bNot, vFld, vMk, vIsC, vIsi, tyName, sub_tt, sub_ii, sub_ib, natc1, natc2, natc3, natc4, decide_true, decide_false, oAdd_ap, oSub_ap, oMul_ap, oDiv_ap, oMod_ap, dI2, dI2c, oLt_ap, oLe_ap, oGt_ap, oGe_ap, oIsN_ap, oNotN_ap, VM.D.isNon, oIdx_l, oIdx_t, fLen, fAbs, fInt, VM.R.bind_ok, VM.R.bind_exc, VM.R.bind_stuck, Option.bind_some, Option.bind_none, ix_1_0, ix_2_0, ix_2_1, ix_3_0, ix_3_1, ix_3_2, ix_4_0, ix_4_1, ix_4_2, ix_4_3, List.map_cons, List.map_nil, List.append_nil, List.cons_append, List.nil_append, List.length_cons, List.length_nil, List.getElem?_cons_zero, List.getElem?_cons_succ, List.getElem?_nil, List.set_cons_zero, List.set_cons_succ, List.replicate_succ, List.replicate_zero, if_true, if_false, reduceIte, Nat.reduceSub, Nat.reduceAdd, Nat.reduceLeDiff, Nat.reduceEqDiff, Bool.not_true, Bool.not_false, Bool.false_eq_true, over_at (hsf q hq) hwf (by decide) (by decide) hp])
    have eheld : heldD M T j = .tup ((shares M T j).map fun q => dQ (q / whole M T j)) := by unfold heldD; rw [if_pos c]
    have eact : actD M T j = .int (lawDone M (shares M T j) : Nat) := by unfold actD; rw [if_pos c]
    have elost : lost M T (j + 1) = lostJ M T j (lost M T j) M.a := by rw [lost, if_pos c]
    obtain ⟨h0, hGl⟩ := len_G hM
    have hlen : (((M.G.getD 0 []).map D.int).length : Int) = (M.a : Nat) := by rw [List.length_map, hGl]
    have hll : (lost M T j).length ≤ 100 := by
      have := lost_len M T j
      have : j * M.a ≤ 4 * 4 := Nat.mul_le_mul (by omega) a4
      omega
    obtain ⟨y12, y13, hloop⟩ := told_loop_act hM hT hj (lost M T j) hll (.own false (.lst ((List.range j).map (heldD M T) ++ [heldD M T j]))) (.own false (.lst ((List.range j).map (actD M T) ++ [actD M T j]))) z12 z13 z11
    rw [elost]
    have hnum : ∀ i : Int, oIdx (dQ (whole M T j)) (.int 0) = .ok (.int (whole M T j).num) := fun _ => rfl
    have hG : oIdx (plainD M) (.int 1) = .ok (rowsD M.G) := rfl
    have hG0 : oIdx (rowsD M.G) (.int 0) = .ok (.tup ((M.G.getD 0 []).map D.int)) := by
      unfold rowsD
      rw [oIdx_t, idx0 tI h0]
      rfl
    rw [eheld, eact] at hloop
    rw [eheld, eact]
    refine ⟨.frz (.int (j : Nat)), .frz (.lst ((shares M T j).map dQ)), .frz (dQ (whole M T j)), .frz (.int (lawDone M (shares M T j) : Nat)), z11, y12, y13, ?_⟩
    simp only [runDef, bSeq, bNil, bRet, bRetN, bSet, bSetO, bIf, bFrz, bMix, mFrz, mOwn, mNil, setSl, bApp, bPutX, bAug, bAsg, bDrop, gTupD, gsCons, gsNil, gSet, noExc, vVar, vC, vBin, vChain, vNot, vIf, vTup, oTup, vLst, oLst, vFn, vCall, aCons, aNil, vTest, vTruth, bAnd, bOr, bNot, vFld, vMk, vIsC, vIsi, tyName, sub_tt, sub_ii, sub_ib, natc1, natc2, natc3, natc4, decide_true, decide_false, oAdd_ap, oSub_ap, oMul_ap, oDiv_ap, oMod_ap, dI2, dI2c, oLt_ap, oLe_ap, oGt_ap, oGe_ap, oIsN_ap, oNotN_ap, VM.D.isNon, oIdx_l, oIdx_t, fLen, fAbs, fInt, VM.R.bind_ok, VM.R.bind_exc, VM.R.bind_stuck, Option.bind_some, Option.bind_none, ix_1_0, ix_2_0, ix_2_1, ix_3_0, ix_3_1, ix_3_2, ix_4_0, ix_4_1, ix_4_2, ix_4_3, List.map_cons, List.map_nil, List.append_nil, List.cons_append, List.nil_append, List.length_cons, List.length_nil, List.getElem?_cons_zero, List.getElem?_cons_succ, List.getElem?_nil, List.set_cons_zero, List.set_cons_succ, List.replicate_succ, List.replicate_zero, if_true, if_false, reduceIte, Nat.reduceSub, Nat.reduceAdd, Nat.reduceLeDiff, Nat.reduceEqDiff, Bool.not_true, Bool.not_false, Bool.false_eq_true, hsh, hw, hnum 0, eqA_int, decide_eq_false hz, hdn]
    rw [cc _ rfl rfl (fun q => rfl)]
    have hj6 : j ≤ 1000000 := by omega
    simp only [runDef, bSeq, bNil, bRet, bRetN, bSet, bSetO, bIf, bFrz, bMix, mFrz, mOwn, mNil, setSl, bApp, bPutX, bAug, bAsg, bDrop, gTupD, gsCons, gsNil, gSet, noExc, vVar, vC, vBin, vChain, vNot, vIf, vTup, oTup, vLst, oLst, vFn, vCall, aCons, aNil, vTest, vTruth, bAnd, bOr, bNot, vFld, vMk, vIsC, vIsi, tyName, sub_tt, sub_ii, sub_ib, natc1, natc2, natc3, natc4, decide_true, decide_false, oAdd_ap, oSub_ap, oMul_ap, oDiv_ap, oMod_ap, dI2, dI2c, oLt_ap, oLe_ap, oGt_ap, oGe_ap, oIsN_ap, oNotN_ap, VM.D.isNon, oIdx_l, oIdx_t, fLen, fAbs, fInt, VM.R.bind_ok, VM.R.bind_exc, VM.R.bind_stuck, Option.bind_some, Option.bind_none, ix_1_0, ix_2_0, ix_2_1, ix_3_0, ix_3_1, ix_3_2, ix_4_0, ix_4_1, ix_4_2, ix_4_3, List.map_cons, List.map_nil, List.append_nil, List.cons_append, List.nil_append, List.length_cons, List.length_nil, List.getElem?_cons_zero, List.getElem?_cons_succ, List.getElem?_nil, List.set_cons_zero, List.set_cons_succ, List.replicate_succ, List.replicate_zero, if_true, if_false, reduceIte, Nat.reduceSub, Nat.reduceAdd, Nat.reduceLeDiff, Nat.reduceEqDiff, Bool.not_true, Bool.not_false, Bool.false_eq_true, fTuple, List.length_range, hj6, bFor, iRange1, hG, hG0, List.length_map, hGl, rangeOk_nat (n := M.a) (by omega), Int.toNat_natCast, rangeD_map, hloop]
  · have c' : said M T j = false := by simpa using c
    have hz := (whole_zero hM hT hj c').1
    have hz' : (whole M T j).num = 0 := by rw [hz]; rfl
    have eheld : heldD M T j = .non := by unfold heldD; rw [if_neg c]
    have eact : actD M T j = .non := by unfold actD; rw [if_neg c]
    have elost : lost M T (j + 1) = lost M T j := by rw [lost, if_neg c]
    rw [eheld, eact, elost]
    have hnum : ∀ i : Int, oIdx (dQ (whole M T j)) (.int 0) = .ok (.int (whole M T j).num) := fun _ => rfl
    simp only [runDef, bSeq, bNil, bRet, bRetN, bSet, bSetO, bIf, bFrz, bMix, mFrz, mOwn, mNil, setSl, bApp, bPutX, bAug, bAsg, bDrop, gTupD, gsCons, gsNil, gSet, noExc, vVar, vC, vBin, vChain, vNot, vIf, vTup, oTup, vLst, oLst, vFn, vCall, aCons, aNil, vTest, vTruth, bAnd, bOr, bNot, vFld, vMk, vIsC, vIsi, tyName, sub_tt, sub_ii, sub_ib, natc1, natc2, natc3, natc4, decide_true, decide_false, oAdd_ap, oSub_ap, oMul_ap, oDiv_ap, oMod_ap, dI2, dI2c, oLt_ap, oLe_ap, oGt_ap, oGe_ap, oIsN_ap, oNotN_ap, VM.D.isNon, oIdx_l, oIdx_t, fLen, fAbs, fInt, VM.R.bind_ok, VM.R.bind_exc, VM.R.bind_stuck, Option.bind_some, Option.bind_none, ix_1_0, ix_2_0, ix_2_1, ix_3_0, ix_3_1, ix_3_2, ix_4_0, ix_4_1, ix_4_2, ix_4_3, List.map_cons, List.map_nil, List.append_nil, List.cons_append, List.nil_append, List.length_cons, List.length_nil, List.getElem?_cons_zero, List.getElem?_cons_succ, List.getElem?_nil, List.set_cons_zero, List.set_cons_succ, List.replicate_succ, List.replicate_zero, if_true, if_false, reduceIte, Nat.reduceSub, Nat.reduceAdd, Nat.reduceLeDiff, Nat.reduceEqDiff, Bool.not_true, Bool.not_false, Bool.false_eq_true, hsh, hw, hnum 0, eqA_int, decide_eq_true hz', hb1, hb2]
    exact ⟨_, _, _, _, _, _, _, rfl⟩
theorem told_at : m__law_told_right [plainD M, instD M, tabD T] = .ok (.bl true) := by
  have w4 := hT.w4
  obtain ⟨r0, h0, hl⟩ := tab_len hM hT
  obtain ⟨ρ', h1, h2⟩ := forL_pred (s := bTurn (gSet 7) wordBody) (fun j : Nat => D.int (j : Nat)) (fun i ρ => ∃ z7 z8 z9 z10 z11 z12 z13, ρ = toldSt M T i z7 z8 z9 z10 z11 z12 z13) (List.range T.w) 0 (toldSt M T 0 .none .none .none .none .none .none .none) ⟨_, _, _, _, _, _, _, rfl⟩ (fun i j ρ hj hI => by
    obtain ⟨z7, z8, z9, z10, z11, z12, z13, rfl⟩ := hI
    rw [Nat.zero_add]
    have hi : i < T.w := by
      have := (List.getElem?_eq_some_iff.mp hj).1
      simpa using this
    have ex : j = i := by simpa [hi] using hj.symm
    subst ex
    obtain ⟨y7, y8, y9, y10, y11, y12, y13, h⟩ := word_at hM hT hi z7 z8 z9 z10 z11 z12 z13
    exact ⟨_, h, _, _, _, _, _, _, _, rfl⟩)
  obtain ⟨z7, z8, z9, z10, z11, z12, z13, rfl⟩ := h2
  rw [Nat.zero_add, List.length_range] at h1
  have hlT : vCall fLen (aCons (vBin oIdx (vVar 2) (vC (.int 0))) aNil) ([plainD M, instD M, tabD T].map Slot.frz ++ List.replicate (14 - 3) Slot.none) = .ok (.int (T.w : Nat)) := by
    have eT : tabD T = .tup (T.T.map rD) := rfl
    rw [eT]
    simp only [runDef, bSeq, bNil, bRet, bRetN, bSet, bSetO, bIf, bFrz, bMix, mFrz, mOwn, mNil, setSl, bApp, bPutX, bAug, bAsg, bDrop, gTupD, gsCons, gsNil, gSet, noExc, vVar, vC, vBin, vChain, vNot, vIf, vTup, oTup, vLst, oLst, vFn, vCall, aCons, aNil, vTest, vTruth, bAnd, bOr, bNot, vFld, vMk, vIsC, vIsi, tyName, sub_tt, sub_ii, sub_ib, natc1, natc2, natc3, natc4, decide_true, decide_false, oAdd_ap, oSub_ap, oMul_ap, oDiv_ap, oMod_ap, dI2, dI2c, oLt_ap, oLe_ap, oGt_ap, oGe_ap, oIsN_ap, oNotN_ap, VM.D.isNon, oIdx_l, oIdx_t, fLen, fAbs, fInt, VM.R.bind_ok, VM.R.bind_exc, VM.R.bind_stuck, Option.bind_some, Option.bind_none, ix_1_0, ix_2_0, ix_2_1, ix_3_0, ix_3_1, ix_3_2, ix_4_0, ix_4_1, ix_4_2, ix_4_3, List.map_cons, List.map_nil, List.append_nil, List.cons_append, List.nil_append, List.length_cons, List.length_nil, List.getElem?_cons_zero, List.getElem?_cons_succ, List.getElem?_nil, List.set_cons_zero, List.set_cons_succ, List.replicate_succ, List.replicate_zero, if_true, if_false, reduceIte, Nat.reduceSub, Nat.reduceAdd, Nat.reduceLeDiff, Nat.reduceEqDiff, Bool.not_true, Bool.not_false, Bool.false_eq_true, idx0 rD h0, hl]
  have hW : oIdx (plainD M) (.int 2) = .ok (rowsD M.W) := rfl
  have hG : oIdx (plainD M) (.int 1) = .ok (rowsD M.G) := rfl
  have hwo : m_worth_of [instD M, tabD T] = .ok (dQ (accQ M T M.W T.w)) := by
    unfold m_worth_of b_worth_of
    simp only [runDef, bSeq, bNil, bRet, bRetN, bSet, bSetO, bIf, bFrz, bMix, mFrz, mOwn, mNil, setSl, bApp, bPutX, bAug, bAsg, bDrop, gTupD, gsCons, gsNil, gSet, noExc, vVar, vC, vBin, vChain, vNot, vIf, vTup, oTup, vLst, oLst, vFn, vCall, aCons, aNil, vTest, vTruth, bAnd, bOr, bNot, vFld, vMk, vIsC, vIsi, tyName, sub_tt, sub_ii, sub_ib, natc1, natc2, natc3, natc4, decide_true, decide_false, oAdd_ap, oSub_ap, oMul_ap, oDiv_ap, oMod_ap, dI2, dI2c, oLt_ap, oLe_ap, oGt_ap, oGe_ap, oIsN_ap, oNotN_ap, VM.D.isNon, oIdx_l, oIdx_t, fLen, fAbs, fInt, VM.R.bind_ok, VM.R.bind_exc, VM.R.bind_stuck, Option.bind_some, Option.bind_none, ix_1_0, ix_2_0, ix_2_1, ix_3_0, ix_3_1, ix_3_2, ix_4_0, ix_4_1, ix_4_2, ix_4_3, List.map_cons, List.map_nil, List.append_nil, List.cons_append, List.nil_append, List.length_cons, List.length_nil, List.getElem?_cons_zero, List.getElem?_cons_succ, List.getElem?_nil, List.set_cons_zero, List.set_cons_succ, List.replicate_succ, List.replicate_zero, if_true, if_false, reduceIte, Nat.reduceSub, Nat.reduceAdd, Nat.reduceLeDiff, Nat.reduceEqDiff, Bool.not_true, Bool.not_false, Bool.false_eq_true, check_at hM hT, prop_at (worths_at M) (ρ := [.frz (instD M), .frz (tabD T)]) rfl, overall_at hM hT hM.wr]
  have hga : m_gain_of [instD M, tabD T] = .ok (dQ (accQ M T M.G T.w)) := by
    unfold m_gain_of b_gain_of
    simp only [runDef, bSeq, bNil, bRet, bRetN, bSet, bSetO, bIf, bFrz, bMix, mFrz, mOwn, mNil, setSl, bApp, bPutX, bAug, bAsg, bDrop, gTupD, gsCons, gsNil, gSet, noExc, vVar, vC, vBin, vChain, vNot, vIf, vTup, oTup, vLst, oLst, vFn, vCall, aCons, aNil, vTest, vTruth, bAnd, bOr, bNot, vFld, vMk, vIsC, vIsi, tyName, sub_tt, sub_ii, sub_ib, natc1, natc2, natc3, natc4, decide_true, decide_false, oAdd_ap, oSub_ap, oMul_ap, oDiv_ap, oMod_ap, dI2, dI2c, oLt_ap, oLe_ap, oGt_ap, oGe_ap, oIsN_ap, oNotN_ap, VM.D.isNon, oIdx_l, oIdx_t, fLen, fAbs, fInt, VM.R.bind_ok, VM.R.bind_exc, VM.R.bind_stuck, Option.bind_some, Option.bind_none, ix_1_0, ix_2_0, ix_2_1, ix_3_0, ix_3_1, ix_3_2, ix_4_0, ix_4_1, ix_4_2, ix_4_3, List.map_cons, List.map_nil, List.append_nil, List.cons_append, List.nil_append, List.length_cons, List.length_nil, List.getElem?_cons_zero, List.getElem?_cons_succ, List.getElem?_nil, List.set_cons_zero, List.set_cons_succ, List.replicate_succ, List.replicate_zero, if_true, if_false, reduceIte, Nat.reduceSub, Nat.reduceAdd, Nat.reduceLeDiff, Nat.reduceEqDiff, Bool.not_true, Bool.not_false, Bool.false_eq_true, check_at hM hT, prop_at (gains_at M) (ρ := [.frz (instD M), .frz (tabD T)]) rfl, overall_at hM hT hM.gr]
  have hb := beliefs_at hM hT
  have ha := acts_at hM hT
  have hs := swerves_at hM hT
  have hvW := value_at hM hT hM.wr
  have hvG := value_at hM hT hM.gr
  have eq : ∀ q : Rat, oEqA (dQ q) (dQ q) = .ok (.bl true) := fun q => by rw [eq_dQ, decide_eq_true rfl]
  unfold m__law_told_right b__law_told_right
  change runDef 3 14 false (bSeq _ (bSeq (bFor _ (gSet 7) wordBody) _)) _ = _
  simp only [runDef, List.length_cons, List.length_nil, if_true, bSeq, bMix, mFrz, hlT, R.bind_ok]
  simp only [runDef, bSeq, bNil, bRet, bRetN, bSet, bSetO, bIf, bFrz, bMix, mFrz, mOwn, mNil, setSl, bApp, bPutX, bAug, bAsg, bDrop, gTupD, gsCons, gsNil, gSet, noExc, vVar, vC, vBin, vChain, vNot, vIf, vTup, oTup, vLst, oLst, vFn, vCall, aCons, aNil, vTest, vTruth, bAnd, bOr, bNot, vFld, vMk, vIsC, vIsi, tyName, sub_tt, sub_ii, sub_ib, natc1, natc2, natc3, natc4, decide_true, decide_false, oAdd_ap, oSub_ap, oMul_ap, oDiv_ap, oMod_ap, dI2, dI2c, oLt_ap, oLe_ap, oGt_ap, oGe_ap, oIsN_ap, oNotN_ap, VM.D.isNon, oIdx_l, oIdx_t, fLen, fAbs, fInt, VM.R.bind_ok, VM.R.bind_exc, VM.R.bind_stuck, Option.bind_some, Option.bind_none, ix_1_0, ix_2_0, ix_2_1, ix_3_0, ix_3_1, ix_3_2, ix_4_0, ix_4_1, ix_4_2, ix_4_3, List.map_cons, List.map_nil, List.append_nil, List.cons_append, List.nil_append, List.length_cons, List.length_nil, List.getElem?_cons_zero, List.getElem?_cons_succ, List.getElem?_nil, List.set_cons_zero, List.set_cons_succ, List.replicate_succ, List.replicate_zero, if_true, if_false, reduceIte, Nat.reduceSub, Nat.reduceAdd, Nat.reduceLeDiff, Nat.reduceEqDiff, Bool.not_true, Bool.not_false, Bool.false_eq_true, bFor, iRange1, rangeOk_nat (n := T.w) (by omega), Int.toNat_natCast, rangeD_map]
  have e0 : toldSt M T 0 .none .none .none .none .none .none .none = [.frz (plainD M), .frz (instD M), .frz (tabD T), .frz (.int (T.w : Nat)), .own false (.lst []), .own false (.lst []), .own false (.dct []), .none, .none, .none, .none, .none, .none, .none] := rfl
  rw [← e0, h1]
  unfold toldSt
  simp only [runDef, bSeq, bNil, bRet, bRetN, bSet, bSetO, bIf, bFrz, bMix, mFrz, mOwn, mNil, setSl, bApp, bPutX, bAug, bAsg, bDrop, gTupD, gsCons, gsNil, gSet, noExc, vVar, vC, vBin, vChain, vNot, vIf, vTup, oTup, vLst, oLst, vFn, vCall, aCons, aNil, vTest, vTruth, bAnd, bOr, bNot, vFld, vMk, vIsC, vIsi, tyName, sub_tt, sub_ii, sub_ib, natc1, natc2, natc3, natc4, decide_true, decide_false, oAdd_ap, oSub_ap, oMul_ap, oDiv_ap, oMod_ap, dI2, dI2c, oLt_ap, oLe_ap, oGt_ap, oGe_ap, oIsN_ap, oNotN_ap, VM.D.isNon, oIdx_l, oIdx_t, fLen, fAbs, fInt, VM.R.bind_ok, VM.R.bind_exc, VM.R.bind_stuck, Option.bind_some, Option.bind_none, ix_1_0, ix_2_0, ix_2_1, ix_3_0, ix_3_1, ix_3_2, ix_4_0, ix_4_1, ix_4_2, ix_4_3, List.map_cons, List.map_nil, List.append_nil, List.cons_append, List.nil_append, List.length_cons, List.length_nil, List.getElem?_cons_zero, List.getElem?_cons_succ, List.getElem?_nil, List.set_cons_zero, List.set_cons_succ, List.replicate_succ, List.replicate_zero, if_true, if_false, reduceIte, Nat.reduceSub, Nat.reduceAdd, Nat.reduceLeDiff, Nat.reduceEqDiff, Bool.not_true, Bool.not_false, Bool.false_eq_true, hb, ha, hs, (held_fl M T T.w).ne, (acts_fl M T T.w).ne, good_eq (good_lost M T T.w), hwo, hga, hW, hG, hvW, hvG, eq]
end
end VM
end
section
set_option Elab.async false
set_option linter.all false
set_option maxRecDepth 100000
set_option autoImplicit false
/-! Mk16: the law's cells and its matter. -/
namespace VM
open PySem PySem.Spec L2
abbrev scrD (ns : List Int) : D := .lst (ns.map D.int)
def cz (ns : List Int) (i : Int) : Int := if i < ns.length then ns.getD i.toNat 0 else if ns = [] then i * 48271 else (ns.getD (i % ns.length).toNat 0 + i) * 48271 % 2147483647
theorem scr_nil : oEqA (scrD []) (.lst []) = .ok (.bl true) := by
  have h : Fl 64 (.lst []) := (Fl.lst (n := 0) (ds := []) fun d hd => by cases hd).mono (by decide)
  exact h.eq
theorem scr_cons (n : Int) (ns : List Int) : oEqA (scrD (n :: ns)) (.lst []) = .ok (.bl false) := by
  have h1 : Fl 64 (scrD (n :: ns)) := (Fl.lst (n := 0) fun d hd => by
    obtain ⟨i, _, rfl⟩ := List.mem_map.mp hd
    exact Fl.int i).mono (by decide)
  have h2 : Fl 64 (.lst []) := (Fl.lst (n := 0) (ds := []) fun d hd => by cases hd).mono (by decide)
  obtain ⟨ps, a1, a2, a3⟩ := Fl.all (n := 0) ((n :: ns).map D.int) fun d hd => by
    obtain ⟨i, _, rfl⟩ := List.mem_map.mp hd
    exact Fl.int i
  have e1 : (scrD (n :: ns)).pd = some (.list ps) := by simp only [scrD, D.pd, a1, Option.map_some]
  obtain ⟨p, b1, b2, _⟩ := h1.shaped
  have e : p = .list ps := by rw [e1] at b1; exact (Option.some.inj b1).symm
  subst e
  obtain ⟨q, c1, c2, _⟩ := h2.shaped
  have e' : q = .list [] := by
    have : (D.lst []).pd = some (.list []) := rfl
    rw [this] at c1; exact (Option.some.inj c1).symm
  subst e'
  have hne : ∃ p' ps', ps = p' :: ps' := by
    cases ps with
    | nil => simp [pdAll, D.pd] at a1; split at a1 <;> simp_all
    | cons p' ps' => exact ⟨_, _, rfl⟩
  obtain ⟨p', ps', rfl⟩ := hne
  unfold oEqA oEq
  simp only [h1.dc, e1, c1, b2, c2, Bool.and_self, if_true]
  simp [PyData.eqv, PyData.eqvAll]
theorem scr_ne {ns : List Int} (h : ns ≠ []) : oEqA (scrD ns) (.lst []) = .ok (.bl false) := by
  cases ns with
  | nil => exact absurd rfl h
  | cons n ns => exact scr_cons n ns
theorem getI {ns : List Int} {i : Int} (h0 : 0 ≤ i) (h : i < ns.length) : (ixN ns.length i).bind (fun j => (ns.map D.int)[j]?) = some (.int (ns.getD i.toNat 0)) := by
  obtain ⟨k, rfl⟩ : ∃ k : Nat, i = (k : Int) := ⟨i.toNat, by omega⟩
  have hx : ns[k]? = some (ns.getD k 0) := getD_some (by omega)
  have := idx_map D.int hx
  rw [List.length_map] at this
  exact this
theorem fits48 (i : Int) : mulFits i 48271 = true := by
  unfold mulFits
  have h : decide ((48271 : Int).natAbs < 2 ^ 63) = true := by decide
  rw [h, Bool.or_true, Bool.true_or]
theorem cell_at (ns : List Int) {i : Int} (h0 : 0 ≤ i) : m__law_cell_at [scrD ns, .int i] = .ok (.int (cz ns i)) := by
  unfold m__law_cell_at b__law_cell_at cz
  by_cases h : i < ns.length
  · rw [if_pos h]
    simp only [runDef, bSeq, bNil, bRet, bRetN, bSet, bSetO, bIf, bFrz, bMix, mFrz, mOwn, mNil, setSl, bApp, bPutX, bAug, bAsg, bDrop, gTupD, gsCons, gsNil, gSet, noExc, vVar, vC, vBin, vChain, vNot, vIf, vTup, oTup, vLst, oLst, vFn, vCall, aCons, aNil, vTest, vTruth, bAnd, bOr, bNot, vFld, vMk, vIsC, vIsi, tyName, sub_tt, sub_ii, sub_ib, natc1, natc2, natc3, natc4, decide_true, decide_false, oAdd_ap, oSub_ap, oMul_ap, oDiv_ap, oMod_ap, dI2, dI2c, oLt_ap, oLe_ap, oGt_ap, oGe_ap, oIsN_ap, oNotN_ap, VM.D.isNon, oIdx_l, oIdx_t, fLen, fAbs, fInt, VM.R.bind_ok, VM.R.bind_exc, VM.R.bind_stuck, Option.bind_some, Option.bind_none, ix_1_0, ix_2_0, ix_2_1, ix_3_0, ix_3_1, ix_3_2, ix_4_0, ix_4_1, ix_4_2, ix_4_3, List.map_cons, List.map_nil, List.append_nil, List.cons_append, List.nil_append, List.length_cons, List.length_nil, List.getElem?_cons_zero, List.getElem?_cons_succ, List.getElem?_nil, List.set_cons_zero, List.set_cons_succ, List.replicate_succ, List.replicate_zero, if_true, if_false, reduceIte, Nat.reduceSub, Nat.reduceAdd, Nat.reduceLeDiff, Nat.reduceEqDiff, Bool.not_true, Bool.not_false, Bool.false_eq_true, List.length_map, decide_eq_true h, getI h0 h]
  · rw [if_neg h]
    by_cases hn : ns = []
    · rw [if_pos hn]
      have hs : oEqA (scrD ns) (.lst []) = .ok (.bl true) := by rw [hn]; exact scr_nil
      simp only [runDef, bSeq, bNil, bRet, bRetN, bSet, bSetO, bIf, bFrz, bMix, mFrz, mOwn, mNil, setSl, bApp, bPutX, bAug, bAsg, bDrop, gTupD, gsCons, gsNil, gSet, noExc, vVar, vC, vBin, vChain, vNot, vIf, vTup, oTup, vLst, oLst, vFn, vCall, aCons, aNil, vTest, vTruth, bAnd, bOr, bNot, vFld, vMk, vIsC, vIsi, tyName, sub_tt, sub_ii, sub_ib, natc1, natc2, natc3, natc4, decide_true, decide_false, oAdd_ap, oSub_ap, oMul_ap, oDiv_ap, oMod_ap, dI2, dI2c, oLt_ap, oLe_ap, oGt_ap, oGe_ap, oIsN_ap, oNotN_ap, VM.D.isNon, oIdx_l, oIdx_t, fLen, fAbs, fInt, VM.R.bind_ok, VM.R.bind_exc, VM.R.bind_stuck, Option.bind_some, Option.bind_none, ix_1_0, ix_2_0, ix_2_1, ix_3_0, ix_3_1, ix_3_2, ix_4_0, ix_4_1, ix_4_2, ix_4_3, List.map_cons, List.map_nil, List.append_nil, List.cons_append, List.nil_append, List.length_cons, List.length_nil, List.getElem?_cons_zero, List.getElem?_cons_succ, List.getElem?_nil, List.set_cons_zero, List.set_cons_succ, List.replicate_succ, List.replicate_zero, if_true, if_false, reduceIte, Nat.reduceSub, Nat.reduceAdd, Nat.reduceLeDiff, Nat.reduceEqDiff, Bool.not_true, Bool.not_false, Bool.false_eq_true, List.length_map, decide_eq_false h, hs, fits48]
    · rw [if_neg hn]
      have hl : 0 < ns.length := List.length_pos_iff.mpr hn
      have hp : (0 : Int) < ns.length := by omega
      have g := getI (ns := ns) (i := i % ns.length) (Int.emod_nonneg _ (by omega)) (Int.emod_lt_of_pos _ hp)
      have c : decide ((0 : Int) < 2147483647) = true := by decide
      simp only [runDef, bSeq, bNil, bRet, bRetN, bSet, bSetO, bIf, bFrz, bMix, mFrz, mOwn, mNil, setSl, bApp, bPutX, bAug, bAsg, bDrop, gTupD, gsCons, gsNil, gSet, noExc, vVar, vC, vBin, vChain, vNot, vIf, vTup, oTup, vLst, oLst, vFn, vCall, aCons, aNil, vTest, vTruth, bAnd, bOr, bNot, vFld, vMk, vIsC, vIsi, tyName, sub_tt, sub_ii, sub_ib, natc1, natc2, natc3, natc4, decide_true, decide_false, oAdd_ap, oSub_ap, oMul_ap, oDiv_ap, oMod_ap, dI2, dI2c, oLt_ap, oLe_ap, oGt_ap, oGe_ap, oIsN_ap, oNotN_ap, VM.D.isNon, oIdx_l, oIdx_t, fLen, fAbs, fInt, VM.R.bind_ok, VM.R.bind_exc, VM.R.bind_stuck, Option.bind_some, Option.bind_none, ix_1_0, ix_2_0, ix_2_1, ix_3_0, ix_3_1, ix_3_2, ix_4_0, ix_4_1, ix_4_2, ix_4_3, List.map_cons, List.map_nil, List.append_nil, List.cons_append, List.nil_append, List.length_cons, List.length_nil, List.getElem?_cons_zero, List.getElem?_cons_succ, List.getElem?_nil, List.set_cons_zero, List.set_cons_succ, List.replicate_succ, List.replicate_zero, if_true, if_false, reduceIte, Nat.reduceSub, Nat.reduceAdd, Nat.reduceLeDiff, Nat.reduceEqDiff, Bool.not_true, Bool.not_false, Bool.false_eq_true, List.length_map, decide_eq_false h, scr_ne hn, fits48, decide_eq_true hp, g, c]
/-! ### the matter -/
def lawMat (ns : List Int) : Mat where
  n := (2 + cz ns 0 % 3).toNat
  a := (2 + cz ns (0 + 1) % 3).toNat
  P := (List.range (2 + cz ns 0 % 3).toNat).map fun p => 1 + cz ns (0 + 2 + (p : Nat)) % 6
  G := (List.range (2 + cz ns 0 % 3).toNat).map fun p => (List.range (2 + cz ns (0 + 1) % 3).toNat).map fun q => cz ns (0 + 6 + 4 * (p : Nat) + (q : Nat)) % 19 - 9
  W := (List.range (2 + cz ns 0 % 3).toNat).map fun p => (List.range (2 + cz ns (0 + 1) % 3).toNat).map fun q => cz ns (0 + 22 + 4 * (p : Nat) + (q : Nat)) % 10
theorem lawMat_ok (ns : List Int) : (lawMat ns).Ok := by
  have b1 := Int.emod_nonneg (cz ns 0) (b := 3) (by decide)
  have b2 := Int.emod_lt_of_pos (cz ns 0) (b := 3) (by decide)
  have b3 := Int.emod_nonneg (cz ns (0 + 1)) (b := 3) (by decide)
  have b4 := Int.emod_lt_of_pos (cz ns (0 + 1)) (b := 3) (by decide)
  refine ⟨?_, ?_, ?_, ?_, ?_, ?_, ?_, ?_, ?_, ?_⟩
  · show 2 ≤ (2 + cz ns 0 % 3).toNat; omega
  · show (2 + cz ns 0 % 3).toNat ≤ 4; omega
  · show 2 ≤ (2 + cz ns (0 + 1) % 3).toNat; omega
  · show (2 + cz ns (0 + 1) % 3).toNat ≤ 4; omega
  · simp [lawMat]
  · intro x hx
    obtain ⟨p, _, rfl⟩ := List.mem_map.mp hx
    omega
  · simp [lawMat]
  · intro r hr
    obtain ⟨p, _, rfl⟩ := List.mem_map.mp hr
    refine ⟨by simp [lawMat], fun x hx => ?_⟩
    obtain ⟨q, _, rfl⟩ := List.mem_map.mp hx
    omega
  · simp [lawMat]
  · intro r hr
    obtain ⟨p, _, rfl⟩ := List.mem_map.mp hr
    refine ⟨by simp [lawMat], fun x hx => ?_⟩
    obtain ⟨q, _, rfl⟩ := List.mem_map.mp hx
    omega
end VM
end
section
set_option Elab.async false
set_option linter.all false
set_option maxRecDepth 100000
set_option autoImplicit false
/-! Mk17: the law's matter. -/
namespace VM
open PySem PySem.Spec L2
section
variable (ns : List Int)
def gR (p : Nat) : List Int := (List.range (lawMat ns).a).map fun q => cz ns (0 + 6 + 4 * (p : Nat) + (q : Nat)) % 19 - 9
def wR (p : Nat) : List Int := (List.range (lawMat ns).a).map fun q => cz ns (0 + 22 + 4 * (p : Nat) + (q : Nat)) % 10
theorem hN : 2 + cz ns 0 % 3 = ((lawMat ns).n : Nat) := by
  have := Int.emod_nonneg (cz ns 0) (b := 3) (by decide)
  show _ = (((2 + cz ns 0 % 3).toNat : Nat) : Int)
  omega
theorem hA : 2 + cz ns (0 + 1) % 3 = ((lawMat ns).a : Nat) := by
  have := Int.emod_nonneg (cz ns (0 + 1)) (b := 3) (by decide)
  show _ = (((2 + cz ns (0 + 1) % 3).toNat : Nat) : Int)
  omega
theorem d3 : decide ((0 : Int) < 3) = true := by decide
theorem d4 : decide ((0 : Int) < 4) = true := by decide
theorem d6 : decide ((0 : Int) < 6) = true := by decide
theorem d10 : decide ((0 : Int) < 10) = true := by decide
theorem d19 : decide ((0 : Int) < 19) = true := by decide
def mSt (i : Nat) (z6 : Slot) : Fr0 := [.frz (scrD ns), .frz (.int 0), .frz (.int ((lawMat ns).n : Nat)), .frz (.int ((lawMat ns).a : Nat)), .own false (.lst ((List.range i).map fun p => tI (gR ns p))), .own false (.lst ((List.range i).map fun p => tI (wR ns p))), z6, .frz (tI (lawMat ns).P), .none]
def mBody : Fr0 → R Out := (bSeq (bApp 4 (vCall fTuple (aCons (vComp (([("_law_act", 8)] : List (Str × Nat)).map (·.2)) (iRange1 (aCons (vVar 3) aNil)) (gSet 8) tYesB (vBin oSub (vBin oMod (vCall fInt (aCons (vFn 2 [] m__law_cell_at (aCons (vVar 0) (aCons (vBin oAdd (vBin oAdd (vBin oAdd (vVar 1) (vC (.int 6))) (vBin oMul (vC (.int 4)) (vVar 6))) (vVar 8)) aNil))) aNil)) (vC (.int 19))) (vC (.int 9)))) aNil)))
    (bApp 5 (vCall fTuple (aCons (vComp (([("_law_act", 8)] : List (Str × Nat)).map (·.2)) (iRange1 (aCons (vVar 3) aNil)) (gSet 8) tYesB (vBin oMod (vCall fInt (aCons (vFn 2 [] m__law_cell_at (aCons (vVar 0) (aCons (vBin oAdd (vBin oAdd (vBin oAdd (vVar 1) (vC (.int 22))) (vBin oMul (vC (.int 4)) (vVar 6))) (vVar 8)) aNil))) aNil)) (vC (.int 10)))) aNil))))
theorem fit4 (p : Nat) : mulFits 4 (p : Nat) = true := by
  unfold mulFits
  have h : decide ((4 : Int).natAbs < 2 ^ 63) = true := by decide
  rw [h, Bool.true_or, Bool.true_or]
theorem gcomp (A : Nat) (hA4 : A ≤ 4) (i : Nat) (b : Int) (hb : 0 ≤ b) (X4 X5 X7 : Slot) : vComp [8] (iRange1 (aCons (vVar 3) aNil)) (gSet 8) tYesB (vBin oMod (vCall fInt (aCons (vFn 2 [] m__law_cell_at (aCons (vVar 0) (aCons (vBin oAdd (vBin oAdd (vBin oAdd (vVar 1) (vC (.int b))) (vBin oMul (vC (.int 4)) (vVar 6))) (vVar 8)) aNil))) aNil)) (vC (.int 10))) [.frz (scrD ns), .frz (.int 0), .frz (.int ((lawMat ns).n : Nat)), .frz (.int (A : Nat)), X4, X5, .frz (.int (i : Nat)), X7, .none] = .ok (.lst ((List.range A).map fun q => D.int (cz ns (0 + b + 4 * (i : Nat) + (q : Nat)) % 10))) := by
  refine vComp_at (fun q : Nat => D.int (q : Nat)) (fun q => D.int (cz ns (0 + b + 4 * (i : Nat) + (q : Nat)) % 10)) (List.range A) ?_ (by rw [List.length_range]; omega) fun q hq => ?_
  · simp only [runDef, bSeq, bNil, bRet, bRetN, bSet, bSetO, bIf, bFrz, bMix, mFrz, mOwn, mNil, setSl, bApp, bPutX, bAug, bAsg, bDrop, gTupD, gsCons, gsNil, gSet, noExc, vVar, vC, vBin, vChain, vNot, vIf, vTup, oTup, vLst, oLst, vFn, vCall, aCons, aNil, vTest, vTruth, bAnd, bOr, bNot, vFld, vMk, vIsC, vIsi, tyName, sub_tt, sub_ii, sub_ib, natc1, natc2, natc3, natc4, decide_true, decide_false, oAdd_ap, oSub_ap, oMul_ap, oDiv_ap, oMod_ap, dI2, dI2c, oLt_ap, oLe_ap, oGt_ap, oGe_ap, oIsN_ap, oNotN_ap, VM.D.isNon, oIdx_l, oIdx_t, fLen, fAbs, fInt, VM.R.bind_ok, VM.R.bind_exc, VM.R.bind_stuck, Option.bind_some, Option.bind_none, ix_1_0, ix_2_0, ix_2_1, ix_3_0, ix_3_1, ix_3_2, ix_4_0, ix_4_1, ix_4_2, ix_4_3, List.map_cons, List.map_nil, List.append_nil, List.cons_append, List.nil_append, List.length_cons, List.length_nil, List.getElem?_cons_zero, List.getElem?_cons_succ, List.getElem?_nil, List.set_cons_zero, List.set_cons_succ, List.replicate_succ, List.replicate_zero, if_true, if_false, reduceIte, Nat.reduceSub, Nat.reduceAdd, Nat.reduceLeDiff, Nat.reduceEqDiff, Bool.not_true, Bool.not_false, Bool.false_eq_true, iRange1, rangeOk_nat (n := A) (by omega), Int.toNat_natCast, rangeD_map]
  · refine turn_yes (show gSet 8 _ _ = .ok _ from rfl) ?_
    simp only [wipeR]
    simp only [runDef, bSeq, bNil, bRet, bRetN, bSet, bSetO, bIf, bFrz, bMix, mFrz, mOwn, mNil, setSl, bApp, bPutX, bAug, bAsg, bDrop, gTupD, gsCons, gsNil, gSet, noExc, vVar, vC, vBin, vChain, vNot, vIf, vTup, oTup, vLst, oLst, vFn, vCall, aCons, aNil, vTest, vTruth, bAnd, bOr, bNot, vFld, vMk, vIsC, vIsi, tyName, sub_tt, sub_ii, sub_ib, natc1, natc2, natc3, natc4, decide_true, decide_false, oAdd_ap, oSub_ap, oMul_ap, oDiv_ap, oMod_ap, dI2, dI2c, oLt_ap, oLe_ap, oGt_ap, oGe_ap, oIsN_ap, oNotN_ap, VM.D.isNon, oIdx_l, oIdx_t, fLen, fAbs, fInt, VM.R.bind_ok, VM.R.bind_exc, VM.R.bind_stuck, Option.bind_some, Option.bind_none, ix_1_0, ix_2_0, ix_2_1, ix_3_0, ix_3_1, ix_3_2, ix_4_0, ix_4_1, ix_4_2, ix_4_3, List.map_cons, List.map_nil, List.append_nil, List.cons_append, List.nil_append, List.length_cons, List.length_nil, List.getElem?_cons_zero, List.getElem?_cons_succ, List.getElem?_nil, List.set_cons_zero, List.set_cons_succ, List.replicate_succ, List.replicate_zero, if_true, if_false, reduceIte, Nat.reduceSub, Nat.reduceAdd, Nat.reduceLeDiff, Nat.reduceEqDiff, Bool.not_true, Bool.not_false, Bool.false_eq_true, fit4, cell_at ns (i := 0 + b + 4 * (i : Nat) + (q : Nat)) (by omega), d10]
theorem gcomp2 (A : Nat) (hA4 : A ≤ 4) (i : Nat) (b : Int) (hb : 0 ≤ b) (X4 X5 X7 : Slot) : vComp [8] (iRange1 (aCons (vVar 3) aNil)) (gSet 8) tYesB (vBin oSub (vBin oMod (vCall fInt (aCons (vFn 2 [] m__law_cell_at (aCons (vVar 0) (aCons (vBin oAdd (vBin oAdd (vBin oAdd (vVar 1) (vC (.int b))) (vBin oMul (vC (.int 4)) (vVar 6))) (vVar 8)) aNil))) aNil)) (vC (.int 19))) (vC (.int 9))) [.frz (scrD ns), .frz (.int 0), .frz (.int ((lawMat ns).n : Nat)), .frz (.int (A : Nat)), X4, X5, .frz (.int (i : Nat)), X7, .none] = .ok (.lst ((List.range A).map fun q => D.int (cz ns (0 + b + 4 * (i : Nat) + (q : Nat)) % 19 - 9))) := by
  refine vComp_at (fun q : Nat => D.int (q : Nat)) (fun q => D.int (cz ns (0 + b + 4 * (i : Nat) + (q : Nat)) % 19 - 9)) (List.range A) ?_ (by rw [List.length_range]; omega) fun q hq => ?_
  · simp only [runDef, bSeq, bNil, bRet, bRetN, bSet, bSetO, bIf, bFrz, bMix, mFrz, mOwn, mNil, setSl, bApp, bPutX, bAug, bAsg, bDrop, gTupD, gsCons, gsNil, gSet, noExc, vVar, vC, vBin, vChain, vNot, vIf, vTup, oTup, vLst, oLst, vFn, vCall, aCons, aNil, vTest, vTruth, bAnd, bOr, bNot, vFld, vMk, vIsC, vIsi, tyName, sub_tt, sub_ii, sub_ib, natc1, natc2, natc3, natc4, decide_true, decide_false, oAdd_ap, oSub_ap, oMul_ap, oDiv_ap, oMod_ap, dI2, dI2c, oLt_ap, oLe_ap, oGt_ap, oGe_ap, oIsN_ap, oNotN_ap, VM.D.isNon, oIdx_l, oIdx_t, fLen, fAbs, fInt, VM.R.bind_ok, VM.R.bind_exc, VM.R.bind_stuck, Option.bind_some, Option.bind_none, ix_1_0, ix_2_0, ix_2_1, ix_3_0, ix_3_1, ix_3_2, ix_4_0, ix_4_1, ix_4_2, ix_4_3, List.map_cons, List.map_nil, List.append_nil, List.cons_append, List.nil_append, List.length_cons, List.length_nil, List.getElem?_cons_zero, List.getElem?_cons_succ, List.getElem?_nil, List.set_cons_zero, List.set_cons_succ, List.replicate_succ, List.replicate_zero, if_true, if_false, reduceIte, Nat.reduceSub, Nat.reduceAdd, Nat.reduceLeDiff, Nat.reduceEqDiff, Bool.not_true, Bool.not_false, Bool.false_eq_true, iRange1, rangeOk_nat (n := A) (by omega), Int.toNat_natCast, rangeD_map]
  · refine turn_yes (show gSet 8 _ _ = .ok _ from rfl) ?_
    simp only [wipeR]
    simp only [runDef, bSeq, bNil, bRet, bRetN, bSet, bSetO, bIf, bFrz, bMix, mFrz, mOwn, mNil, setSl, bApp, bPutX, bAug, bAsg, bDrop, gTupD, gsCons, gsNil, gSet, noExc, vVar, vC, vBin, vChain, vNot, vIf, vTup, oTup, vLst, oLst, vFn, vCall, aCons, aNil, vTest, vTruth, bAnd, bOr, bNot, vFld, vMk, vIsC, vIsi, tyName, sub_tt, sub_ii, sub_ib, natc1, natc2, natc3, natc4, decide_true, decide_false, oAdd_ap, oSub_ap, oMul_ap, oDiv_ap, oMod_ap, dI2, dI2c, oLt_ap, oLe_ap, oGt_ap, oGe_ap, oIsN_ap, oNotN_ap, VM.D.isNon, oIdx_l, oIdx_t, fLen, fAbs, fInt, VM.R.bind_ok, VM.R.bind_exc, VM.R.bind_stuck, Option.bind_some, Option.bind_none, ix_1_0, ix_2_0, ix_2_1, ix_3_0, ix_3_1, ix_3_2, ix_4_0, ix_4_1, ix_4_2, ix_4_3, List.map_cons, List.map_nil, List.append_nil, List.cons_append, List.nil_append, List.length_cons, List.length_nil, List.getElem?_cons_zero, List.getElem?_cons_succ, List.getElem?_nil, List.set_cons_zero, List.set_cons_succ, List.replicate_succ, List.replicate_zero, if_true, if_false, reduceIte, Nat.reduceSub, Nat.reduceAdd, Nat.reduceLeDiff, Nat.reduceEqDiff, Bool.not_true, Bool.not_false, Bool.false_eq_true, fit4, cell_at ns (i := 0 + b + 4 * (i : Nat) + (q : Nat)) (by omega), d19]
theorem tI_range {A : Nat} (f : Nat → Int) : D.tup ((List.range A).map fun q => D.int (f q)) = tI ((List.range A).map f) := by
  unfold tI
  rw [List.map_map]
  rfl
theorem mat_turn {i : Nat} (hi : i < (lawMat ns).n) (z6 : Slot) : bTurn (gSet 6) mBody (.int (i : Nat)) (mSt ns i z6) = .ok (.nx (mSt ns (i + 1) (.frz (.int (i : Nat))))) := by
  have hok := lawMat_ok ns
  have a4 := hok.a4
  have n4 := hok.n4
  have hi6 : i ≤ 1000000 := by omega
  have e1 : (List.range (i + 1)).map (fun p => tI (gR ns p)) = (List.range i).map (fun p => tI (gR ns p)) ++ [tI (gR ns i)] := by rw [List.range_succ, List.map_append]; rfl
  have e2 : (List.range (i + 1)).map (fun p => tI (wR ns p)) = (List.range i).map (fun p => tI (wR ns p)) ++ [tI (wR ns i)] := by rw [List.range_succ, List.map_append]; rfl
  unfold bTurn mBody mSt
  rw [e1, e2]
  simp only [runDef, bSeq, bNil, bRet, bRetN, bSet, bSetO, bIf, bFrz, bMix, mFrz, mOwn, mNil, setSl, bApp, bPutX, bAug, bAsg, bDrop, gTupD, gsCons, gsNil, gSet, noExc, vVar, vC, vBin, vChain, vNot, vIf, vTup, oTup, vLst, oLst, vFn, vCall, aCons, aNil, vTest, vTruth, bAnd, bOr, bNot, vFld, vMk, vIsC, vIsi, tyName, sub_tt, sub_ii, sub_ib, natc1, natc2, natc3, natc4, decide_true, decide_false, oAdd_ap, oSub_ap, oMul_ap, oDiv_ap, oMod_ap, dI2, dI2c, oLt_ap, oLe_ap, oGt_ap, oGe_ap, oIsN_ap, oNotN_ap, VM.D.isNon, oIdx_l, oIdx_t, fLen, fAbs, fInt, VM.R.bind_ok, VM.R.bind_exc, VM.R.bind_stuck, Option.bind_some, Option.bind_none, ix_1_0, ix_2_0, ix_2_1, ix_3_0, ix_3_1, ix_3_2, ix_4_0, ix_4_1, ix_4_2, ix_4_3, List.map_cons, List.map_nil, List.append_nil, List.cons_append, List.nil_append, List.length_cons, List.length_nil, List.getElem?_cons_zero, List.getElem?_cons_succ, List.getElem?_nil, List.set_cons_zero, List.set_cons_succ, List.replicate_succ, List.replicate_zero, if_true, if_false, reduceIte, Nat.reduceSub, Nat.reduceAdd, Nat.reduceLeDiff, Nat.reduceEqDiff, Bool.not_true, Bool.not_false, Bool.false_eq_true, gcomp2 ns _ a4 i 6 (by decide), gcomp ns _ a4 i 22 (by decide), fTuple, List.length_map, List.length_range, hi6]
  rw [tI_range, tI_range]
  rfl
theorem matter_at : m__law_matter [scrD ns, .int 0] = .ok (plainD (lawMat ns)) := by
  have hok := lawMat_ok ns
  have a4 := hok.a4
  have n4 := hok.n4
  have c0 := cell_at ns (i := 0) (by decide)
  have c1 := cell_at ns (i := 0 + 1) (by decide)
  have cP := vComp_at (vs := [6]) (mi := iRange1 (aCons (vVar 2) aNil)) (g := gSet 6) (nt := tYesB) (me := vBin oAdd (vC (.int 1)) (vBin oMod (vCall fInt (aCons (vFn 2 [] m__law_cell_at (aCons (vVar 0) (aCons (vBin oAdd (vBin oAdd (vVar 1) (vC (.int 2))) (vVar 6)) aNil))) aNil)) (vC (.int 6))))
    (ρ := [.frz (scrD ns), .frz (.int 0), .frz (.int ((lawMat ns).n : Nat)), .frz (.int ((lawMat ns).a : Nat)), .own false (.lst []), .own false (.lst []), .none, .none, .none])
    (fun q : Nat => D.int (q : Nat)) (fun p => D.int (1 + cz ns (0 + 2 + (p : Nat)) % 6)) (List.range (lawMat ns).n)
    (by simp only [runDef, bSeq, bNil, bRet, bRetN, bSet, bSetO, bIf, bFrz, bMix, mFrz, mOwn, mNil, setSl, bApp, bPutX, bAug, bAsg, bDrop, gTupD, gsCons, gsNil, gSet, noExc, vVar, vC, vBin, vChain, vNot, vIf, vTup, oTup, vLst, oLst, vFn, vCall, aCons, aNil, vTest, vTruth, bAnd, bOr, bNot, vFld, vMk, vIsC, vIsi, tyName, sub_tt, sub_ii, sub_ib, natc1, natc2, natc3, natc4, decide_true, decide_false, oAdd_ap, oSub_ap, oMul_ap, oDiv_ap, oMod_ap, dI2, dI2c, oLt_ap, oLe_ap, oGt_ap, oGe_ap, oIsN_ap, oNotN_ap, VM.D.isNon, oIdx_l, oIdx_t, fLen, fAbs, fInt, VM.R.bind_ok, VM.R.bind_exc, VM.R.bind_stuck, Option.bind_some, Option.bind_none, ix_1_0, ix_2_0, ix_2_1, ix_3_0, ix_3_1, ix_3_2, ix_4_0, ix_4_1, ix_4_2, ix_4_3, List.map_cons, List.map_nil, List.append_nil, List.cons_append, List.nil_append, List.length_cons, List.length_nil, List.getElem?_cons_zero, List.getElem?_cons_succ, List.getElem?_nil, List.set_cons_zero, List.set_cons_succ, List.replicate_succ, List.replicate_zero, if_true, if_false, reduceIte, Nat.reduceSub, Nat.reduceAdd, Nat.reduceLeDiff, Nat.reduceEqDiff, Bool.not_true, Bool.not_false, Bool.false_eq_true, iRange1, rangeOk_nat (n := (lawMat ns).n) (by omega), Int.toNat_natCast, rangeD_map]) (by rw [List.length_range]; omega) (fun p hp => by
      refine turn_yes (show gSet 6 _ _ = .ok _ from rfl) ?_
      simp only [wipeR]
      simp only [runDef, bSeq, bNil, bRet, bRetN, bSet, bSetO, bIf, bFrz, bMix, mFrz, mOwn, mNil, setSl, bApp, bPutX, bAug, bAsg, bDrop, gTupD, gsCons, gsNil, gSet, noExc, vVar, vC, vBin, vChain, vNot, vIf, vTup, oTup, vLst, oLst, vFn, vCall, aCons, aNil, vTest, vTruth, bAnd, bOr, bNot, vFld, vMk, vIsC, vIsi, tyName, sub_tt, sub_ii, sub_ib, natc1, natc2, natc3, natc4, decide_true, decide_false, oAdd_ap, oSub_ap, oMul_ap, oDiv_ap, oMod_ap, dI2, dI2c, oLt_ap, oLe_ap, oGt_ap, oGe_ap, oIsN_ap, oNotN_ap, VM.D.isNon, oIdx_l, oIdx_t, fLen, fAbs, fInt, VM.R.bind_ok, VM.R.bind_exc, VM.R.bind_stuck, Option.bind_some, Option.bind_none, ix_1_0, ix_2_0, ix_2_1, ix_3_0, ix_3_1, ix_3_2, ix_4_0, ix_4_1, ix_4_2, ix_4_3, List.map_cons, List.map_nil, List.append_nil, List.cons_append, List.nil_append, List.length_cons, List.length_nil, List.getElem?_cons_zero, List.getElem?_cons_succ, List.getElem?_nil, List.set_cons_zero, List.set_cons_succ, List.replicate_succ, List.replicate_zero, if_true, if_false, reduceIte, Nat.reduceSub, Nat.reduceAdd, Nat.reduceLeDiff, Nat.reduceEqDiff, Bool.not_true, Bool.not_false, Bool.false_eq_true, cell_at ns (i := 0 + 2 + (p : Nat)) (by omega), d6])
  obtain ⟨ρ', h1, h2⟩ := forL_pred (s := bTurn (gSet 6) mBody) (fun j : Nat => D.int (j : Nat)) (fun i ρ => ∃ z6, ρ = mSt ns i z6) (List.range (lawMat ns).n) 0 (mSt ns 0 .none) ⟨_, rfl⟩ (fun i j ρ hj hI => by
    obtain ⟨z6, rfl⟩ := hI
    rw [Nat.zero_add]
    have hi : i < (lawMat ns).n := by
      have := (List.getElem?_eq_some_iff.mp hj).1
      simpa using this
    have ex : j = i := by simpa [hi] using hj.symm
    subst ex
    exact ⟨_, mat_turn ns hi z6, _, rfl⟩)
  obtain ⟨z6, rfl⟩ := h2
  rw [Nat.zero_add, List.length_range] at h1
  unfold m__law_matter b__law_matter
  change runDef 2 9 false (bSeq _ (bSeq _ (bSeq (bFor _ (gSet 6) mBody) _))) _ = _
  simp only [runDef, bSeq, bNil, bRet, bRetN, bSet, bSetO, bIf, bFrz, bMix, mFrz, mOwn, mNil, setSl, bApp, bPutX, bAug, bAsg, bDrop, gTupD, gsCons, gsNil, gSet, noExc, vVar, vC, vBin, vChain, vNot, vIf, vTup, oTup, vLst, oLst, vFn, vCall, aCons, aNil, vTest, vTruth, bAnd, bOr, bNot, vFld, vMk, vIsC, vIsi, tyName, sub_tt, sub_ii, sub_ib, natc1, natc2, natc3, natc4, decide_true, decide_false, oAdd_ap, oSub_ap, oMul_ap, oDiv_ap, oMod_ap, dI2, dI2c, oLt_ap, oLe_ap, oGt_ap, oGe_ap, oIsN_ap, oNotN_ap, VM.D.isNon, oIdx_l, oIdx_t, fLen, fAbs, fInt, VM.R.bind_ok, VM.R.bind_exc, VM.R.bind_stuck, Option.bind_some, Option.bind_none, ix_1_0, ix_2_0, ix_2_1, ix_3_0, ix_3_1, ix_3_2, ix_4_0, ix_4_1, ix_4_2, ix_4_3, List.map_cons, List.map_nil, List.append_nil, List.cons_append, List.nil_append, List.length_cons, List.length_nil, List.getElem?_cons_zero, List.getElem?_cons_succ, List.getElem?_nil, List.set_cons_zero, List.set_cons_succ, List.replicate_succ, List.replicate_zero, if_true, if_false, reduceIte, Nat.reduceSub, Nat.reduceAdd, Nat.reduceLeDiff, Nat.reduceEqDiff, Bool.not_true, Bool.not_false, Bool.false_eq_true, c0, c1, hN, hA, d3, cP, fTuple, bFor, iRange1, rangeOk_nat (n := (lawMat ns).n) (by omega), Int.toNat_natCast, rangeD_map]
  have e0 : mSt ns 0 .none = [.frz (scrD ns), .frz (.int 0), .frz (.int ((lawMat ns).n : Nat)), .frz (.int ((lawMat ns).a : Nat)), .own false (.lst []), .own false (.lst []), .none, .frz (tI (lawMat ns).P), .none] := rfl
  rw [tI_range (fun p => 1 + cz ns (0 + 2 + (p : Nat)) % 6), show (List.range (lawMat ns).n).map (fun p : Nat => 1 + cz ns (0 + 2 + (p : Nat)) % 6) = (lawMat ns).P from rfl, ← e0, h1]
  unfold mSt
  simp only [runDef, bSeq, bNil, bRet, bRetN, bSet, bSetO, bIf, bFrz, bMix, mFrz, mOwn, mNil, setSl, bApp, bPutX, bAug, bAsg, bDrop, gTupD, gsCons, gsNil, gSet, noExc, vVar, vC, vBin, vChain, vNot, vIf, vTup, oTup, vLst, oLst, vFn, vCall, aCons, aNil, vTest, vTruth, bAnd, bOr, bNot, vFld, vMk, vIsC, vIsi, tyName, sub_tt, sub_ii, sub_ib, natc1, natc2, natc3, natc4, decide_true, decide_false, oAdd_ap, oSub_ap, oMul_ap, oDiv_ap, oMod_ap, dI2, dI2c, oLt_ap, oLe_ap, oGt_ap, oGe_ap, oIsN_ap, oNotN_ap, VM.D.isNon, oIdx_l, oIdx_t, fLen, fAbs, fInt, VM.R.bind_ok, VM.R.bind_exc, VM.R.bind_stuck, Option.bind_some, Option.bind_none, ix_1_0, ix_2_0, ix_2_1, ix_3_0, ix_3_1, ix_3_2, ix_4_0, ix_4_1, ix_4_2, ix_4_3, List.map_cons, List.map_nil, List.append_nil, List.cons_append, List.nil_append, List.length_cons, List.length_nil, List.getElem?_cons_zero, List.getElem?_cons_succ, List.getElem?_nil, List.set_cons_zero, List.set_cons_succ, List.replicate_succ, List.replicate_zero, if_true, if_false, reduceIte, Nat.reduceSub, Nat.reduceAdd, Nat.reduceLeDiff, Nat.reduceEqDiff, Bool.not_true, Bool.not_false, Bool.false_eq_true, fTuple]
  unfold plainD rowsD
  have g1 : (lawMat ns).G.map tI = (List.range (lawMat ns).n).map fun p => tI (gR ns p) := by
    show ((List.range (lawMat ns).n).map fun p => gR ns p).map tI = _
    rw [List.map_map]; rfl
  have g2 : (lawMat ns).W.map tI = (List.range (lawMat ns).n).map fun p => tI (wR ns p) := by
    show ((List.range (lawMat ns).n).map fun p => wR ns p).map tI = _
    rw [List.map_map]; rfl
  rw [g1, g2]
end
end VM
end
section
set_option Elab.async false
set_option linter.all false
set_option maxRecDepth 100000
set_option autoImplicit false
/-! Mk18: making the matter. -/
namespace VM
open PySem PySem.Spec L2
theorem wi_at {x l m : Int} (h1 : l ≤ x) (h2 : x ≤ m) : m_is_integer_within [.int x, .int l, .int m] = .ok (.bl true) := by
  unfold m_is_integer_within b_is_integer_within
  simp only [runDef, bSeq, bNil, bRet, bRetN, bSet, bSetO, bIf, bFrz, bMix, mFrz, mOwn, mNil, setSl, bApp, bPutX, bAug, bAsg, bDrop, gTupD, gsCons, gsNil, gSet, noExc, vVar, vC, vBin, vChain, vNot, vIf, vTup, oTup, vLst, oLst, vFn, vCall, aCons, aNil, vTest, vTruth, bAnd, bOr, bNot, vFld, vMk, vIsC, vIsi, tyName, sub_tt, sub_ii, sub_ib, natc1, natc2, natc3, natc4, decide_true, decide_false, oAdd_ap, oSub_ap, oMul_ap, oDiv_ap, oMod_ap, dI2, dI2c, oLt_ap, oLe_ap, oGt_ap, oGe_ap, oIsN_ap, oNotN_ap, VM.D.isNon, oIdx_l, oIdx_t, fLen, fAbs, fInt, VM.R.bind_ok, VM.R.bind_exc, VM.R.bind_stuck, Option.bind_some, Option.bind_none, ix_1_0, ix_2_0, ix_2_1, ix_3_0, ix_3_1, ix_3_2, ix_4_0, ix_4_1, ix_4_2, ix_4_3, List.map_cons, List.map_nil, List.append_nil, List.cons_append, List.nil_append, List.length_cons, List.length_nil, List.getElem?_cons_zero, List.getElem?_cons_succ, List.getElem?_nil, List.set_cons_zero, List.set_cons_succ, List.replicate_succ, List.replicate_zero, if_true, if_false, reduceIte, Nat.reduceSub, Nat.reduceAdd, Nat.reduceLeDiff, Nat.reduceEqDiff, Bool.not_true, Bool.not_false, Bool.false_eq_true, plain_at, vAnd, decide_eq_true h1, decide_eq_true h2]
theorem is_row_at {r : List Int} {n : Nat} {l m : Int} (hl : r.length = n) (hn : n ≤ 1000) (h : ∀ x ∈ r, l ≤ x ∧ x ≤ m) : m_is_row_within [tI r, .int (n : Nat), .int l, .int m] = .ok (.bl true) := by
  have hc := vComp_at (vs := [4]) (mi := iSeq (vVar 0)) (g := gSet 4) (nt := tYesB) (me := vFn 3 [] m_is_integer_within (aCons (vVar 4) (aCons (vVar 2) (aCons (vVar 3) aNil)))) (ρ := [.frz (.tup (r.map D.int)), .frz (.int (n : Nat)), .frz (.int l), .frz (.int m), .none])
    D.int (fun _ => D.bl true) r (by simp only [runDef, bSeq, bNil, bRet, bRetN, bSet, bSetO, bIf, bFrz, bMix, mFrz, mOwn, mNil, setSl, bApp, bPutX, bAug, bAsg, bDrop, gTupD, gsCons, gsNil, gSet, noExc, vVar, vC, vBin, vChain, vNot, vIf, vTup, oTup, vLst, oLst, vFn, vCall, aCons, aNil, vTest, vTruth, bAnd, bOr, bNot, vFld, vMk, vIsC, vIsi, tyName, sub_tt, sub_ii, sub_ib, natc1, natc2, natc3, natc4, decide_true, decide_false, oAdd_ap, oSub_ap, oMul_ap, oDiv_ap, oMod_ap, dI2, dI2c, oLt_ap, oLe_ap, oGt_ap, oGe_ap, oIsN_ap, oNotN_ap, VM.D.isNon, oIdx_l, oIdx_t, fLen, fAbs, fInt, VM.R.bind_ok, VM.R.bind_exc, VM.R.bind_stuck, Option.bind_some, Option.bind_none, ix_1_0, ix_2_0, ix_2_1, ix_3_0, ix_3_1, ix_3_2, ix_4_0, ix_4_1, ix_4_2, ix_4_3, List.map_cons, List.map_nil, List.append_nil, List.cons_append, List.nil_append, List.length_cons, List.length_nil, List.getElem?_cons_zero, List.getElem?_cons_succ, List.getElem?_nil, List.set_cons_zero, List.set_cons_succ, List.replicate_succ, List.replicate_zero, if_true, if_false, reduceIte, Nat.reduceSub, Nat.reduceAdd, Nat.reduceLeDiff, Nat.reduceEqDiff, Bool.not_true, Bool.not_false, Bool.false_eq_true, iSeq, D.items]) (by omega) (fun q hq => by
      refine turn_yes (show gSet 4 _ _ = .ok _ from rfl) ?_
      simp only [wipeR]
      simp only [runDef, bSeq, bNil, bRet, bRetN, bSet, bSetO, bIf, bFrz, bMix, mFrz, mOwn, mNil, setSl, bApp, bPutX, bAug, bAsg, bDrop, gTupD, gsCons, gsNil, gSet, noExc, vVar, vC, vBin, vChain, vNot, vIf, vTup, oTup, vLst, oLst, vFn, vCall, aCons, aNil, vTest, vTruth, bAnd, bOr, bNot, vFld, vMk, vIsC, vIsi, tyName, sub_tt, sub_ii, sub_ib, natc1, natc2, natc3, natc4, decide_true, decide_false, oAdd_ap, oSub_ap, oMul_ap, oDiv_ap, oMod_ap, dI2, dI2c, oLt_ap, oLe_ap, oGt_ap, oGe_ap, oIsN_ap, oNotN_ap, VM.D.isNon, oIdx_l, oIdx_t, fLen, fAbs, fInt, VM.R.bind_ok, VM.R.bind_exc, VM.R.bind_stuck, Option.bind_some, Option.bind_none, ix_1_0, ix_2_0, ix_2_1, ix_3_0, ix_3_1, ix_3_2, ix_4_0, ix_4_1, ix_4_2, ix_4_3, List.map_cons, List.map_nil, List.append_nil, List.cons_append, List.nil_append, List.length_cons, List.length_nil, List.getElem?_cons_zero, List.getElem?_cons_succ, List.getElem?_nil, List.set_cons_zero, List.set_cons_succ, List.replicate_succ, List.replicate_zero, if_true, if_false, reduceIte, Nat.reduceSub, Nat.reduceAdd, Nat.reduceLeDiff, Nat.reduceEqDiff, Bool.not_true, Bool.not_false, Bool.false_eq_true, wi_at (h q hq).1 (h q hq).2])
  unfold m_is_row_within b_is_row_within tI
  simp only [runDef, bSeq, bNil, bRet, bRetN, bSet, bSetO, bIf, bFrz, bMix, mFrz, mOwn, mNil, setSl, bApp, bPutX, bAug, bAsg, bDrop, gTupD, gsCons, gsNil, gSet, noExc, vVar, vC, vBin, vChain, vNot, vIf, vTup, oTup, vLst, oLst, vFn, vCall, aCons, aNil, vTest, vTruth, bAnd, bOr, bNot, vFld, vMk, vIsC, vIsi, tyName, sub_tt, sub_ii, sub_ib, natc1, natc2, natc3, natc4, decide_true, decide_false, oAdd_ap, oSub_ap, oMul_ap, oDiv_ap, oMod_ap, dI2, dI2c, oLt_ap, oLe_ap, oGt_ap, oGe_ap, oIsN_ap, oNotN_ap, VM.D.isNon, oIdx_l, oIdx_t, fLen, fAbs, fInt, VM.R.bind_ok, VM.R.bind_exc, VM.R.bind_stuck, Option.bind_some, Option.bind_none, ix_1_0, ix_2_0, ix_2_1, ix_3_0, ix_3_1, ix_3_2, ix_4_0, ix_4_1, ix_4_2, ix_4_3, List.map_cons, List.map_nil, List.append_nil, List.cons_append, List.nil_append, List.length_cons, List.length_nil, List.getElem?_cons_zero, List.getElem?_cons_succ, List.getElem?_nil, List.set_cons_zero, List.set_cons_succ, List.replicate_succ, List.replicate_zero, if_true, if_false, reduceIte, Nat.reduceSub, Nat.reduceAdd, Nat.reduceLeDiff, Nat.reduceEqDiff, Bool.not_true, Bool.not_false, Bool.false_eq_true, List.length_map, hl, neA_int, hc, all_true]
theorem are_rows_at {R : List (List Int)} {n a : Nat} {l m : Int} (hl : R.length = n) (hn : n ≤ 1000) (ha : a ≤ 1000) (h : ∀ r ∈ R, r.length = a ∧ ∀ x ∈ r, l ≤ x ∧ x ≤ m) : m__are_rows [rowsD R, .int (n : Nat), .int (a : Nat), .int l, .int m] = .ok (.bl true) := by
  have hc := vComp_at (vs := [5]) (mi := iSeq (vVar 0)) (g := gSet 5) (nt := tYesB) (me := vFn 4 [] m_is_row_within (aCons (vVar 5) (aCons (vVar 2) (aCons (vVar 3) (aCons (vVar 4) aNil))))) (ρ := [.frz (.tup (R.map tI)), .frz (.int (n : Nat)), .frz (.int (a : Nat)), .frz (.int l), .frz (.int m), .none])
    tI (fun _ => D.bl true) R (by simp only [runDef, bSeq, bNil, bRet, bRetN, bSet, bSetO, bIf, bFrz, bMix, mFrz, mOwn, mNil, setSl, bApp, bPutX, bAug, bAsg, bDrop, gTupD, gsCons, gsNil, gSet, noExc, vVar, vC, vBin, vChain, vNot, vIf, vTup, oTup, vLst, oLst, vFn, vCall, aCons, aNil, vTest, vTruth, bAnd, bOr, bNot, vFld, vMk, vIsC, vIsi, tyName, sub_tt, sub_ii, sub_ib, natc1, natc2, natc3, natc4, decide_true, decide_false, oAdd_ap, oSub_ap, oMul_ap, oDiv_ap, oMod_ap, dI2, dI2c, oLt_ap, oLe_ap, oGt_ap, oGe_ap, oIsN_ap, oNotN_ap, VM.D.isNon, oIdx_l, oIdx_t, fLen, fAbs, fInt, VM.R.bind_ok, VM.R.bind_exc, VM.R.bind_stuck, Option.bind_some, Option.bind_none, ix_1_0, ix_2_0, ix_2_1, ix_3_0, ix_3_1, ix_3_2, ix_4_0, ix_4_1, ix_4_2, ix_4_3, List.map_cons, List.map_nil, List.append_nil, List.cons_append, List.nil_append, List.length_cons, List.length_nil, List.getElem?_cons_zero, List.getElem?_cons_succ, List.getElem?_nil, List.set_cons_zero, List.set_cons_succ, List.replicate_succ, List.replicate_zero, if_true, if_false, reduceIte, Nat.reduceSub, Nat.reduceAdd, Nat.reduceLeDiff, Nat.reduceEqDiff, Bool.not_true, Bool.not_false, Bool.false_eq_true, iSeq, D.items]) (by omega) (fun q hq => by
      refine turn_yes (show gSet 5 _ _ = .ok _ from rfl) ?_
      simp only [wipeR]
      simp only [runDef, bSeq, bNil, bRet, bRetN, bSet, bSetO, bIf, bFrz, bMix, mFrz, mOwn, mNil, setSl, bApp, bPutX, bAug, bAsg, bDrop, gTupD, gsCons, gsNil, gSet, noExc, vVar, vC, vBin, vChain, vNot, vIf, vTup, oTup, vLst, oLst, vFn, vCall, aCons, aNil, vTest, vTruth, bAnd, bOr, bNot, vFld, vMk, vIsC, vIsi, tyName, sub_tt, sub_ii, sub_ib, natc1, natc2, natc3, natc4, decide_true, decide_false, oAdd_ap, oSub_ap, oMul_ap, oDiv_ap, oMod_ap, dI2, dI2c, oLt_ap, oLe_ap, oGt_ap, oGe_ap, oIsN_ap, oNotN_ap, VM.D.isNon, oIdx_l, oIdx_t, fLen, fAbs, fInt, VM.R.bind_ok, VM.R.bind_exc, VM.R.bind_stuck, Option.bind_some, Option.bind_none, ix_1_0, ix_2_0, ix_2_1, ix_3_0, ix_3_1, ix_3_2, ix_4_0, ix_4_1, ix_4_2, ix_4_3, List.map_cons, List.map_nil, List.append_nil, List.cons_append, List.nil_append, List.length_cons, List.length_nil, List.getElem?_cons_zero, List.getElem?_cons_succ, List.getElem?_nil, List.set_cons_zero, List.set_cons_succ, List.replicate_succ, List.replicate_zero, if_true, if_false, reduceIte, Nat.reduceSub, Nat.reduceAdd, Nat.reduceLeDiff, Nat.reduceEqDiff, Bool.not_true, Bool.not_false, Bool.false_eq_true, is_row_at (h q hq).1 ha (h q hq).2])
  unfold m__are_rows b__are_rows rowsD
  simp only [runDef, bSeq, bNil, bRet, bRetN, bSet, bSetO, bIf, bFrz, bMix, mFrz, mOwn, mNil, setSl, bApp, bPutX, bAug, bAsg, bDrop, gTupD, gsCons, gsNil, gSet, noExc, vVar, vC, vBin, vChain, vNot, vIf, vTup, oTup, vLst, oLst, vFn, vCall, aCons, aNil, vTest, vTruth, bAnd, bOr, bNot, vFld, vMk, vIsC, vIsi, tyName, sub_tt, sub_ii, sub_ib, natc1, natc2, natc3, natc4, decide_true, decide_false, oAdd_ap, oSub_ap, oMul_ap, oDiv_ap, oMod_ap, dI2, dI2c, oLt_ap, oLe_ap, oGt_ap, oGe_ap, oIsN_ap, oNotN_ap, VM.D.isNon, oIdx_l, oIdx_t, fLen, fAbs, fInt, VM.R.bind_ok, VM.R.bind_exc, VM.R.bind_stuck, Option.bind_some, Option.bind_none, ix_1_0, ix_2_0, ix_2_1, ix_3_0, ix_3_1, ix_3_2, ix_4_0, ix_4_1, ix_4_2, ix_4_3, List.map_cons, List.map_nil, List.append_nil, List.cons_append, List.nil_append, List.length_cons, List.length_nil, List.getElem?_cons_zero, List.getElem?_cons_succ, List.getElem?_nil, List.set_cons_zero, List.set_cons_succ, List.replicate_succ, List.replicate_zero, if_true, if_false, reduceIte, Nat.reduceSub, Nat.reduceAdd, Nat.reduceLeDiff, Nat.reduceEqDiff, Bool.not_true, Bool.not_false, Bool.false_eq_true, List.length_map, hl, neA_int, hc, all_true]
theorem are_parts_at {M : Mat} (hM : M.Ok) : m__are_parts [tI M.P] = .ok (.bl true) := by
  have n2 := hM.n2
  have n4 := hM.n4
  have h := is_row_at (l := 1) (m := 6) hM.lP (by omega) hM.P1
  have c1 : decide ((2 : Int) ≤ (M.n : Nat)) = true := decide_eq_true (by omega)
  have c2 : decide (((M.n : Nat) : Int) ≤ 4) = true := decide_eq_true (by omega)
  unfold tI at h
  unfold m__are_parts b__are_parts tI
  simp only [runDef, bSeq, bNil, bRet, bRetN, bSet, bSetO, bIf, bFrz, bMix, mFrz, mOwn, mNil, setSl, bApp, bPutX, bAug, bAsg, bDrop, gTupD, gsCons, gsNil, gSet, noExc, vVar, vC, vBin, vChain, vNot, vIf, vTup, oTup, vLst, oLst, vFn, vCall, aCons, aNil, vTest, vTruth, bAnd, bOr, bNot, vFld, vMk, vIsC, vIsi, tyName, sub_tt, sub_ii, sub_ib, natc1, natc2, natc3, natc4, decide_true, decide_false, oAdd_ap, oSub_ap, oMul_ap, oDiv_ap, oMod_ap, dI2, dI2c, oLt_ap, oLe_ap, oGt_ap, oGe_ap, oIsN_ap, oNotN_ap, VM.D.isNon, oIdx_l, oIdx_t, fLen, fAbs, fInt, VM.R.bind_ok, VM.R.bind_exc, VM.R.bind_stuck, Option.bind_some, Option.bind_none, ix_1_0, ix_2_0, ix_2_1, ix_3_0, ix_3_1, ix_3_2, ix_4_0, ix_4_1, ix_4_2, ix_4_3, List.map_cons, List.map_nil, List.append_nil, List.cons_append, List.nil_append, List.length_cons, List.length_nil, List.getElem?_cons_zero, List.getElem?_cons_succ, List.getElem?_nil, List.set_cons_zero, List.set_cons_succ, List.replicate_succ, List.replicate_zero, if_true, if_false, reduceIte, Nat.reduceSub, Nat.reduceAdd, Nat.reduceLeDiff, Nat.reduceEqDiff, Bool.not_true, Bool.not_false, Bool.false_eq_true, List.length_map, hM.lP, c1, c2, h]
theorem are_gains_at {M : Mat} (hM : M.Ok) : m__are_gains [rowsD M.G, .int (M.n : Nat)] = .ok (.bl true) := by
  have n2 := hM.n2
  have n4 := hM.n4
  have a2 := hM.a2
  have a4 := hM.a4
  obtain ⟨h0, hGl⟩ := len_G hM
  have h := are_rows_at (l := -9) (m := 9) hM.lG (by omega) (by omega) hM.G1
  have c1 : decide ((2 : Int) ≤ (M.a : Nat)) = true := decide_eq_true (by omega)
  have c2 : decide (((M.a : Nat) : Int) ≤ 4) = true := decide_eq_true (by omega)
  have i0 : (ixN M.n 0).bind (fun j => (M.G.map tI)[j]?) = some (.tup ((M.G.getD 0 []).map D.int)) := by
    have := idx0 tI h0
    rw [List.length_map, hM.lG] at this
    exact this
  unfold rowsD at h
  unfold m__are_gains b__are_gains rowsD
  simp only [runDef, bSeq, bNil, bRet, bRetN, bSet, bSetO, bIf, bFrz, bMix, mFrz, mOwn, mNil, setSl, bApp, bPutX, bAug, bAsg, bDrop, gTupD, gsCons, gsNil, gSet, noExc, vVar, vC, vBin, vChain, vNot, vIf, vTup, oTup, vLst, oLst, vFn, vCall, aCons, aNil, vTest, vTruth, bAnd, bOr, bNot, vFld, vMk, vIsC, vIsi, tyName, sub_tt, sub_ii, sub_ib, natc1, natc2, natc3, natc4, decide_true, decide_false, oAdd_ap, oSub_ap, oMul_ap, oDiv_ap, oMod_ap, dI2, dI2c, oLt_ap, oLe_ap, oGt_ap, oGe_ap, oIsN_ap, oNotN_ap, VM.D.isNon, oIdx_l, oIdx_t, fLen, fAbs, fInt, VM.R.bind_ok, VM.R.bind_exc, VM.R.bind_stuck, Option.bind_some, Option.bind_none, ix_1_0, ix_2_0, ix_2_1, ix_3_0, ix_3_1, ix_3_2, ix_4_0, ix_4_1, ix_4_2, ix_4_3, List.map_cons, List.map_nil, List.append_nil, List.cons_append, List.nil_append, List.length_cons, List.length_nil, List.getElem?_cons_zero, List.getElem?_cons_succ, List.getElem?_nil, List.set_cons_zero, List.set_cons_succ, List.replicate_succ, List.replicate_zero, if_true, if_false, reduceIte, Nat.reduceSub, Nat.reduceAdd, Nat.reduceLeDiff, Nat.reduceEqDiff, Bool.not_true, Bool.not_false, Bool.false_eq_true, List.length_map, hM.lG, neA_int, i0, hGl, vAnd, c1, c2, h]
theorem make_at {M : Mat} (hM : M.Ok) : m_Matterdd_initdd [tI M.P, rowsD M.G, rowsD M.W] = .ok (instD M) := by
  have n4 := hM.n4
  have a4 := hM.a4
  obtain ⟨h0, hGl⟩ := len_G hM
  have p := are_parts_at hM
  have g := are_gains_at hM
  have w := are_rows_at (l := 0) (m := 9) hM.lW (by omega) (by omega) hM.W1
  have lP : fLen [tI M.P] = .ok (.int (M.n : Nat)) := by unfold tI; simp only [fLen]; rw [List.length_map, hM.lP]
  have lG : fLen [tI (M.G.getD 0 [])] = .ok (.int (M.a : Nat)) := by unfold tI; simp only [fLen]; rw [List.length_map, hGl]
  have hG0 : oIdx (rowsD M.G) (.int 0) = .ok (tI (M.G.getD 0 [])) := by
    unfold rowsD
    rw [oIdx_t, idx0 tI h0]
  unfold m_Matterdd_initdd b_Matterdd_initdd
  simp only [runInit, bSeq, bIf, bNot, vTest, vTruth, vFn, vCall, aCons, aNil, vVar, vC, vBin, bFld, bNil, bStuck, noExc, p, g, w, lP, lG, hG0, R.bind_ok, List.length_cons, List.length_nil, if_true, if_false, reduceIte, List.map_cons, List.map_nil, List.append_nil, List.cons_append, List.nil_append, List.getElem?_cons_zero, List.getElem?_cons_succ, List.set_cons_zero, List.set_cons_succ, List.replicate_zero, Nat.reduceSub, Nat.reduceAdd, Bool.not_true, Bool.not_false, Bool.false_eq_true, putD]
  rfl
end VM
end
section
set_option Elab.async false
set_option linter.all false
set_option maxRecDepth 100000
set_option autoImplicit false
/-! Mk19: the law's table: rows. -/
namespace VM
open PySem PySem.Spec L2
theorem low_el {t b : Int} (h0 : 0 ≤ t) (h1 : t ≤ b) (hb : 0 < b) (h12 : b ≤ 12) : 0 ≤ (Rat.divInt t b).num ∧ (Rat.divInt t b).num ≤ (Rat.divInt t b).den ∧ (Rat.divInt t b).den ≤ 12 := by
  have hg : 0 < Nat.gcd t.natAbs b.natAbs := Nat.gcd_pos_of_pos_right _ (by omega)
  have e1 : (Rat.divInt t b).num = t / (Nat.gcd t.natAbs b.natAbs : Nat) := by
    rw [Rat.num_divInt, Int.sign_eq_one_of_pos hb, Int.one_mul]
    congr 2
    rw [Int.gcd, Nat.gcd_comm]
  have e2 : ((Rat.divInt t b).den : Int) = b / (Nat.gcd t.natAbs b.natAbs : Nat) := by
    rw [Rat.den_divInt, if_neg (by omega), Int.gcd, Nat.gcd_comm]
    have : b = (b.natAbs : Int) := by omega
    rw [this]
    simp
  have hgI : (0 : Int) < (Nat.gcd t.natAbs b.natAbs : Nat) := by exact_mod_cast hg
  refine ⟨by rw [e1]; exact Int.ediv_nonneg h0 (by omega), by rw [e1, e2]; exact Int.ediv_le_ediv hgI h1, ?_⟩
  have : ((Rat.divInt t b).den : Int) ≤ 12 := by
    rw [e2]
    have := Int.ediv_le_self (a := b) (Nat.gcd t.natAbs b.natAbs : Nat) (by omega)
    omega
  omega
/-- numbers for a row: from 0 to 3, not all 0 -/
structure SomeOk (w : Nat) (l : List Int) : Prop where
  ln : l.length = w
  e : ∀ x ∈ l, 0 ≤ x ∧ x ≤ 3
  s : 0 < l.sum
theorem sum_ge : ∀ (l : List Int), (∀ x ∈ l, 0 ≤ x ∧ x ≤ 3) → (0 ≤ l.sum ∧ l.sum ≤ 3 * l.length) ∧ ∀ x ∈ l, x ≤ l.sum
  | [], _ => ⟨by simp, fun x hx => by cases hx⟩
  | a :: l, h => by
    have ha := h a List.mem_cons_self
    obtain ⟨h1, h2⟩ := sum_ge l fun y hy => h y (List.mem_cons_of_mem _ hy)
    refine ⟨by simp only [List.sum_cons, List.length_cons]; omega, fun x hx => ?_⟩
    rw [List.sum_cons]
    rcases List.mem_cons.mp hx with rfl | hx
    · omega
    · have := h2 x hx
      omega
def rowOf (l : List Int) : List Rat := l.map fun x => Rat.divInt x l.sum
theorem qsum_div (s : Int) (hs : 0 < s) : ∀ l : List Int, qsum (l.map fun x => Rat.divInt x s) * (s : Rat) = ((l.sum : Int) : Rat)
  | [] => by rw [List.map_nil, qsum_nil]; simp [Rat.zero_mul]
  | x :: l => by
    have hn : (s : Rat) ≠ 0 := by
      intro z
      have : s = 0 := by exact_mod_cast z
      omega
    rw [List.map_cons, qsum_cons, Rat.add_mul, qsum_div s hs l, List.sum_cons, Rat.intCast_add, Rat.divInt_eq_div, Rat.div_mul_cancel hn]
theorem rowOf_ok {w : Nat} {l : List Int} (h : SomeOk w l) (w4 : w ≤ 4) : (rowOf l).length = w ∧ (∀ q ∈ rowOf l, 0 ≤ q.num ∧ q.num ≤ q.den ∧ q.den ≤ 12) ∧ qsum (rowOf l) = 1 := by
  obtain ⟨h1, h2⟩ := sum_ge l h.e
  have hl := h.ln
  have hs := h.s
  refine ⟨by simp [rowOf, hl], fun q hq => ?_, ?_⟩
  · obtain ⟨x, hx, rfl⟩ := List.mem_map.mp hq
    exact low_el (h.e x hx).1 (h2 x hx) hs (by omega)
  · have hn : ((l.sum : Int) : Rat) ≠ 0 := by
      intro z
      have : l.sum = 0 := by exact_mod_cast z
      omega
    have := qsum_div l.sum hs l
    have e : qsum (rowOf l) * ((l.sum : Int) : Rat) = 1 * ((l.sum : Int) : Rat) := by rw [Rat.one_mul]; exact this
    calc qsum (rowOf l) = qsum (rowOf l) * ((l.sum : Int) : Rat) / ((l.sum : Int) : Rat) := by rw [Rat.mul_div_cancel hn]
      _ = 1 := by rw [e, Rat.mul_div_cancel hn]
section
variable (ns : List Int) (b : Int) (w : Nat)
def some0 (p : Nat) : List Int := (List.range w).map fun q => cz ns (b + 5 * (p : Nat) + (q : Nat)) % 4
def some1 (p : Nat) : List Int := (List.range w).map fun q => if decide (((q : Nat) : Int) = cz ns (b + 5 * (p : Nat)) % (w : Nat)) = true then 1 else 0
def someC (p : Nat) : Bool := decide ((some0 ns b w p).sum = 0) || decide (cz ns (b + 5 * (p : Nat) + 4) % 3 = 0)
def someR (p : Nat) : List Int := if someC ns b w p = true then some1 ns b w p else some0 ns b w p
theorem some_ok (w1 : 1 ≤ w) (p : Nat) : SomeOk w (someR ns b w p) := by
  have e0 : ∀ x ∈ some0 ns b w p, 0 ≤ x ∧ x ≤ 3 := fun x hx => by
    obtain ⟨q, _, rfl⟩ := List.mem_map.mp hx
    omega
  have e1 : ∀ x ∈ some1 ns b w p, 0 ≤ x ∧ x ≤ 3 := fun x hx => by
    obtain ⟨q, _, rfl⟩ := List.mem_map.mp hx
    split <;> omega
  unfold someR
  by_cases c : someC ns b w p = true
  · rw [if_pos c]
    refine ⟨by simp [some1], e1, ?_⟩
    have hw : (0 : Int) < (w : Nat) := by omega
    have r0 := Int.emod_nonneg (cz ns (b + 5 * (p : Nat))) (b := (w : Nat)) (by omega)
    have r1 := Int.emod_lt_of_pos (cz ns (b + 5 * (p : Nat))) hw
    have hm : (1 : Int) ∈ some1 ns b w p := by
      refine List.mem_map.mpr ⟨(cz ns (b + 5 * (p : Nat)) % (w : Nat)).toNat, ?_, ?_⟩
      · rw [List.mem_range]; omega
      · rw [if_pos (decide_eq_true (by omega))]
    have := (sum_ge _ e1).2 1 hm
    omega
  · rw [if_neg c]
    refine ⟨by simp [some0], e0, ?_⟩
    have h0 := (sum_ge _ e0).1.1
    have : ¬ (some0 ns b w p).sum = 0 := fun z => c (by unfold someC; rw [decide_eq_true z]; rfl)
    omega
def lawTab (n : Nat) : Tab where
  w := w
  T := (List.range n).map fun p => rowOf (someR ns b w p)
theorem lawTab_ok {M : Mat} (w1 : 1 ≤ w) (w4 : w ≤ 4) : (lawTab ns b w M.n).Ok M := by
  refine ⟨w1, w4, by simp [lawTab], fun r hr => ?_⟩
  obtain ⟨p, _, rfl⟩ := List.mem_map.mp hr
  exact rowOf_ok (some_ok ns b w w1 p) w4
end
end VM
end
section
set_option Elab.async false
set_option linter.all false
set_option maxRecDepth 100000
set_option autoImplicit false
/-! Mk20: the law's table. -/
namespace VM
open PySem PySem.Spec L2
section
variable (ns : List Int) (b : Int) (w : Nat)
def tBody : Fr0 → R Out := (bSeq (bSet 7 (vComp (([("_law_word", 6)] : List (Str × Nat)).map (·.2)) (iRange1 (aCons (vVar 3) aNil)) (gSet 6) tYesB (vBin oMod (vCall fInt (aCons (vFn 2 [] m__law_cell_at (aCons (vVar 0) (aCons (vBin oAdd (vBin oAdd (vVar 1) (vBin oMul (vC (.int 5)) (vVar 5))) (vVar 6)) aNil))) aNil)) (vC (.int 4)))))
    (bSeq (bIf (bOr (vTest (vBin oEqA (vCall fSum (aCons (vVar 7) aNil)) (vC (.int 0)))) (vTest (vBin oEqA (vBin oMod (vCall fInt (aCons (vFn 2 [] m__law_cell_at (aCons (vVar 0) (aCons (vBin oAdd (vBin oAdd (vVar 1) (vBin oMul (vC (.int 5)) (vVar 5))) (vC (.int 4))) aNil))) aNil)) (vC (.int 3))) (vC (.int 0))))) (bSet 7 (vComp (([("_law_word", 6)] : List (Str × Nat)).map (·.2)) (iRange1 (aCons (vVar 3) aNil)) (gSet 6) tYesB (vIf (vTest (vBin oEqA (vVar 6) (vBin oMod (vCall fInt (aCons (vFn 2 [] m__law_cell_at (aCons (vVar 0) (aCons (vBin oAdd (vVar 1) (vBin oMul (vC (.int 5)) (vVar 5))) aNil))) aNil)) (vVar 3)))) (vC (.int 1)) (vC (.int 0))))) bNil)
    (bApp 4 (vCall fTuple (aCons (vComp (([("_law_one", 8)] : List (Str × Nat)).map (·.2)) (iSeq (vVar 7)) (gSet 8) tYesB (vFn 2 [] m__law_low (aCons (vVar 8) (aCons (vCall fSum (aCons (vVar 7) aNil)) aNil)))) aNil)))))
theorem lI_range {A : Nat} (f : Nat → Int) : D.lst ((List.range A).map fun q => D.int (f q)) = lI ((List.range A).map f) := by
  unfold lI
  rw [List.map_map]
  rfl
theorem fit5 (p : Nat) : mulFits 5 (p : Nat) = true := by
  unfold mulFits
  have h : decide ((5 : Int).natAbs < 2 ^ 63) = true := by decide
  rw [h, Bool.true_or, Bool.true_or]
variable {b w} in
theorem tcomp0 (hb : 0 ≤ b) (w4 : w ≤ 4) (i : Nat) (X2 X4 X7 : Slot) : vComp [6] (iRange1 (aCons (vVar 3) aNil)) (gSet 6) tYesB (vBin oMod (vCall fInt (aCons (vFn 2 [] m__law_cell_at (aCons (vVar 0) (aCons (vBin oAdd (vBin oAdd (vVar 1) (vBin oMul (vC (.int 5)) (vVar 5))) (vVar 6)) aNil))) aNil)) (vC (.int 4))) [.frz (scrD ns), .frz (.int b), X2, .frz (.int (w : Nat)), X4, .frz (.int (i : Nat)), .none, X7, .none] = .ok (lI (some0 ns b w i)) := by
  unfold some0
  rw [← lI_range]
  refine vComp_at (fun q : Nat => D.int (q : Nat)) (fun q => D.int (cz ns (b + 5 * (i : Nat) + (q : Nat)) % 4)) (List.range w) ?_ (by rw [List.length_range]; omega) fun q hq => ?_
  · simp only [runDef, bSeq, bNil, bRet, bRetN, bSet, bSetO, bIf, bFrz, bMix, mFrz, mOwn, mNil, setSl, bApp, bPutX, bAug, bAsg, bDrop, gTupD, gsCons, gsNil, gSet, noExc, vVar, vC, vBin, vChain, vNot, vIf, vTup, oTup, vLst, oLst, vFn, vCall, aCons, aNil, vTest, vTruth, bAnd, bOr, bNot, vFld, vMk, vIsC, vIsi, tyName, sub_tt, sub_ii, sub_ib, natc1, natc2, natc3, natc4, decide_true, decide_false, oAdd_ap, oSub_ap, oMul_ap, oDiv_ap, oMod_ap, dI2, dI2c, oLt_ap, oLe_ap, oGt_ap, oGe_ap, oIsN_ap, oNotN_ap, VM.D.isNon, oIdx_l, oIdx_t, fLen, fAbs, fInt, VM.R.bind_ok, VM.R.bind_exc, VM.R.bind_stuck, Option.bind_some, Option.bind_none, ix_1_0, ix_2_0, ix_2_1, ix_3_0, ix_3_1, ix_3_2, ix_4_0, ix_4_1, ix_4_2, ix_4_3, List.map_cons, List.map_nil, List.append_nil, List.cons_append, List.nil_append, List.length_cons, List.length_nil, List.getElem?_cons_zero, List.getElem?_cons_succ, List.getElem?_nil, List.set_cons_zero, List.set_cons_succ, List.replicate_succ, List.replicate_zero, if_true, if_false, reduceIte, Nat.reduceSub, Nat.reduceAdd, Nat.reduceLeDiff, Nat.reduceEqDiff, Bool.not_true, Bool.not_false, Bool.false_eq_true, iRange1, rangeOk_nat (n := w) (by omega), Int.toNat_natCast, rangeD_map]
  · refine turn_yes (show gSet 6 _ _ = .ok _ from rfl) ?_
    simp only [wipeR]
    simp only [runDef, bSeq, bNil, bRet, bRetN, bSet, bSetO, bIf, bFrz, bMix, mFrz, mOwn, mNil, setSl, bApp, bPutX, bAug, bAsg, bDrop, gTupD, gsCons, gsNil, gSet, noExc, vVar, vC, vBin, vChain, vNot, vIf, vTup, oTup, vLst, oLst, vFn, vCall, aCons, aNil, vTest, vTruth, bAnd, bOr, bNot, vFld, vMk, vIsC, vIsi, tyName, sub_tt, sub_ii, sub_ib, natc1, natc2, natc3, natc4, decide_true, decide_false, oAdd_ap, oSub_ap, oMul_ap, oDiv_ap, oMod_ap, dI2, dI2c, oLt_ap, oLe_ap, oGt_ap, oGe_ap, oIsN_ap, oNotN_ap, VM.D.isNon, oIdx_l, oIdx_t, fLen, fAbs, fInt, VM.R.bind_ok, VM.R.bind_exc, VM.R.bind_stuck, Option.bind_some, Option.bind_none, ix_1_0, ix_2_0, ix_2_1, ix_3_0, ix_3_1, ix_3_2, ix_4_0, ix_4_1, ix_4_2, ix_4_3, List.map_cons, List.map_nil, List.append_nil, List.cons_append, List.nil_append, List.length_cons, List.length_nil, List.getElem?_cons_zero, List.getElem?_cons_succ, List.getElem?_nil, List.set_cons_zero, List.set_cons_succ, List.replicate_succ, List.replicate_zero, if_true, if_false, reduceIte, Nat.reduceSub, Nat.reduceAdd, Nat.reduceLeDiff, Nat.reduceEqDiff, Bool.not_true, Bool.not_false, Bool.false_eq_true, fit5, cell_at ns (i := b + 5 * (i : Nat) + (q : Nat)) (by omega), d4]
variable {b w} in
theorem tcomp1 (hb : 0 ≤ b) (w1 : 1 ≤ w) (w4 : w ≤ 4) (i : Nat) (X2 X4 X7 : Slot) : vComp [6] (iRange1 (aCons (vVar 3) aNil)) (gSet 6) tYesB (vIf (vTest (vBin oEqA (vVar 6) (vBin oMod (vCall fInt (aCons (vFn 2 [] m__law_cell_at (aCons (vVar 0) (aCons (vBin oAdd (vVar 1) (vBin oMul (vC (.int 5)) (vVar 5))) aNil))) aNil)) (vVar 3)))) (vC (.int 1)) (vC (.int 0))) [.frz (scrD ns), .frz (.int b), X2, .frz (.int (w : Nat)), X4, .frz (.int (i : Nat)), .none, X7, .none] = .ok (lI (some1 ns b w i)) := by
  have hw : decide ((0 : Int) < (w : Nat)) = true := decide_eq_true (by omega)
  unfold some1
  rw [← lI_range]
  refine vComp_at (fun q : Nat => D.int (q : Nat)) (fun q => D.int (if decide (((q : Nat) : Int) = cz ns (b + 5 * (i : Nat)) % (w : Nat)) = true then 1 else 0)) (List.range w) ?_ (by rw [List.length_range]; omega) fun q hq => ?_
  · simp only [runDef, bSeq, bNil, bRet, bRetN, bSet, bSetO, bIf, bFrz, bMix, mFrz, mOwn, mNil, setSl, bApp, bPutX, bAug, bAsg, bDrop, gTupD, gsCons, gsNil, gSet, noExc, vVar, vC, vBin, vChain, vNot, vIf, vTup, oTup, vLst, oLst, vFn, vCall, aCons, aNil, vTest, vTruth, bAnd, bOr, bNot, vFld, vMk, vIsC, vIsi, tyName, sub_tt, sub_ii, sub_ib, natc1, natc2, natc3, natc4, decide_true, decide_false, oAdd_ap, oSub_ap, oMul_ap, oDiv_ap, oMod_ap, dI2, dI2c, oLt_ap, oLe_ap, oGt_ap, oGe_ap, oIsN_ap, oNotN_ap, VM.D.isNon, oIdx_l, oIdx_t, fLen, fAbs, fInt, VM.R.bind_ok, VM.R.bind_exc, VM.R.bind_stuck, Option.bind_some, Option.bind_none, ix_1_0, ix_2_0, ix_2_1, ix_3_0, ix_3_1, ix_3_2, ix_4_0, ix_4_1, ix_4_2, ix_4_3, List.map_cons, List.map_nil, List.append_nil, List.cons_append, List.nil_append, List.length_cons, List.length_nil, List.getElem?_cons_zero, List.getElem?_cons_succ, List.getElem?_nil, List.set_cons_zero, List.set_cons_succ, List.replicate_succ, List.replicate_zero, if_true, if_false, reduceIte, Nat.reduceSub, Nat.reduceAdd, Nat.reduceLeDiff, Nat.reduceEqDiff, Bool.not_true, Bool.not_false, Bool.false_eq_true, iRange1, rangeOk_nat (n := w) (by omega), Int.toNat_natCast, rangeD_map]
  · refine turn_yes (show gSet 6 _ _ = .ok _ from rfl) ?_
    simp only [wipeR]
    simp only [runDef, bSeq, bNil, bRet, bRetN, bSet, bSetO, bIf, bFrz, bMix, mFrz, mOwn, mNil, setSl, bApp, bPutX, bAug, bAsg, bDrop, gTupD, gsCons, gsNil, gSet, noExc, vVar, vC, vBin, vChain, vNot, vIf, vTup, oTup, vLst, oLst, vFn, vCall, aCons, aNil, vTest, vTruth, bAnd, bOr, bNot, vFld, vMk, vIsC, vIsi, tyName, sub_tt, sub_ii, sub_ib, natc1, natc2, natc3, natc4, decide_true, decide_false, oAdd_ap, oSub_ap, oMul_ap, oDiv_ap, oMod_ap, dI2, dI2c, oLt_ap, oLe_ap, oGt_ap, oGe_ap, oIsN_ap, oNotN_ap, VM.D.isNon, oIdx_l, oIdx_t, fLen, fAbs, fInt, VM.R.bind_ok, VM.R.bind_exc, VM.R.bind_stuck, Option.bind_some, Option.bind_none, ix_1_0, ix_2_0, ix_2_1, ix_3_0, ix_3_1, ix_3_2, ix_4_0, ix_4_1, ix_4_2, ix_4_3, List.map_cons, List.map_nil, List.append_nil, List.cons_append, List.nil_append, List.length_cons, List.length_nil, List.getElem?_cons_zero, List.getElem?_cons_succ, List.getElem?_nil, List.set_cons_zero, List.set_cons_succ, List.replicate_succ, List.replicate_zero, if_true, if_false, reduceIte, Nat.reduceSub, Nat.reduceAdd, Nat.reduceLeDiff, Nat.reduceEqDiff, Bool.not_true, Bool.not_false, Bool.false_eq_true, fit5, cell_at ns (i := b + 5 * (i : Nat)) (by omega), hw, eqA_int]
    cases decide (((q : Nat) : Int) = cz ns (b + 5 * (i : Nat)) % (w : Nat)) <;> rfl
theorem tcomp2 {w : Nat} {l : List Int} (h : SomeOk w l) (w4 : w ≤ 4) (X0 X1 X2 X3 X4 X5 X6 : Slot) : vComp [8] (iSeq (vVar 7)) (gSet 8) tYesB (vFn 2 [] m__law_low (aCons (vVar 8) (aCons (vCall fSum (aCons (vVar 7) aNil)) aNil))) [X0, X1, X2, X3, X4, X5, X6, .frz (lI l), .none] = .ok (.lst ((rowOf l).map dQ)) := by
  have hl := h.ln
  have hs := h.s
  have h12 := (sum_ge l h.e).1.2
  unfold rowOf lI
  rw [List.map_map]
  refine vComp_at D.int (fun x => dQ (Rat.divInt x l.sum)) l ?_ (by omega) fun q hq => ?_
  · simp only [runDef, bSeq, bNil, bRet, bRetN, bSet, bSetO, bIf, bFrz, bMix, mFrz, mOwn, mNil, setSl, bApp, bPutX, bAug, bAsg, bDrop, gTupD, gsCons, gsNil, gSet, noExc, vVar, vC, vBin, vChain, vNot, vIf, vTup, oTup, vLst, oLst, vFn, vCall, aCons, aNil, vTest, vTruth, bAnd, bOr, bNot, vFld, vMk, vIsC, vIsi, tyName, sub_tt, sub_ii, sub_ib, natc1, natc2, natc3, natc4, decide_true, decide_false, oAdd_ap, oSub_ap, oMul_ap, oDiv_ap, oMod_ap, dI2, dI2c, oLt_ap, oLe_ap, oGt_ap, oGe_ap, oIsN_ap, oNotN_ap, VM.D.isNon, oIdx_l, oIdx_t, fLen, fAbs, fInt, VM.R.bind_ok, VM.R.bind_exc, VM.R.bind_stuck, Option.bind_some, Option.bind_none, ix_1_0, ix_2_0, ix_2_1, ix_3_0, ix_3_1, ix_3_2, ix_4_0, ix_4_1, ix_4_2, ix_4_3, List.map_cons, List.map_nil, List.append_nil, List.cons_append, List.nil_append, List.length_cons, List.length_nil, List.getElem?_cons_zero, List.getElem?_cons_succ, List.getElem?_nil, List.set_cons_zero, List.set_cons_succ, List.replicate_succ, List.replicate_zero, if_true, if_false, reduceIte, Nat.reduceSub, Nat.reduceAdd, Nat.reduceLeDiff, Nat.reduceEqDiff, Bool.not_true, Bool.not_false, Bool.false_eq_true, iSeq, D.items]
  · refine turn_yes (show gSet 8 _ _ = .ok _ from rfl) ?_
    simp only [wipeR]
    simp only [runDef, bSeq, bNil, bRet, bRetN, bSet, bSetO, bIf, bFrz, bMix, mFrz, mOwn, mNil, setSl, bApp, bPutX, bAug, bAsg, bDrop, gTupD, gsCons, gsNil, gSet, noExc, vVar, vC, vBin, vChain, vNot, vIf, vTup, oTup, vLst, oLst, vFn, vCall, aCons, aNil, vTest, vTruth, bAnd, bOr, bNot, vFld, vMk, vIsC, vIsi, tyName, sub_tt, sub_ii, sub_ib, natc1, natc2, natc3, natc4, decide_true, decide_false, oAdd_ap, oSub_ap, oMul_ap, oDiv_ap, oMod_ap, dI2, dI2c, oLt_ap, oLe_ap, oGt_ap, oGe_ap, oIsN_ap, oNotN_ap, VM.D.isNon, oIdx_l, oIdx_t, fLen, fAbs, fInt, VM.R.bind_ok, VM.R.bind_exc, VM.R.bind_stuck, Option.bind_some, Option.bind_none, ix_1_0, ix_2_0, ix_2_1, ix_3_0, ix_3_1, ix_3_2, ix_4_0, ix_4_1, ix_4_2, ix_4_3, List.map_cons, List.map_nil, List.append_nil, List.cons_append, List.nil_append, List.length_cons, List.length_nil, List.getElem?_cons_zero, List.getElem?_cons_succ, List.getElem?_nil, List.set_cons_zero, List.set_cons_succ, List.replicate_succ, List.replicate_zero, if_true, if_false, reduceIte, Nat.reduceSub, Nat.reduceAdd, Nat.reduceLeDiff, Nat.reduceEqDiff, Bool.not_true, Bool.not_false, Bool.false_eq_true, fSum, ints?_map, low_at q l.sum hs (lt_pow_mono (j := 5) (by omega) (by decide))]
def tSt (M : Mat) (i : Nat) (z5 z7 : Slot) : Fr0 := [.frz (scrD ns), .frz (.int b), .frz (plainD M), .frz (.int (w : Nat)), .own false (.lst ((List.range i).map fun p => rD (rowOf (someR ns b w p)))), z5, .none, z7, .none]
variable {b w} in
theorem tab_turn {M : Mat} (hM : M.Ok) (hb : 0 ≤ b) (w1 : 1 ≤ w) (w4 : w ≤ 4) {i : Nat} (hi : i < M.n) (z5 z7 : Slot) : ∃ y5 y7, bTurn (gSet 5) tBody (.int (i : Nat)) (tSt ns b w M i z5 z7) = .ok (.nx (tSt ns b w M (i + 1) y5 y7)) := by
  have n4 := hM.n4
  have hi6 : i ≤ 1000000 := by omega
  have e1 : (List.range (i + 1)).map (fun p => rD (rowOf (someR ns b w p))) = (List.range i).map (fun p => rD (rowOf (someR ns b w p))) ++ [rD (rowOf (someR ns b w i))] := by rw [List.range_succ, List.map_append]; rfl
  have c0 := fun X2 X4 X7 => tcomp0 ns hb w4 i X2 X4 X7
  have c1 := fun X2 X4 X7 => tcomp1 ns hb w1 w4 i X2 X4 X7
  have hk := some_ok ns b w w1 i
  have hsum : ∀ l : List Int, fSum [lI l] = .ok (.int l.sum) := fun l => by unfold lI; simp only [fSum, ints?_map]
  have hcl := cell_at ns (i := b + 5 * (i : Nat) + 4) (by omega)
  unfold bTurn tBody tSt
  rw [e1]
  refine ⟨.frz (.int (i : Nat)), .frz (lI (someR ns b w i)), ?_⟩
  have c2 := fun X0 X1 X2 X3 X4 X5 X6 => tcomp2 hk w4 X0 X1 X2 X3 X4 X5 X6
  by_cases c : someC ns b w i = true
  · have es : someR ns b w i = some1 ns b w i := if_pos c
    rw [es] at c2 ⊢
    by_cases z : (some0 ns b w i).sum = 0
    · simp only [runDef, bSeq, bNil, bRet, bRetN, bSet, bSetO, bIf, bFrz, bMix, mFrz, mOwn, mNil, setSl, bApp, bPutX, bAug, bAsg, bDrop, gTupD, gsCons, gsNil, gSet, noExc, vVar, vC, vBin, vChain, vNot, vIf, vTup, oTup, vLst, oLst, vFn, vCall, aCons, aNil, vTest, vTruth, bAnd, bOr, bNot, vFld, vMk, vIsC, vIsi, tyName, sub_tt, sub_ii, sub_ib, natc1, natc2, natc3, natc4, decide_true, decide_false, oAdd_ap, oSub_ap, oMul_ap, oDiv_ap, oMod_ap, dI2, dI2c, oLt_ap, oLe_ap, oGt_ap, oGe_ap, oIsN_ap, oNotN_ap, VM.D.isNon, oIdx_l, oIdx_t, fLen, fAbs, fInt, VM.R.bind_ok, VM.R.bind_exc, VM.R.bind_stuck, Option.bind_some, Option.bind_none, ix_1_0, ix_2_0, ix_2_1, ix_3_0, ix_3_1, ix_3_2, ix_4_0, ix_4_1, ix_4_2, ix_4_3, List.map_cons, List.map_nil, List.append_nil, List.cons_append, List.nil_append, List.length_cons, List.length_nil, List.getElem?_cons_zero, List.getElem?_cons_succ, List.getElem?_nil, List.set_cons_zero, List.set_cons_succ, List.replicate_succ, List.replicate_zero, if_true, if_false, reduceIte, Nat.reduceSub, Nat.reduceAdd, Nat.reduceLeDiff, Nat.reduceEqDiff, Bool.not_true, Bool.not_false, Bool.false_eq_true, c0, c1, c2, hsum, fit5, hcl, d3, eqA_int, decide_eq_true z, fTuple, List.length_map, List.length_range, hi6]
    · have z2 : cz ns (b + 5 * (i : Nat) + 4) % 3 = 0 := by
        unfold someC at c
        rw [decide_eq_false z, Bool.false_or] at c
        exact of_decide_eq_true c
      simp only [runDef, bSeq, bNil, bRet, bRetN, bSet, bSetO, bIf, bFrz, bMix, mFrz, mOwn, mNil, setSl, bApp, bPutX, bAug, bAsg, bDrop, gTupD, gsCons, gsNil, gSet, noExc, vVar, vC, vBin, vChain, vNot, vIf, vTup, oTup, vLst, oLst, vFn, vCall, aCons, aNil, vTest, vTruth, bAnd, bOr, bNot, vFld, vMk, vIsC, vIsi, tyName, sub_tt, sub_ii, sub_ib, natc1, natc2, natc3, natc4, decide_true, decide_false, oAdd_ap, oSub_ap, oMul_ap, oDiv_ap, oMod_ap, dI2, dI2c, oLt_ap, oLe_ap, oGt_ap, oGe_ap, oIsN_ap, oNotN_ap, VM.D.isNon, oIdx_l, oIdx_t, fLen, fAbs, fInt, VM.R.bind_ok, VM.R.bind_exc, VM.R.bind_stuck, Option.bind_some, Option.bind_none, ix_1_0, ix_2_0, ix_2_1, ix_3_0, ix_3_1, ix_3_2, ix_4_0, ix_4_1, ix_4_2, ix_4_3, List.map_cons, List.map_nil, List.append_nil, List.cons_append, List.nil_append, List.length_cons, List.length_nil, List.getElem?_cons_zero, List.getElem?_cons_succ, List.getElem?_nil, List.set_cons_zero, List.set_cons_succ, List.replicate_succ, List.replicate_zero, if_true, if_false, reduceIte, Nat.reduceSub, Nat.reduceAdd, Nat.reduceLeDiff, Nat.reduceEqDiff, Bool.not_true, Bool.not_false, Bool.false_eq_true, c0, c1, c2, hsum, fit5, hcl, d3, eqA_int, decide_eq_false z, decide_eq_true z2, fTuple, List.length_map, List.length_range, hi6]
  · have es : someR ns b w i = some0 ns b w i := if_neg c
    rw [es] at c2 ⊢
    unfold someC at c
    have z : ¬ (some0 ns b w i).sum = 0 := fun z => c (by rw [decide_eq_true z]; rfl)
    have z2 : ¬ cz ns (b + 5 * (i : Nat) + 4) % 3 = 0 := fun z2 => c (by rw [decide_eq_true z2, Bool.or_true])
    simp only [runDef, bSeq, bNil, bRet, bRetN, bSet, bSetO, bIf, bFrz, bMix, mFrz, mOwn, mNil, setSl, bApp, bPutX, bAug, bAsg, bDrop, gTupD, gsCons, gsNil, gSet, noExc, vVar, vC, vBin, vChain, vNot, vIf, vTup, oTup, vLst, oLst, vFn, vCall, aCons, aNil, vTest, vTruth, bAnd, bOr, bNot, vFld, vMk, vIsC, vIsi, tyName, sub_tt, sub_ii, sub_ib, natc1, natc2, natc3, natc4, decide_true, decide_false, oAdd_ap, oSub_ap, oMul_ap, oDiv_ap, oMod_ap, dI2, dI2c, oLt_ap, oLe_ap, oGt_ap, oGe_ap, oIsN_ap, oNotN_ap, VM.D.isNon, oIdx_l, oIdx_t, fLen, fAbs, fInt, VM.R.bind_ok, VM.R.bind_exc, VM.R.bind_stuck, Option.bind_some, Option.bind_none, ix_1_0, ix_2_0, ix_2_1, ix_3_0, ix_3_1, ix_3_2, ix_4_0, ix_4_1, ix_4_2, ix_4_3, List.map_cons, List.map_nil, List.append_nil, List.cons_append, List.nil_append, List.length_cons, List.length_nil, List.getElem?_cons_zero, List.getElem?_cons_succ, List.getElem?_nil, List.set_cons_zero, List.set_cons_succ, List.replicate_succ, List.replicate_zero, if_true, if_false, reduceIte, Nat.reduceSub, Nat.reduceAdd, Nat.reduceLeDiff, Nat.reduceEqDiff, Bool.not_true, Bool.not_false, Bool.false_eq_true, c0, c1, c2, hsum, fit5, hcl, d3, eqA_int, decide_eq_false z, decide_eq_false z2, fTuple, List.length_map, List.length_range, hi6]
variable {b w} in
theorem table_at {M : Mat} (hM : M.Ok) (hb : 0 ≤ b) (w1 : 1 ≤ w) (w4 : w ≤ 4) : m__law_table [scrD ns, .int b, plainD M, .int (w : Nat)] = .ok (tabD (lawTab ns b w M.n)) := by
  have n4 := hM.n4
  obtain ⟨ρ', h1, h2⟩ := forL_pred (s := bTurn (gSet 5) tBody) (fun j : Nat => D.int (j : Nat)) (fun i ρ => ∃ z5 z7, ρ = tSt ns b w M i z5 z7) (List.range M.n) 0 (tSt ns b w M 0 .none .none) ⟨_, _, rfl⟩ (fun i j ρ hj hI => by
    obtain ⟨z5, z7, rfl⟩ := hI
    rw [Nat.zero_add]
    have hi : i < M.n := by
      have := (List.getElem?_eq_some_iff.mp hj).1
      simpa using this
    have ex : j = i := by simpa [hi] using hj.symm
    subst ex
    obtain ⟨y5, y7, h⟩ := tab_turn ns hM hb w1 w4 hi z5 z7
    exact ⟨_, h, _, _, rfl⟩)
  obtain ⟨z5, z7, rfl⟩ := h2
  rw [Nat.zero_add, List.length_range] at h1
  have hP : oIdx (plainD M) (.int 0) = .ok (tI M.P) := rfl
  have lP : vCall fLen (aCons (vBin oIdx (vVar 2) (vC (.int 0))) aNil) (tSt ns b w M 0 .none .none) = .ok (.int (M.n : Nat)) := by
    unfold tSt
    simp only [runDef, bSeq, bNil, bRet, bRetN, bSet, bSetO, bIf, bFrz, bMix, mFrz, mOwn, mNil, setSl, bApp, bPutX, bAug, bAsg, bDrop, gTupD, gsCons, gsNil, gSet, noExc, vVar, vC, vBin, vChain, vNot, vIf, vTup, oTup, vLst, oLst, vFn, vCall, aCons, aNil, vTest, vTruth, bAnd, bOr, bNot, vFld, vMk, vIsC, vIsi, tyName, sub_tt, sub_ii, sub_ib, natc1, natc2, natc3, natc4, decide_true, decide_false, oAdd_ap, oSub_ap, oMul_ap, oDiv_ap, oMod_ap, dI2, dI2c, oLt_ap, oLe_ap, oGt_ap, oGe_ap, oIsN_ap, oNotN_ap, VM.D.isNon, oIdx_l, oIdx_t, fLen, fAbs, fInt, VM.R.bind_ok, VM.R.bind_exc, VM.R.bind_stuck, Option.bind_some, Option.bind_none, ix_1_0, ix_2_0, ix_2_1, ix_3_0, ix_3_1, ix_3_2, ix_4_0, ix_4_1, ix_4_2, ix_4_3, List.map_cons, List.map_nil, List.append_nil, List.cons_append, List.nil_append, List.length_cons, List.length_nil, List.getElem?_cons_zero, List.getElem?_cons_succ, List.getElem?_nil, List.set_cons_zero, List.set_cons_succ, List.replicate_succ, List.replicate_zero, if_true, if_false, reduceIte, Nat.reduceSub, Nat.reduceAdd, Nat.reduceLeDiff, Nat.reduceEqDiff, Bool.not_true, Bool.not_false, Bool.false_eq_true, hP]
    unfold tI
    simp only [runDef, bSeq, bNil, bRet, bRetN, bSet, bSetO, bIf, bFrz, bMix, mFrz, mOwn, mNil, setSl, bApp, bPutX, bAug, bAsg, bDrop, gTupD, gsCons, gsNil, gSet, noExc, vVar, vC, vBin, vChain, vNot, vIf, vTup, oTup, vLst, oLst, vFn, vCall, aCons, aNil, vTest, vTruth, bAnd, bOr, bNot, vFld, vMk, vIsC, vIsi, tyName, sub_tt, sub_ii, sub_ib, natc1, natc2, natc3, natc4, decide_true, decide_false, oAdd_ap, oSub_ap, oMul_ap, oDiv_ap, oMod_ap, dI2, dI2c, oLt_ap, oLe_ap, oGt_ap, oGe_ap, oIsN_ap, oNotN_ap, VM.D.isNon, oIdx_l, oIdx_t, fLen, fAbs, fInt, VM.R.bind_ok, VM.R.bind_exc, VM.R.bind_stuck, Option.bind_some, Option.bind_none, ix_1_0, ix_2_0, ix_2_1, ix_3_0, ix_3_1, ix_3_2, ix_4_0, ix_4_1, ix_4_2, ix_4_3, List.map_cons, List.map_nil, List.append_nil, List.cons_append, List.nil_append, List.length_cons, List.length_nil, List.getElem?_cons_zero, List.getElem?_cons_succ, List.getElem?_nil, List.set_cons_zero, List.set_cons_succ, List.replicate_succ, List.replicate_zero, if_true, if_false, reduceIte, Nat.reduceSub, Nat.reduceAdd, Nat.reduceLeDiff, Nat.reduceEqDiff, Bool.not_true, Bool.not_false, Bool.false_eq_true, List.length_map, hM.lP]
  unfold m__law_table b__law_table
  change runDef 4 9 false (bSeq _ (bSeq (bFor (iRange1 (aCons (vCall fLen (aCons (vBin oIdx (vVar 2) (vC (.int 0))) aNil)) aNil)) (gSet 5) tBody) _)) _ = _
  have e0 : tSt ns b w M 0 .none .none = [.frz (scrD ns), .frz (.int b), .frz (plainD M), .frz (.int (w : Nat)), .own false (.lst []), .none, .none, .none, .none] := rfl
  have hF : bFor (iRange1 (aCons (vCall fLen (aCons (vBin oIdx (vVar 2) (vC (.int 0))) aNil)) aNil)) (gSet 5) tBody (tSt ns b w M 0 .none .none) = .ok (.nx (tSt ns b w M M.n z5 z7)) := by
    unfold bFor iRange1
    simp only [aCons, aNil, lP, R.bind_ok, rangeOk_nat (n := M.n) (by omega), if_true, Int.toNat_natCast, rangeD_map]
    exact h1
  rw [e0] at hF
  simp only [runDef, bSeq, bNil, bRet, bRetN, bSet, bSetO, bIf, bFrz, bMix, mFrz, mOwn, mNil, setSl, bApp, bPutX, bAug, bAsg, bDrop, gTupD, gsCons, gsNil, gSet, noExc, vVar, vC, vBin, vChain, vNot, vIf, vTup, oTup, vLst, oLst, vFn, vCall, aCons, aNil, vTest, vTruth, bAnd, bOr, bNot, vFld, vMk, vIsC, vIsi, tyName, sub_tt, sub_ii, sub_ib, natc1, natc2, natc3, natc4, decide_true, decide_false, oAdd_ap, oSub_ap, oMul_ap, oDiv_ap, oMod_ap, dI2, dI2c, oLt_ap, oLe_ap, oGt_ap, oGe_ap, oIsN_ap, oNotN_ap, VM.D.isNon, oIdx_l, oIdx_t, fLen, fAbs, fInt, VM.R.bind_ok, VM.R.bind_exc, VM.R.bind_stuck, Option.bind_some, Option.bind_none, ix_1_0, ix_2_0, ix_2_1, ix_3_0, ix_3_1, ix_3_2, ix_4_0, ix_4_1, ix_4_2, ix_4_3, List.map_cons, List.map_nil, List.append_nil, List.cons_append, List.nil_append, List.length_cons, List.length_nil, List.getElem?_cons_zero, List.getElem?_cons_succ, List.getElem?_nil, List.set_cons_zero, List.set_cons_succ, List.replicate_succ, List.replicate_zero, if_true, if_false, reduceIte, Nat.reduceSub, Nat.reduceAdd, Nat.reduceLeDiff, Nat.reduceEqDiff, Bool.not_true, Bool.not_false, Bool.false_eq_true, hF]
  unfold tSt
  simp only [runDef, bSeq, bNil, bRet, bRetN, bSet, bSetO, bIf, bFrz, bMix, mFrz, mOwn, mNil, setSl, bApp, bPutX, bAug, bAsg, bDrop, gTupD, gsCons, gsNil, gSet, noExc, vVar, vC, vBin, vChain, vNot, vIf, vTup, oTup, vLst, oLst, vFn, vCall, aCons, aNil, vTest, vTruth, bAnd, bOr, bNot, vFld, vMk, vIsC, vIsi, tyName, sub_tt, sub_ii, sub_ib, natc1, natc2, natc3, natc4, decide_true, decide_false, oAdd_ap, oSub_ap, oMul_ap, oDiv_ap, oMod_ap, dI2, dI2c, oLt_ap, oLe_ap, oGt_ap, oGe_ap, oIsN_ap, oNotN_ap, VM.D.isNon, oIdx_l, oIdx_t, fLen, fAbs, fInt, VM.R.bind_ok, VM.R.bind_exc, VM.R.bind_stuck, Option.bind_some, Option.bind_none, ix_1_0, ix_2_0, ix_2_1, ix_3_0, ix_3_1, ix_3_2, ix_4_0, ix_4_1, ix_4_2, ix_4_3, List.map_cons, List.map_nil, List.append_nil, List.cons_append, List.nil_append, List.length_cons, List.length_nil, List.getElem?_cons_zero, List.getElem?_cons_succ, List.getElem?_nil, List.set_cons_zero, List.set_cons_succ, List.replicate_succ, List.replicate_zero, if_true, if_false, reduceIte, Nat.reduceSub, Nat.reduceAdd, Nat.reduceLeDiff, Nat.reduceEqDiff, Bool.not_true, Bool.not_false, Bool.false_eq_true, fTuple]
  unfold tabD lawTab
  dsimp only
  rw [List.map_map]
  rfl
end
end VM
end
section
set_option Elab.async false
set_option linter.all false
set_option maxRecDepth 100000
set_option autoImplicit false
/-! Mk21: the table that tells everything and the one that tells nothing. -/
namespace VM
open PySem PySem.Spec L2
def wholeR (n p : Nat) : List Rat := (List.range n).map fun q => if q = p then (1 : Rat) else 0
def wholeT (n : Nat) : Tab where
  w := n
  T := (List.range n).map fun p => wholeR n p
def silentT (n : Nat) : Tab where
  w := 1
  T := (List.range n).map fun _ => [(1 : Rat)]
theorem whole_sum : ∀ n, n < 5 → ∀ p, p < n → qsum (wholeR n p) = 1 := by decide +kernel
theorem wholeT_ok {M : Mat} (hM : M.Ok) : (wholeT M.n).Ok M := by
  have n2 := hM.n2
  have n4 := hM.n4
  refine ⟨by show 1 ≤ M.n; omega, n4, by simp [wholeT], fun r hr => ?_⟩
  obtain ⟨p, hp, rfl⟩ := List.mem_map.mp hr
  rw [List.mem_range] at hp
  refine ⟨by simp [wholeR, wholeT], fun q hq => ?_, whole_sum _ (by omega) _ hp⟩
  obtain ⟨x, _, rfl⟩ := List.mem_map.mp hq
  split
  · exact ⟨by decide, by decide, by decide⟩
  · exact ⟨by decide, by decide, by decide⟩
theorem silentT_ok {M : Mat} (hM : M.Ok) : (silentT M.n).Ok M := by
  refine ⟨Nat.le_refl 1, by show 1 ≤ 4; decide, by simp [silentT], fun r hr => ?_⟩
  obtain ⟨p, hp, rfl⟩ := List.mem_map.mp hr
  refine ⟨rfl, fun q hq => ?_, by decide +kernel⟩
  rw [List.mem_singleton] at hq
  subst hq
  exact ⟨by decide, by decide, by decide⟩
theorem dQ1 : dQ 1 = .tup [.int 1, .int 1] := rfl
theorem dQ0 : dQ 0 = .tup [.int 0, .int 1] := rfl
theorem natint (q p : Nat) : decide (((q : Nat) : Int) = (p : Nat)) = decide (q = p) := by
  by_cases h : q = p
  · rw [decide_eq_true h, decide_eq_true (by omega)]
  · rw [decide_eq_false h, decide_eq_false (by omega)]
theorem propk {M : Mat} {g : List D → R D} {x : D} {ρ : Fr0} {k : Nat} (hg : g [instD M] = .ok x) (h : vVar k ρ = .ok (instD M)) : vProp 0 g (vVar k) ρ = .ok x := by
  unfold vProp
  rw [h, R.bind_ok, inst_eq]
  dsimp only
  rw [if_pos rfl, ← inst_eq, hg]
  rfl
theorem lenOk {M : Mat} (hM : M.Ok) {ρ : Fr0} {k : Nat} (h : vVar k ρ = .ok (instD M)) : vLenO 0 m_Matterdd_lendd (vVar k) ρ = .ok (.int (M.n : Nat)) := by
  have hm := mlen_at M
  rw [hM.lP] at hm
  have n4 := hM.n4
  unfold vLenO
  rw [h, R.bind_ok, inst_eq]
  dsimp only
  rw [if_pos rfl, ← inst_eq, hm]
  simp only [noExc, R.bind_ok]
  rw [if_pos ⟨by omega, by omega⟩]
theorem wholeD (n : Nat) : tabD (wholeT n) = .tup ((List.range n).map fun p => rD (wholeR n p)) := by
  unfold tabD wholeT
  dsimp only
  rw [List.map_map]
  rfl
theorem wholeRD (n p : Nat) : rD (wholeR n p) = .tup ((List.range n).map fun q => dQ (if q = p then (1 : Rat) else 0)) := by
  unfold rD wholeR
  rw [List.map_map]
  rfl
theorem whole_table_at {M : Mat} (hM : M.Ok) : m_whole_table [instD M] = .ok (tabD (wholeT M.n)) := by
  have n2 := hM.n2
  have n4 := hM.n4
  have inner := fun p : Nat => vComp_at (vs := [3]) (mi := iRange1 (aCons (vVar 1) aNil)) (g := gSet 3) (nt := tYesB) (me := vIf (vTest (vBin oEqA (vVar 3) (vVar 2))) (vTup (aCons (vC (.int 1)) (aCons (vC (.int 1)) aNil))) (vTup (aCons (vC (.int 0)) (aCons (vC (.int 1)) aNil))))
    (ρ := [.frz (instD M), .frz (.int (M.n : Nat)), .frz (.int (p : Nat)), .none])
    (fun q : Nat => D.int (q : Nat)) (fun q => dQ (if q = p then (1 : Rat) else 0)) (List.range M.n)
    (by simp only [runDef, bSeq, bNil, bRet, bRetN, bSet, bSetO, bIf, bFrz, bMix, mFrz, mOwn, mNil, setSl, bApp, bPutX, bAug, bAsg, bDrop, gTupD, gsCons, gsNil, gSet, noExc, vVar, vC, vBin, vChain, vNot, vIf, vTup, oTup, vLst, oLst, vFn, vCall, aCons, aNil, vTest, vTruth, bAnd, bOr, bNot, vFld, vMk, vIsC, vIsi, tyName, sub_tt, sub_ii, sub_ib, natc1, natc2, natc3, natc4, decide_true, decide_false, oAdd_ap, oSub_ap, oMul_ap, oDiv_ap, oMod_ap, dI2, dI2c, oLt_ap, oLe_ap, oGt_ap, oGe_ap, oIsN_ap, oNotN_ap, VM.D.isNon, oIdx_l, oIdx_t, fLen, fAbs, fInt, VM.R.bind_ok, VM.R.bind_exc, VM.R.bind_stuck, Option.bind_some, Option.bind_none, ix_1_0, ix_2_0, ix_2_1, ix_3_0, ix_3_1, ix_3_2, ix_4_0, ix_4_1, ix_4_2, ix_4_3, List.map_cons, List.map_nil, List.append_nil, List.cons_append, List.nil_append, List.length_cons, List.length_nil, List.getElem?_cons_zero, List.getElem?_cons_succ, List.getElem?_nil, List.set_cons_zero, List.set_cons_succ, List.replicate_succ, List.replicate_zero, if_true, if_false, reduceIte, Nat.reduceSub, Nat.reduceAdd, Nat.reduceLeDiff, Nat.reduceEqDiff, Bool.not_true, Bool.not_false, Bool.false_eq_true, iRange1, rangeOk_nat (n := M.n) (by omega), Int.toNat_natCast, rangeD_map]) (by rw [List.length_range]; omega) (fun q hq => by
      refine turn_yes (show gSet 3 _ _ = .ok _ from rfl) ?_
      simp only [wipeR]
      simp only [runDef, bSeq, bNil, bRet, bRetN, bSet, bSetO, bIf, bFrz, bMix, mFrz, mOwn, mNil, setSl, bApp, bPutX, bAug, bAsg, bDrop, gTupD, gsCons, gsNil, gSet, noExc, vVar, vC, vBin, vChain, vNot, vIf, vTup, oTup, vLst, oLst, vFn, vCall, aCons, aNil, vTest, vTruth, bAnd, bOr, bNot, vFld, vMk, vIsC, vIsi, tyName, sub_tt, sub_ii, sub_ib, natc1, natc2, natc3, natc4, decide_true, decide_false, oAdd_ap, oSub_ap, oMul_ap, oDiv_ap, oMod_ap, dI2, dI2c, oLt_ap, oLe_ap, oGt_ap, oGe_ap, oIsN_ap, oNotN_ap, VM.D.isNon, oIdx_l, oIdx_t, fLen, fAbs, fInt, VM.R.bind_ok, VM.R.bind_exc, VM.R.bind_stuck, Option.bind_some, Option.bind_none, ix_1_0, ix_2_0, ix_2_1, ix_3_0, ix_3_1, ix_3_2, ix_4_0, ix_4_1, ix_4_2, ix_4_3, List.map_cons, List.map_nil, List.append_nil, List.cons_append, List.nil_append, List.length_cons, List.length_nil, List.getElem?_cons_zero, List.getElem?_cons_succ, List.getElem?_nil, List.set_cons_zero, List.set_cons_succ, List.replicate_succ, List.replicate_zero, if_true, if_false, reduceIte, Nat.reduceSub, Nat.reduceAdd, Nat.reduceLeDiff, Nat.reduceEqDiff, Bool.not_true, Bool.not_false, Bool.false_eq_true, eqA_int, natint]
      by_cases h : q = p
      · simp only [runDef, bSeq, bNil, bRet, bRetN, bSet, bSetO, bIf, bFrz, bMix, mFrz, mOwn, mNil, setSl, bApp, bPutX, bAug, bAsg, bDrop, gTupD, gsCons, gsNil, gSet, noExc, vVar, vC, vBin, vChain, vNot, vIf, vTup, oTup, vLst, oLst, vFn, vCall, aCons, aNil, vTest, vTruth, bAnd, bOr, bNot, vFld, vMk, vIsC, vIsi, tyName, sub_tt, sub_ii, sub_ib, natc1, natc2, natc3, natc4, decide_true, decide_false, oAdd_ap, oSub_ap, oMul_ap, oDiv_ap, oMod_ap, dI2, dI2c, oLt_ap, oLe_ap, oGt_ap, oGe_ap, oIsN_ap, oNotN_ap, VM.D.isNon, oIdx_l, oIdx_t, fLen, fAbs, fInt, VM.R.bind_ok, VM.R.bind_exc, VM.R.bind_stuck, Option.bind_some, Option.bind_none, ix_1_0, ix_2_0, ix_2_1, ix_3_0, ix_3_1, ix_3_2, ix_4_0, ix_4_1, ix_4_2, ix_4_3, List.map_cons, List.map_nil, List.append_nil, List.cons_append, List.nil_append, List.length_cons, List.length_nil, List.getElem?_cons_zero, List.getElem?_cons_succ, List.getElem?_nil, List.set_cons_zero, List.set_cons_succ, List.replicate_succ, List.replicate_zero, if_true, if_false, reduceIte, Nat.reduceSub, Nat.reduceAdd, Nat.reduceLeDiff, Nat.reduceEqDiff, Bool.not_true, Bool.not_false, Bool.false_eq_true, decide_eq_true h, if_pos h, dQ1]
      · simp only [runDef, bSeq, bNil, bRet, bRetN, bSet, bSetO, bIf, bFrz, bMix, mFrz, mOwn, mNil, setSl, bApp, bPutX, bAug, bAsg, bDrop, gTupD, gsCons, gsNil, gSet, noExc, vVar, vC, vBin, vChain, vNot, vIf, vTup, oTup, vLst, oLst, vFn, vCall, aCons, aNil, vTest, vTruth, bAnd, bOr, bNot, vFld, vMk, vIsC, vIsi, tyName, sub_tt, sub_ii, sub_ib, natc1, natc2, natc3, natc4, decide_true, decide_false, oAdd_ap, oSub_ap, oMul_ap, oDiv_ap, oMod_ap, dI2, dI2c, oLt_ap, oLe_ap, oGt_ap, oGe_ap, oIsN_ap, oNotN_ap, VM.D.isNon, oIdx_l, oIdx_t, fLen, fAbs, fInt, VM.R.bind_ok, VM.R.bind_exc, VM.R.bind_stuck, Option.bind_some, Option.bind_none, ix_1_0, ix_2_0, ix_2_1, ix_3_0, ix_3_1, ix_3_2, ix_4_0, ix_4_1, ix_4_2, ix_4_3, List.map_cons, List.map_nil, List.append_nil, List.cons_append, List.nil_append, List.length_cons, List.length_nil, List.getElem?_cons_zero, List.getElem?_cons_succ, List.getElem?_nil, List.set_cons_zero, List.set_cons_succ, List.replicate_succ, List.replicate_zero, if_true, if_false, reduceIte, Nat.reduceSub, Nat.reduceAdd, Nat.reduceLeDiff, Nat.reduceEqDiff, Bool.not_true, Bool.not_false, Bool.false_eq_true, decide_eq_false h, if_neg h, dQ0])
  have outer := vComp_at (vs := [2]) (mi := iRange1 (aCons (vVar 1) aNil)) (g := gSet 2) (nt := tYesB) (me := vCall fTuple (aCons (vComp [3] (iRange1 (aCons (vVar 1) aNil)) (gSet 3) tYesB (vIf (vTest (vBin oEqA (vVar 3) (vVar 2))) (vTup (aCons (vC (.int 1)) (aCons (vC (.int 1)) aNil))) (vTup (aCons (vC (.int 0)) (aCons (vC (.int 1)) aNil))))) aNil))
    (ρ := [.frz (instD M), .frz (.int (M.n : Nat)), .none, .none])
    (fun q : Nat => D.int (q : Nat)) (fun p => rD (wholeR M.n p)) (List.range M.n)
    (by simp only [runDef, bSeq, bNil, bRet, bRetN, bSet, bSetO, bIf, bFrz, bMix, mFrz, mOwn, mNil, setSl, bApp, bPutX, bAug, bAsg, bDrop, gTupD, gsCons, gsNil, gSet, noExc, vVar, vC, vBin, vChain, vNot, vIf, vTup, oTup, vLst, oLst, vFn, vCall, aCons, aNil, vTest, vTruth, bAnd, bOr, bNot, vFld, vMk, vIsC, vIsi, tyName, sub_tt, sub_ii, sub_ib, natc1, natc2, natc3, natc4, decide_true, decide_false, oAdd_ap, oSub_ap, oMul_ap, oDiv_ap, oMod_ap, dI2, dI2c, oLt_ap, oLe_ap, oGt_ap, oGe_ap, oIsN_ap, oNotN_ap, VM.D.isNon, oIdx_l, oIdx_t, fLen, fAbs, fInt, VM.R.bind_ok, VM.R.bind_exc, VM.R.bind_stuck, Option.bind_some, Option.bind_none, ix_1_0, ix_2_0, ix_2_1, ix_3_0, ix_3_1, ix_3_2, ix_4_0, ix_4_1, ix_4_2, ix_4_3, List.map_cons, List.map_nil, List.append_nil, List.cons_append, List.nil_append, List.length_cons, List.length_nil, List.getElem?_cons_zero, List.getElem?_cons_succ, List.getElem?_nil, List.set_cons_zero, List.set_cons_succ, List.replicate_succ, List.replicate_zero, if_true, if_false, reduceIte, Nat.reduceSub, Nat.reduceAdd, Nat.reduceLeDiff, Nat.reduceEqDiff, Bool.not_true, Bool.not_false, Bool.false_eq_true, iRange1, rangeOk_nat (n := M.n) (by omega), Int.toNat_natCast, rangeD_map]) (by rw [List.length_range]; omega) (fun p hp => by
      refine turn_yes (show gSet 2 _ _ = .ok _ from rfl) ?_
      simp only [wipeR]
      simp only [runDef, bSeq, bNil, bRet, bRetN, bSet, bSetO, bIf, bFrz, bMix, mFrz, mOwn, mNil, setSl, bApp, bPutX, bAug, bAsg, bDrop, gTupD, gsCons, gsNil, gSet, noExc, vVar, vC, vBin, vChain, vNot, vIf, vTup, oTup, vLst, oLst, vFn, vCall, aCons, aNil, vTest, vTruth, bAnd, bOr, bNot, vFld, vMk, vIsC, vIsi, tyName, sub_tt, sub_ii, sub_ib, natc1, natc2, natc3, natc4, decide_true, decide_false, oAdd_ap, oSub_ap, oMul_ap, oDiv_ap, oMod_ap, dI2, dI2c, oLt_ap, oLe_ap, oGt_ap, oGe_ap, oIsN_ap, oNotN_ap, VM.D.isNon, oIdx_l, oIdx_t, fLen, fAbs, fInt, VM.R.bind_ok, VM.R.bind_exc, VM.R.bind_stuck, Option.bind_some, Option.bind_none, ix_1_0, ix_2_0, ix_2_1, ix_3_0, ix_3_1, ix_3_2, ix_4_0, ix_4_1, ix_4_2, ix_4_3, List.map_cons, List.map_nil, List.append_nil, List.cons_append, List.nil_append, List.length_cons, List.length_nil, List.getElem?_cons_zero, List.getElem?_cons_succ, List.getElem?_nil, List.set_cons_zero, List.set_cons_succ, List.replicate_succ, List.replicate_zero, if_true, if_false, reduceIte, Nat.reduceSub, Nat.reduceAdd, Nat.reduceLeDiff, Nat.reduceEqDiff, Bool.not_true, Bool.not_false, Bool.false_eq_true, inner p, fTuple, wholeRD])
  unfold m_whole_table b_whole_table
  simp only [runDef, bSeq, bNil, bRet, bRetN, bSet, bSetO, bIf, bFrz, bMix, mFrz, mOwn, mNil, setSl, bApp, bPutX, bAug, bAsg, bDrop, gTupD, gsCons, gsNil, gSet, noExc, vVar, vC, vBin, vChain, vNot, vIf, vTup, oTup, vLst, oLst, vFn, vCall, aCons, aNil, vTest, vTruth, bAnd, bOr, bNot, vFld, vMk, vIsC, vIsi, tyName, sub_tt, sub_ii, sub_ib, natc1, natc2, natc3, natc4, decide_true, decide_false, oAdd_ap, oSub_ap, oMul_ap, oDiv_ap, oMod_ap, dI2, dI2c, oLt_ap, oLe_ap, oGt_ap, oGe_ap, oIsN_ap, oNotN_ap, VM.D.isNon, oIdx_l, oIdx_t, fLen, fAbs, fInt, VM.R.bind_ok, VM.R.bind_exc, VM.R.bind_stuck, Option.bind_some, Option.bind_none, ix_1_0, ix_2_0, ix_2_1, ix_3_0, ix_3_1, ix_3_2, ix_4_0, ix_4_1, ix_4_2, ix_4_3, List.map_cons, List.map_nil, List.append_nil, List.cons_append, List.nil_append, List.length_cons, List.length_nil, List.getElem?_cons_zero, List.getElem?_cons_succ, List.getElem?_nil, List.set_cons_zero, List.set_cons_succ, List.replicate_succ, List.replicate_zero, if_true, if_false, reduceIte, Nat.reduceSub, Nat.reduceAdd, Nat.reduceLeDiff, Nat.reduceEqDiff, Bool.not_true, Bool.not_false, Bool.false_eq_true, check_matter_at, lenOk hM (k := 0) (ρ := [.frz (instD M), .none, .none, .none]) rfl, outer, fTuple, wholeD]
theorem silentD (n : Nat) : tabD (silentT n) = .tup ((List.range n).map fun _ => .tup [.tup [.int 1, .int 1]]) := by
  unfold tabD silentT
  dsimp only
  rw [List.map_map]
  rfl
theorem silent_table_at {M : Mat} (hM : M.Ok) : m_silent_table [instD M] = .ok (tabD (silentT M.n)) := by
  have n2 := hM.n2
  have n4 := hM.n4
  have outer := vComp_at (vs := [1]) (mi := iRange1 (aCons (vLenO 0 m_Matterdd_lendd (vVar 0)) aNil)) (g := gSet 1) (nt := tYesB) (me := vTup (aCons (vTup (aCons (vC (.int 1)) (aCons (vC (.int 1)) aNil))) aNil))
    (ρ := [.frz (instD M), .none])
    (fun q : Nat => D.int (q : Nat)) (fun _ => .tup [.tup [.int 1, .int 1]]) (List.range M.n)
    (by simp only [runDef, bSeq, bNil, bRet, bRetN, bSet, bSetO, bIf, bFrz, bMix, mFrz, mOwn, mNil, setSl, bApp, bPutX, bAug, bAsg, bDrop, gTupD, gsCons, gsNil, gSet, noExc, vVar, vC, vBin, vChain, vNot, vIf, vTup, oTup, vLst, oLst, vFn, vCall, aCons, aNil, vTest, vTruth, bAnd, bOr, bNot, vFld, vMk, vIsC, vIsi, tyName, sub_tt, sub_ii, sub_ib, natc1, natc2, natc3, natc4, decide_true, decide_false, oAdd_ap, oSub_ap, oMul_ap, oDiv_ap, oMod_ap, dI2, dI2c, oLt_ap, oLe_ap, oGt_ap, oGe_ap, oIsN_ap, oNotN_ap, VM.D.isNon, oIdx_l, oIdx_t, fLen, fAbs, fInt, VM.R.bind_ok, VM.R.bind_exc, VM.R.bind_stuck, Option.bind_some, Option.bind_none, ix_1_0, ix_2_0, ix_2_1, ix_3_0, ix_3_1, ix_3_2, ix_4_0, ix_4_1, ix_4_2, ix_4_3, List.map_cons, List.map_nil, List.append_nil, List.cons_append, List.nil_append, List.length_cons, List.length_nil, List.getElem?_cons_zero, List.getElem?_cons_succ, List.getElem?_nil, List.set_cons_zero, List.set_cons_succ, List.replicate_succ, List.replicate_zero, if_true, if_false, reduceIte, Nat.reduceSub, Nat.reduceAdd, Nat.reduceLeDiff, Nat.reduceEqDiff, Bool.not_true, Bool.not_false, Bool.false_eq_true, iRange1, lenOk hM (k := 0) (ρ := [.frz (instD M), .none]) rfl, rangeOk_nat (n := M.n) (by omega), Int.toNat_natCast, rangeD_map]) (by rw [List.length_range]; omega) (fun p hp => by
      refine turn_yes (show gSet 1 _ _ = .ok _ from rfl) ?_
      simp only [wipeR]
      simp only [runDef, bSeq, bNil, bRet, bRetN, bSet, bSetO, bIf, bFrz, bMix, mFrz, mOwn, mNil, setSl, bApp, bPutX, bAug, bAsg, bDrop, gTupD, gsCons, gsNil, gSet, noExc, vVar, vC, vBin, vChain, vNot, vIf, vTup, oTup, vLst, oLst, vFn, vCall, aCons, aNil, vTest, vTruth, bAnd, bOr, bNot, vFld, vMk, vIsC, vIsi, tyName, sub_tt, sub_ii, sub_ib, natc1, natc2, natc3, natc4, decide_true, decide_false, oAdd_ap, oSub_ap, oMul_ap, oDiv_ap, oMod_ap, dI2, dI2c, oLt_ap, oLe_ap, oGt_ap, oGe_ap, oIsN_ap, oNotN_ap, VM.D.isNon, oIdx_l, oIdx_t, fLen, fAbs, fInt, VM.R.bind_ok, VM.R.bind_exc, VM.R.bind_stuck, Option.bind_some, Option.bind_none, ix_1_0, ix_2_0, ix_2_1, ix_3_0, ix_3_1, ix_3_2, ix_4_0, ix_4_1, ix_4_2, ix_4_3, List.map_cons, List.map_nil, List.append_nil, List.cons_append, List.nil_append, List.length_cons, List.length_nil, List.getElem?_cons_zero, List.getElem?_cons_succ, List.getElem?_nil, List.set_cons_zero, List.set_cons_succ, List.replicate_succ, List.replicate_zero, if_true, if_false, reduceIte, Nat.reduceSub, Nat.reduceAdd, Nat.reduceLeDiff, Nat.reduceEqDiff, Bool.not_true, Bool.not_false, Bool.false_eq_true])
  unfold m_silent_table b_silent_table
  simp only [runDef, bSeq, bNil, bRet, bRetN, bSet, bSetO, bIf, bFrz, bMix, mFrz, mOwn, mNil, setSl, bApp, bPutX, bAug, bAsg, bDrop, gTupD, gsCons, gsNil, gSet, noExc, vVar, vC, vBin, vChain, vNot, vIf, vTup, oTup, vLst, oLst, vFn, vCall, aCons, aNil, vTest, vTruth, bAnd, bOr, bNot, vFld, vMk, vIsC, vIsi, tyName, sub_tt, sub_ii, sub_ib, natc1, natc2, natc3, natc4, decide_true, decide_false, oAdd_ap, oSub_ap, oMul_ap, oDiv_ap, oMod_ap, dI2, dI2c, oLt_ap, oLe_ap, oGt_ap, oGe_ap, oIsN_ap, oNotN_ap, VM.D.isNon, oIdx_l, oIdx_t, fLen, fAbs, fInt, VM.R.bind_ok, VM.R.bind_exc, VM.R.bind_stuck, Option.bind_some, Option.bind_none, ix_1_0, ix_2_0, ix_2_1, ix_3_0, ix_3_1, ix_3_2, ix_4_0, ix_4_1, ix_4_2, ix_4_3, List.map_cons, List.map_nil, List.append_nil, List.cons_append, List.nil_append, List.length_cons, List.length_nil, List.getElem?_cons_zero, List.getElem?_cons_succ, List.getElem?_nil, List.set_cons_zero, List.set_cons_succ, List.replicate_succ, List.replicate_zero, if_true, if_false, reduceIte, Nat.reduceSub, Nat.reduceAdd, Nat.reduceLeDiff, Nat.reduceEqDiff, Bool.not_true, Bool.not_false, Bool.false_eq_true, check_matter_at, outer, fTuple, silentD]
theorem rep_at {M : Mat} (hM : M.Ok) : oRepT (.tup [.tup [.tup [.int 1, .int 1]]]) (.int (M.n : Nat)) = .ok (tabD (silentT M.n)) := by
  have n2 := hM.n2
  have n4 := hM.n4
  generalize M.n = n at n2 n4 ⊢
  obtain h | h | h : n = 2 ∨ n = 3 ∨ n = 4 := by omega
  all_goals subst h; rfl
theorem tab_fl (T : Tab) : Fl 64 (tabD T) := by
  refine (Fl.tup (n := 2) fun d hd => ?_).mono (by decide)
  obtain ⟨r, _, rfl⟩ := List.mem_map.mp hd
  refine Fl.tup fun d hd => ?_
  obtain ⟨q, _, rfl⟩ := List.mem_map.mp hd
  exact Fl.q _
theorem tI_fl (l : List Int) : Fl 1 (tI l) := Fl.tup fun d hd => by
  obtain ⟨q, _, rfl⟩ := List.mem_map.mp hd
  exact Fl.int _
theorem rows_fl (l : List (List Int)) : Fl 64 (rowsD l) := by
  refine (Fl.tup (n := 1) fun d hd => ?_).mono (by decide)
  obtain ⟨r, _, rfl⟩ := List.mem_map.mp hd
  exact tI_fl _
end VM
end
section
set_option Elab.async false
set_option linter.all false
set_option maxRecDepth 100000
set_option autoImplicit false
/-! Mk22: the law is true. -/
namespace VM
open PySem PySem.Spec L2
section
variable (ns : List Int)
def lw (t : Nat) : Nat := (1 + cz ns (105 + (t : Nat)) % 4).toNat
theorem hlw (t : Nat) : 1 + cz ns (105 + (t : Nat)) % 4 = (lw ns t : Nat) ∧ 1 ≤ lw ns t ∧ lw ns t ≤ 4 := by
  have r0 := Int.emod_nonneg (cz ns (105 + (t : Nat))) (b := 4) (by decide)
  have r1 := Int.emod_lt_of_pos (cz ns (105 + (t : Nat))) (b := 4) (by decide)
  unfold lw
  omega
def tabs (i : Nat) : List Tab := [wholeT (lawMat ns).n, silentT (lawMat ns).n] ++ (List.range i).map fun t => lawTab ns (40 + 21 * (t : Nat)) (lw ns t) (lawMat ns).n
theorem tabs_ok (i : Nat) : ∀ T ∈ tabs ns i, T.Ok (lawMat ns) := fun T hT => by
  have hM := lawMat_ok ns
  rcases List.mem_append.mp hT with h | h
  · simp only [List.mem_cons, List.not_mem_nil, or_false] at h
    rcases h with rfl | rfl
    · exact wholeT_ok hM
    · exact silentT_ok hM
  · obtain ⟨t, _, rfl⟩ := List.mem_map.mp h
    exact lawTab_ok ns _ _ (hlw ns t).2.1 (hlw ns t).2.2
def lSt (i : Nat) (z8 : Slot) : Fr0 := [.frz (scrD ns), .frz (plainD (lawMat ns)), .frz (instD (lawMat ns)), .frz (.int ((lawMat ns).n : Nat)), .none, .none, .frz (.lst ((List.range (lawMat ns).n).map fun p => rD (wholeR (lawMat ns).n p))), .own false (.lst ((tabs ns i).map tabD)), z8, .none]
def lBody : Fr0 → R Out := (bApp 7 (vFn 4 [] m__law_table (aCons (vVar 0) (aCons (vBin oAdd (vC (.int 40)) (vBin oMul (vC (.int 21)) (vVar 8))) (aCons (vVar 1) (aCons (vBin oAdd (vC (.int 1)) (vBin oMod (vCall fInt (aCons (vFn 2 [] m__law_cell_at (aCons (vVar 0) (aCons (vBin oAdd (vC (.int 105)) (vVar 8)) aNil))) aNil)) (vC (.int 4)))) aNil))))))
theorem fit21 (p : Nat) : mulFits 21 (p : Nat) = true := by
  unfold mulFits
  have h : decide ((21 : Int).natAbs < 2 ^ 63) = true := by decide
  rw [h, Bool.true_or, Bool.true_or]
theorem law_turn {i : Nat} (hi : i < 3) (z8 : Slot) : bTurn (gSet 8) lBody (.int (i : Nat)) (lSt ns i z8) = .ok (.nx (lSt ns (i + 1) (.frz (.int (i : Nat))))) := by
  have hM := lawMat_ok ns
  obtain ⟨h1, h2, h3⟩ := hlw ns i
  have hl : ((tabs ns i).map tabD).length ≤ 1000000 := by simp [tabs]; omega
  have e1 : (tabs ns (i + 1)).map tabD = (tabs ns i).map tabD ++ [tabD (lawTab ns (40 + 21 * (i : Nat)) (lw ns i) (lawMat ns).n)] := by
    unfold tabs
    simp only [List.range_succ, List.map_append, List.append_assoc]
    rfl
  have ht := table_at ns (M := lawMat ns) (b := 40 + 21 * (i : Nat)) (w := lw ns i) hM (by omega) h2 h3
  have hc := cell_at ns (i := 105 + (i : Nat)) (by omega)
  unfold bTurn lBody lSt
  rw [e1]
  simp only [runDef, bSeq, bNil, bRet, bRetN, bSet, bSetO, bIf, bFrz, bMix, mFrz, mOwn, mNil, setSl, bApp, bPutX, bAug, bAsg, bDrop, gTupD, gsCons, gsNil, gSet, noExc, vVar, vC, vBin, vChain, vNot, vIf, vTup, oTup, vLst, oLst, vFn, vCall, aCons, aNil, vTest, vTruth, bAnd, bOr, bNot, vFld, vMk, vIsC, vIsi, tyName, sub_tt, sub_ii, sub_ib, natc1, natc2, natc3, natc4, decide_true, decide_false, oAdd_ap, oSub_ap, oMul_ap, oDiv_ap, oMod_ap, dI2, dI2c, oLt_ap, oLe_ap, oGt_ap, oGe_ap, oIsN_ap, oNotN_ap, VM.D.isNon, oIdx_l, oIdx_t, fLen, fAbs, fInt, VM.R.bind_ok, VM.R.bind_exc, VM.R.bind_stuck, Option.bind_some, Option.bind_none, ix_1_0, ix_2_0, ix_2_1, ix_3_0, ix_3_1, ix_3_2, ix_4_0, ix_4_1, ix_4_2, ix_4_3, List.map_cons, List.map_nil, List.append_nil, List.cons_append, List.nil_append, List.length_cons, List.length_nil, List.getElem?_cons_zero, List.getElem?_cons_succ, List.getElem?_nil, List.set_cons_zero, List.set_cons_succ, List.replicate_succ, List.replicate_zero, if_true, if_false, reduceIte, Nat.reduceSub, Nat.reduceAdd, Nat.reduceLeDiff, Nat.reduceEqDiff, Bool.not_true, Bool.not_false, Bool.false_eq_true, fit21, hc, d4, h1, ht, hl]
theorem law_true (h : ns.length ≤ 63) : m_law [.lst (ns.map D.int)] = .ok (.bl true) := by
  have hM := lawMat_ok ns
  have n2 := hM.n2
  have n4 := hM.n4
  generalize hMe : lawMat ns = M at *
  have hma : m__law_matter [scrD ns, .int 0] = .ok (plainD M) := by rw [← hMe]; exact matter_at ns
  have hP : oIdx (plainD M) (.int 0) = .ok (tI M.P) := rfl
  have hG : oIdx (plainD M) (.int 1) = .ok (rowsD M.G) := rfl
  have hW : oIdx (plainD M) (.int 2) = .ok (rowsD M.W) := rfl
  have lP : fLen [tI M.P] = .ok (.int (M.n : Nat)) := by unfold tI; simp only [fLen]; rw [List.length_map, hM.lP]
  have hmk := make_at hM
  have fP := ((tI_fl M.P).mono (m := 64) (by decide)).ne
  have fG := (rows_fl M.G).ne
  have fW := (rows_fl M.W).ne
  have fA := (tab_fl (wholeT M.n)).ne
  have fS := (tab_fl (silentT M.n)).ne
  have inner := fun p : Nat => vComp_at (vs := [5]) (mi := iRange1 (aCons (vVar 3) aNil)) (g := gSet 5) (nt := tYesB) (me := vTup (aCons (vIf (vTest (vBin oEqA (vVar 5) (vVar 4))) (vC (.int 1)) (vC (.int 0))) (aCons (vC (.int 1)) aNil)))
    (ρ := [.frz (scrD ns), .frz (plainD M), .frz (instD M), .frz (.int (M.n : Nat)), .frz (.int (p : Nat)), .none, .none, .none, .none, .none])
    (fun q : Nat => D.int (q : Nat)) (fun q => dQ (if q = p then (1 : Rat) else 0)) (List.range M.n)
    (by simp only [runDef, bSeq, bNil, bRet, bRetN, bSet, bSetO, bIf, bFrz, bMix, mFrz, mOwn, mNil, setSl, bApp, bPutX, bAug, bAsg, bDrop, gTupD, gsCons, gsNil, gSet, noExc, vVar, vC, vBin, vChain, vNot, vIf, vTup, oTup, vLst, oLst, vFn, vCall, aCons, aNil, vTest, vTruth, bAnd, bOr, bNot, vFld, vMk, vIsC, vIsi, tyName, sub_tt, sub_ii, sub_ib, natc1, natc2, natc3, natc4, decide_true, decide_false, oAdd_ap, oSub_ap, oMul_ap, oDiv_ap, oMod_ap, dI2, dI2c, oLt_ap, oLe_ap, oGt_ap, oGe_ap, oIsN_ap, oNotN_ap, VM.D.isNon, oIdx_l, oIdx_t, fLen, fAbs, fInt, VM.R.bind_ok, VM.R.bind_exc, VM.R.bind_stuck, Option.bind_some, Option.bind_none, ix_1_0, ix_2_0, ix_2_1, ix_3_0, ix_3_1, ix_3_2, ix_4_0, ix_4_1, ix_4_2, ix_4_3, List.map_cons, List.map_nil, List.append_nil, List.cons_append, List.nil_append, List.length_cons, List.length_nil, List.getElem?_cons_zero, List.getElem?_cons_succ, List.getElem?_nil, List.set_cons_zero, List.set_cons_succ, List.replicate_succ, List.replicate_zero, if_true, if_false, reduceIte, Nat.reduceSub, Nat.reduceAdd, Nat.reduceLeDiff, Nat.reduceEqDiff, Bool.not_true, Bool.not_false, Bool.false_eq_true, iRange1, rangeOk_nat (n := M.n) (by omega), Int.toNat_natCast, rangeD_map]) (by rw [List.length_range]; omega) (fun q hq => by
      refine turn_yes (show gSet 5 _ _ = .ok _ from rfl) ?_
      simp only [wipeR]
      simp only [runDef, bSeq, bNil, bRet, bRetN, bSet, bSetO, bIf, bFrz, bMix, mFrz, mOwn, mNil, setSl, bApp, bPutX, bAug, bAsg, bDrop, gTupD, gsCons, gsNil, gSet, noExc, vVar, vC, vBin, vChain, vNot, vIf, vTup, oTup, vLst, oLst, vFn, vCall, aCons, aNil, vTest, vTruth, bAnd, bOr, bNot, vFld, vMk, vIsC, vIsi, tyName, sub_tt, sub_ii, sub_ib, natc1, natc2, natc3, natc4, decide_true, decide_false, oAdd_ap, oSub_ap, oMul_ap, oDiv_ap, oMod_ap, dI2, dI2c, oLt_ap, oLe_ap, oGt_ap, oGe_ap, oIsN_ap, oNotN_ap, VM.D.isNon, oIdx_l, oIdx_t, fLen, fAbs, fInt, VM.R.bind_ok, VM.R.bind_exc, VM.R.bind_stuck, Option.bind_some, Option.bind_none, ix_1_0, ix_2_0, ix_2_1, ix_3_0, ix_3_1, ix_3_2, ix_4_0, ix_4_1, ix_4_2, ix_4_3, List.map_cons, List.map_nil, List.append_nil, List.cons_append, List.nil_append, List.length_cons, List.length_nil, List.getElem?_cons_zero, List.getElem?_cons_succ, List.getElem?_nil, List.set_cons_zero, List.set_cons_succ, List.replicate_succ, List.replicate_zero, if_true, if_false, reduceIte, Nat.reduceSub, Nat.reduceAdd, Nat.reduceLeDiff, Nat.reduceEqDiff, Bool.not_true, Bool.not_false, Bool.false_eq_true, eqA_int, natint]
      by_cases h : q = p
      · simp only [runDef, bSeq, bNil, bRet, bRetN, bSet, bSetO, bIf, bFrz, bMix, mFrz, mOwn, mNil, setSl, bApp, bPutX, bAug, bAsg, bDrop, gTupD, gsCons, gsNil, gSet, noExc, vVar, vC, vBin, vChain, vNot, vIf, vTup, oTup, vLst, oLst, vFn, vCall, aCons, aNil, vTest, vTruth, bAnd, bOr, bNot, vFld, vMk, vIsC, vIsi, tyName, sub_tt, sub_ii, sub_ib, natc1, natc2, natc3, natc4, decide_true, decide_false, oAdd_ap, oSub_ap, oMul_ap, oDiv_ap, oMod_ap, dI2, dI2c, oLt_ap, oLe_ap, oGt_ap, oGe_ap, oIsN_ap, oNotN_ap, VM.D.isNon, oIdx_l, oIdx_t, fLen, fAbs, fInt, VM.R.bind_ok, VM.R.bind_exc, VM.R.bind_stuck, Option.bind_some, Option.bind_none, ix_1_0, ix_2_0, ix_2_1, ix_3_0, ix_3_1, ix_3_2, ix_4_0, ix_4_1, ix_4_2, ix_4_3, List.map_cons, List.map_nil, List.append_nil, List.cons_append, List.nil_append, List.length_cons, List.length_nil, List.getElem?_cons_zero, List.getElem?_cons_succ, List.getElem?_nil, List.set_cons_zero, List.set_cons_succ, List.replicate_succ, List.replicate_zero, if_true, if_false, reduceIte, Nat.reduceSub, Nat.reduceAdd, Nat.reduceLeDiff, Nat.reduceEqDiff, Bool.not_true, Bool.not_false, Bool.false_eq_true, decide_eq_true h, if_pos h, dQ1]
      · simp only [runDef, bSeq, bNil, bRet, bRetN, bSet, bSetO, bIf, bFrz, bMix, mFrz, mOwn, mNil, setSl, bApp, bPutX, bAug, bAsg, bDrop, gTupD, gsCons, gsNil, gSet, noExc, vVar, vC, vBin, vChain, vNot, vIf, vTup, oTup, vLst, oLst, vFn, vCall, aCons, aNil, vTest, vTruth, bAnd, bOr, bNot, vFld, vMk, vIsC, vIsi, tyName, sub_tt, sub_ii, sub_ib, natc1, natc2, natc3, natc4, decide_true, decide_false, oAdd_ap, oSub_ap, oMul_ap, oDiv_ap, oMod_ap, dI2, dI2c, oLt_ap, oLe_ap, oGt_ap, oGe_ap, oIsN_ap, oNotN_ap, VM.D.isNon, oIdx_l, oIdx_t, fLen, fAbs, fInt, VM.R.bind_ok, VM.R.bind_exc, VM.R.bind_stuck, Option.bind_some, Option.bind_none, ix_1_0, ix_2_0, ix_2_1, ix_3_0, ix_3_1, ix_3_2, ix_4_0, ix_4_1, ix_4_2, ix_4_3, List.map_cons, List.map_nil, List.append_nil, List.cons_append, List.nil_append, List.length_cons, List.length_nil, List.getElem?_cons_zero, List.getElem?_cons_succ, List.getElem?_nil, List.set_cons_zero, List.set_cons_succ, List.replicate_succ, List.replicate_zero, if_true, if_false, reduceIte, Nat.reduceSub, Nat.reduceAdd, Nat.reduceLeDiff, Nat.reduceEqDiff, Bool.not_true, Bool.not_false, Bool.false_eq_true, decide_eq_false h, if_neg h, dQ0])
  have outer := vComp_at (vs := [4]) (mi := iRange1 (aCons (vVar 3) aNil)) (g := gSet 4) (nt := tYesB) (me := vCall fTuple (aCons (vComp [5] (iRange1 (aCons (vVar 3) aNil)) (gSet 5) tYesB (vTup (aCons (vIf (vTest (vBin oEqA (vVar 5) (vVar 4))) (vC (.int 1)) (vC (.int 0))) (aCons (vC (.int 1)) aNil)))) aNil))
    (ρ := [.frz (scrD ns), .frz (plainD M), .frz (instD M), .frz (.int (M.n : Nat)), .none, .none, .none, .none, .none, .none])
    (fun q : Nat => D.int (q : Nat)) (fun p => rD (wholeR M.n p)) (List.range M.n)
    (by simp only [runDef, bSeq, bNil, bRet, bRetN, bSet, bSetO, bIf, bFrz, bMix, mFrz, mOwn, mNil, setSl, bApp, bPutX, bAug, bAsg, bDrop, gTupD, gsCons, gsNil, gSet, noExc, vVar, vC, vBin, vChain, vNot, vIf, vTup, oTup, vLst, oLst, vFn, vCall, aCons, aNil, vTest, vTruth, bAnd, bOr, bNot, vFld, vMk, vIsC, vIsi, tyName, sub_tt, sub_ii, sub_ib, natc1, natc2, natc3, natc4, decide_true, decide_false, oAdd_ap, oSub_ap, oMul_ap, oDiv_ap, oMod_ap, dI2, dI2c, oLt_ap, oLe_ap, oGt_ap, oGe_ap, oIsN_ap, oNotN_ap, VM.D.isNon, oIdx_l, oIdx_t, fLen, fAbs, fInt, VM.R.bind_ok, VM.R.bind_exc, VM.R.bind_stuck, Option.bind_some, Option.bind_none, ix_1_0, ix_2_0, ix_2_1, ix_3_0, ix_3_1, ix_3_2, ix_4_0, ix_4_1, ix_4_2, ix_4_3, List.map_cons, List.map_nil, List.append_nil, List.cons_append, List.nil_append, List.length_cons, List.length_nil, List.getElem?_cons_zero, List.getElem?_cons_succ, List.getElem?_nil, List.set_cons_zero, List.set_cons_succ, List.replicate_succ, List.replicate_zero, if_true, if_false, reduceIte, Nat.reduceSub, Nat.reduceAdd, Nat.reduceLeDiff, Nat.reduceEqDiff, Bool.not_true, Bool.not_false, Bool.false_eq_true, iRange1, rangeOk_nat (n := M.n) (by omega), Int.toNat_natCast, rangeD_map]) (by rw [List.length_range]; omega) (fun p hp => by
      refine turn_yes (show gSet 4 _ _ = .ok _ from rfl) ?_
      simp only [wipeR]
      simp only [runDef, bSeq, bNil, bRet, bRetN, bSet, bSetO, bIf, bFrz, bMix, mFrz, mOwn, mNil, setSl, bApp, bPutX, bAug, bAsg, bDrop, gTupD, gsCons, gsNil, gSet, noExc, vVar, vC, vBin, vChain, vNot, vIf, vTup, oTup, vLst, oLst, vFn, vCall, aCons, aNil, vTest, vTruth, bAnd, bOr, bNot, vFld, vMk, vIsC, vIsi, tyName, sub_tt, sub_ii, sub_ib, natc1, natc2, natc3, natc4, decide_true, decide_false, oAdd_ap, oSub_ap, oMul_ap, oDiv_ap, oMod_ap, dI2, dI2c, oLt_ap, oLe_ap, oGt_ap, oGe_ap, oIsN_ap, oNotN_ap, VM.D.isNon, oIdx_l, oIdx_t, fLen, fAbs, fInt, VM.R.bind_ok, VM.R.bind_exc, VM.R.bind_stuck, Option.bind_some, Option.bind_none, ix_1_0, ix_2_0, ix_2_1, ix_3_0, ix_3_1, ix_3_2, ix_4_0, ix_4_1, ix_4_2, ix_4_3, List.map_cons, List.map_nil, List.append_nil, List.cons_append, List.nil_append, List.length_cons, List.length_nil, List.getElem?_cons_zero, List.getElem?_cons_succ, List.getElem?_nil, List.set_cons_zero, List.set_cons_succ, List.replicate_succ, List.replicate_zero, if_true, if_false, reduceIte, Nat.reduceSub, Nat.reduceAdd, Nat.reduceLeDiff, Nat.reduceEqDiff, Bool.not_true, Bool.not_false, Bool.false_eq_true, inner p, fTuple, wholeRD])
  obtain ⟨ρ', h1, h2⟩ := forL_pred (s := bTurn (gSet 8) lBody) (fun j : Nat => D.int (j : Nat)) (fun i ρ => ∃ z8, ρ = lSt ns i z8) (List.range 3) 0 (lSt ns 0 .none) ⟨_, rfl⟩ (fun i j ρ hj hI => by
    obtain ⟨z8, rfl⟩ := hI
    rw [Nat.zero_add]
    have hi : i < 3 := by
      have := (List.getElem?_eq_some_iff.mp hj).1
      simpa using this
    have ex : j = i := by simpa [hi] using hj.symm
    subst ex
    exact ⟨_, law_turn ns hi z8, _, rfl⟩)
  obtain ⟨z8, rfl⟩ := h2
  rw [Nat.zero_add, List.length_range] at h1
  have hF : bFor (iRange1 (aCons (vC (.int 3)) aNil)) (gSet 8) lBody (lSt ns 0 .none) = .ok (.nx (lSt ns 3 z8)) := by
    have r3 : rangeOk 3 = true := rangeOk_nat (n := 3) (by omega)
    have t3 : Int.toNat 3 = 3 := rfl
    unfold bFor iRange1
    simp only [aCons, aNil, vC, R.bind_ok, r3, if_true, t3, rangeD_map]
    exact h1
  have e0 : lSt ns 0 .none = [.frz (scrD ns), .frz (plainD M), .frz (instD M), .frz (.int (M.n : Nat)), .none, .none, .frz (.lst ((List.range M.n).map fun p => rD (wholeR M.n p))), .own false (.lst [tabD (wholeT M.n), tabD (silentT M.n)]), .none, .none] := by
    unfold lSt tabs
    rw [hMe]
    rfl
  rw [e0] at hF
  have fin := fun z => vComp_at (vs := [9]) (mi := iSeq (vVar 7)) (g := gSet 9) (nt := tYesB) (me := vFn 3 [] m__law_told_right (aCons (vVar 1) (aCons (vVar 2) (aCons (vVar 9) aNil))))
    (ρ := [.frz (scrD ns), .frz (plainD M), .frz (instD M), .frz (.int (M.n : Nat)), .none, .none, .frz (.lst ((List.range M.n).map fun p => rD (wholeR M.n p))), .frz (.lst ((tabs ns 3).map tabD)), z, .none])
    tabD (fun _ => D.bl true) (tabs ns 3)
    (by simp only [runDef, bSeq, bNil, bRet, bRetN, bSet, bSetO, bIf, bFrz, bMix, mFrz, mOwn, mNil, setSl, bApp, bPutX, bAug, bAsg, bDrop, gTupD, gsCons, gsNil, gSet, noExc, vVar, vC, vBin, vChain, vNot, vIf, vTup, oTup, vLst, oLst, vFn, vCall, aCons, aNil, vTest, vTruth, bAnd, bOr, bNot, vFld, vMk, vIsC, vIsi, tyName, sub_tt, sub_ii, sub_ib, natc1, natc2, natc3, natc4, decide_true, decide_false, oAdd_ap, oSub_ap, oMul_ap, oDiv_ap, oMod_ap, dI2, dI2c, oLt_ap, oLe_ap, oGt_ap, oGe_ap, oIsN_ap, oNotN_ap, VM.D.isNon, oIdx_l, oIdx_t, fLen, fAbs, fInt, VM.R.bind_ok, VM.R.bind_exc, VM.R.bind_stuck, Option.bind_some, Option.bind_none, ix_1_0, ix_2_0, ix_2_1, ix_3_0, ix_3_1, ix_3_2, ix_4_0, ix_4_1, ix_4_2, ix_4_3, List.map_cons, List.map_nil, List.append_nil, List.cons_append, List.nil_append, List.length_cons, List.length_nil, List.getElem?_cons_zero, List.getElem?_cons_succ, List.getElem?_nil, List.set_cons_zero, List.set_cons_succ, List.replicate_succ, List.replicate_zero, if_true, if_false, reduceIte, Nat.reduceSub, Nat.reduceAdd, Nat.reduceLeDiff, Nat.reduceEqDiff, Bool.not_true, Bool.not_false, Bool.false_eq_true, iSeq, D.items]) (by simp [tabs]) (fun T hT => by
      have ok := tabs_ok ns 3 T hT
      rw [hMe] at ok
      refine turn_yes (show gSet 9 _ _ = .ok _ from rfl) ?_
      simp only [wipeR]
      simp only [runDef, bSeq, bNil, bRet, bRetN, bSet, bSetO, bIf, bFrz, bMix, mFrz, mOwn, mNil, setSl, bApp, bPutX, bAug, bAsg, bDrop, gTupD, gsCons, gsNil, gSet, noExc, vVar, vC, vBin, vChain, vNot, vIf, vTup, oTup, vLst, oLst, vFn, vCall, aCons, aNil, vTest, vTruth, bAnd, bOr, bNot, vFld, vMk, vIsC, vIsi, tyName, sub_tt, sub_ii, sub_ib, natc1, natc2, natc3, natc4, decide_true, decide_false, oAdd_ap, oSub_ap, oMul_ap, oDiv_ap, oMod_ap, dI2, dI2c, oLt_ap, oLe_ap, oGt_ap, oGe_ap, oIsN_ap, oNotN_ap, VM.D.isNon, oIdx_l, oIdx_t, fLen, fAbs, fInt, VM.R.bind_ok, VM.R.bind_exc, VM.R.bind_stuck, Option.bind_some, Option.bind_none, ix_1_0, ix_2_0, ix_2_1, ix_3_0, ix_3_1, ix_3_2, ix_4_0, ix_4_1, ix_4_2, ix_4_3, List.map_cons, List.map_nil, List.append_nil, List.cons_append, List.nil_append, List.length_cons, List.length_nil, List.getElem?_cons_zero, List.getElem?_cons_succ, List.getElem?_nil, List.set_cons_zero, List.set_cons_succ, List.replicate_succ, List.replicate_zero, if_true, if_false, reduceIte, Nat.reduceSub, Nat.reduceAdd, Nat.reduceLeDiff, Nat.reduceEqDiff, Bool.not_true, Bool.not_false, Bool.false_eq_true, told_at hM ok])
  have rp := rep_at hM
  have hwt := whole_table_at hM
  have hst := silent_table_at hM
  have wd := wholeD M.n
  unfold m_law b_law
  change runDef 1 10 false (bSeq _ (bSeq _ (bSeq _ (bSeq _ (bSeq _ (bSeq _ (bSeq (bFor (iRange1 (aCons (vC (.int 3)) aNil)) (gSet 8) lBody) _))))))) _ = _
  simp only [runDef, bSeq, bSet, bMix, mFrz, mNil, setSl, noExc, vFn, vMk, vCall, aCons, aNil, vVar, vC, vBin, hma, hP, hG, hW, lP, hmk, R.bind_ok, List.length_cons, List.length_nil, List.map_cons, List.map_nil, List.replicate_succ, List.replicate_zero, List.getElem?_cons_zero, List.getElem?_cons_succ, List.set_cons_zero, List.set_cons_succ, List.cons_append, List.nil_append, Nat.reduceSub, Nat.reduceAdd, if_true, reduceIte]
  simp only [runDef, bSeq, bNil, bRet, bRetN, bSet, bSetO, bIf, bFrz, bMix, mFrz, mOwn, mNil, setSl, bApp, bPutX, bAug, bAsg, bDrop, gTupD, gsCons, gsNil, gSet, noExc, vVar, vC, vBin, vChain, vNot, vIf, vTup, oTup, vLst, oLst, vFn, vCall, aCons, aNil, vTest, vTruth, bAnd, bOr, bNot, vFld, vMk, vIsC, vIsi, tyName, sub_tt, sub_ii, sub_ib, natc1, natc2, natc3, natc4, decide_true, decide_false, oAdd_ap, oSub_ap, oMul_ap, oDiv_ap, oMod_ap, dI2, dI2c, oLt_ap, oLe_ap, oGt_ap, oGe_ap, oIsN_ap, oNotN_ap, VM.D.isNon, oIdx_l, oIdx_t, fLen, fAbs, fInt, VM.R.bind_ok, VM.R.bind_exc, VM.R.bind_stuck, Option.bind_some, Option.bind_none, ix_1_0, ix_2_0, ix_2_1, ix_3_0, ix_3_1, ix_3_2, ix_4_0, ix_4_1, ix_4_2, ix_4_3, List.map_cons, List.map_nil, List.append_nil, List.cons_append, List.nil_append, List.length_cons, List.length_nil, List.getElem?_cons_zero, List.getElem?_cons_succ, List.getElem?_nil, List.set_cons_zero, List.set_cons_succ, List.replicate_succ, List.replicate_zero, if_true, if_false, reduceIte, Nat.reduceSub, Nat.reduceAdd, Nat.reduceLeDiff, Nat.reduceEqDiff, Bool.not_true, Bool.not_false, Bool.false_eq_true, propk (parts_at M) (ρ := [.frz (scrD ns), .frz (plainD M), .frz (instD M), .frz (.int (M.n : Nat)), .none, .none, .none, .none, .none, .none]) (k := 2) rfl, propk (gains_at M) (ρ := [.frz (scrD ns), .frz (plainD M), .frz (instD M), .frz (.int (M.n : Nat)), .none, .none, .none, .none, .none, .none]) (k := 2) rfl, propk (worths_at M) (ρ := [.frz (scrD ns), .frz (plainD M), .frz (instD M), .frz (.int (M.n : Nat)), .none, .none, .none, .none, .none, .none]) (k := 2) rfl, lenOk hM (ρ := [.frz (scrD ns), .frz (plainD M), .frz (instD M), .frz (.int (M.n : Nat)), .none, .none, .none, .none, .none, .none]) (k := 2) rfl, hP, hG, hW, fP, fG, fW, neA_int, outer, hwt, hst, ← wd, fA, rp, fS, fTuple]
  rw [hF]
  unfold lSt
  rw [hMe]
  simp only [runDef, bSeq, bNil, bRet, bRetN, bSet, bSetO, bIf, bFrz, bMix, mFrz, mOwn, mNil, setSl, bApp, bPutX, bAug, bAsg, bDrop, gTupD, gsCons, gsNil, gSet, noExc, vVar, vC, vBin, vChain, vNot, vIf, vTup, oTup, vLst, oLst, vFn, vCall, aCons, aNil, vTest, vTruth, bAnd, bOr, bNot, vFld, vMk, vIsC, vIsi, tyName, sub_tt, sub_ii, sub_ib, natc1, natc2, natc3, natc4, decide_true, decide_false, oAdd_ap, oSub_ap, oMul_ap, oDiv_ap, oMod_ap, dI2, dI2c, oLt_ap, oLe_ap, oGt_ap, oGe_ap, oIsN_ap, oNotN_ap, VM.D.isNon, oIdx_l, oIdx_t, fLen, fAbs, fInt, VM.R.bind_ok, VM.R.bind_exc, VM.R.bind_stuck, Option.bind_some, Option.bind_none, ix_1_0, ix_2_0, ix_2_1, ix_3_0, ix_3_1, ix_3_2, ix_4_0, ix_4_1, ix_4_2, ix_4_3, List.map_cons, List.map_nil, List.append_nil, List.cons_append, List.nil_append, List.length_cons, List.length_nil, List.getElem?_cons_zero, List.getElem?_cons_succ, List.getElem?_nil, List.set_cons_zero, List.set_cons_succ, List.replicate_succ, List.replicate_zero, if_true, if_false, reduceIte, Nat.reduceSub, Nat.reduceAdd, Nat.reduceLeDiff, Nat.reduceEqDiff, Bool.not_true, Bool.not_false, Bool.false_eq_true, fin, all_true]
end
end VM
end
section
set_option Elab.async false
set_option linter.all false
set_option maxRecDepth 100000
set_option autoImplicit false
set_option maxHeartbeats 0
/-! The end: what the top has written, the head. Printed by gen.py. -/
namespace VM
open PySem PySem.Spec L2
open PyProof.Rows (recsOf)
theorem law_in {l : PySem.W.OpenLaw} {q : Program} {w : World} {K : PySem.W.Frag} {mg : Str → Option Value} {fa : Addr} {h : Heap} (KX : K.In h) (G : h.Ns mainGlobals mg) (hfa : mg "law" = some (.ref fa))
    (own : ∀ (y : Str) (fy : Addr), ((recsOf q).any fun e => e.name == y) = true → mg y = some (.ref fy) → LamX.OwnTab K fy h)
    (hm : ∀ ns : List Int, ns.length ≤ 63 → m_law [.lst (ns.map D.int)] = .ok (.bl true))
    {f__law_cell_at : Addr} {oc__law_cell_at : Value} {od__law_cell_at an__law_cell_at : Option Addr} {sl__law_cell_at : Array (Option Value)} {kV__law_cell_at dc__law_cell_at pm__law_cell_at cd__law_cell_at ct__law_cell_at : Value}
    {f__law_matter : Addr} {oc__law_matter : Value} {od__law_matter an__law_matter : Option Addr} {sl__law_matter : Array (Option Value)} {kV__law_matter dc__law_matter pm__law_matter cd__law_matter ct__law_matter : Value}
    {f_is_plain_integer : Addr} {oc_is_plain_integer : Value} {od_is_plain_integer an_is_plain_integer : Option Addr} {sl_is_plain_integer : Array (Option Value)} {kV_is_plain_integer dc_is_plain_integer pm_is_plain_integer cd_is_plain_integer ct_is_plain_integer : Value}
    {f_is_integer_within : Addr} {oc_is_integer_within : Value} {od_is_integer_within an_is_integer_within : Option Addr} {sl_is_integer_within : Array (Option Value)} {kV_is_integer_within dc_is_integer_within pm_is_integer_within cd_is_integer_within ct_is_integer_within : Value}
    {f_is_row_within : Addr} {oc_is_row_within : Value} {od_is_row_within an_is_row_within : Option Addr} {sl_is_row_within : Array (Option Value)} {kV_is_row_within dc_is_row_within pm_is_row_within cd_is_row_within ct_is_row_within : Value}
    {f__are_parts : Addr} {oc__are_parts : Value} {od__are_parts an__are_parts : Option Addr} {sl__are_parts : Array (Option Value)} {kV__are_parts dc__are_parts pm__are_parts cd__are_parts ct__are_parts : Value}
    {f__are_rows : Addr} {oc__are_rows : Value} {od__are_rows an__are_rows : Option Addr} {sl__are_rows : Array (Option Value)} {kV__are_rows dc__are_rows pm__are_rows cd__are_rows ct__are_rows : Value}
    {f__are_gains : Addr} {oc__are_gains : Value} {od__are_gains an__are_gains : Option Addr} {sl__are_gains : Array (Option Value)} {kV__are_gains dc__are_gains pm__are_gains cd__are_gains ct__are_gains : Value}
    {f_Matterdd_initdd : Addr} {oc_Matterdd_initdd : Value} {od_Matterdd_initdd an_Matterdd_initdd : Option Addr} {sl_Matterdd_initdd : Array (Option Value)} {kV_Matterdd_initdd dc_Matterdd_initdd pm_Matterdd_initdd cd_Matterdd_initdd ct_Matterdd_initdd : Value}
    {f_Matter_parts : Addr} {oc_Matter_parts : Value} {od_Matter_parts an_Matter_parts : Option Addr} {sl_Matter_parts : Array (Option Value)} {kV_Matter_parts dc_Matter_parts pm_Matter_parts cd_Matter_parts ct_Matter_parts : Value}
    {f_Matter_gains : Addr} {oc_Matter_gains : Value} {od_Matter_gains an_Matter_gains : Option Addr} {sl_Matter_gains : Array (Option Value)} {kV_Matter_gains dc_Matter_gains pm_Matter_gains cd_Matter_gains ct_Matter_gains : Value}
    {f_Matter_worths : Addr} {oc_Matter_worths : Value} {od_Matter_worths an_Matter_worths : Option Addr} {sl_Matter_worths : Array (Option Value)} {kV_Matter_worths dc_Matter_worths pm_Matter_worths cd_Matter_worths ct_Matter_worths : Value}
    {f_Matterdd_lendd : Addr} {oc_Matterdd_lendd : Value} {od_Matterdd_lendd an_Matterdd_lendd : Option Addr} {sl_Matterdd_lendd : Array (Option Value)} {kV_Matterdd_lendd dc_Matterdd_lendd pm_Matterdd_lendd cd_Matterdd_lendd ct_Matterdd_lendd : Value}
    {f_check_matter : Addr} {oc_check_matter : Value} {od_check_matter an_check_matter : Option Addr} {sl_check_matter : Array (Option Value)} {kV_check_matter dc_check_matter pm_check_matter cd_check_matter ct_check_matter : Value}
    {f_whole_table : Addr} {oc_whole_table : Value} {od_whole_table an_whole_table : Option Addr} {sl_whole_table : Array (Option Value)} {kV_whole_table dc_whole_table pm_whole_table cd_whole_table ct_whole_table : Value}
    {f_silent_table : Addr} {oc_silent_table : Value} {od_silent_table an_silent_table : Option Addr} {sl_silent_table : Array (Option Value)} {kV_silent_table dc_silent_table pm_silent_table cd_silent_table ct_silent_table : Value}
    {f__law_low : Addr} {oc__law_low : Value} {od__law_low an__law_low : Option Addr} {sl__law_low : Array (Option Value)} {kV__law_low dc__law_low pm__law_low cd__law_low ct__law_low : Value}
    {f__law_table : Addr} {oc__law_table : Value} {od__law_table an__law_table : Option Addr} {sl__law_table : Array (Option Value)} {kV__law_table dc__law_table pm__law_table cd__law_table ct__law_table : Value}
    {f__law_times : Addr} {oc__law_times : Value} {od__law_times an__law_times : Option Addr} {sl__law_times : Array (Option Value)} {kV__law_times dc__law_times pm__law_times cd__law_times ct__law_times : Value}
    {f__law_chance : Addr} {oc__law_chance : Value} {od__law_chance an__law_chance : Option Addr} {sl__law_chance : Array (Option Value)} {kV__law_chance dc__law_chance pm__law_chance cd__law_chance ct__law_chance : Value}
    {f__law_shares : Addr} {oc__law_shares : Value} {od__law_shares an__law_shares : Option Addr} {sl__law_shares : Array (Option Value)} {kV__law_shares dc__law_shares pm__law_shares cd__law_shares ct__law_shares : Value}
    {f__law_plus : Addr} {oc__law_plus : Value} {od__law_plus an__law_plus : Option Addr} {sl__law_plus : Array (Option Value)} {kV__law_plus dc__law_plus pm__law_plus cd__law_plus ct__law_plus : Value}
    {f__law_sum : Addr} {oc__law_sum : Value} {od__law_sum an__law_sum : Option Addr} {sl__law_sum : Array (Option Value)} {kV__law_sum dc__law_sum pm__law_sum cd__law_sum ct__law_sum : Value}
    {f__law_count : Addr} {oc__law_count : Value} {od__law_count an__law_count : Option Addr} {sl__law_count : Array (Option Value)} {kV__law_count dc__law_count pm__law_count cd__law_count ct__law_count : Value}
    {f__law_less : Addr} {oc__law_less : Value} {od__law_less an__law_less : Option Addr} {sl__law_less : Array (Option Value)} {kV__law_less dc__law_less pm__law_less cd__law_less ct__law_less : Value}
    {f__law_done : Addr} {oc__law_done : Value} {od__law_done an__law_done : Option Addr} {sl__law_done : Array (Option Value)} {kV__law_done dc__law_done pm__law_done cd__law_done ct__law_done : Value}
    {f__law_over : Addr} {oc__law_over : Value} {od__law_over an__law_over : Option Addr} {sl__law_over : Array (Option Value)} {kV__law_over dc__law_over pm__law_over cd__law_over ct__law_over : Value}
    {f__law_minus : Addr} {oc__law_minus : Value} {od__law_minus an__law_minus : Option Addr} {sl__law_minus : Array (Option Value)} {kV__law_minus dc__law_minus pm__law_minus cd__law_minus ct__law_minus : Value}
    {f_is_ratio : Addr} {oc_is_ratio : Value} {od_is_ratio an_is_ratio : Option Addr} {sl_is_ratio : Array (Option Value)} {kV_is_ratio dc_is_ratio pm_is_ratio cd_is_ratio ct_is_ratio : Value}
    {f_is_chance : Addr} {oc_is_chance : Value} {od_is_chance an_is_chance : Option Addr} {sl_is_chance : Array (Option Value)} {kV_is_chance dc_is_chance pm_is_chance cd_is_chance ct_is_chance : Value}
    {f_common_under : Addr} {oc_common_under : Value} {od_common_under an_common_under : Option Addr} {sl_common_under : Array (Option Value)} {kV_common_under dc_common_under pm_common_under cd_common_under ct_common_under : Value}
    {f_scaled : Addr} {oc_scaled : Value} {od_scaled an_scaled : Option Addr} {sl_scaled : Array (Option Value)} {kV_scaled dc_scaled pm_scaled cd_scaled ct_scaled : Value}
    {f_are_one_together : Addr} {oc_are_one_together : Value} {od_are_one_together an_are_one_together : Option Addr} {sl_are_one_together : Array (Option Value)} {kV_are_one_together dc_are_one_together pm_are_one_together cd_are_one_together ct_are_one_together : Value}
    {f_are_chances : Addr} {oc_are_chances : Value} {od_are_chances an_are_chances : Option Addr} {sl_are_chances : Array (Option Value)} {kV_are_chances dc_are_chances pm_are_chances cd_are_chances ct_are_chances : Value}
    {f_is_table : Addr} {oc_is_table : Value} {od_is_table an_is_table : Option Addr} {sl_is_table : Array (Option Value)} {kV_is_table dc_is_table pm_is_table cd_is_table ct_is_table : Value}
    {f_check_table : Addr} {oc_check_table : Value} {od_check_table an_check_table : Option Addr} {sl_check_table : Array (Option Value)} {kV_check_table dc_check_table pm_check_table cd_check_table ct_check_table : Value}
    {f__joint_chances : Addr} {oc__joint_chances : Value} {od__joint_chances an__joint_chances : Option Addr} {sl__joint_chances : Array (Option Value)} {kV__joint_chances dc__joint_chances pm__joint_chances cd__joint_chances ct__joint_chances : Value}
    {f_ratio : Addr} {oc_ratio : Value} {od_ratio an_ratio : Option Addr} {sl_ratio : Array (Option Value)} {kV_ratio dc_ratio pm_ratio cd_ratio ct_ratio : Value}
    {f__belief : Addr} {oc__belief : Value} {od__belief an__belief : Option Addr} {sl__belief : Array (Option Value)} {kV__belief dc__belief pm__belief cd__belief ct__belief : Value}
    {f_beliefs : Addr} {oc_beliefs : Value} {od_beliefs an_beliefs : Option Addr} {sl_beliefs : Array (Option Value)} {kV_beliefs dc_beliefs pm_beliefs cd_beliefs ct_beliefs : Value}
    {f__totals : Addr} {oc__totals : Value} {od__totals an__totals : Option Addr} {sl__totals : Array (Option Value)} {kV__totals dc__totals pm__totals cd__totals ct__totals : Value}
    {f__act_done : Addr} {oc__act_done : Value} {od__act_done an__act_done : Option Addr} {sl__act_done : Array (Option Value)} {kV__act_done dc__act_done pm__act_done cd__act_done ct__act_done : Value}
    {f_acts_after : Addr} {oc_acts_after : Value} {od_acts_after an_acts_after : Option Addr} {sl_acts_after : Array (Option Value)} {kV_acts_after dc_acts_after pm_acts_after cd_acts_after ct_acts_after : Value}
    {f_swerves : Addr} {oc_swerves : Value} {od_swerves an_swerves : Option Addr} {sl_swerves : Array (Option Value)} {kV_swerves dc_swerves pm_swerves cd_swerves ct_swerves : Value}
    {f__overall : Addr} {oc__overall : Value} {od__overall an__overall : Option Addr} {sl__overall : Array (Option Value)} {kV__overall dc__overall pm__overall cd__overall ct__overall : Value}
    {f_worth_of : Addr} {oc_worth_of : Value} {od_worth_of an_worth_of : Option Addr} {sl_worth_of : Array (Option Value)} {kV_worth_of dc_worth_of pm_worth_of cd_worth_of ct_worth_of : Value}
    {f__law_value : Addr} {oc__law_value : Value} {od__law_value an__law_value : Option Addr} {sl__law_value : Array (Option Value)} {kV__law_value dc__law_value pm__law_value cd__law_value ct__law_value : Value}
    {f_gain_of : Addr} {oc_gain_of : Value} {od_gain_of an_gain_of : Option Addr} {sl_gain_of : Array (Option Value)} {kV_gain_of dc_gain_of pm_gain_of cd_gain_of ct_gain_of : Value}
    {f__law_told_right : Addr} {oc__law_told_right : Value} {od__law_told_right an__law_told_right : Option Addr} {sl__law_told_right : Array (Option Value)} {kV__law_told_right dc__law_told_right pm__law_told_right cd__law_told_right ct__law_told_right : Value}
    {f_law : Addr} {oc_law : Value} {od_law an_law : Option Addr} {sl_law : Array (Option Value)} {kV_law dc_law pm_law cd_law ct_law : Value}
    {C_Matter : Addr}
    {p_Matter_parts : Addr} {rs_Matter_parts : List Value}
    {p_Matter_gains : Addr} {rs_Matter_gains : List Value}
    {p_Matter_worths : Addr} {rs_Matter_worths : List Value}
    {t_FEWEST_CASES : Tok}
    {t_MOST_CASES : Tok}
    {t_MOST_PART : Tok}
    {t_LEAST_PART : Tok}
    {t_FEWEST_ACTS : Tok}
    {t_MOST_ACTS : Tok}
    {t_MOST_GAIN : Tok}
    {t_LEAST_GAIN : Tok}
    {t_MOST_WORTH : Tok}
    {t_LEAST_WORTH : Tok}
    {t_MOST_WORDS : Tok}
    {kk__act_done P__act_done : Addr} {od2__act_done : Option Addr} {vs__act_done : Array Value} {sl2__act_done : Array (Option Value)}
    (a__law_cell_at : PySem.W.nsIn K mainGlobals "_law_cell_at" = some (some (.ref f__law_cell_at)))
    (l__law_cell_at : K.lookup f__law_cell_at = some ⟨oc__law_cell_at, od__law_cell_at, .func (PySem.W.fnOf "_law_cell_at" "_law_cell_at" (defArgs s__law_cell_at) (defBody s__law_cell_at) (defScope s__law_cell_at) .none kV__law_cell_at dc__law_cell_at pm__law_cell_at an__law_cell_at cd__law_cell_at ct__law_cell_at), sl__law_cell_at⟩)
    (c__law_cell_at : PySem.W.codeIn K cd__law_cell_at "_law_cell_at" = true)
    (k__law_cell_at : PySem.W.keepIn K (.ref f__law_cell_at) = true)
    (a__law_matter : PySem.W.nsIn K mainGlobals "_law_matter" = some (some (.ref f__law_matter)))
    (l__law_matter : K.lookup f__law_matter = some ⟨oc__law_matter, od__law_matter, .func (PySem.W.fnOf "_law_matter" "_law_matter" (defArgs s__law_matter) (defBody s__law_matter) (defScope s__law_matter) .none kV__law_matter dc__law_matter pm__law_matter an__law_matter cd__law_matter ct__law_matter), sl__law_matter⟩)
    (c__law_matter : PySem.W.codeIn K cd__law_matter "_law_matter" = true)
    (k__law_matter : PySem.W.keepIn K (.ref f__law_matter) = true)
    (a_is_plain_integer : PySem.W.nsIn K mainGlobals "is_plain_integer" = some (some (.ref f_is_plain_integer)))
    (l_is_plain_integer : K.lookup f_is_plain_integer = some ⟨oc_is_plain_integer, od_is_plain_integer, .func (PySem.W.fnOf "is_plain_integer" "is_plain_integer" (defArgs s_is_plain_integer) (defBody s_is_plain_integer) (defScope s_is_plain_integer) .none kV_is_plain_integer dc_is_plain_integer pm_is_plain_integer an_is_plain_integer cd_is_plain_integer ct_is_plain_integer), sl_is_plain_integer⟩)
    (c_is_plain_integer : PySem.W.codeIn K cd_is_plain_integer "is_plain_integer" = true)
    (k_is_plain_integer : PySem.W.keepIn K (.ref f_is_plain_integer) = true)
    (a_is_integer_within : PySem.W.nsIn K mainGlobals "is_integer_within" = some (some (.ref f_is_integer_within)))
    (l_is_integer_within : K.lookup f_is_integer_within = some ⟨oc_is_integer_within, od_is_integer_within, .func (PySem.W.fnOf "is_integer_within" "is_integer_within" (defArgs s_is_integer_within) (defBody s_is_integer_within) (defScope s_is_integer_within) .none kV_is_integer_within dc_is_integer_within pm_is_integer_within an_is_integer_within cd_is_integer_within ct_is_integer_within), sl_is_integer_within⟩)
    (c_is_integer_within : PySem.W.codeIn K cd_is_integer_within "is_integer_within" = true)
    (k_is_integer_within : PySem.W.keepIn K (.ref f_is_integer_within) = true)
    (a_is_row_within : PySem.W.nsIn K mainGlobals "is_row_within" = some (some (.ref f_is_row_within)))
    (l_is_row_within : K.lookup f_is_row_within = some ⟨oc_is_row_within, od_is_row_within, .func (PySem.W.fnOf "is_row_within" "is_row_within" (defArgs s_is_row_within) (defBody s_is_row_within) (defScope s_is_row_within) .none kV_is_row_within dc_is_row_within pm_is_row_within an_is_row_within cd_is_row_within ct_is_row_within), sl_is_row_within⟩)
    (c_is_row_within : PySem.W.codeIn K cd_is_row_within "is_row_within" = true)
    (k_is_row_within : PySem.W.keepIn K (.ref f_is_row_within) = true)
    (a__are_parts : PySem.W.nsIn K mainGlobals "_are_parts" = some (some (.ref f__are_parts)))
    (l__are_parts : K.lookup f__are_parts = some ⟨oc__are_parts, od__are_parts, .func (PySem.W.fnOf "_are_parts" "_are_parts" (defArgs s__are_parts) (defBody s__are_parts) (defScope s__are_parts) .none kV__are_parts dc__are_parts pm__are_parts an__are_parts cd__are_parts ct__are_parts), sl__are_parts⟩)
    (c__are_parts : PySem.W.codeIn K cd__are_parts "_are_parts" = true)
    (k__are_parts : PySem.W.keepIn K (.ref f__are_parts) = true)
    (a__are_rows : PySem.W.nsIn K mainGlobals "_are_rows" = some (some (.ref f__are_rows)))
    (l__are_rows : K.lookup f__are_rows = some ⟨oc__are_rows, od__are_rows, .func (PySem.W.fnOf "_are_rows" "_are_rows" (defArgs s__are_rows) (defBody s__are_rows) (defScope s__are_rows) .none kV__are_rows dc__are_rows pm__are_rows an__are_rows cd__are_rows ct__are_rows), sl__are_rows⟩)
    (c__are_rows : PySem.W.codeIn K cd__are_rows "_are_rows" = true)
    (k__are_rows : PySem.W.keepIn K (.ref f__are_rows) = true)
    (a__are_gains : PySem.W.nsIn K mainGlobals "_are_gains" = some (some (.ref f__are_gains)))
    (l__are_gains : K.lookup f__are_gains = some ⟨oc__are_gains, od__are_gains, .func (PySem.W.fnOf "_are_gains" "_are_gains" (defArgs s__are_gains) (defBody s__are_gains) (defScope s__are_gains) .none kV__are_gains dc__are_gains pm__are_gains an__are_gains cd__are_gains ct__are_gains), sl__are_gains⟩)
    (c__are_gains : PySem.W.codeIn K cd__are_gains "_are_gains" = true)
    (k__are_gains : PySem.W.keepIn K (.ref f__are_gains) = true)
    (a_check_matter : PySem.W.nsIn K mainGlobals "check_matter" = some (some (.ref f_check_matter)))
    (l_check_matter : K.lookup f_check_matter = some ⟨oc_check_matter, od_check_matter, .func (PySem.W.fnOf "check_matter" "check_matter" (defArgs s_check_matter) (defBody s_check_matter) (defScope s_check_matter) .none kV_check_matter dc_check_matter pm_check_matter an_check_matter cd_check_matter ct_check_matter), sl_check_matter⟩)
    (c_check_matter : PySem.W.codeIn K cd_check_matter "check_matter" = true)
    (k_check_matter : PySem.W.keepIn K (.ref f_check_matter) = true)
    (a_whole_table : PySem.W.nsIn K mainGlobals "whole_table" = some (some (.ref f_whole_table)))
    (l_whole_table : K.lookup f_whole_table = some ⟨oc_whole_table, od_whole_table, .func (PySem.W.fnOf "whole_table" "whole_table" (defArgs s_whole_table) (defBody s_whole_table) (defScope s_whole_table) .none kV_whole_table dc_whole_table pm_whole_table an_whole_table cd_whole_table ct_whole_table), sl_whole_table⟩)
    (c_whole_table : PySem.W.codeIn K cd_whole_table "whole_table" = true)
    (k_whole_table : PySem.W.keepIn K (.ref f_whole_table) = true)
    (a_silent_table : PySem.W.nsIn K mainGlobals "silent_table" = some (some (.ref f_silent_table)))
    (l_silent_table : K.lookup f_silent_table = some ⟨oc_silent_table, od_silent_table, .func (PySem.W.fnOf "silent_table" "silent_table" (defArgs s_silent_table) (defBody s_silent_table) (defScope s_silent_table) .none kV_silent_table dc_silent_table pm_silent_table an_silent_table cd_silent_table ct_silent_table), sl_silent_table⟩)
    (c_silent_table : PySem.W.codeIn K cd_silent_table "silent_table" = true)
    (k_silent_table : PySem.W.keepIn K (.ref f_silent_table) = true)
    (a__law_low : PySem.W.nsIn K mainGlobals "_law_low" = some (some (.ref f__law_low)))
    (l__law_low : K.lookup f__law_low = some ⟨oc__law_low, od__law_low, .func (PySem.W.fnOf "_law_low" "_law_low" (defArgs s__law_low) (defBody s__law_low) (defScope s__law_low) .none kV__law_low dc__law_low pm__law_low an__law_low cd__law_low ct__law_low), sl__law_low⟩)
    (c__law_low : PySem.W.codeIn K cd__law_low "_law_low" = true)
    (k__law_low : PySem.W.keepIn K (.ref f__law_low) = true)
    (a__law_table : PySem.W.nsIn K mainGlobals "_law_table" = some (some (.ref f__law_table)))
    (l__law_table : K.lookup f__law_table = some ⟨oc__law_table, od__law_table, .func (PySem.W.fnOf "_law_table" "_law_table" (defArgs s__law_table) (defBody s__law_table) (defScope s__law_table) .none kV__law_table dc__law_table pm__law_table an__law_table cd__law_table ct__law_table), sl__law_table⟩)
    (c__law_table : PySem.W.codeIn K cd__law_table "_law_table" = true)
    (k__law_table : PySem.W.keepIn K (.ref f__law_table) = true)
    (a__law_times : PySem.W.nsIn K mainGlobals "_law_times" = some (some (.ref f__law_times)))
    (l__law_times : K.lookup f__law_times = some ⟨oc__law_times, od__law_times, .func (PySem.W.fnOf "_law_times" "_law_times" (defArgs s__law_times) (defBody s__law_times) (defScope s__law_times) .none kV__law_times dc__law_times pm__law_times an__law_times cd__law_times ct__law_times), sl__law_times⟩)
    (c__law_times : PySem.W.codeIn K cd__law_times "_law_times" = true)
    (k__law_times : PySem.W.keepIn K (.ref f__law_times) = true)
    (a__law_chance : PySem.W.nsIn K mainGlobals "_law_chance" = some (some (.ref f__law_chance)))
    (l__law_chance : K.lookup f__law_chance = some ⟨oc__law_chance, od__law_chance, .func (PySem.W.fnOf "_law_chance" "_law_chance" (defArgs s__law_chance) (defBody s__law_chance) (defScope s__law_chance) .none kV__law_chance dc__law_chance pm__law_chance an__law_chance cd__law_chance ct__law_chance), sl__law_chance⟩)
    (c__law_chance : PySem.W.codeIn K cd__law_chance "_law_chance" = true)
    (k__law_chance : PySem.W.keepIn K (.ref f__law_chance) = true)
    (a__law_shares : PySem.W.nsIn K mainGlobals "_law_shares" = some (some (.ref f__law_shares)))
    (l__law_shares : K.lookup f__law_shares = some ⟨oc__law_shares, od__law_shares, .func (PySem.W.fnOf "_law_shares" "_law_shares" (defArgs s__law_shares) (defBody s__law_shares) (defScope s__law_shares) .none kV__law_shares dc__law_shares pm__law_shares an__law_shares cd__law_shares ct__law_shares), sl__law_shares⟩)
    (c__law_shares : PySem.W.codeIn K cd__law_shares "_law_shares" = true)
    (k__law_shares : PySem.W.keepIn K (.ref f__law_shares) = true)
    (a__law_plus : PySem.W.nsIn K mainGlobals "_law_plus" = some (some (.ref f__law_plus)))
    (l__law_plus : K.lookup f__law_plus = some ⟨oc__law_plus, od__law_plus, .func (PySem.W.fnOf "_law_plus" "_law_plus" (defArgs s__law_plus) (defBody s__law_plus) (defScope s__law_plus) .none kV__law_plus dc__law_plus pm__law_plus an__law_plus cd__law_plus ct__law_plus), sl__law_plus⟩)
    (c__law_plus : PySem.W.codeIn K cd__law_plus "_law_plus" = true)
    (k__law_plus : PySem.W.keepIn K (.ref f__law_plus) = true)
    (a__law_sum : PySem.W.nsIn K mainGlobals "_law_sum" = some (some (.ref f__law_sum)))
    (l__law_sum : K.lookup f__law_sum = some ⟨oc__law_sum, od__law_sum, .func (PySem.W.fnOf "_law_sum" "_law_sum" (defArgs s__law_sum) (defBody s__law_sum) (defScope s__law_sum) .none kV__law_sum dc__law_sum pm__law_sum an__law_sum cd__law_sum ct__law_sum), sl__law_sum⟩)
    (c__law_sum : PySem.W.codeIn K cd__law_sum "_law_sum" = true)
    (k__law_sum : PySem.W.keepIn K (.ref f__law_sum) = true)
    (a__law_count : PySem.W.nsIn K mainGlobals "_law_count" = some (some (.ref f__law_count)))
    (l__law_count : K.lookup f__law_count = some ⟨oc__law_count, od__law_count, .func (PySem.W.fnOf "_law_count" "_law_count" (defArgs s__law_count) (defBody s__law_count) (defScope s__law_count) .none kV__law_count dc__law_count pm__law_count an__law_count cd__law_count ct__law_count), sl__law_count⟩)
    (c__law_count : PySem.W.codeIn K cd__law_count "_law_count" = true)
    (k__law_count : PySem.W.keepIn K (.ref f__law_count) = true)
    (a__law_less : PySem.W.nsIn K mainGlobals "_law_less" = some (some (.ref f__law_less)))
    (l__law_less : K.lookup f__law_less = some ⟨oc__law_less, od__law_less, .func (PySem.W.fnOf "_law_less" "_law_less" (defArgs s__law_less) (defBody s__law_less) (defScope s__law_less) .none kV__law_less dc__law_less pm__law_less an__law_less cd__law_less ct__law_less), sl__law_less⟩)
    (c__law_less : PySem.W.codeIn K cd__law_less "_law_less" = true)
    (k__law_less : PySem.W.keepIn K (.ref f__law_less) = true)
    (a__law_done : PySem.W.nsIn K mainGlobals "_law_done" = some (some (.ref f__law_done)))
    (l__law_done : K.lookup f__law_done = some ⟨oc__law_done, od__law_done, .func (PySem.W.fnOf "_law_done" "_law_done" (defArgs s__law_done) (defBody s__law_done) (defScope s__law_done) .none kV__law_done dc__law_done pm__law_done an__law_done cd__law_done ct__law_done), sl__law_done⟩)
    (c__law_done : PySem.W.codeIn K cd__law_done "_law_done" = true)
    (k__law_done : PySem.W.keepIn K (.ref f__law_done) = true)
    (a__law_over : PySem.W.nsIn K mainGlobals "_law_over" = some (some (.ref f__law_over)))
    (l__law_over : K.lookup f__law_over = some ⟨oc__law_over, od__law_over, .func (PySem.W.fnOf "_law_over" "_law_over" (defArgs s__law_over) (defBody s__law_over) (defScope s__law_over) .none kV__law_over dc__law_over pm__law_over an__law_over cd__law_over ct__law_over), sl__law_over⟩)
    (c__law_over : PySem.W.codeIn K cd__law_over "_law_over" = true)
    (k__law_over : PySem.W.keepIn K (.ref f__law_over) = true)
    (a__law_minus : PySem.W.nsIn K mainGlobals "_law_minus" = some (some (.ref f__law_minus)))
    (l__law_minus : K.lookup f__law_minus = some ⟨oc__law_minus, od__law_minus, .func (PySem.W.fnOf "_law_minus" "_law_minus" (defArgs s__law_minus) (defBody s__law_minus) (defScope s__law_minus) .none kV__law_minus dc__law_minus pm__law_minus an__law_minus cd__law_minus ct__law_minus), sl__law_minus⟩)
    (c__law_minus : PySem.W.codeIn K cd__law_minus "_law_minus" = true)
    (k__law_minus : PySem.W.keepIn K (.ref f__law_minus) = true)
    (a_is_ratio : PySem.W.nsIn K mainGlobals "is_ratio" = some (some (.ref f_is_ratio)))
    (l_is_ratio : K.lookup f_is_ratio = some ⟨oc_is_ratio, od_is_ratio, .func (PySem.W.fnOf "is_ratio" "is_ratio" (defArgs s_is_ratio) (defBody s_is_ratio) (defScope s_is_ratio) .none kV_is_ratio dc_is_ratio pm_is_ratio an_is_ratio cd_is_ratio ct_is_ratio), sl_is_ratio⟩)
    (c_is_ratio : PySem.W.codeIn K cd_is_ratio "is_ratio" = true)
    (k_is_ratio : PySem.W.keepIn K (.ref f_is_ratio) = true)
    (a_is_chance : PySem.W.nsIn K mainGlobals "is_chance" = some (some (.ref f_is_chance)))
    (l_is_chance : K.lookup f_is_chance = some ⟨oc_is_chance, od_is_chance, .func (PySem.W.fnOf "is_chance" "is_chance" (defArgs s_is_chance) (defBody s_is_chance) (defScope s_is_chance) .none kV_is_chance dc_is_chance pm_is_chance an_is_chance cd_is_chance ct_is_chance), sl_is_chance⟩)
    (c_is_chance : PySem.W.codeIn K cd_is_chance "is_chance" = true)
    (k_is_chance : PySem.W.keepIn K (.ref f_is_chance) = true)
    (a_common_under : PySem.W.nsIn K mainGlobals "common_under" = some (some (.ref f_common_under)))
    (l_common_under : K.lookup f_common_under = some ⟨oc_common_under, od_common_under, .func (PySem.W.fnOf "common_under" "common_under" (defArgs s_common_under) (defBody s_common_under) (defScope s_common_under) .none kV_common_under dc_common_under pm_common_under an_common_under cd_common_under ct_common_under), sl_common_under⟩)
    (c_common_under : PySem.W.codeIn K cd_common_under "common_under" = true)
    (k_common_under : PySem.W.keepIn K (.ref f_common_under) = true)
    (a_scaled : PySem.W.nsIn K mainGlobals "scaled" = some (some (.ref f_scaled)))
    (l_scaled : K.lookup f_scaled = some ⟨oc_scaled, od_scaled, .func (PySem.W.fnOf "scaled" "scaled" (defArgs s_scaled) (defBody s_scaled) (defScope s_scaled) .none kV_scaled dc_scaled pm_scaled an_scaled cd_scaled ct_scaled), sl_scaled⟩)
    (c_scaled : PySem.W.codeIn K cd_scaled "scaled" = true)
    (k_scaled : PySem.W.keepIn K (.ref f_scaled) = true)
    (a_are_one_together : PySem.W.nsIn K mainGlobals "are_one_together" = some (some (.ref f_are_one_together)))
    (l_are_one_together : K.lookup f_are_one_together = some ⟨oc_are_one_together, od_are_one_together, .func (PySem.W.fnOf "are_one_together" "are_one_together" (defArgs s_are_one_together) (defBody s_are_one_together) (defScope s_are_one_together) .none kV_are_one_together dc_are_one_together pm_are_one_together an_are_one_together cd_are_one_together ct_are_one_together), sl_are_one_together⟩)
    (c_are_one_together : PySem.W.codeIn K cd_are_one_together "are_one_together" = true)
    (k_are_one_together : PySem.W.keepIn K (.ref f_are_one_together) = true)
    (a_are_chances : PySem.W.nsIn K mainGlobals "are_chances" = some (some (.ref f_are_chances)))
    (l_are_chances : K.lookup f_are_chances = some ⟨oc_are_chances, od_are_chances, .func (PySem.W.fnOf "are_chances" "are_chances" (defArgs s_are_chances) (defBody s_are_chances) (defScope s_are_chances) .none kV_are_chances dc_are_chances pm_are_chances an_are_chances cd_are_chances ct_are_chances), sl_are_chances⟩)
    (c_are_chances : PySem.W.codeIn K cd_are_chances "are_chances" = true)
    (k_are_chances : PySem.W.keepIn K (.ref f_are_chances) = true)
    (a_is_table : PySem.W.nsIn K mainGlobals "is_table" = some (some (.ref f_is_table)))
    (l_is_table : K.lookup f_is_table = some ⟨oc_is_table, od_is_table, .func (PySem.W.fnOf "is_table" "is_table" (defArgs s_is_table) (defBody s_is_table) (defScope s_is_table) .none kV_is_table dc_is_table pm_is_table an_is_table cd_is_table ct_is_table), sl_is_table⟩)
    (c_is_table : PySem.W.codeIn K cd_is_table "is_table" = true)
    (k_is_table : PySem.W.keepIn K (.ref f_is_table) = true)
    (a_check_table : PySem.W.nsIn K mainGlobals "check_table" = some (some (.ref f_check_table)))
    (l_check_table : K.lookup f_check_table = some ⟨oc_check_table, od_check_table, .func (PySem.W.fnOf "check_table" "check_table" (defArgs s_check_table) (defBody s_check_table) (defScope s_check_table) .none kV_check_table dc_check_table pm_check_table an_check_table cd_check_table ct_check_table), sl_check_table⟩)
    (c_check_table : PySem.W.codeIn K cd_check_table "check_table" = true)
    (k_check_table : PySem.W.keepIn K (.ref f_check_table) = true)
    (a__joint_chances : PySem.W.nsIn K mainGlobals "_joint_chances" = some (some (.ref f__joint_chances)))
    (l__joint_chances : K.lookup f__joint_chances = some ⟨oc__joint_chances, od__joint_chances, .func (PySem.W.fnOf "_joint_chances" "_joint_chances" (defArgs s__joint_chances) (defBody s__joint_chances) (defScope s__joint_chances) .none kV__joint_chances dc__joint_chances pm__joint_chances an__joint_chances cd__joint_chances ct__joint_chances), sl__joint_chances⟩)
    (c__joint_chances : PySem.W.codeIn K cd__joint_chances "_joint_chances" = true)
    (k__joint_chances : PySem.W.keepIn K (.ref f__joint_chances) = true)
    (a_ratio : PySem.W.nsIn K mainGlobals "ratio" = some (some (.ref f_ratio)))
    (l_ratio : K.lookup f_ratio = some ⟨oc_ratio, od_ratio, .func (PySem.W.fnOf "ratio" "ratio" (defArgs s_ratio) (defBody s_ratio) (defScope s_ratio) .none kV_ratio dc_ratio pm_ratio an_ratio cd_ratio ct_ratio), sl_ratio⟩)
    (c_ratio : PySem.W.codeIn K cd_ratio "ratio" = true)
    (k_ratio : PySem.W.keepIn K (.ref f_ratio) = true)
    (a__belief : PySem.W.nsIn K mainGlobals "_belief" = some (some (.ref f__belief)))
    (l__belief : K.lookup f__belief = some ⟨oc__belief, od__belief, .func (PySem.W.fnOf "_belief" "_belief" (defArgs s__belief) (defBody s__belief) (defScope s__belief) .none kV__belief dc__belief pm__belief an__belief cd__belief ct__belief), sl__belief⟩)
    (c__belief : PySem.W.codeIn K cd__belief "_belief" = true)
    (k__belief : PySem.W.keepIn K (.ref f__belief) = true)
    (a_beliefs : PySem.W.nsIn K mainGlobals "beliefs" = some (some (.ref f_beliefs)))
    (l_beliefs : K.lookup f_beliefs = some ⟨oc_beliefs, od_beliefs, .func (PySem.W.fnOf "beliefs" "beliefs" (defArgs s_beliefs) (defBody s_beliefs) (defScope s_beliefs) .none kV_beliefs dc_beliefs pm_beliefs an_beliefs cd_beliefs ct_beliefs), sl_beliefs⟩)
    (c_beliefs : PySem.W.codeIn K cd_beliefs "beliefs" = true)
    (k_beliefs : PySem.W.keepIn K (.ref f_beliefs) = true)
    (a__totals : PySem.W.nsIn K mainGlobals "_totals" = some (some (.ref f__totals)))
    (l__totals : K.lookup f__totals = some ⟨oc__totals, od__totals, .func (PySem.W.fnOf "_totals" "_totals" (defArgs s__totals) (defBody s__totals) (defScope s__totals) .none kV__totals dc__totals pm__totals an__totals cd__totals ct__totals), sl__totals⟩)
    (c__totals : PySem.W.codeIn K cd__totals "_totals" = true)
    (k__totals : PySem.W.keepIn K (.ref f__totals) = true)
    (a__act_done : PySem.W.nsIn K mainGlobals "_act_done" = some (some (.ref f__act_done)))
    (l__act_done : K.lookup f__act_done = some ⟨oc__act_done, od__act_done, .func (PySem.W.fnOf "_act_done" "_act_done" (defArgs s__act_done) (defBody s__act_done) (defScope s__act_done) .none kV__act_done dc__act_done pm__act_done an__act_done cd__act_done ct__act_done), sl__act_done⟩)
    (c__act_done : PySem.W.codeIn K cd__act_done "_act_done" = true)
    (k__act_done : PySem.W.keepIn K (.ref f__act_done) = true)
    (a_acts_after : PySem.W.nsIn K mainGlobals "acts_after" = some (some (.ref f_acts_after)))
    (l_acts_after : K.lookup f_acts_after = some ⟨oc_acts_after, od_acts_after, .func (PySem.W.fnOf "acts_after" "acts_after" (defArgs s_acts_after) (defBody s_acts_after) (defScope s_acts_after) .none kV_acts_after dc_acts_after pm_acts_after an_acts_after cd_acts_after ct_acts_after), sl_acts_after⟩)
    (c_acts_after : PySem.W.codeIn K cd_acts_after "acts_after" = true)
    (k_acts_after : PySem.W.keepIn K (.ref f_acts_after) = true)
    (a_swerves : PySem.W.nsIn K mainGlobals "swerves" = some (some (.ref f_swerves)))
    (l_swerves : K.lookup f_swerves = some ⟨oc_swerves, od_swerves, .func (PySem.W.fnOf "swerves" "swerves" (defArgs s_swerves) (defBody s_swerves) (defScope s_swerves) .none kV_swerves dc_swerves pm_swerves an_swerves cd_swerves ct_swerves), sl_swerves⟩)
    (c_swerves : PySem.W.codeIn K cd_swerves "swerves" = true)
    (k_swerves : PySem.W.keepIn K (.ref f_swerves) = true)
    (a__overall : PySem.W.nsIn K mainGlobals "_overall" = some (some (.ref f__overall)))
    (l__overall : K.lookup f__overall = some ⟨oc__overall, od__overall, .func (PySem.W.fnOf "_overall" "_overall" (defArgs s__overall) (defBody s__overall) (defScope s__overall) .none kV__overall dc__overall pm__overall an__overall cd__overall ct__overall), sl__overall⟩)
    (c__overall : PySem.W.codeIn K cd__overall "_overall" = true)
    (k__overall : PySem.W.keepIn K (.ref f__overall) = true)
    (a_worth_of : PySem.W.nsIn K mainGlobals "worth_of" = some (some (.ref f_worth_of)))
    (l_worth_of : K.lookup f_worth_of = some ⟨oc_worth_of, od_worth_of, .func (PySem.W.fnOf "worth_of" "worth_of" (defArgs s_worth_of) (defBody s_worth_of) (defScope s_worth_of) .none kV_worth_of dc_worth_of pm_worth_of an_worth_of cd_worth_of ct_worth_of), sl_worth_of⟩)
    (c_worth_of : PySem.W.codeIn K cd_worth_of "worth_of" = true)
    (k_worth_of : PySem.W.keepIn K (.ref f_worth_of) = true)
    (a__law_value : PySem.W.nsIn K mainGlobals "_law_value" = some (some (.ref f__law_value)))
    (l__law_value : K.lookup f__law_value = some ⟨oc__law_value, od__law_value, .func (PySem.W.fnOf "_law_value" "_law_value" (defArgs s__law_value) (defBody s__law_value) (defScope s__law_value) .none kV__law_value dc__law_value pm__law_value an__law_value cd__law_value ct__law_value), sl__law_value⟩)
    (c__law_value : PySem.W.codeIn K cd__law_value "_law_value" = true)
    (k__law_value : PySem.W.keepIn K (.ref f__law_value) = true)
    (a_gain_of : PySem.W.nsIn K mainGlobals "gain_of" = some (some (.ref f_gain_of)))
    (l_gain_of : K.lookup f_gain_of = some ⟨oc_gain_of, od_gain_of, .func (PySem.W.fnOf "gain_of" "gain_of" (defArgs s_gain_of) (defBody s_gain_of) (defScope s_gain_of) .none kV_gain_of dc_gain_of pm_gain_of an_gain_of cd_gain_of ct_gain_of), sl_gain_of⟩)
    (c_gain_of : PySem.W.codeIn K cd_gain_of "gain_of" = true)
    (k_gain_of : PySem.W.keepIn K (.ref f_gain_of) = true)
    (a__law_told_right : PySem.W.nsIn K mainGlobals "_law_told_right" = some (some (.ref f__law_told_right)))
    (l__law_told_right : K.lookup f__law_told_right = some ⟨oc__law_told_right, od__law_told_right, .func (PySem.W.fnOf "_law_told_right" "_law_told_right" (defArgs s__law_told_right) (defBody s__law_told_right) (defScope s__law_told_right) .none kV__law_told_right dc__law_told_right pm__law_told_right an__law_told_right cd__law_told_right ct__law_told_right), sl__law_told_right⟩)
    (c__law_told_right : PySem.W.codeIn K cd__law_told_right "_law_told_right" = true)
    (k__law_told_right : PySem.W.keepIn K (.ref f__law_told_right) = true)
    (a_law : PySem.W.nsIn K mainGlobals "law" = some (some (.ref f_law)))
    (l_law : K.lookup f_law = some ⟨oc_law, od_law, .func (PySem.W.fnOf "law" "law" (defArgs s_law) (defBody s_law) (defScope s_law) .none kV_law dc_law pm_law an_law cd_law ct_law), sl_law⟩)
    (c_law : PySem.W.codeIn K cd_law "law" = true)
    (k_law : PySem.W.keepIn K (.ref f_law) = true)
    (aC_Matter : PySem.W.nsIn K mainGlobals "Matter" = some (some (.ref C_Matter)))
    (pg_Matter : PySem.W.plainGet K C_Matter Str.empty = true)
    (hd_Matter : PySem.W.hasDictIn K C_Matter = true)
    (po_Matter : PySem.W.plainOver K C_Matter = true)
    (sa_Matter : PySem.W.findIn K (.ref C_Matter) "__setattr__" = some (some (.builtin "object.__setattr__")))
    (fi_Matterdd_initdd : PySem.W.findIn K (.ref C_Matter) "__init__" = some (some (.ref f_Matterdd_initdd)))
    (is_Matterdd_initdd : PySem.W.isFn K (.ref f_Matterdd_initdd) = true)
    (mk_Matter : PySem.W.makesIn K C_Matter = true)
    (kc_Matter : PySem.W.keepIn K (.ref C_Matter) = true)
    (l_Matterdd_initdd : K.lookup f_Matterdd_initdd = some ⟨oc_Matterdd_initdd, od_Matterdd_initdd, .func (PySem.W.fnOf "__init__" "Matter.__init__" (defArgs s_Matterdd_initdd) (defBody s_Matterdd_initdd) (defScope s_Matterdd_initdd) .none kV_Matterdd_initdd dc_Matterdd_initdd pm_Matterdd_initdd an_Matterdd_initdd cd_Matterdd_initdd ct_Matterdd_initdd), sl_Matterdd_initdd⟩)
    (c_Matterdd_initdd : PySem.W.codeIn K cd_Matterdd_initdd "Matter.__init__" = true)
    (k_Matterdd_initdd : PySem.W.keepIn K (.ref f_Matterdd_initdd) = true)
    (fi_Matterdd_lendd : PySem.W.findIn K (.ref C_Matter) "__len__" = some (some (.ref f_Matterdd_lendd)))
    (is_Matterdd_lendd : PySem.W.isFn K (.ref f_Matterdd_lendd) = true)
    (l_Matterdd_lendd : K.lookup f_Matterdd_lendd = some ⟨oc_Matterdd_lendd, od_Matterdd_lendd, .func (PySem.W.fnOf "__len__" "Matter.__len__" (defArgs s_Matterdd_lendd) (defBody s_Matterdd_lendd) (defScope s_Matterdd_lendd) .none kV_Matterdd_lendd dc_Matterdd_lendd pm_Matterdd_lendd an_Matterdd_lendd cd_Matterdd_lendd ct_Matterdd_lendd), sl_Matterdd_lendd⟩)
    (c_Matterdd_lendd : PySem.W.codeIn K cd_Matterdd_lendd "Matter.__len__" = true)
    (k_Matterdd_lendd : PySem.W.keepIn K (.ref f_Matterdd_lendd) = true)
    (at_Matter_parts : PySem.W.findIn K (.ref C_Matter) "parts" = some (some (.ref p_Matter_parts)))
    (ge_Matter_parts : PySem.W.specialIn K (.ref p_Matter_parts) "__get__" = some (some (.builtin "property.__get__")))
    (tk_Matter_parts : PySem.W.takesIn K (.ref p_Matter_parts) = some true)
    (rc_Matter_parts : PySem.W.recIn K p_Matter_parts "property" = some (.ref f_Matter_parts :: rs_Matter_parts))
    (l_Matter_parts : K.lookup f_Matter_parts = some ⟨oc_Matter_parts, od_Matter_parts, .func (PySem.W.fnOf "parts" "Matter.parts" (defArgs s_Matter_parts) (defBody s_Matter_parts) (defScope s_Matter_parts) .none kV_Matter_parts dc_Matter_parts pm_Matter_parts an_Matter_parts cd_Matter_parts ct_Matter_parts), sl_Matter_parts⟩)
    (c_Matter_parts : PySem.W.codeIn K cd_Matter_parts "Matter.parts" = true)
    (k_Matter_parts : PySem.W.keepIn K (.ref f_Matter_parts) = true)
    (at_Matter_gains : PySem.W.findIn K (.ref C_Matter) "gains" = some (some (.ref p_Matter_gains)))
    (ge_Matter_gains : PySem.W.specialIn K (.ref p_Matter_gains) "__get__" = some (some (.builtin "property.__get__")))
    (tk_Matter_gains : PySem.W.takesIn K (.ref p_Matter_gains) = some true)
    (rc_Matter_gains : PySem.W.recIn K p_Matter_gains "property" = some (.ref f_Matter_gains :: rs_Matter_gains))
    (l_Matter_gains : K.lookup f_Matter_gains = some ⟨oc_Matter_gains, od_Matter_gains, .func (PySem.W.fnOf "gains" "Matter.gains" (defArgs s_Matter_gains) (defBody s_Matter_gains) (defScope s_Matter_gains) .none kV_Matter_gains dc_Matter_gains pm_Matter_gains an_Matter_gains cd_Matter_gains ct_Matter_gains), sl_Matter_gains⟩)
    (c_Matter_gains : PySem.W.codeIn K cd_Matter_gains "Matter.gains" = true)
    (k_Matter_gains : PySem.W.keepIn K (.ref f_Matter_gains) = true)
    (at_Matter_worths : PySem.W.findIn K (.ref C_Matter) "worths" = some (some (.ref p_Matter_worths)))
    (ge_Matter_worths : PySem.W.specialIn K (.ref p_Matter_worths) "__get__" = some (some (.builtin "property.__get__")))
    (tk_Matter_worths : PySem.W.takesIn K (.ref p_Matter_worths) = some true)
    (rc_Matter_worths : PySem.W.recIn K p_Matter_worths "property" = some (.ref f_Matter_worths :: rs_Matter_worths))
    (l_Matter_worths : K.lookup f_Matter_worths = some ⟨oc_Matter_worths, od_Matter_worths, .func (PySem.W.fnOf "worths" "Matter.worths" (defArgs s_Matter_worths) (defBody s_Matter_worths) (defScope s_Matter_worths) .none kV_Matter_worths dc_Matter_worths pm_Matter_worths an_Matter_worths cd_Matter_worths ct_Matter_worths), sl_Matter_worths⟩)
    (c_Matter_worths : PySem.W.codeIn K cd_Matter_worths "Matter.worths" = true)
    (k_Matter_worths : PySem.W.keepIn K (.ref f_Matter_worths) = true)
    (na_Matter__parts : PySem.W.findIn K (.ref C_Matter) "_parts" = some none)
    (na_Matter__gains : PySem.W.findIn K (.ref C_Matter) "_gains" = some none)
    (na_Matter__worths : PySem.W.findIn K (.ref C_Matter) "_worths" = some none)
    (ia_Matter : PySem.W.findIn K (.ref C_Matter) "__class__" = some (some (.builtin "object.__class__")))
    (ib_Matter : PySem.W.specialIn K (.builtin "object.__class__") "__get__" = some (some (.builtin "getset_descriptor.__get__")))
    (ic_Matter : PySem.W.takesIn K (.builtin "object.__class__") = some true)
    (id_Matter : PySem.W.mroIn K C_Matter (.type "object") = some true)
    (n_FEWEST_CASES : PySem.W.nsIn K mainGlobals "FEWEST_CASES" = some (some (.int 2 t_FEWEST_CASES)))
    (n_MOST_CASES : PySem.W.nsIn K mainGlobals "MOST_CASES" = some (some (.int 4 t_MOST_CASES)))
    (n_MOST_PART : PySem.W.nsIn K mainGlobals "MOST_PART" = some (some (.int 6 t_MOST_PART)))
    (n_LEAST_PART : PySem.W.nsIn K mainGlobals "LEAST_PART" = some (some (.int 1 t_LEAST_PART)))
    (n_FEWEST_ACTS : PySem.W.nsIn K mainGlobals "FEWEST_ACTS" = some (some (.int 2 t_FEWEST_ACTS)))
    (n_MOST_ACTS : PySem.W.nsIn K mainGlobals "MOST_ACTS" = some (some (.int 4 t_MOST_ACTS)))
    (n_MOST_GAIN : PySem.W.nsIn K mainGlobals "MOST_GAIN" = some (some (.int 9 t_MOST_GAIN)))
    (n_LEAST_GAIN : PySem.W.nsIn K mainGlobals "LEAST_GAIN" = some (some (.int (-9) t_LEAST_GAIN)))
    (n_MOST_WORTH : PySem.W.nsIn K mainGlobals "MOST_WORTH" = some (some (.int 9 t_MOST_WORTH)))
    (n_LEAST_WORTH : PySem.W.nsIn K mainGlobals "LEAST_WORTH" = some (some (.int 0 t_LEAST_WORTH)))
    (n_MOST_WORDS : PySem.W.nsIn K mainGlobals "MOST_WORDS" = some (some (.int 4 t_MOST_WORDS)))
    (n_gcd : PySem.W.nsIn K mainGlobals "gcd" = some (some (.builtin "math.gcd")))
    (n_lcm : PySem.W.nsIn K mainGlobals "lcm" = some (some (.builtin "math.lcm")))
    (z_len : PySem.W.nsIn K mainGlobals "len" = some none)
    (z_int : PySem.W.nsIn K mainGlobals "int" = some none)
    (z_range : PySem.W.nsIn K mainGlobals "range" = some none)
    (z_tuple : PySem.W.nsIn K mainGlobals "tuple" = some none)
    (z_isinstance : PySem.W.nsIn K mainGlobals "isinstance" = some none)
    (z_bool : PySem.W.nsIn K mainGlobals "bool" = some none)
    (z_all : PySem.W.nsIn K mainGlobals "all" = some none)
    (z_sum : PySem.W.nsIn K mainGlobals "sum" = some none)
    (z_abs : PySem.W.nsIn K mainGlobals "abs" = some none)
    (z_enumerate : PySem.W.nsIn K mainGlobals "enumerate" = some none)
    (z_zip : PySem.W.nsIn K mainGlobals "zip" = some none)
    (z_any : PySem.W.nsIn K mainGlobals "any" = some none)
    (z_max : PySem.W.nsIn K mainGlobals "max" = some none)
    (te__act_done : cd__act_done = .ref kk__act_done)
    (tl__act_done : K.lookup kk__act_done = some ⟨.type "code", od2__act_done, .fields vs__act_done, sl2__act_done⟩)
    (tp__act_done : vs__act_done[11]? = some (.ref P__act_done))
    (th__act_done : PySem.W.codeHdIn K kk__act_done P__act_done = true)
    (tn__act_done : K.lookup P__act_done = none)
    (tr__act_done : ((recsOf q).any fun e => e.name == "_act_done") = true)
    : LamX.LawAtS l w K (L2.CX l.prog w) 10 63 "_law_script" mg fa h := by
  have e := hfa.symm.trans (PySem.W.mg_of KX G a_law)
  cases e
  have tz : TxZ mg := ⟨PySem.W.mg_none_of KX G z_len, PySem.W.mg_none_of KX G z_int, PySem.W.mg_none_of KX G z_range, PySem.W.mg_none_of KX G z_tuple, PySem.W.mg_none_of KX G z_isinstance, PySem.W.mg_none_of KX G z_bool, PySem.W.mg_none_of KX G z_all, PySem.W.mg_none_of KX G z_sum, PySem.W.mg_none_of KX G z_abs, PySem.W.mg_none_of KX G z_enumerate, PySem.W.mg_none_of KX G z_zip, PySem.W.mg_none_of KX G z_any, PySem.W.mg_none_of KX G z_max⟩
  have tc : TxC mg := ⟨cint_mk KX G n_FEWEST_CASES, cint_mk KX G n_MOST_CASES, cint_mk KX G n_MOST_PART, cint_mk KX G n_LEAST_PART, cint_mk KX G n_FEWEST_ACTS, cint_mk KX G n_MOST_ACTS, cint_mk KX G n_MOST_GAIN, cint_mk KX G n_LEAST_GAIN, cint_mk KX G n_MOST_WORTH, cint_mk KX G n_LEAST_WORTH, cint_mk KX G n_MOST_WORDS, PySem.W.mg_of KX G n_gcd, PySem.W.mg_of KX G n_lcm⟩
  let tf : TxF K mg := ⟨gfT_mk KX G a__law_cell_at l__law_cell_at c__law_cell_at k__law_cell_at (fun _ _ _ _ _ _ us hl => match us, hl with | [_, _], _ => rfl),
    gfT_mk KX G a__law_matter l__law_matter c__law_matter k__law_matter (fun _ _ _ _ _ _ us hl => match us, hl with | [_, _], _ => rfl),
    gfT_mk KX G a_is_plain_integer l_is_plain_integer c_is_plain_integer k_is_plain_integer (fun _ _ _ _ _ _ us hl => match us, hl with | [_], _ => rfl),
    gfT_mk KX G a_is_integer_within l_is_integer_within c_is_integer_within k_is_integer_within (fun _ _ _ _ _ _ us hl => match us, hl with | [_, _, _], _ => rfl),
    gfT_mk KX G a_is_row_within l_is_row_within c_is_row_within k_is_row_within (fun _ _ _ _ _ _ us hl => match us, hl with | [_, _, _, _], _ => rfl),
    gfT_mk KX G a__are_parts l__are_parts c__are_parts k__are_parts (fun _ _ _ _ _ _ us hl => match us, hl with | [_], _ => rfl),
    gfT_mk KX G a__are_rows l__are_rows c__are_rows k__are_rows (fun _ _ _ _ _ _ us hl => match us, hl with | [_, _, _, _, _], _ => rfl),
    gfT_mk KX G a__are_gains l__are_gains c__are_gains k__are_gains (fun _ _ _ _ _ _ us hl => match us, hl with | [_, _], _ => rfl),
    gfT_mk KX G a_check_matter l_check_matter c_check_matter k_check_matter (fun _ _ _ _ _ _ us hl => match us, hl with | [_], _ => rfl),
    gfT_mk KX G a_whole_table l_whole_table c_whole_table k_whole_table (fun _ _ _ _ _ _ us hl => match us, hl with | [_], _ => rfl),
    gfT_mk KX G a_silent_table l_silent_table c_silent_table k_silent_table (fun _ _ _ _ _ _ us hl => match us, hl with | [_], _ => rfl),
    gfT_mk KX G a__law_low l__law_low c__law_low k__law_low (fun _ _ _ _ _ _ us hl => match us, hl with | [_, _], _ => rfl),
    gfT_mk KX G a__law_table l__law_table c__law_table k__law_table (fun _ _ _ _ _ _ us hl => match us, hl with | [_, _, _, _], _ => rfl),
    gfT_mk KX G a__law_times l__law_times c__law_times k__law_times (fun _ _ _ _ _ _ us hl => match us, hl with | [_, _], _ => rfl),
    gfT_mk KX G a__law_chance l__law_chance c__law_chance k__law_chance (fun _ _ _ _ _ _ us hl => match us, hl with | [_, _], _ => rfl),
    gfT_mk KX G a__law_shares l__law_shares c__law_shares k__law_shares (fun _ _ _ _ _ _ us hl => match us, hl with | [_, _, _], _ => rfl),
    gfT_mk KX G a__law_plus l__law_plus c__law_plus k__law_plus (fun _ _ _ _ _ _ us hl => match us, hl with | [_, _], _ => rfl),
    gfT_mk KX G a__law_sum l__law_sum c__law_sum k__law_sum (fun _ _ _ _ _ _ us hl => match us, hl with | [_], _ => rfl),
    gfT_mk KX G a__law_count l__law_count c__law_count k__law_count (fun _ _ _ _ _ _ us hl => match us, hl with | [_, _, _], _ => rfl),
    gfT_mk KX G a__law_less l__law_less c__law_less k__law_less (fun _ _ _ _ _ _ us hl => match us, hl with | [_, _], _ => rfl),
    gfT_mk KX G a__law_done l__law_done c__law_done k__law_done (fun _ _ _ _ _ _ us hl => match us, hl with | [_, _], _ => rfl),
    gfT_mk KX G a__law_over l__law_over c__law_over k__law_over (fun _ _ _ _ _ _ us hl => match us, hl with | [_, _], _ => rfl),
    gfT_mk KX G a__law_minus l__law_minus c__law_minus k__law_minus (fun _ _ _ _ _ _ us hl => match us, hl with | [_, _], _ => rfl),
    gfT_mk KX G a_is_ratio l_is_ratio c_is_ratio k_is_ratio (fun _ _ _ _ _ _ us hl => match us, hl with | [_], _ => rfl),
    gfT_mk KX G a_is_chance l_is_chance c_is_chance k_is_chance (fun _ _ _ _ _ _ us hl => match us, hl with | [_], _ => rfl),
    gfT_mk KX G a_common_under l_common_under c_common_under k_common_under (fun _ _ _ _ _ _ us hl => match us, hl with | [_], _ => rfl),
    gfT_mk KX G a_scaled l_scaled c_scaled k_scaled (fun _ _ _ _ _ _ us hl => match us, hl with | [_, _], _ => rfl),
    gfT_mk KX G a_are_one_together l_are_one_together c_are_one_together k_are_one_together (fun _ _ _ _ _ _ us hl => match us, hl with | [_], _ => rfl),
    gfT_mk KX G a_are_chances l_are_chances c_are_chances k_are_chances (fun _ _ _ _ _ _ us hl => match us, hl with | [_, _], _ => rfl),
    gfT_mk KX G a_is_table l_is_table c_is_table k_is_table (fun _ _ _ _ _ _ us hl => match us, hl with | [_, _], _ => rfl),
    gfT_mk KX G a_check_table l_check_table c_check_table k_check_table (fun _ _ _ _ _ _ us hl => match us, hl with | [_, _], _ => rfl),
    gfT_mk KX G a__joint_chances l__joint_chances c__joint_chances k__joint_chances (fun _ _ _ _ _ _ us hl => match us, hl with | [_, _], _ => rfl),
    gfT_mk KX G a_ratio l_ratio c_ratio k_ratio (fun _ _ _ _ _ _ us hl => match us, hl with | [_, _], _ => rfl),
    gfT_mk KX G a__belief l__belief c__belief k__belief (fun _ _ _ _ _ _ us hl => match us, hl with | [_], _ => rfl),
    gfT_mk KX G a_beliefs l_beliefs c_beliefs k_beliefs (fun _ _ _ _ _ _ us hl => match us, hl with | [_, _], _ => rfl),
    gfT_mk KX G a__totals l__totals c__totals k__totals (fun _ _ _ _ _ _ us hl => match us, hl with | [_, _], _ => rfl),
    gfT_mk KX G a__act_done l__act_done c__act_done k__act_done (fun _ _ _ _ _ _ us hl => match us, hl with | [_, _], _ => rfl),
    gfT_mk KX G a_acts_after l_acts_after c_acts_after k_acts_after (fun _ _ _ _ _ _ us hl => match us, hl with | [_, _], _ => rfl),
    gfT_mk KX G a_swerves l_swerves c_swerves k_swerves (fun _ _ _ _ _ _ us hl => match us, hl with | [_, _], _ => rfl),
    gfT_mk KX G a__overall l__overall c__overall k__overall (fun _ _ _ _ _ _ us hl => match us, hl with | [_, _, _], _ => rfl),
    gfT_mk KX G a_worth_of l_worth_of c_worth_of k_worth_of (fun _ _ _ _ _ _ us hl => match us, hl with | [_, _], _ => rfl),
    gfT_mk KX G a__law_value l__law_value c__law_value k__law_value (fun _ _ _ _ _ _ us hl => match us, hl with | [_, _, _], _ => rfl),
    gfT_mk KX G a_gain_of l_gain_of c_gain_of k_gain_of (fun _ _ _ _ _ _ us hl => match us, hl with | [_, _], _ => rfl),
    gfT_mk KX G a__law_told_right l__law_told_right c__law_told_right k__law_told_right (fun _ _ _ _ _ _ us hl => match us, hl with | [_, _, _], _ => rfl),
    gfT_mk KX G a_law l_law c_law k_law (fun _ _ _ _ _ _ us hl => match us, hl with | [_], _ => rfl)⟩
  let tm : TxM K mg := ⟨clT_mk KX G aC_Matter pg_Matter hd_Matter po_Matter sa_Matter,
    dfT_mk l_Matterdd_initdd c_Matterdd_initdd k_Matterdd_initdd (fun _ _ _ _ _ _ us hl => match us, hl with | [_, _, _, _], _ => rfl),
    dfT_mk l_Matter_parts c_Matter_parts k_Matter_parts (fun _ _ _ _ _ _ us hl => match us, hl with | [_], _ => rfl),
    dfT_mk l_Matter_gains c_Matter_gains k_Matter_gains (fun _ _ _ _ _ _ us hl => match us, hl with | [_], _ => rfl),
    dfT_mk l_Matter_worths c_Matter_worths k_Matter_worths (fun _ _ _ _ _ _ us hl => match us, hl with | [_], _ => rfl),
    dfT_mk l_Matterdd_lendd c_Matterdd_lendd k_Matterdd_lendd (fun _ _ _ _ _ _ us hl => match us, hl with | [_], _ => rfl),
    na_Matter__parts,
    na_Matter__gains,
    na_Matter__worths,
    ⟨mk_Matter, fi_Matterdd_initdd, is_Matterdd_initdd, kc_Matter⟩,
    fi_Matterdd_lendd,
    is_Matterdd_lendd,
    p_Matter_parts,
    ⟨at_Matter_parts, ge_Matter_parts, tk_Matter_parts, rs_Matter_parts, rc_Matter_parts⟩,
    p_Matter_gains,
    ⟨at_Matter_gains, ge_Matter_gains, tk_Matter_gains, rs_Matter_gains, rc_Matter_gains⟩,
    p_Matter_worths,
    ⟨at_Matter_worths, ge_Matter_worths, tk_Matter_worths, rs_Matter_worths, rc_Matter_worths⟩,
    ⟨ia_Matter, ib_Matter, ic_Matter, id_Matter⟩,
    by show PySem.W.kitOne K (.ref C_Matter) (.ref C_Matter) = some true; unfold PySem.W.kitOne; rw [if_pos (by simp)]⟩
  let tt : TxT K mg tf := ⟨⟨kk__act_done, P__act_done, te__act_done, th__act_done⟩⟩
  let T : Tx K mg := ⟨tz, tc, tf, tm, tt⟩
  have hT := (fun p hp => by
    simp only [List.mem_cons, List.not_mem_nil, or_false] at hp
    rcases hp with rfl
    · exact tab_empty T.f.F__act_done.f T.t.t__act_done (own "_act_done" _ tr__act_done (PySem.W.mg_of KX G a__act_done)) : ∀ p ∈ ([(kk__act_done, P__act_done)] : List (Addr × Addr)), h.get? p.2 = some { cls := .none, data := .fields #[] })
  have nT := (fun p hp => by
    simp only [List.mem_cons, List.not_mem_nil, or_false] at hp
    rcases hp with rfl
    · exact tn__act_done : ∀ p ∈ ([(kk__act_done, P__act_done)] : List (Addr × Addr)), K.lookup p.2 = none)
  have hC := (fun p hp => by
    simp only [List.mem_cons, List.not_mem_nil, or_false] at hp
    rcases hp with rfl
    · exact PySem.W.codeHd_of_K KX th__act_done : ∀ p ∈ ([(kk__act_done, P__act_done)] : List (Addr × Addr)), PySem.W.CodeHd h p.1 p.2)
  refine law_at (Cs := T.cs w) (m := m_law) (cs := [(kk__act_done, P__act_done)]) (fd := T.f.F_law.d) (fun P hP => ?_) hT nT hC (fun s u => .of_eq rfl) hm fun base KB GB TB => ok_law T ⟨TB (kk__act_done, P__act_done) (by simp)⟩
  simp only [Tx.cs, List.mem_cons, List.not_mem_nil, or_false] at hP
  rcases hP with hP
  · exact ⟨(kk__act_done, P__act_done), by simp, hP.symm⟩
end VM
open PySem PySem.W PyProof.Rows
set_option maxRecDepth 100000 in
set_option maxHeartbeats 0 in
theorem PySem.Challenge.cw_saywhat_k01_whole_tellings_holds : PySem.Challenge.rw_saywhat_k01_whole_tellings.Holds := by
  w_on; o_law; k_head; (case hw => w_witness2)
  k_fill
  refine VM.walk_tab (k := 10) (x := "_law_script") (l := PySem.Challenge.rw_saywhat_k01_whole_tellings) rfl rfl ⟨rfl, by decide, by decide⟩ (fun w h Y => by first | exact PySem.W.kIn_of Y | exact PySem.W.km_in_of Y) ?F
  case F =>
    intro w mg fa h KX G hmg own
    refine' VM.law_in KX G hmg own VM.law_true ?a__law_cell_at ?l__law_cell_at ?c__law_cell_at ?k__law_cell_at ?a__law_matter ?l__law_matter ?c__law_matter ?k__law_matter ?a_is_plain_integer ?l_is_plain_integer ?c_is_plain_integer ?k_is_plain_integer ?a_is_integer_within ?l_is_integer_within ?c_is_integer_within ?k_is_integer_within ?a_is_row_within ?l_is_row_within ?c_is_row_within ?k_is_row_within ?a__are_parts ?l__are_parts ?c__are_parts ?k__are_parts ?a__are_rows ?l__are_rows ?c__are_rows ?k__are_rows ?a__are_gains ?l__are_gains ?c__are_gains ?k__are_gains ?a_check_matter ?l_check_matter ?c_check_matter ?k_check_matter ?a_whole_table ?l_whole_table ?c_whole_table ?k_whole_table ?a_silent_table ?l_silent_table ?c_silent_table ?k_silent_table ?a__law_low ?l__law_low ?c__law_low ?k__law_low ?a__law_table ?l__law_table ?c__law_table ?k__law_table ?a__law_times ?l__law_times ?c__law_times ?k__law_times ?a__law_chance ?l__law_chance ?c__law_chance ?k__law_chance ?a__law_shares ?l__law_shares ?c__law_shares ?k__law_shares ?a__law_plus ?l__law_plus ?c__law_plus ?k__law_plus ?a__law_sum ?l__law_sum ?c__law_sum ?k__law_sum ?a__law_count ?l__law_count ?c__law_count ?k__law_count ?a__law_less ?l__law_less ?c__law_less ?k__law_less ?a__law_done ?l__law_done ?c__law_done ?k__law_done ?a__law_over ?l__law_over ?c__law_over ?k__law_over ?a__law_minus ?l__law_minus ?c__law_minus ?k__law_minus ?a_is_ratio ?l_is_ratio ?c_is_ratio ?k_is_ratio ?a_is_chance ?l_is_chance ?c_is_chance ?k_is_chance ?a_common_under ?l_common_under ?c_common_under ?k_common_under ?a_scaled ?l_scaled ?c_scaled ?k_scaled ?a_are_one_together ?l_are_one_together ?c_are_one_together ?k_are_one_together ?a_are_chances ?l_are_chances ?c_are_chances ?k_are_chances ?a_is_table ?l_is_table ?c_is_table ?k_is_table ?a_check_table ?l_check_table ?c_check_table ?k_check_table ?a__joint_chances ?l__joint_chances ?c__joint_chances ?k__joint_chances ?a_ratio ?l_ratio ?c_ratio ?k_ratio ?a__belief ?l__belief ?c__belief ?k__belief ?a_beliefs ?l_beliefs ?c_beliefs ?k_beliefs ?a__totals ?l__totals ?c__totals ?k__totals ?a__act_done ?l__act_done ?c__act_done ?k__act_done ?a_acts_after ?l_acts_after ?c_acts_after ?k_acts_after ?a_swerves ?l_swerves ?c_swerves ?k_swerves ?a__overall ?l__overall ?c__overall ?k__overall ?a_worth_of ?l_worth_of ?c_worth_of ?k_worth_of ?a__law_value ?l__law_value ?c__law_value ?k__law_value ?a_gain_of ?l_gain_of ?c_gain_of ?k_gain_of ?a__law_told_right ?l__law_told_right ?c__law_told_right ?k__law_told_right ?a_law ?l_law ?c_law ?k_law ?aC_Matter ?pg_Matter ?hd_Matter ?po_Matter ?sa_Matter ?fi_Matterdd_initdd ?is_Matterdd_initdd ?mk_Matter ?kc_Matter ?l_Matterdd_initdd ?c_Matterdd_initdd ?k_Matterdd_initdd ?fi_Matterdd_lendd ?is_Matterdd_lendd ?l_Matterdd_lendd ?c_Matterdd_lendd ?k_Matterdd_lendd ?at_Matter_parts ?ge_Matter_parts ?tk_Matter_parts ?rc_Matter_parts ?l_Matter_parts ?c_Matter_parts ?k_Matter_parts ?at_Matter_gains ?ge_Matter_gains ?tk_Matter_gains ?rc_Matter_gains ?l_Matter_gains ?c_Matter_gains ?k_Matter_gains ?at_Matter_worths ?ge_Matter_worths ?tk_Matter_worths ?rc_Matter_worths ?l_Matter_worths ?c_Matter_worths ?k_Matter_worths ?na_Matter__parts ?na_Matter__gains ?na_Matter__worths ?ia_Matter ?ib_Matter ?ic_Matter ?id_Matter ?n_FEWEST_CASES ?n_MOST_CASES ?n_MOST_PART ?n_LEAST_PART ?n_FEWEST_ACTS ?n_MOST_ACTS ?n_MOST_GAIN ?n_LEAST_GAIN ?n_MOST_WORTH ?n_LEAST_WORTH ?n_MOST_WORDS ?n_gcd ?n_lcm ?z_len ?z_int ?z_range ?z_tuple ?z_isinstance ?z_bool ?z_all ?z_sum ?z_abs ?z_enumerate ?z_zip ?z_any ?z_max ?te__act_done ?tl__act_done ?tp__act_done ?th__act_done ?tn__act_done ?tr__act_done
    (case a__law_cell_at => k_is)
    (case l__law_cell_at => k_is)
    (case c__law_cell_at => k_is)
    (case k__law_cell_at => k_is)
    (case a__law_matter => k_is)
    (case l__law_matter => k_is)
    (case c__law_matter => k_is)
    (case k__law_matter => k_is)
    (case a_is_plain_integer => k_is)
    (case l_is_plain_integer => k_is)
    (case c_is_plain_integer => k_is)
    (case k_is_plain_integer => k_is)
    (case a_is_integer_within => k_is)
    (case l_is_integer_within => k_is)
    (case c_is_integer_within => k_is)
    (case k_is_integer_within => k_is)
    (case a_is_row_within => k_is)
    (case l_is_row_within => k_is)
    (case c_is_row_within => k_is)
    (case k_is_row_within => k_is)
    (case a__are_parts => k_is)
    (case l__are_parts => k_is)
    (case c__are_parts => k_is)
    (case k__are_parts => k_is)
    (case a__are_rows => k_is)
    (case l__are_rows => k_is)
    (case c__are_rows => k_is)
    (case k__are_rows => k_is)
    (case a__are_gains => k_is)
    (case l__are_gains => k_is)
    (case c__are_gains => k_is)
    (case k__are_gains => k_is)
    (case a_check_matter => k_is)
    (case l_check_matter => k_is)
    (case c_check_matter => k_is)
    (case k_check_matter => k_is)
    (case a_whole_table => k_is)
    (case l_whole_table => k_is)
    (case c_whole_table => k_is)
    (case k_whole_table => k_is)
    (case a_silent_table => k_is)
    (case l_silent_table => k_is)
    (case c_silent_table => k_is)
    (case k_silent_table => k_is)
    (case a__law_low => k_is)
    (case l__law_low => k_is)
    (case c__law_low => k_is)
    (case k__law_low => k_is)
    (case a__law_table => k_is)
    (case l__law_table => k_is)
    (case c__law_table => k_is)
    (case k__law_table => k_is)
    (case a__law_times => k_is)
    (case l__law_times => k_is)
    (case c__law_times => k_is)
    (case k__law_times => k_is)
    (case a__law_chance => k_is)
    (case l__law_chance => k_is)
    (case c__law_chance => k_is)
    (case k__law_chance => k_is)
    (case a__law_shares => k_is)
    (case l__law_shares => k_is)
    (case c__law_shares => k_is)
    (case k__law_shares => k_is)
    (case a__law_plus => k_is)
    (case l__law_plus => k_is)
    (case c__law_plus => k_is)
    (case k__law_plus => k_is)
    (case a__law_sum => k_is)
    (case l__law_sum => k_is)
    (case c__law_sum => k_is)
    (case k__law_sum => k_is)
    (case a__law_count => k_is)
    (case l__law_count => k_is)
    (case c__law_count => k_is)
    (case k__law_count => k_is)
    (case a__law_less => k_is)
    (case l__law_less => k_is)
    (case c__law_less => k_is)
    (case k__law_less => k_is)
    (case a__law_done => k_is)
    (case l__law_done => k_is)
    (case c__law_done => k_is)
    (case k__law_done => k_is)
    (case a__law_over => k_is)
    (case l__law_over => k_is)
    (case c__law_over => k_is)
    (case k__law_over => k_is)
    (case a__law_minus => k_is)
    (case l__law_minus => k_is)
    (case c__law_minus => k_is)
    (case k__law_minus => k_is)
    (case a_is_ratio => k_is)
    (case l_is_ratio => k_is)
    (case c_is_ratio => k_is)
    (case k_is_ratio => k_is)
    (case a_is_chance => k_is)
    (case l_is_chance => k_is)
    (case c_is_chance => k_is)
    (case k_is_chance => k_is)
    (case a_common_under => k_is)
    (case l_common_under => k_is)
    (case c_common_under => k_is)
    (case k_common_under => k_is)
    (case a_scaled => k_is)
    (case l_scaled => k_is)
    (case c_scaled => k_is)
    (case k_scaled => k_is)
    (case a_are_one_together => k_is)
    (case l_are_one_together => k_is)
    (case c_are_one_together => k_is)
    (case k_are_one_together => k_is)
    (case a_are_chances => k_is)
    (case l_are_chances => k_is)
    (case c_are_chances => k_is)
    (case k_are_chances => k_is)
    (case a_is_table => k_is)
    (case l_is_table => k_is)
    (case c_is_table => k_is)
    (case k_is_table => k_is)
    (case a_check_table => k_is)
    (case l_check_table => k_is)
    (case c_check_table => k_is)
    (case k_check_table => k_is)
    (case a__joint_chances => k_is)
    (case l__joint_chances => k_is)
    (case c__joint_chances => k_is)
    (case k__joint_chances => k_is)
    (case a_ratio => k_is)
    (case l_ratio => k_is)
    (case c_ratio => k_is)
    (case k_ratio => k_is)
    (case a__belief => k_is)
    (case l__belief => k_is)
    (case c__belief => k_is)
    (case k__belief => k_is)
    (case a_beliefs => k_is)
    (case l_beliefs => k_is)
    (case c_beliefs => k_is)
    (case k_beliefs => k_is)
    (case a__totals => k_is)
    (case l__totals => k_is)
    (case c__totals => k_is)
    (case k__totals => k_is)
    (case a__act_done => k_is)
    (case l__act_done => k_is)
    (case c__act_done => k_is)
    (case k__act_done => k_is)
    (case a_acts_after => k_is)
    (case l_acts_after => k_is)
    (case c_acts_after => k_is)
    (case k_acts_after => k_is)
    (case a_swerves => k_is)
    (case l_swerves => k_is)
    (case c_swerves => k_is)
    (case k_swerves => k_is)
    (case a__overall => k_is)
    (case l__overall => k_is)
    (case c__overall => k_is)
    (case k__overall => k_is)
    (case a_worth_of => k_is)
    (case l_worth_of => k_is)
    (case c_worth_of => k_is)
    (case k_worth_of => k_is)
    (case a__law_value => k_is)
    (case l__law_value => k_is)
    (case c__law_value => k_is)
    (case k__law_value => k_is)
    (case a_gain_of => k_is)
    (case l_gain_of => k_is)
    (case c_gain_of => k_is)
    (case k_gain_of => k_is)
    (case a__law_told_right => k_is)
    (case l__law_told_right => k_is)
    (case c__law_told_right => k_is)
    (case k__law_told_right => k_is)
    (case a_law => k_is)
    (case l_law => k_is)
    (case c_law => k_is)
    (case k_law => k_is)
    (case aC_Matter => k_is)
    (case pg_Matter => k_is)
    (case hd_Matter => k_is)
    (case po_Matter => k_is)
    (case sa_Matter => k_is)
    (case fi_Matterdd_initdd => k_is)
    (case is_Matterdd_initdd => k_is)
    (case mk_Matter => k_is)
    (case kc_Matter => k_is)
    (case l_Matterdd_initdd => k_is)
    (case c_Matterdd_initdd => k_is)
    (case k_Matterdd_initdd => k_is)
    (case fi_Matterdd_lendd => k_is)
    (case is_Matterdd_lendd => k_is)
    (case l_Matterdd_lendd => k_is)
    (case c_Matterdd_lendd => k_is)
    (case k_Matterdd_lendd => k_is)
    (case at_Matter_parts => k_is)
    (case ge_Matter_parts => k_is)
    (case tk_Matter_parts => k_is)
    (case rc_Matter_parts => k_is)
    (case l_Matter_parts => k_is)
    (case c_Matter_parts => k_is)
    (case k_Matter_parts => k_is)
    (case at_Matter_gains => k_is)
    (case ge_Matter_gains => k_is)
    (case tk_Matter_gains => k_is)
    (case rc_Matter_gains => k_is)
    (case l_Matter_gains => k_is)
    (case c_Matter_gains => k_is)
    (case k_Matter_gains => k_is)
    (case at_Matter_worths => k_is)
    (case ge_Matter_worths => k_is)
    (case tk_Matter_worths => k_is)
    (case rc_Matter_worths => k_is)
    (case l_Matter_worths => k_is)
    (case c_Matter_worths => k_is)
    (case k_Matter_worths => k_is)
    (case na_Matter__parts => k_is)
    (case na_Matter__gains => k_is)
    (case na_Matter__worths => k_is)
    (case ia_Matter => k_is)
    (case ib_Matter => k_is)
    (case ic_Matter => k_is)
    (case id_Matter => k_is)
    (case n_FEWEST_CASES => k_is)
    (case n_MOST_CASES => k_is)
    (case n_MOST_PART => k_is)
    (case n_LEAST_PART => k_is)
    (case n_FEWEST_ACTS => k_is)
    (case n_MOST_ACTS => k_is)
    (case n_MOST_GAIN => k_is)
    (case n_LEAST_GAIN => k_is)
    (case n_MOST_WORTH => k_is)
    (case n_LEAST_WORTH => k_is)
    (case n_MOST_WORDS => k_is)
    (case n_gcd => k_is)
    (case n_lcm => k_is)
    (case z_len => k_is)
    (case z_int => k_is)
    (case z_range => k_is)
    (case z_tuple => k_is)
    (case z_isinstance => k_is)
    (case z_bool => k_is)
    (case z_all => k_is)
    (case z_sum => k_is)
    (case z_abs => k_is)
    (case z_enumerate => k_is)
    (case z_zip => k_is)
    (case z_any => k_is)
    (case z_max => k_is)
    (case te__act_done => first | rfl | kernel_rfl)
    (case tl__act_done => k_is)
    (case tp__act_done => first | rfl | kernel_rfl)
    (case th__act_done => first | rfl | kernel_rfl)
    (case tn__act_done => first | rfl | kernel_rfl)
    (case tr__act_done => first | rfl | kernel_rfl)
end
