import PyProof.Rows.All
import Wide.All
import OpenK.AllK
import Wide.FinOn
import HandS.ForMost
import HandS.ForExc
import HandS.IsInst
import HandS.Zip
import HandS.SetFor
import HandS.SortInts
import HandS.SortRule
import HandS.Wide
import HandS.Deep
import HandS.TupAny
import HandS.Conv
import HandS.Iter
import HandS.Dict
import HandS.Gcd
import HandS.WideBits
import HandS.TupMul
import HandS.RaiseMore
import PyProof.EnumMake
import PyProof.Draws
import KE.GoesMore
import HandS.TupLe
import PyProof.ReprRoads
import PySem.Challenge.RW_turnrota_k11_ways_known_by_hand
set_option Elab.async false
set_option linter.all false
set_option maxRecDepth 100000
/-! a program's parts as plain functions over trees of values -/
namespace Dn
open PySem PySem.Spec PyProof.Rows L2

/-- a value as a tree; ins c: an instance of the c-th class of a table, its fields in the table's order; box: a source of draws; scr: the script; any: anything -/
inductive AV where
  | non | bl (b : Bool) | int (i : Int) | str (s : Str) | tup (xs : List AV) | lst (xs : List AV) | ins (c : Nat) (xs : List AV) | box | scr (ns : List Int) | any

/-- a run: an end, none, an exception (its class, its fields), a draw below n -/
inductive T (α : Type) where
  | ret (a : α) | bad | exc (c : Nat) (xs : List AV) | draw (n : Nat) (k : Nat → T α)
def T.bind {α β : Type} : T α → (α → T β) → T β
  | .ret a, f => f a
  | .bad, _ => .bad
  | .exc c xs, _ => .exc c xs
  | .draw n k, f => .draw n fun r => (k r).bind f
instance : Monad T where
  pure := T.ret
  bind := T.bind
theorem T.bind_assoc {α β γ : Type} (m : T α) (f : α → T β) (g : β → T γ) : (m.bind f).bind g = m.bind fun a => (f a).bind g := by
  induction m with
  | ret a => rfl
  | bad => rfl
  | exc c xs => rfl
  | draw n k ih => exact congrArg (T.draw n) (funext fun r => ih r)
theorem T.bind_ret {α : Type} (m : T α) : m.bind .ret = m := by
  induction m with
  | ret a => rfl
  | bad => rfl
  | exc c xs => rfl
  | draw n k ih => exact congrArg (T.draw n) (funext fun r => ih r)
/-- every end is as wanted -/
def T.all {α : Type} (Q : α → Prop) (E : Nat → List AV → Prop) : T α → Prop
  | .ret a => Q a
  | .bad => False
  | .exc c xs => E c xs
  | .draw n k => ∀ r, r < n → (k r).all Q E
theorem T.all_bind {α β : Type} {Q : β → Prop} {E : Nat → List AV → Prop} {f : α → T β} {m : T α} : (m.bind f).all Q E ↔ m.all (fun a => (f a).all Q E) E := by
  induction m with
  | ret a => exact Iff.rfl
  | bad => exact Iff.rfl
  | exc c xs => exact Iff.rfl
  | draw n k ih => exact ⟨fun h r hr => (ih r).mp (h r hr), fun h r hr => (ih r).mpr (h r hr)⟩
theorem T.all_mono {α : Type} {Q Q' : α → Prop} {E E' : Nat → List AV → Prop} {m : T α} (h : m.all Q E) (hQ : ∀ a, Q a → Q' a) (hE : ∀ c xs, E c xs → E' c xs) : m.all Q' E' := by
  induction m with
  | ret a => exact hQ a h
  | bad => exact h
  | exc c xs => exact hE c xs h
  | draw n k ih => exact fun r hr => ih r (h r hr)
theorem T.all_and {α : Type} {Q Q' : α → Prop} {E E' : Nat → List AV → Prop} {m : T α} (h : m.all Q E) (h' : m.all Q' E') : m.all (fun a => Q a ∧ Q' a) E := by
  induction m with
  | ret a => exact ⟨h, h'⟩
  | bad => exact h
  | exc c xs => exact h
  | draw n k ih => exact fun r hr => ih r (h r hr) (h' r hr)

/-- the names of a class and of its fields -/
abbrev CT := Nat → Str × List Str
/-- sources of draws: what is always true of them -/
structure BInv where
  I : (Addr → Prop) → (Addr → Prop) → Hp → Prop
  live : ∀ {B D H a}, I B D H → B a → H a ≠ none
  nt : ∀ {B D H a}, I B D H → B a → ∀ vs, H a ≠ some (.tup vs)
  top : ∀ {B D H a}, I B D H → D a → B a
  frame : ∀ {B D H H'}, I B D H → (∀ a, B a → H' a = H a) → I B D H'

/-- ghosts: what callers own, what each slot owns, the sources' addresses, the sources, self -/
structure G where
  M : Addr → Prop
  own : Nat → Option Addr
  B : Addr → Prop
  D : Addr → Prop
  S : Option Addr
def G.Av (g : G) (a : Addr) : Prop := g.M a ∨ (∃ i, g.own i = some a) ∨ g.B a

structure Gc where
  K : PySem.W.Frag
  mg : Str → Option Value
  ct : CT

/-- a tuple, a list that nobody changes -/
def TupAt (K : PySem.W.Frag) (A : Addr → Prop) (H : Hp) (a : Addr) (vs : List V) : Prop :=
  (¬ A a ∧ H a = some (.tup vs)) ∨ ∃ (o : Obj) (its : Array Value) (n : Nat), K.lookup a = some o ∧ o.cls = .type "tuple" ∧ o.data = .seq its n ∧ its.size ≤ sizeLine ∧ Vals vs its.toList ∧ vs = []
def LstAt (A : Addr → Prop) (H : Hp) (a : Addr) (vs : List V) : Prop := ¬ A a ∧ H a = some (.lst vs)
def ScrAt (K : PySem.W.Frag) (A : Addr → Prop) (H : Hp) (a : Addr) (ns : List Int) : Prop := (¬ A a ∧ Rd H a (.lst (ns.map V.int))) ∨ ((∀ H', SqL K H' a (ns.map V.int)))
theorem ScrAt.sq {K : PySem.W.Frag} {A : Addr → Prop} {H : Hp} {a : Addr} {ns : List Int} (h : ScrAt K A H a ns) : SqL K H a (ns.map V.int) := h.elim (fun z => .inl z.2) fun z => z H
theorem TupAt.sq {K : PySem.W.Frag} {A : Addr → Prop} {H : Hp} {a : Addr} {vs : List V} (h : TupAt K A H a vs) : SqT K H a vs := h.elim (fun z => .of z.2) fun ⟨o, its, n, a, b, c, d, e, _⟩ => .inr ⟨o, its, n, a, b, c, d, e⟩
theorem LstAt.sq {K : PySem.W.Frag} {A : Addr → Prop} {H : Hp} {a : Addr} {vs : List V} (h : LstAt A H a vs) : SqL K H a vs := .of h.2

mutual
def Rep (c0 : Gc) (A D : Addr → Prop) (H : Hp) : AV → V → Prop
  | .non, v => v = .non
  | .bl b, v => v = .bl b
  | .int i, v => v = .int i
  | .str s, v => v = .str s
  | .tup xs, v => ∃ a vs, v = .ref a ∧ TupAt c0.K A H a vs ∧ RepL c0 A D H xs vs
  | .lst xs, v => ∃ a vs, v = .ref a ∧ LstAt A H a vs ∧ RepL c0 A D H xs vs
  | .ins c xs, v => ∃ a C dx vs, v = .ref a ∧ ¬ A a ∧ c0.mg (c0.ct c).1 = some (.ref C) ∧ H a = some (.ins C dx ((c0.ct c).2.zip vs)) ∧ vs.length = (c0.ct c).2.length ∧ RepL c0 A D H xs vs
  | .box, v => ∃ a, v = .ref a ∧ D a
  | .scr ns, v => ∃ a, v = .ref a ∧ ScrAt c0.K A H a ns
  | .any, _ => True
def RepL (c0 : Gc) (A D : Addr → Prop) (H : Hp) : List AV → List V → Prop
  | [], vs => vs = []
  | x :: xs, vs => ∃ v r, vs = v :: r ∧ Rep c0 A D H x v ∧ RepL c0 A D H xs r
end

section
variable {c0 : Gc} {A A' D D' : Addr → Prop} {H H' : Hp}
mutual
theorem Rep.imp (hk : ∀ a o, H a = some o → ¬ A a → H' a = some o ∧ ¬ A' a) (hd : ∀ a, D a → D' a) : ∀ {t : AV} {v : V}, Rep c0 A D H t v → Rep c0 A' D' H' t v
  | .non, _, h => by rw [Rep] at h ⊢; exact h
  | .bl _, _, h => by rw [Rep] at h ⊢; exact h
  | .int _, _, h => by rw [Rep] at h ⊢; exact h
  | .str _, _, h => by rw [Rep] at h ⊢; exact h
  | .tup xs, v, h => by
    rw [Rep] at h ⊢
    obtain ⟨a, vs, e, q, r⟩ := h
    refine ⟨a, vs, e, ?_, RepL.imp hk hd r⟩
    rcases q with ⟨na, q⟩ | q
    · exact .inl ⟨(hk a _ q na).2, (hk a _ q na).1⟩
    · exact .inr q
  | .lst xs, v, h => by
    rw [Rep] at h ⊢
    obtain ⟨a, vs, e, ⟨na, q⟩, r⟩ := h
    exact ⟨a, vs, e, ⟨(hk a _ q na).2, (hk a _ q na).1⟩, RepL.imp hk hd r⟩
  | .ins c xs, v, h => by
    rw [Rep] at h ⊢
    obtain ⟨a, C, dx, vs, e, na, m, q, l, r⟩ := h
    exact ⟨a, C, dx, vs, e, (hk a _ q na).2, m, (hk a _ q na).1, l, RepL.imp hk hd r⟩
  | .box, v, h => by
    rw [Rep] at h ⊢
    obtain ⟨a, e, q⟩ := h
    exact ⟨a, e, hd a q⟩
  | .scr ns, v, h => by
    rw [Rep] at h ⊢
    obtain ⟨a, e, q⟩ := h
    refine ⟨a, e, ?_⟩
    rcases q with ⟨na, q | ⟨o, q⟩⟩ | q
    · exact .inl ⟨(hk a _ q na).2, .inl (hk a _ q na).1⟩
    · exact .inl ⟨(hk a _ q na).2, .inr ⟨o, (hk a _ q na).1⟩⟩
    · exact .inr q
  | .any, _, _ => by rw [Rep]; exact True.intro
theorem RepL.imp (hk : ∀ a o, H a = some o → ¬ A a → H' a = some o ∧ ¬ A' a) (hd : ∀ a, D a → D' a) : ∀ {xs : List AV} {vs : List V}, RepL c0 A D H xs vs → RepL c0 A' D' H' xs vs
  | [], _, h => by rw [RepL] at h ⊢; exact h
  | x :: xs, vs, h => by
    rw [RepL] at h ⊢
    obtain ⟨v, r, e, h1, h2⟩ := h
    exact ⟨v, r, e, Rep.imp hk hd h1, RepL.imp hk hd h2⟩
end
theorem RepL.length : ∀ {xs : List AV} {vs : List V}, RepL c0 A D H xs vs → vs.length = xs.length
  | [], _, h => by rw [RepL] at h; rw [h]; rfl
  | x :: xs, vs, h => by
    rw [RepL] at h
    obtain ⟨v, r, e, _, h2⟩ := h
    rw [e, List.length_cons, List.length_cons, RepL.length h2]
theorem RepL.get : ∀ {xs : List AV} {vs : List V} {i : Nat} {v : V}, RepL c0 A D H xs vs → vs[i]? = some v → ∃ x, xs[i]? = some x ∧ Rep c0 A D H x v
  | [], _, i, v, h, e => by rw [RepL] at h; rw [h] at e; simp at e
  | x :: xs, vs, i, v, h, e => by
    rw [RepL] at h
    obtain ⟨w, r, e1, h1, h2⟩ := h
    subst e1
    cases i with
    | zero => simp at e; subst e; exact ⟨x, rfl, h1⟩
    | succ i =>
      obtain ⟨y, e2, h3⟩ := RepL.get h2 (show r[i]? = some v by simpa using e)
      exact ⟨y, by simpa using e2, h3⟩
theorem RepL.get' {xs : List AV} {vs : List V} {i : Nat} {x : AV} (h : RepL c0 A D H xs vs) (e : xs[i]? = some x) : ∃ v, vs[i]? = some v ∧ Rep c0 A D H x v := by
  have hi : i < vs.length := by
    rw [h.length]
    exact (List.getElem?_eq_some_iff.mp e).1
  obtain ⟨y, e1, r⟩ := h.get (v := vs[i]) (List.getElem?_eq_getElem hi)
  rw [e] at e1
  cases e1
  exact ⟨_, List.getElem?_eq_getElem hi, r⟩
theorem RepL.append : ∀ {xs ys : List AV} {vs ws : List V}, RepL c0 A D H xs vs → RepL c0 A D H ys ws → RepL c0 A D H (xs ++ ys) (vs ++ ws)
  | [], _, _, _, h, h' => by rw [RepL] at h; rw [h]; exact h'
  | x :: xs, ys, vs, ws, h, h' => by
    rw [RepL] at h
    obtain ⟨v, r, e, h1, h2⟩ := h
    subst e
    show RepL c0 A D H (x :: (xs ++ ys)) (v :: (r ++ ws))
    rw [RepL]
    exact ⟨v, r ++ ws, rfl, h1, RepL.append h2 h'⟩
theorem RepL.nil : RepL c0 A D H [] [] := by rw [RepL]
theorem RepL.cons {x : AV} {xs : List AV} {v : V} {vs : List V} (h : Rep c0 A D H x v) (h' : RepL c0 A D H xs vs) : RepL c0 A D H (x :: xs) (v :: vs) := by
  rw [RepL]
  exact ⟨v, vs, rfl, h, h'⟩
theorem RepL.one {x : AV} {v : V} (h : Rep c0 A D H x v) : RepL c0 A D H [x] [v] := .cons h .nil
theorem RepL.of : ∀ {xs : List AV} {vs : List V}, vs.length = xs.length → (∀ (i : Nat) (x : AV) (v : V), xs[i]? = some x → vs[i]? = some v → Rep c0 A D H x v) → RepL c0 A D H xs vs
  | [], [], _, _ => .nil
  | [], _ :: _, e, _ => by simp at e
  | _ :: _, [], e, _ => by simp at e
  | x :: xs, v :: vs, e, h => .cons (h 0 x v rfl rfl) (RepL.of (by simpa using e) fun i y w e1 e2 => h (i + 1) y w (by simpa using e1) (by simpa using e2))
theorem RepL.take {xs : List AV} {vs : List V} (n : Nat) (h : RepL c0 A D H xs vs) : RepL c0 A D H (xs.take n) (vs.take n) := by
  refine .of (by rw [List.length_take, List.length_take, h.length]) fun i x v e1 e2 => ?_
  rw [List.getElem?_take] at e1 e2
  split at e1
  · rename_i hi
    rw [if_pos hi] at e2
    obtain ⟨y, e3, r⟩ := h.get e2
    rw [e1] at e3
    cases e3
    exact r
  · cases e1
theorem RepL.drop {xs : List AV} {vs : List V} (n : Nat) (h : RepL c0 A D H xs vs) : RepL c0 A D H (xs.drop n) (vs.drop n) := by
  refine .of (by rw [List.length_drop, List.length_drop, h.length]) fun i x v e1 e2 => ?_
  rw [List.getElem?_drop] at e1 e2
  obtain ⟨y, e3, r⟩ := h.get e2
  rw [e1] at e3
  cases e3
  exact r
theorem RepL.set {xs : List AV} {vs : List V} {x : AV} {v : V} (n : Nat) (h : RepL c0 A D H xs vs) (r : Rep c0 A D H x v) : RepL c0 A D H (xs.set n x) (vs.set n v) := by
  refine .of (by rw [List.length_set, List.length_set, h.length]) fun i y w e1 e2 => ?_
  by_cases hi : n = i
  · subst hi
    have h1 : n < vs.length := by
      have := (List.getElem?_eq_some_iff.mp e2).1
      rwa [List.length_set] at this
    rw [List.getElem?_set_self h1] at e2
    rw [List.getElem?_set_self (by rw [← h.length]; exact h1)] at e1
    cases e1
    cases e2
    exact r
  · rw [List.getElem?_set_ne hi] at e1 e2
    obtain ⟨z, e3, r'⟩ := h.get e2
    rw [e1] at e3
    cases e3
    exact r'
/-- ints -/
theorem RepL.ints : ∀ {ns : List Int} {vs : List V}, RepL c0 A D H (ns.map AV.int) vs → vs = ns.map V.int
  | [], _, h => by simpa [RepL] using h
  | n :: ns, vs, h => by
    rw [List.map_cons, RepL] at h
    obtain ⟨v, r, e, h1, h2⟩ := h
    rw [Rep] at h1
    rw [e, h1, RepL.ints h2]
    rfl
theorem RepL.ints' : ∀ (ns : List Int), RepL c0 A D H (ns.map AV.int) (ns.map V.int)
  | [] => .nil
  | n :: ns => .cons (by rw [Rep]) (RepL.ints' ns)
end

/-! ### slots -/
inductive Slot where
  | un | fro (t : AV) | ml (xs : List AV) | md (kd : Bool) (kvs : List (AV × AV)) | slf (c : Nat) (fs : List AV)
abbrev Env' := List Slot

/-- from one point of a run to a later one -/
structure Ext (g g' : G) (H H' : Hp) : Prop where
  keep : ∀ a o, H a = some o → (∀ i, g.own i ≠ some a) → ¬ g.B a → H' a = some o
  live : ∀ a, H a ≠ none → H' a ≠ none
  m : g'.M = g.M
  bsub : ∀ a, g.B a → g'.B a
  bnew : ∀ a, g'.B a → g.B a ∨ H a = none
  dsub : ∀ a, g.D a → g'.D a
  own : ∀ i a, g'.own i = some a → (∃ j, g.own j = some a) ∨ H a = none
  s : g'.S = g.S
theorem Ext.refl (g : G) (H : Hp) : Ext g g H H := ⟨fun _ _ h _ _ => h, fun _ h => h, rfl, fun _ h => h, fun _ h => .inl h, fun _ h => h, fun i _ h => .inl ⟨i, h⟩, rfl⟩
theorem none_back {g g' : G} {H H' : Hp} (e : Ext g g' H H') {a : Addr} (h : H' a = none) : H a = none := by
  cases q : H a with
  | none => rfl
  | some o => exact absurd h (e.live a (by rw [q]; exact fun z => by cases z))
theorem Ext.trans {g g1 g2 : G} {H H1 H2 : Hp} (e : Ext g g1 H H1) (e' : Ext g1 g2 H1 H2) : Ext g g2 H H2 where
  keep := fun a o h hn hb => by
    refine e'.keep a o (e.keep a o h hn hb) (fun i hi => ?_) fun hb' => ?_
    · rcases e.own i a hi with ⟨j, hj⟩ | hj
      · exact hn j hj
      · rw [h] at hj; cases hj
    · rcases e.bnew a hb' with z | z
      · exact hb z
      · rw [h] at z; cases z
  live := fun a h => e'.live a (e.live a h)
  m := e'.m.trans e.m
  bsub := fun a h => e'.bsub a (e.bsub a h)
  bnew := fun a h => (e'.bnew a h).elim (e.bnew a) fun z => .inr (none_back e z)
  dsub := fun a h => e'.dsub a (e.dsub a h)
  own := fun i a h => (e'.own i a h).elim (fun ⟨j, hj⟩ => e.own j a hj) fun z => .inr (none_back e z)
  s := e'.s.trans e.s
theorem Ext.av {g g' : G} {H H' : Hp} (e : Ext g g' H H') {a : Addr} {o : HO} (h : H a = some o) (na : ¬ g.Av a) : H' a = some o ∧ ¬ g'.Av a := by
  refine ⟨e.keep a o h (fun i hi => na (.inr (.inl ⟨i, hi⟩))) fun hb => na (.inr (.inr hb)), ?_⟩
  rintro (z | ⟨i, z⟩ | z)
  · exact na (.inl (by rw [← e.m]; exact z))
  · rcases e.own i a z with ⟨j, hj⟩ | hj
    · exact na (.inr (.inl ⟨j, hj⟩))
    · rw [h] at hj; cases hj
  · rcases e.bnew a z with hb | hb
    · exact na (.inr (.inr hb))
    · rw [h] at hb; cases hb
/-- what nobody changes stands -/
abbrev RepG (c0 : Gc) (g : G) (H : Hp) (t : AV) (v : V) : Prop := Rep c0 g.Av g.D H t v
abbrev RepsG (c0 : Gc) (g : G) (H : Hp) (t : List AV) (v : List V) : Prop := RepL c0 g.Av g.D H t v
theorem Ext.rep {c0 : Gc} {g g' : G} {H H' : Hp} (e : Ext g g' H H') {t : AV} {v : V} (h : RepG c0 g H t v) : RepG c0 g' H' t v := h.imp (fun _ _ q n => e.av q n) e.dsub
theorem Ext.reps {c0 : Gc} {g g' : G} {H H' : Hp} (e : Ext g g' H H') {t : List AV} {v : List V} (h : RepsG c0 g H t v) : RepsG c0 g' H' t v := h.imp (fun _ _ q n => e.av q n) e.dsub
/-- nothing but new things -/
theorem Ext.same {g : G} {H H' : Hp} (s : Same H H') : Ext g g H H' :=
  ⟨fun a o h _ _ => s a o h, fun a h => (by
    cases q : H a with
    | none => exact absurd q h
    | some o => rw [s a o q]; exact fun z => by cases z), rfl, fun _ h => h, fun _ h => .inl h, fun _ h => h, fun i _ h => .inl ⟨i, h⟩, rfl⟩

/-! ### the frame's slots -/
def KVs (c0 : Gc) (A D : Addr → Prop) (H : Hp) : List (AV × AV) → List (AV × V) → Prop
  | [], ws => ws = []
  | (k, x) :: r, ws => ∃ v ws', ws = (k, v) :: ws' ∧ Rep c0 A D H x v ∧ KVs c0 A D H r ws'
/-- a key of a dict: an int or a text; a tuple of such -/
def keyOf1 : AV → Option Key
  | .int i => some (.inl i)
  | .str s => some (.inr s)
  | _ => none
def keysOf : List AV → Option (List Key)
  | [] => some []
  | x :: xs => match keyOf1 x, keysOf xs with
    | some k, some ks => some (k :: ks)
    | _, _ => none
def keyOfT : AV → Option (List Key)
  | .tup xs => keysOf xs
  | _ => none
/-- a dict's pairs: keys of one kind -/
def DicK : List (AV × V) → List (Key × V) → Prop := Paired fun p q => keyOf1 p.1 = some q.1 ∧ p.2 = q.2
def DicT : List (AV × V) → List (List Key × V) → Prop := Paired fun p q => keyOfT p.1 = some q.1 ∧ p.2 = q.2
def slotOk (c0 : Gc) (g : G) (H : Hp) (o : Option Addr) (sv : Option (Option V)) : Slot → Prop
  | .un => o = none
  | .fro t => o = none ∧ ∃ v, sv = some (some v) ∧ RepG c0 g H t v
  | .ml xs => ∃ p vs, o = some p ∧ sv = some (some (.ref p)) ∧ H p = some (.lst vs) ∧ RepsG c0 g H xs vs
  | .md kd kvs => ∃ p ws, o = some p ∧ sv = some (some (.ref p)) ∧ KVs c0 g.Av g.D H kvs ws ∧ ((∃ us, H p = some (.dK us) ∧ DicK ws us ∧ kd = true) ∨ ∃ us, H p = some (.dT us) ∧ DicT ws us ∧ kd = false)
  | .slf c fs => ∃ p C dx vs, o = some p ∧ sv = some (some (.ref p)) ∧ c0.mg (c0.ct c).1 = some (.ref C) ∧ H p = some (.ins C dx ((c0.ct c).2.zip vs)) ∧ vs.length ≤ (c0.ct c).2.length ∧ RepsG c0 g H fs vs ∧ g.S = some p
structure Rel (c0 : Gc) (β : BInv) (g : G) (ρ : Env') (σ : L2.St) (H : Hp) : Prop where
  len : σ.length = ρ.length
  sl : ∀ (i : Nat) (s : Slot), ρ[i]? = some s → slotOk c0 g H (g.own i) σ[i]? s
  out : ∀ i, ρ.length ≤ i → g.own i = none
  inj : ∀ i j a, g.own i = some a → g.own j = some a → i = j
  alive : ∀ a, g.M a → H a ≠ none
  nt : ∀ a, g.M a → ∀ vs, H a ≠ some (.tup vs)
  sep : ∀ i a, g.own i = some a → ¬ g.M a ∧ ¬ g.B a
  mb : ∀ a, g.M a → ¬ g.B a
  box : β.I g.B g.D H
theorem KVs.imp {c0 : Gc} {A A' D D' : Addr → Prop} {H H' : Hp} (hk : ∀ a o, H a = some o → ¬ A a → H' a = some o ∧ ¬ A' a) (hd : ∀ a, D a → D' a) : ∀ {kvs : List (AV × AV)} {ws : List (AV × V)}, KVs c0 A D H kvs ws → KVs c0 A' D' H' kvs ws
  | [], _, h => h
  | (_, _) :: r, _, ⟨v, ws', e, h1, h2⟩ => ⟨v, ws', e, h1.imp hk hd, KVs.imp hk hd h2⟩
theorem Rel.ownLive {c0 : Gc} {β : BInv} {g : G} {ρ : Env'} {σ : L2.St} {H : Hp} (r : Rel c0 β g ρ σ H) {i : Nat} {a : Addr} (h : g.own i = some a) : H a ≠ none := by
  by_cases hi : i < ρ.length
  · have q := r.sl i ρ[i] (List.getElem?_eq_getElem hi)
    cases e : ρ[i] with
    | un => rw [e, h] at q; cases (show some a = none from q)
    | fro t => rw [e, h] at q; cases (show some a = none ∧ _ from q).1
    | ml xs =>
      rw [e, h] at q
      obtain ⟨p, vs, e1, _, e2, _⟩ := q
      cases e1
      rw [e2]; exact fun z => by cases z
    | md kd kvs =>
      rw [e, h] at q
      obtain ⟨p, vs, e1, _, _, ⟨us, e2, _⟩ | ⟨us, e2, _⟩⟩ := q <;> (cases e1; rw [e2]; exact fun z => by cases z)
    | slf c fs =>
      rw [e, h] at q
      obtain ⟨p, C, dx, vs, e1, _, _, e2, _⟩ := q
      cases e1
      rw [e2]; exact fun z => by cases z
  · rw [r.out i (by omega)] at h; cases h
theorem Rel.avLive {c0 : Gc} {β : BInv} {g : G} {ρ : Env'} {σ : L2.St} {H : Hp} (r : Rel c0 β g ρ σ H) {a : Addr} (h : g.Av a) : H a ≠ none := by
  rcases h with h | ⟨i, h⟩ | h
  · exact r.alive a h
  · exact r.ownLive h
  · exact β.live r.box h
theorem Rel.avNt {c0 : Gc} {β : BInv} {g : G} {ρ : Env'} {σ : L2.St} {H : Hp} (r : Rel c0 β g ρ σ H) {a : Addr} (h : g.Av a) (ws : List V) : H a ≠ some (.tup ws) := by
  rcases h with h | ⟨i, h⟩ | h
  · exact r.nt a h ws
  · by_cases hi : i < ρ.length
    · have q := r.sl i ρ[i] (List.getElem?_eq_getElem hi)
      cases e : ρ[i] with
      | un => rw [e, h] at q; cases (show some a = none from q)
      | fro t => rw [e, h] at q; cases (show some a = none ∧ _ from q).1
      | ml xs =>
        rw [e, h] at q
        obtain ⟨p, vs, e1, _, e2, _⟩ := q
        cases e1
        rw [e2]; exact fun z => by cases z
      | md kd kvs =>
        rw [e, h] at q
        obtain ⟨p, vs, e1, _, _, ⟨us, e2, _⟩ | ⟨us, e2, _⟩⟩ := q <;> (cases e1; rw [e2]; exact fun z => by cases z)
      | slf c fs =>
        rw [e, h] at q
        obtain ⟨p, C, dx, vs, e1, _, _, e2, _⟩ := q
        cases e1
        rw [e2]; exact fun z => by cases z
    · rw [r.out i (by omega)] at h; cases h
  · exact β.nt r.box h ws
/-- behind what leaves the frame's own things and gives the sources new ones: the slots stand -/
theorem Rel.step {c0 : Gc} {β : BInv} {g g' : G} {ρ : Env'} {σ : L2.St} {H H' : Hp} (r : Rel c0 β g ρ σ H) (e : Ext g g' H H') (ho : g'.own = g.own) (hk : ∀ i a o, g.own i = some a → H a = some o → H' a = some o) (hb : β.I g'.B g'.D H') : Rel c0 β g' ρ σ H' where
  len := r.len
  sl := fun i s hs => by
    have q := r.sl i s hs
    rw [ho]
    have hk' := fun a o (q : H a = some o) n => e.av q n
    cases s with
    | un => exact q
    | fro t => obtain ⟨a, v, b, c⟩ := q; exact ⟨a, v, b, e.rep c⟩
    | ml xs => obtain ⟨p, vs, e1, e2, e3, e4⟩ := q; exact ⟨p, vs, e1, e2, hk i p _ e1 e3, e.reps e4⟩
    | md kd kvs =>
      obtain ⟨p, ws, e1, e2, e3, e4⟩ := q
      refine ⟨p, ws, e1, e2, e3.imp hk' e.dsub, ?_⟩
      rcases e4 with ⟨us, e4, e5⟩ | ⟨us, e4, e5⟩
      · exact .inl ⟨us, hk i p _ e1 e4, e5⟩
      · exact .inr ⟨us, hk i p _ e1 e4, e5⟩
    | slf c fs => obtain ⟨p, C, dx, vs, e1, e2, e3, e4, e5, e6, e7⟩ := q; exact ⟨p, C, dx, vs, e1, e2, e3, hk i p _ e1 e4, e5, e.reps e6, e.s.trans e7⟩
  out := fun i h => by rw [ho]; exact r.out i h
  inj := fun i j a h1 h2 => r.inj i j a (by rw [← ho]; exact h1) (by rw [← ho]; exact h2)
  alive := fun a h => e.live a (r.alive a (by rw [← e.m]; exact h))
  nt := fun a h vs z => by
    rw [e.m] at h
    cases q : H a with
    | none => exact r.alive a h q
    | some o =>
      have k := e.keep a o q (fun i hi => (r.sep i a hi).1 h) (r.mb a h)
      rw [k] at z
      cases z
      exact r.nt a h vs q
  sep := fun i a h => by
    rw [ho] at h
    refine ⟨by rw [e.m]; exact (r.sep i a h).1, fun hb' => ?_⟩
    rcases e.bnew a hb' with z | z
    · exact (r.sep i a h).2 z
    · exact r.ownLive h z
  mb := fun a h hb' => by
    rw [e.m] at h
    rcases e.bnew a hb' with z | z
    · exact r.mb a h z
    · exact r.alive a h z
  box := hb
/-- only new things -/
theorem Rel.same {c0 : Gc} {β : BInv} {g : G} {ρ : Env'} {σ : L2.St} {H H' : Hp} (r : Rel c0 β g ρ σ H) (s : Same H H') : Rel c0 β g ρ σ H' :=
  r.step (Ext.same s) rfl (fun _ _ _ _ h => s _ _ h) (β.frame r.box fun a h => by
    cases q : H a with
    | none => exact absurd q (β.live r.box h)
    | some o => exact s a o q)
end Dn

set_option Elab.async false
set_option linter.all false
set_option maxRecDepth 100000
namespace Dn
open PySem PySem.Spec PyProof.Rows L2

/-- what an expression hands on: a tree, or the slot that it names (read when it is used) -/
inductive Hd where
  | val (t : AV) | var (j : Nat)
abbrev Sem := Env' → T (Hd × Env')
abbrev SemL := Env' → T (List AV × Env')
abbrev SemB := Env' → T (Bool × Env')
/-- what a slot holds -/
def look (ρ : Env') (j : Nat) : Option AV := match ρ[j]? with
  | some (.fro t) => some t
  | some (.ml xs) => some (.lst xs)
  | _ => none
def rs : Hd → Env' → Option AV
  | .val t, _ => some t
  | .var j, ρ => look ρ j
/-- it is handed on for good: whoever owns it owns it no more -/
def frz : Hd × Env' → T (AV × Env')
  | (.val t, ρ) => .ret (t, ρ)
  | (.var j, ρ) => match ρ[j]? with
    | some (.fro t) => .ret (t, ρ)
    | some (.ml xs) => .ret (.lst xs, ρ.set j (.fro (.lst xs)))
    | _ => .bad
def lift {α : Type} : Option α → T α
  | some a => .ret a
  | none => .bad

abbrev gc (X : Cx) (ct : CT) : Gc := ⟨X.K, X.mg, ct⟩

section
variable (c0 : Gc) (β : BInv) (Ex : XK)
/-- a run from here: its ends, its exceptions -/
def okT {α : Type} (g : G) (H : Hp) (m : T α) (Q : G → Hp → α → Prop) : Prop :=
  m.all (fun a => ∀ g' H', Ext g g' H H' → Q g' H' a) fun c xs => ∀ g' H' C d vs, Ext g g' H H' → β.I g'.B g'.D H' → c0.mg (c0.ct c).1 = some (.ref C) → H' d = some (.xd ((c0.ct c).2.zip vs)) → vs.length = (c0.ct c).2.length → RepsG c0 g' H' xs vs → Ex (.ref C) (some d) H'
def RepH (g : G) (σ : L2.St) (H : Hp) : Hd → V → Prop
  | .val t, v => RepG c0 g H t v
  | .var j, v => σ[j]? = some (some v)
/-- a value that is read at once: a tree, or a list that a slot owns -/
def RepR (g : G) (H : Hp) (t : AV) (v : V) : Prop :=
  RepG c0 g H t v ∨ ∃ xs p vs, t = .lst xs ∧ v = .ref p ∧ (∃ i, g.own i = some p) ∧ H p = some (.lst vs) ∧ RepsG c0 g H xs vs
def rdE (f : Sem) : TE := fun σ H Q => ∃ g ρ, Rel c0 β g ρ σ H ∧ okT c0 β Ex g H (f ρ) fun g' H' p => ∀ v, Rel c0 β g' p.2 σ H' → RepH c0 g' σ H' p.1 v → Q v H'
def rdL (f : SemL) : TA := fun σ H Q => ∃ g ρ, Rel c0 β g ρ σ H ∧ okT c0 β Ex g H (f ρ) fun g' H' p => ∀ vs, Rel c0 β g' p.2 σ H' → RepsG c0 g' H' p.1 vs → Q vs H'
def rdB (f : SemB) : TT := fun σ H Q => ∃ g ρ, Rel c0 β g ρ σ H ∧ okT c0 β Ex g H (f ρ) fun g' H' p => Rel c0 β g' p.2 σ H' → Q p.1 H'
end
section
variable {c0 : Gc} {β : BInv} {Ex : XK} {α γ : Type} {g : G} {H : Hp} {σ : L2.St} {ρ : Env'}
theorem okT_bind {m : T α} {k : α → T γ} {Q : G → Hp → γ → Prop} (h : okT c0 β Ex g H (m.bind k) Q) : okT c0 β Ex g H m fun g1 H1 a => okT c0 β Ex g1 H1 (k a) Q :=
  T.all_mono (T.all_bind.mp h) (fun a q g1 H1 e => T.all_mono q (fun b q g2 H2 e2 => q g2 H2 (e.trans e2)) fun c xs q g' H' C d vs e2 => q g' H' C d vs (e.trans e2)) fun _ _ q => q
theorem okT_mono {m : T α} {Q Q' : G → Hp → α → Prop} (h : okT c0 β Ex g H m Q) (hQ : ∀ g' H' a, Ext g g' H H' → Q g' H' a → Q' g' H' a) : okT c0 β Ex g H m Q' :=
  T.all_mono h (fun a q g' H' e => hQ g' H' a e (q g' H' e)) fun _ _ q => q
theorem okT_ret {a : α} {Q : G → Hp → α → Prop} (h : okT c0 β Ex g H (.ret a) Q) : Q g H a := h g H (Ext.refl g H)
theorem okT_ret' {a : α} {Q : G → Hp → α → Prop} (h : okT c0 β Ex g H (.ret a) Q) {g' : G} {H' : Hp} (e : Ext g g' H H') : Q g' H' a := h g' H' e
theorem okT_lift {o : Option α} {k : α → T γ} {Q : G → Hp → γ → Prop} (h : okT c0 β Ex g H ((lift o).bind k) Q) : ∃ a, o = some a ∧ okT c0 β Ex g H (k a) Q := by
  cases o with
  | none => exact (show False from h).elim
  | some a => exact ⟨a, rfl, h⟩
theorem RepH.ext {g' : G} {H' : Hp} {h : Hd} {v : V} (e : Ext g g' H H') (r : RepH c0 g σ H h v) : RepH c0 g' σ H' h v := by
  cases h with
  | val t => exact e.rep r
  | var j => exact r
theorem Rel.look {j : Nat} {t : AV} {v : V} (r : Rel c0 β g ρ σ H) (hl : look ρ j = some t) (hv : σ[j]? = some (some v)) : RepR c0 g H t v := by
  unfold Dn.look at hl
  cases hs : ρ[j]? with
  | none => rw [hs] at hl; cases hl
  | some s =>
    have q := r.sl j s hs
    rw [hs] at hl
    cases s with
    | un => cases hl
    | fro u =>
      cases hl
      obtain ⟨_, w, e, rp⟩ := q
      rw [hv] at e
      cases e
      exact .inl rp
    | ml xs =>
      cases hl
      obtain ⟨p, vs, e1, e2, e3, e4⟩ := q
      rw [hv] at e2
      cases e2
      exact .inr ⟨xs, p, vs, rfl, rfl, ⟨j, e1⟩, e3, e4⟩
    | md kd kvs => cases hl
    | slf c fs => cases hl
theorem RepH.rs {h : Hd} {t : AV} {v : V} (r : Rel c0 β g ρ σ H) (rh : RepH c0 g σ H h v) (hr : rs h ρ = some t) : RepR c0 g H t v := by
  cases h with
  | val u => cases hr; exact .inl rh
  | var j => exact r.look hr rh
/-- a slot that owns nothing more -/
def G.no (g : G) (j : Nat) : G := { g with own := fun i => if i = j then none else g.own i }
theorem ext_no (g : G) (j : Nat) (H : Hp) : Ext g (g.no j) H H := ⟨fun _ _ h _ _ => h, fun _ h => h, rfl, fun _ h => h, fun _ h => .inl h, fun _ h => h, fun i a h => by
  unfold G.no at h
  simp only at h
  split at h
  · cases h
  · exact .inl ⟨i, h⟩, rfl⟩
theorem slotOk_ext {g' : G} {H' : Hp} {o : Option Addr} {sv : Option (Option V)} {s : Slot} (e : Ext g g' H H') (hk : ∀ a ob, o = some a → H a = some ob → H' a = some ob) (q : slotOk c0 g H o sv s) : slotOk c0 g' H' o sv s := by
  cases s with
  | un => exact q
  | fro t => obtain ⟨a, v, b, c⟩ := q; exact ⟨a, v, b, e.rep c⟩
  | ml xs => obtain ⟨p, vs, e1, e2, e3, e4⟩ := q; exact ⟨p, vs, e1, e2, hk p _ e1 e3, e.reps e4⟩
  | md kd kvs =>
    obtain ⟨p, ws, e1, e2, e3, e4⟩ := q
    refine ⟨p, ws, e1, e2, e3.imp (fun _ _ q n => e.av q n) e.dsub, ?_⟩
    rcases e4 with ⟨us, e4, e5⟩ | ⟨us, e4, e5⟩
    · exact .inl ⟨us, hk p _ e1 e4, e5⟩
    · exact .inr ⟨us, hk p _ e1 e4, e5⟩
  | slf c fs => obtain ⟨p, C, dx, vs, e1, e2, e3, e4, e5, e6, e7⟩ := q; exact ⟨p, C, dx, vs, e1, e2, e3, hk p _ e1 e4, e5, e.reps e6, e.s.trans e7⟩
/-- the frame behind a store at slot j (σ' agrees elsewhere), the slot owning o -/
theorem Rel.put {g' : G} {H' : Hp} {σ' : L2.St} {j : Nat} {s : Slot} (r : Rel c0 β g ρ σ H) (e : Ext g g' H H') (hl : σ'.length = σ.length) (hs : ∀ i, i ≠ j → σ'[i]? = σ[i]?) (hj : j < ρ.length)
    (ho : ∀ i, i ≠ j → g'.own i = g.own i) (hk : ∀ i a o, i ≠ j → g.own i = some a → H a = some o → H' a = some o) (hb : β.I g'.B g'.D H')
    (hn : slotOk c0 g' H' (g'.own j) σ'[j]? s) (hsep : ∀ a, g'.own j = some a → ¬ g'.M a ∧ ¬ g'.B a ∧ ∀ i, i ≠ j → g.own i ≠ some a) : Rel c0 β g' (ρ.set j s) σ' H' where
  len := by rw [hl, List.length_set]; exact r.len
  sl := fun i u hi => by
    by_cases hij : i = j
    · subst hij
      rw [List.getElem?_set_self hj] at hi
      cases hi
      exact hn
    · rw [List.getElem?_set_ne (Ne.symm hij)] at hi
      rw [hs i hij, ho i hij]
      exact slotOk_ext e (fun a o h1 h2 => hk i a o hij h1 h2) (r.sl i u hi)
  out := fun i hi => by
    rw [List.length_set] at hi
    rw [ho i (by omega)]
    exact r.out i hi
  inj := fun i k a h1 h2 => by
    by_cases hi : i = j
    · by_cases hk' : k = j
      · rw [hi, hk']
      · subst hi
        rw [ho k hk'] at h2
        exact absurd h2 ((hsep a h1).2.2 k hk')
    · by_cases hk' : k = j
      · subst hk'
        rw [ho i hi] at h1
        exact absurd h1 ((hsep a h2).2.2 i hi)
      · rw [ho i hi] at h1
        rw [ho k hk'] at h2
        exact r.inj i k a h1 h2
  alive := fun a h => e.live a (r.alive a (by rw [← e.m]; exact h))
  nt := fun a h vs z => by
    rw [e.m] at h
    cases q : H a with
    | none => exact r.alive a h q
    | some o =>
      have k := e.keep a o q (fun i hi => (r.sep i a hi).1 h) (r.mb a h)
      rw [k] at z
      cases z
      exact r.nt a h vs q
  sep := fun i a h => by
    by_cases hi : i = j
    · subst hi
      exact ⟨(hsep a h).1, (hsep a h).2.1⟩
    · rw [ho i hi] at h
      refine ⟨by rw [e.m]; exact (r.sep i a h).1, fun hb' => ?_⟩
      rcases e.bnew a hb' with z | z
      · exact (r.sep i a h).2 z
      · exact r.ownLive h z
  mb := fun a h hb' => by
    rw [e.m] at h
    rcases e.bnew a hb' with z | z
    · exact r.mb a h z
    · exact r.alive a h z
  box := hb
theorem own_no {g : G} {j : Nat} : (g.no j).own j = none := by simp [G.no]
theorem own_no_ne {g : G} {i j : Nat} (h : i ≠ j) : (g.no j).own i = g.own i := by simp [G.no, h]
/-- frozen -/
theorem frz_ok {p : Hd × Env'} {v : V} {k : AV × Env' → T γ} {Q : G → Hp → γ → Prop} (r : Rel c0 β g p.2 σ H) (rh : RepH c0 g σ H p.1 v) (h : okT c0 β Ex g H ((frz p).bind k) Q) :
    ∃ g' q, Ext g g' H H ∧ Rel c0 β g' q.2 σ H ∧ RepG c0 g' H q.1 v ∧ okT c0 β Ex g' H (k q) Q := by
  obtain ⟨hd, ρ⟩ := p
  cases hd with
  | val t => exact ⟨g, (t, ρ), .refl g H, r, rh, h⟩
  | var j =>
    have hv : σ[j]? = some (some v) := rh
    have r : Rel c0 β g ρ σ H := r
    cases hs : ρ[j]? with
    | none => simp only [frz, hs] at h; exact (show False from h).elim
    | some s =>
      have q := r.sl j s hs
      simp only [frz, hs] at h
      cases s with
      | un => exact (show False from h).elim
      | fro u =>
        obtain ⟨_, w, e, rp⟩ := q
        rw [hv] at e
        cases e
        exact ⟨g, (u, ρ), .refl g H, r, rp, h⟩
      | ml xs =>
        obtain ⟨p, vs, e1, e2, e3, e4⟩ := q
        rw [hv] at e2
        cases e2
        have E := ext_no g j H
        have rp : RepG c0 (g.no j) H (.lst xs) (.ref p) := by
          rw [RepG, Rep]
          refine ⟨p, vs, rfl, ⟨?_, e3⟩, E.reps e4⟩
          rintro (z | ⟨i, z⟩ | z)
          · exact (r.sep j p e1).1 z
          · by_cases hi : i = j
            · subst hi; rw [own_no] at z; cases z
            · rw [own_no_ne hi] at z
              exact hi (r.inj i j p z e1)
          · exact (r.sep j p e1).2 z
        refine ⟨g.no j, (.lst xs, ρ.set j (.fro (.lst xs))), E, ?_, rp, ?_⟩
        · refine r.put E rfl (fun _ _ => rfl) (List.getElem?_eq_some_iff.mp hs).1 (fun i hi => own_no_ne hi) (fun _ _ _ _ _ h => h) r.box ?_ fun a h => by rw [own_no] at h; cases h
          rw [own_no]
          exact ⟨rfl, .ref p, hv, rp⟩
        · exact T.all_mono h (fun a q g' H' e => q g' H' (E.trans e)) fun c xs q g' H' C d vs e2 => q g' H' C d vs (E.trans e2)
      | md kd kvs => exact (show False from h).elim
      | slf c fs => exact (show False from h).elim
end

/-! ### judgements -/
section
variable (X : Cx) (ct : CT) (β : BInv) (Ex : XK)
def JE (e : Expr) (f : Sem) : Prop := PE X e (rdE (gc X ct) β Ex f)
def JL (es : List Expr) (f : SemL) : Prop := PA X es (rdL (gc X ct) β Ex f)
def JT (e : Expr) (f : SemB) : Prop := PT X e (rdB (gc X ct) β Ex f)
end
theorem PE.imp {X : Cx} {e : Expr} {t t' : TE} (h : PE X e t) (i : ∀ σ H Q, t' σ H Q → t σ H Q) : PE X e t' := ⟨fun pins s σ H Q I q => h.run pins s σ H Q I (i σ H Q q)⟩
theorem PT.imp {X : Cx} {e : Expr} {t t' : TT} (h : PT X e t) (i : ∀ σ H Q, t' σ H Q → t σ H Q) : PT X e t' := ⟨fun pins s σ H Q I q => h.run pins s σ H Q I (i σ H Q q)⟩
theorem PW.imp {X : Cx} {e : Expr} {t t' : TT} (h : PW X e t) (i : ∀ σ H Q, t' σ H Q → t σ H Q) : PW X e t' := ⟨fun wh pins s σ H Q I q => h.run wh pins s σ H Q I (i σ H Q q)⟩
theorem PA.imp {X : Cx} {e : List Expr} {t t' : TA} (h : PA X e t) (i : ∀ σ H Q, t' σ H Q → t σ H Q) : PA X e t' := ⟨fun pos pins s σ H Q I q => h.run pos pins s σ H Q I (i σ H Q q)⟩

/-! ### names, constants -/
def fVar (j : Nat) : Sem := fun ρ => match ρ[j]? with
  | some .un => .bad
  | some _ => .ret (.var j, ρ)
  | none => .bad
def fC (t : AV) : Sem := fun ρ => .ret (.val t, ρ)
section
variable {X : Cx} {ct : CT} {β : BInv} {Ex : XK}
theorem Rel.val {c0 : Gc} {g : G} {ρ : Env'} {σ : L2.St} {H : Hp} {j : Nat} {s : Slot} (r : Rel c0 β g ρ σ H) (h : ρ[j]? = some s) (hu : s ≠ .un) : ∃ v, σ[j]? = some (some v) := by
  have q := r.sl j s h
  cases s with
  | un => exact absurd rfl hu
  | fro t => obtain ⟨_, v, e, _⟩ := q; exact ⟨v, e⟩
  | ml xs => obtain ⟨p, vs, _, e, _⟩ := q; exact ⟨_, e⟩
  | md kd kvs => obtain ⟨p, vs, _, e, _⟩ := q; exact ⟨_, e⟩
  | slf c fs => obtain ⟨p, C, dx, vs, _, e, _⟩ := q; exact ⟨_, e⟩
theorem j_var (j : Nat) {x : Str} {pos : Pos} (hN : X.N[j]? = some x := by rfl) (hv : Vis X.env.scope x := by first | exact Or.inl rfl | exact Or.inr (Or.inl rfl) | exact Or.inr (Or.inr rfl)) (hd : (x == ("__debug__" : Str)) = false := by decide +kernel)
    (hcd : (x == ("__classdict__" : Str)) = false := by decide +kernel) : JE X ct β Ex (.Name x pos) (fVar j) := by
  refine PE.imp (pe_var (i := j) hN hv hd hcd) fun σ H Q h => ?_
  obtain ⟨g, ρ, r, h⟩ := h
  unfold fVar at h
  cases hs : ρ[j]? with
  | none => rw [hs] at h; exact (show False from h).elim
  | some s =>
    rw [hs] at h
    by_cases hu : s = .un
    · subst hu; exact (show False from h).elim
    · obtain ⟨v, e⟩ := r.val hs hu
      have h' : okT (gc X ct) β Ex g H (.ret (Hd.var j, ρ)) fun g' H' p => ∀ v, Rel (gc X ct) β g' p.2 σ H' → RepH (gc X ct) g' σ H' p.1 v → Q v H' := by
        cases s <;> first | exact h | exact absurd rfl hu
      exact ⟨v, e, okT_ret h' v r e⟩
theorem j_c {t : AV} {v : V} {e : Expr} (h : PE X e (tC v)) (hr : ∀ g H, RepG (gc X ct) g H t v) : JE X ct β Ex e (fC t) := by
  refine PE.imp h fun σ H Q h => ?_
  obtain ⟨g, ρ, r, h⟩ := h
  exact okT_ret h v r (hr g H)
theorem j_int {i j pos} : JE X ct β Ex (.Constant (.int i) j pos) (fC (.int i)) := j_c pe_int fun _ _ => by rw [RepG, Rep]
theorem j_bl {i j pos} : JE X ct β Ex (.Constant (.bool i) j pos) (fC (.bl i)) := j_c pe_bl fun _ _ => by rw [RepG, Rep]
theorem j_non {j pos} : JE X ct β Ex (.Constant .none j pos) (fC .non) := j_c pe_non fun _ _ => by rw [RepG, Rep]
theorem j_str {i j pos} : JE X ct β Ex (.Constant (.str i) j pos) (fC (.str i)) := j_c pe_str fun _ _ => by rw [RepG, Rep]

/-! ### two-place operations -/
def fBin (op : AV → AV → Option AV) (f k : Sem) : Sem := fun ρ => (f ρ).bind fun p => (k p.2).bind fun q => (lift (rs p.1 q.2)).bind fun a => (lift (rs q.1 q.2)).bind fun b => (lift (op a b)).bind fun z => .ret (.val z, q.2)
/-- the rule serves the operation -/
def Op2 (X : Cx) (ct : CT) (r : R2) (op : AV → AV → Option AV) : Prop := ∀ (g : G) (H : Hp) (a b z : AV) (x y : V) (Q : VK), RepR (gc X ct) g H a x → RepR (gc X ct) g H b y → op a b = some z →
  (∀ v H', Same H H' → RepG (gc X ct) g H' z v → Q v H') → r x y H Q
theorem fBin_ok {r : R2} {op : AV → AV → Option AV} {f k : Sem} (hop : Op2 X ct r op) {σ : L2.St} {H : Hp} {Q : VK} (h : rdE (gc X ct) β Ex (fBin op f k) σ H Q) :
    rdE (gc X ct) β Ex f σ H fun x H1 => rdE (gc X ct) β Ex k σ H1 fun y H2 => r x y H2 Q := by
  obtain ⟨g, ρ, R, h⟩ := h
  refine ⟨g, ρ, R, okT_mono (okT_bind h) fun g1 H1 p e1 h1 x R1 rx => ⟨g1, p.2, R1, okT_mono (okT_bind h1) fun g2 H2 q e2 h2 y R2 ry => ?_⟩⟩
  obtain ⟨a, ea, h3⟩ := okT_lift h2
  obtain ⟨b, eb, h4⟩ := okT_lift h3
  obtain ⟨z, ez, h5⟩ := okT_lift h4
  refine hop g2 H2 a b z x y Q ((rx.ext e2).rs R2 ea) (ry.rs R2 eb) ez fun v H' s rv => ?_
  exact okT_ret' h5 (Ext.same s) v (R2.same s) rv
theorem j_bin {op : Operator} {r : R2} {o : AV → AV → Option AV} {a b : Expr} {f k : Sem} {pos : Pos} (ho : OpR X (binaryOp op) r) (hop : Op2 X ct r o) (ha : JE X ct β Ex a f) (hb : JE X ct β Ex b k) : JE X ct β Ex (.BinOp a op b pos) (fBin o f k) :=
  PE.imp (pe_op ho ha hb) fun σ H Q h => fBin_ok hop h
theorem j_cmp {op : CmpOp} {r : R2} {o : AV → AV → Option AV} {a b : Expr} {f k : Sem} {pos : Pos} (ho : OpR X (compareOp op) r) (hop : Op2 X ct r o) (ha : JE X ct β Ex a f) (hb : JE X ct β Ex b k) (hm : behindInMarks op b = false) :
    JE X ct β Ex (.Compare a [op] [b] pos) (fBin o f k) := PE.imp (pe_cmpR ho ha hb hm) fun σ H Q h => fBin_ok hop h
/-! ### one-place operations -/
def fUn (op : AV → Option AV) (f : Sem) : Sem := fun ρ => (f ρ).bind fun p => (lift (rs p.1 p.2)).bind fun a => (lift (op a)).bind fun z => .ret (.val z, p.2)
def Op1 (X : Cx) (ct : CT) (r : V → Hp → VK → Prop) (op : AV → Option AV) : Prop := ∀ (g : G) (H : Hp) (a z : AV) (x : V) (Q : VK), RepR (gc X ct) g H a x → op a = some z →
  (∀ v H', Same H H' → RepG (gc X ct) g H' z v → Q v H') → r x H Q
theorem fUn_ok {r : V → Hp → VK → Prop} {op : AV → Option AV} {f : Sem} (hop : Op1 X ct r op) {σ : L2.St} {H : Hp} {Q : VK} (h : rdE (gc X ct) β Ex (fUn op f) σ H Q) :
    rdE (gc X ct) β Ex f σ H fun x H1 => r x H1 Q := by
  obtain ⟨g, ρ, R, h⟩ := h
  refine ⟨g, ρ, R, okT_mono (okT_bind h) fun g1 H1 p e1 h1 x R1 rx => ?_⟩
  obtain ⟨a, ea, h3⟩ := okT_lift h1
  obtain ⟨z, ez, h5⟩ := okT_lift h3
  refine hop g1 H1 a z x Q (rx.rs R1 ea) ez fun v H' s rv => ?_
  exact okT_ret' h5 (Ext.same s) v (R1.same s) rv
theorem j_un {op : UnaryOp} {r : V → Hp → VK → Prop} {o : AV → Option AV} {a : Expr} {f : Sem} {pos : Pos} (ho : UnR X (unaryOp op) r) (hop : Op1 X ct r o) (ha : JE X ct β Ex a f) : JE X ct β Ex (.UnaryOp op a pos) (fUn o f) :=
  PE.imp (pe_un ho ha) fun σ H Q h => fUn_ok hop h
end
end Dn

set_option Elab.async false
set_option linter.all false
set_option maxRecDepth 100000
namespace Dn
open PySem PySem.Spec PyProof.Rows L2

/-! ### reading what is there -/
section
variable {c0 : Gc} {g : G} {H : Hp} {t : AV} {v : V}
theorem RepR.non (h : RepR c0 g H .non v) : v = .non := by
  rcases h with h | ⟨xs, p, vs, e, _⟩
  · rw [RepG, Rep] at h; exact h
  · cases e
theorem RepR.bl {b : Bool} (h : RepR c0 g H (.bl b) v) : v = .bl b := by
  rcases h with h | ⟨xs, p, vs, e, _⟩
  · rw [RepG, Rep] at h; exact h
  · cases e
theorem RepR.int {i : Int} (h : RepR c0 g H (.int i) v) : v = .int i := by
  rcases h with h | ⟨xs, p, vs, e, _⟩
  · rw [RepG, Rep] at h; exact h
  · cases e
theorem RepR.str {i : Str} (h : RepR c0 g H (.str i) v) : v = .str i := by
  rcases h with h | ⟨xs, p, vs, e, _⟩
  · rw [RepG, Rep] at h; exact h
  · cases e
theorem RepR.tup {xs : List AV} (h : RepR c0 g H (.tup xs) v) : ∃ a vs, v = .ref a ∧ SqT c0.K H a vs ∧ RepsG c0 g H xs vs := by
  rcases h with h | ⟨ys, p, vs, e, _⟩
  · rw [RepG, Rep] at h
    obtain ⟨a, vs, e, q, r⟩ := h
    exact ⟨a, vs, e, q.sq, r⟩
  · cases e
theorem RepR.lst' {xs : List AV} (h : RepR c0 g H (.lst xs) v) : ∃ a vs, v = .ref a ∧ H a = some (.lst vs) ∧ RepsG c0 g H xs vs := by
  rcases h with h | ⟨ys, p, vs, e, e2, _, e3, r⟩
  · rw [RepG, Rep] at h
    obtain ⟨a, vs, e, q, r⟩ := h
    exact ⟨a, vs, e, q.2, r⟩
  · cases e
    exact ⟨p, vs, e2, e3, r⟩
theorem RepR.lst {xs : List AV} (h : RepR c0 g H (.lst xs) v) : ∃ a vs, v = .ref a ∧ SqL c0.K H a vs ∧ RepsG c0 g H xs vs :=
  let ⟨a, vs, e, q, r⟩ := h.lst'
  ⟨a, vs, e, .of q, r⟩
theorem RepR.ins {c : Nat} {xs : List AV} (h : RepR c0 g H (.ins c xs) v) : RepG c0 g H (.ins c xs) v := by
  rcases h with h | ⟨ys, p, vs, e, _⟩
  · exact h
  · cases e
theorem rep_non : RepG c0 g H .non .non := by rw [RepG, Rep]
theorem rep_bl {b : Bool} : RepG c0 g H (.bl b) (.bl b) := by rw [RepG, Rep]
theorem rep_int {i : Int} : RepG c0 g H (.int i) (.int i) := by rw [RepG, Rep]
theorem rep_str {i : Str} : RepG c0 g H (.str i) (.str i) := by rw [RepG, Rep]
/-- a new tuple, a new list -/
theorem rep_tup_new {H' : Hp} {p : Addr} {xs : List AV} {vs : List V} (hp : ¬ g.Av p) (e : H' p = some (.tup vs)) (r : RepsG c0 g H' xs vs) : RepG c0 g H' (.tup xs) (.ref p) := by
  rw [RepG, Rep]
  exact ⟨p, vs, rfl, .inl ⟨hp, e⟩, r⟩
theorem rep_lst_new {H' : Hp} {p : Addr} {xs : List AV} {vs : List V} (hp : ¬ g.Av p) (e : H' p = some (.lst vs)) (r : RepsG c0 g H' xs vs) : RepG c0 g H' (.lst xs) (.ref p) := by
  rw [RepG, Rep]
  exact ⟨p, vs, rfl, ⟨hp, e⟩, r⟩
theorem same_upd {H : Hp} {p : Addr} {o : HO} (h : H p = none) : Same H (upd H p o) := fun b x e => by
  rw [upd_ne (ne_of_none e h)]
  exact e
end

/-! ### truth, tests -/
def big : Nat := 1000000
/-- within k bits (not looked into when terms are compared) -/
@[irreducible] def below (j : Int) (k : Nat) : Bool := decide (j.natAbs < 2 ^ k)
theorem below_iff {j : Int} {k : Nat} : below j k = true ↔ j.natAbs < 2 ^ k := by
  unfold below
  exact decide_eq_true_iff
theorem below_of {j : Int} {k : Nat} (h : j.natAbs < 2 ^ k) : below j k = true := below_iff.mpr h
theorem below62 {j : Int} (h : below j 62 = true) : -(2 ^ 62) ≤ j ∧ j < 2 ^ 62 := by
  have := below_iff.mp h
  omega
theorem big_line : big ≤ sizeLine := by rw [sizeLine_eq]; decide
def tru : AV → Option Bool
  | .non => some false
  | .bl b => some b
  | .int i => some (i != 0)
  | .str s => if s.length ≤ big then some ((s.length : Int) != 0) else none
  | .tup xs => some (!xs.isEmpty)
  | .lst xs => some (!xs.isEmpty)
  | _ => none
theorem isEmpty_reps {c0 : Gc} {A D : Addr → Prop} {H : Hp} {xs : List AV} {vs : List V} (h : RepL c0 A D H xs vs) : vs.isEmpty = xs.isEmpty := by
  have e := h.length
  cases xs <;> cases vs <;> first | rfl | simp at e
theorem tru_okV {c0 : Gc} {g : G} {H : Hp} {t : AV} {v : V} {b : Bool} (h : RepR c0 g H t v) (e : tru t = some b) : TruV c0.K v H b := by
  cases t with
  | non => cases e; rw [h.non]; rfl
  | bl _ => cases e; rw [h.bl]; rfl
  | int _ => cases e; rw [h.int]; rfl
  | str s =>
    rw [h.str]
    have e' : (if s.length ≤ big then some ((s.length : Int) != 0) else none) = some b := e
    by_cases hs : s.length ≤ big
    · rw [if_pos hs] at e'
      cases e'
      exact ⟨Nat.le_trans hs big_line, rfl⟩
    · rw [if_neg hs] at e'
      cases e'
  | tup xs =>
    cases e
    obtain ⟨a, vs, rfl, q, r⟩ := h.tup
    exact .inr (.inl ⟨vs, q, by rw [isEmpty_reps r]⟩)
  | lst xs =>
    cases e
    obtain ⟨a, vs, rfl, q, r⟩ := h.lst
    exact .inl ⟨vs, q, by rw [isEmpty_reps r]⟩
  | ins _ _ => cases e
  | box => cases e
  | scr _ => cases e
  | any => cases e
def fTru (f : Sem) : SemB := fun ρ => (f ρ).bind fun p => (lift (rs p.1 p.2)).bind fun a => (lift (tru a)).bind fun b => .ret (b, p.2)
def blOf : AV → Option Bool
  | .bl b => some b
  | _ => none
def fBlT (f : Sem) : SemB := fun ρ => (f ρ).bind fun p => (lift (rs p.1 p.2)).bind fun a => (lift (blOf a)).bind fun b => .ret (b, p.2)
section
variable {X : Cx} {ct : CT} {β : BInv} {Ex : XK} {a b c : Expr} {f k l : Sem} {fb kb : SemB} {pos : Pos}
theorem jt_truth (ha : JE X ct β Ex a f) (he : ∀ whole, isTrue a X.env whole = (do let v ← whole; standAt a.pos; holding [v] (truthy v)) := by intro _; rfl) : JT X ct β Ex a (fTru f) := by
  refine PT.imp (pt_truth ha he) fun σ H Q h => ?_
  obtain ⟨g, ρ, R, h⟩ := h
  refine ⟨g, ρ, R, okT_mono (okT_bind h) fun g1 H1 p e1 h1 x R1 rx => ?_⟩
  obtain ⟨u, eu, h2⟩ := okT_lift h1
  obtain ⟨d, ed, h3⟩ := okT_lift h2
  exact ⟨d, tru_okV (rx.rs R1 eu) ed, okT_ret h3 R1⟩
theorem fBlT_ok {σ : L2.St} {H : Hp} {Q : Bool → Hp → Prop} (h : rdB (gc X ct) β Ex (fBlT f) σ H Q) : rdE (gc X ct) β Ex f σ H fun x H1 => ∃ k, x = .bl k ∧ Q k H1 := by
  obtain ⟨g, ρ, R, h⟩ := h
  refine ⟨g, ρ, R, okT_mono (okT_bind h) fun g1 H1 p e1 h1 x R1 rx => ?_⟩
  obtain ⟨u, eu, h2⟩ := okT_lift h1
  obtain ⟨d, ed, h3⟩ := okT_lift h2
  cases u with
  | bl _ =>
    cases ed
    exact ⟨_, (rx.rs R1 eu).bl, okT_ret h3 R1⟩
  | _ => cases ed
/-- a comparison as a test -/
theorem jt_cmp {op : CmpOp} {r : R2} {o : AV → AV → Option AV} (ho : OpR X (compareOp op) r) (hop : Op2 X ct r o) (ha : JE X ct β Ex a f) (hb : JE X ct β Ex b k) (hm : behindInMarks op b = false) :
    JT X ct β Ex (.Compare a [op] [b] pos) (fBlT (fBin o f k)) := PT.imp (pt_cmpR ho ha hb hm) fun σ H Q h => fBin_ok hop (fBlT_ok h)
def fNotT (f : SemB) : SemB := fun ρ => (f ρ).bind fun p => .ret (!p.1, p.2)
theorem jt_not (ha : JT X ct β Ex a fb) : JT X ct β Ex (.UnaryOp .Not a pos) (fNotT fb) := by
  refine PT.imp (pt_not ha) fun σ H Q h => ?_
  obtain ⟨g, ρ, R, h⟩ := h
  exact ⟨g, ρ, R, okT_mono (okT_bind h) fun g1 H1 p e1 h1 R1 => okT_ret h1 R1⟩
def fAndT (f k : SemB) : SemB := fun ρ => (f ρ).bind fun p => if p.1 then k p.2 else .ret (false, p.2)
def fOrT (f k : SemB) : SemB := fun ρ => (f ρ).bind fun p => if p.1 then .ret (true, p.2) else k p.2
/-- a test within and, or -/
def JW (X : Cx) (ct : CT) (β : BInv) (Ex : XK) (e : Expr) (f : SemB) : Prop := PW X e (rdB (gc X ct) β Ex f)
theorem jw_pt {e : Expr} (h : JW X ct β Ex e fb) : JT X ct β Ex e fb := PW.pt h
theorem jw_and1 (ha : JT X ct β Ex a fb) : JW X ct β Ex (.BoolOp .And [a] pos) fb := PW.imp (pw_and1 ha) fun _ _ _ h => h
theorem jw_or1 (ha : JT X ct β Ex a fb) : JW X ct β Ex (.BoolOp .Or [a] pos) fb := PW.imp (pw_or1 ha) fun _ _ _ h => h
theorem jw_and {rest : List Expr} (ha : JT X ct β Ex a fb) (hb : JW X ct β Ex (.BoolOp .And (b :: rest) pos) kb) : JW X ct β Ex (.BoolOp .And (a :: b :: rest) pos) (fAndT fb kb) := by
  refine PW.imp (pw_and ha hb) fun σ H Q h => ?_
  obtain ⟨g, ρ, R, h⟩ := h
  refine ⟨g, ρ, R, okT_mono (okT_bind h) fun g1 H1 p e1 h1 R1 => ?_⟩
  by_cases hp : p.1 = true
  · rw [if_pos hp] at h1 ⊢
    exact ⟨g1, p.2, R1, h1⟩
  · rw [if_neg hp] at h1 ⊢
    exact okT_ret h1 R1
theorem jw_or {rest : List Expr} (ha : JT X ct β Ex a fb) (hb : JW X ct β Ex (.BoolOp .Or (b :: rest) pos) kb) : JW X ct β Ex (.BoolOp .Or (a :: b :: rest) pos) (fOrT fb kb) := by
  refine PW.imp (pw_or ha hb) fun σ H Q h => ?_
  obtain ⟨g, ρ, R, h⟩ := h
  refine ⟨g, ρ, R, okT_mono (okT_bind h) fun g1 H1 p e1 h1 R1 => ?_⟩
  by_cases hp : p.1 = true
  · rw [if_pos hp] at h1 ⊢
    exact okT_ret h1 R1
  · rw [if_neg hp] at h1 ⊢
    exact ⟨g1, p.2, R1, h1⟩
/-! ### and, or, not as values -/
def fAnd (f k : Sem) : Sem := fun ρ => (f ρ).bind fun p => (lift (rs p.1 p.2)).bind fun a => (lift (blOf a)).bind fun b => if b then k p.2 else .ret (.val (.bl false), p.2)
def fOr (f k : Sem) : Sem := fun ρ => (f ρ).bind fun p => (lift (rs p.1 p.2)).bind fun a => (lift (blOf a)).bind fun b => if b then .ret (.val (.bl true), p.2) else k p.2
def fNot (f : Sem) : Sem := fun ρ => (f ρ).bind fun p => (lift (rs p.1 p.2)).bind fun a => (lift (blOf a)).bind fun b => .ret (.val (.bl (!b)), p.2)
theorem okT_bl {g : G} {ρ : Env'} {σ : L2.St} {H : Hp} {b : Bool} {Q : VK} (h : okT (gc X ct) β Ex g H (.ret (Hd.val (.bl b), ρ)) fun g' H' p => ∀ v, Rel (gc X ct) β g' p.2 σ H' → RepH (gc X ct) g' σ H' p.1 v → Q v H') (R : Rel (gc X ct) β g ρ σ H) : Q (.bl b) H :=
  okT_ret h (.bl b) R (show RepG (gc X ct) g H (.bl b) (.bl b) from rep_bl)
theorem blOf_eq {t : AV} {b : Bool} (h : blOf t = some b) : t = .bl b := by
  cases t with
  | bl c => cases h; rfl
  | _ => cases h
theorem j_one {op} (h : JE X ct β Ex a f) : JE X ct β Ex (.BoolOp op [a] pos) f := PE.imp (pe_one h) fun _ _ _ h => h
theorem j_and {rest : List Expr} (ha : JE X ct β Ex a f) (hb : JE X ct β Ex (.BoolOp .And (b :: rest) pos) k) : JE X ct β Ex (.BoolOp .And (a :: b :: rest) pos) (fAnd f k) := by
  refine PE.imp (pe_and ha hb) fun σ H Q h => ?_
  obtain ⟨g, ρ, R, h⟩ := h
  refine ⟨g, ρ, R, okT_mono (okT_bind h) fun g1 H1 p e1 h1 x R1 rx => ?_⟩
  obtain ⟨u, eu, h2⟩ := okT_lift h1
  obtain ⟨d, ed, h3⟩ := okT_lift h2
  have eu' := blOf_eq ed
  subst eu'
  refine ⟨d, (rx.rs R1 eu).bl, ?_⟩
  cases d with
  | true => exact iteT ⟨g1, p.2, R1, h3⟩
  | false => exact iteF (okT_bl h3 R1)
theorem j_or {rest : List Expr} (ha : JE X ct β Ex a f) (hb : JE X ct β Ex (.BoolOp .Or (b :: rest) pos) k) : JE X ct β Ex (.BoolOp .Or (a :: b :: rest) pos) (fOr f k) := by
  refine PE.imp (pe_or ha hb) fun σ H Q h => ?_
  obtain ⟨g, ρ, R, h⟩ := h
  refine ⟨g, ρ, R, okT_mono (okT_bind h) fun g1 H1 p e1 h1 x R1 rx => ?_⟩
  obtain ⟨u, eu, h2⟩ := okT_lift h1
  obtain ⟨d, ed, h3⟩ := okT_lift h2
  have eu' := blOf_eq ed
  subst eu'
  refine ⟨d, (rx.rs R1 eu).bl, ?_⟩
  cases d with
  | true => exact iteT (okT_bl h3 R1)
  | false => exact iteF ⟨g1, p.2, R1, h3⟩
theorem j_not (ha : JE X ct β Ex a f) : JE X ct β Ex (.UnaryOp .Not a pos) (fNot f) := by
  refine PE.imp (pe_not ha) fun σ H Q h => ?_
  obtain ⟨g, ρ, R, h⟩ := h
  refine ⟨g, ρ, R, okT_mono (okT_bind h) fun g1 H1 p e1 h1 x R1 rx => ?_⟩
  obtain ⟨u, eu, h2⟩ := okT_lift h1
  obtain ⟨d, ed, h3⟩ := okT_lift h2
  have eu' := blOf_eq ed
  subst eu'
  exact ⟨d, (rx.rs R1 eu).bl, okT_bl h3 R1⟩
def fIf (t : SemB) (f k : Sem) : Sem := fun ρ => (t ρ).bind fun p => if p.1 then f p.2 else k p.2
theorem j_ifExp (hc : JT X ct β Ex c fb) (ha : JE X ct β Ex a f) (hb : JE X ct β Ex b k) : JE X ct β Ex (.IfExp c a b pos) (fIf fb f k) := by
  refine PE.imp (pe_ifExp hc ha hb) fun σ H Q h => ?_
  obtain ⟨g, ρ, R, h⟩ := h
  refine ⟨g, ρ, R, okT_mono (okT_bind h) fun g1 H1 p e1 h1 R1 => ?_⟩
  by_cases hp : p.1 = true
  · rw [if_pos hp] at h1 ⊢
    exact ⟨g1, p.2, R1, h1⟩
  · rw [if_neg hp] at h1 ⊢
    exact ⟨g1, p.2, R1, h1⟩
/-- x == y == .. of two comparisons -/
def fChain (o o' : AV → AV → Option AV) (f k l : Sem) : Sem := fun ρ => (f ρ).bind fun p => (k p.2).bind fun q => (lift (rs p.1 q.2)).bind fun a => (lift (rs q.1 q.2)).bind fun b => (lift (o a b)).bind fun z => (lift (blOf z)).bind fun d =>
  if d then (l q.2).bind fun r => (lift (rs q.1 r.2)).bind fun b' => (lift (rs r.1 r.2)).bind fun c => (lift (o' b' c)).bind fun z => .ret (.val z, r.2) else .ret (.val (.bl false), q.2)
/-- an operation without new things: the heap stays -/
def Op2p (X : Cx) (ct : CT) (r : R2) (op : AV → AV → Option AV) : Prop := ∀ (g : G) (H : Hp) (a b z : AV) (x y : V) (Q : VK), RepR (gc X ct) g H a x → RepR (gc X ct) g H b y → op a b = some z →
  (∀ v, RepG (gc X ct) g H z v → Q v H) → r x y H Q
theorem Op2p.op {r : R2} {o : AV → AV → Option AV} (h : Op2p X ct r o) : Op2 X ct r o := fun g H a b z x y Q ra rb e q => h g H a b z x y Q ra rb e fun v rv => q v H (Same.refl H) rv
theorem j_chain {op op' : CmpOp} {r r' : R2} {o o' : AV → AV → Option AV} (ho : OpR X (compareOp op) r) (hop : Op2p X ct r o) (ho' : OpR X (compareOp op') r') (hop' : Op2 X ct r' o') (ha : JE X ct β Ex a f) (hb : JE X ct β Ex b k) (hc : JE X ct β Ex c l)
    (hm : lastMarks [op, op'] [b, c] = false := by with_unfolding_all rfl) : JE X ct β Ex (.Compare a [op, op'] [b, c] pos) (fChain o o' f k l) := by
  refine PE.imp (pe_chain ho ho' ha hb hc hm) fun σ H Q h => ?_
  obtain ⟨g, ρ, R, h⟩ := h
  refine ⟨g, ρ, R, okT_mono (okT_bind h) fun g1 H1 p e1 h1 x R1 rx => ⟨g1, p.2, R1, okT_mono (okT_bind h1) fun g2 H2 q e2 h2 y R2 ry => ?_⟩⟩
  obtain ⟨u, eu, h3⟩ := okT_lift h2
  obtain ⟨w, ew, h4⟩ := okT_lift h3
  obtain ⟨z, ez, h5⟩ := okT_lift h4
  obtain ⟨d, ed, h6⟩ := okT_lift h5
  have ez' := blOf_eq ed
  subst ez'
  refine hop g2 H2 u w _ x y _ ((rx.ext e2).rs R2 eu) (ry.rs R2 ew) ez fun v rv => ?_
  rw [RepG, Rep] at rv
  refine ⟨d, rv, ?_⟩
  cases d with
  | true =>
    refine iteT ⟨g2, q.2, R2, okT_mono (okT_bind h6) fun g3 H3 s e3 h7 z' R3 rz => ?_⟩
    obtain ⟨w', ew', h8⟩ := okT_lift h7
    obtain ⟨u', eu', h9⟩ := okT_lift h8
    obtain ⟨z2, ez2, h10⟩ := okT_lift h9
    exact hop' g3 H3 w' u' z2 y z' Q ((ry.ext e3).rs R3 ew') (rz.rs R3 eu') ez2 fun v H' sm rv => okT_ret' h10 (Ext.same sm) v (R3.same sm) rv
  | false => exact iteF (okT_bl h6 R2)
theorem jt_chain {op op' : CmpOp} {r r' : R2} {o o' : AV → AV → Option AV} (ho : OpR X (compareOp op) r) (hop : Op2p X ct r o) (ho' : OpR X (compareOp op') r') (hop' : Op2 X ct r' o') (ha : JE X ct β Ex a f) (hb : JE X ct β Ex b k) (hc : JE X ct β Ex c l)
    (hm : lastMarks [op, op'] [b, c] = false := by with_unfolding_all rfl) : JT X ct β Ex (.Compare a [op, op'] [b, c] pos) (fBlT (fChain o o' f k l)) := by
  refine PT.imp (pt_chain ho ho' ha hb hc hm) fun σ H Q h => ?_
  have h := fBlT_ok h
  obtain ⟨g, ρ, R, h⟩ := h
  refine ⟨g, ρ, R, okT_mono (okT_bind h) fun g1 H1 p e1 h1 x R1 rx => ⟨g1, p.2, R1, okT_mono (okT_bind h1) fun g2 H2 q e2 h2 y R2 ry => ?_⟩⟩
  obtain ⟨u, eu, h3⟩ := okT_lift h2
  obtain ⟨w, ew, h4⟩ := okT_lift h3
  obtain ⟨z, ez, h5⟩ := okT_lift h4
  obtain ⟨d, ed, h6⟩ := okT_lift h5
  have ez' := blOf_eq ed
  subst ez'
  refine hop g2 H2 u w _ x y _ ((rx.ext e2).rs R2 eu) (ry.rs R2 ew) ez fun v rv => ?_
  rw [RepG, Rep] at rv
  refine ⟨d, rv, ?_⟩
  cases d with
  | true =>
    refine iteT ⟨g2, q.2, R2, okT_mono (okT_bind h6) fun g3 H3 s e3 h7 z' R3 rz => ?_⟩
    obtain ⟨w', ew', h8⟩ := okT_lift h7
    obtain ⟨u', eu', h9⟩ := okT_lift h8
    obtain ⟨z2, ez2, h10⟩ := okT_lift h9
    exact hop' g3 H3 w' u' z2 y z' _ ((ry.ext e3).rs R3 ew') (rz.rs R3 eu') ez2 fun v H' sm rv => okT_ret' h10 (Ext.same sm) v (R3.same sm) rv
  | false => exact iteF (okT_bl h6 R2)

/-! ### arguments, displays -/
def lNil : SemL := fun ρ => .ret ([], ρ)
def lCons (f : Sem) (k : SemL) : SemL := fun ρ => (f ρ).bind fun p => (frz p).bind fun q => (k q.2).bind fun r => .ret (q.1 :: r.1, r.2)
theorem jl_nil : JL X ct β Ex [] lNil := PA.imp pa_nil fun σ H Q h => by
  obtain ⟨g, ρ, R, h⟩ := h
  exact okT_ret h _ R .nil
theorem jl_cons {es : List Expr} {m : SemL} (ha : JE X ct β Ex a f) (hr : JL X ct β Ex es m) (hs : starEach (a :: es) X.env = (false, eval a X.env) :: starEach es X.env := by rfl) : JL X ct β Ex (a :: es) (lCons f m) := by
  refine PA.imp (pa_cons ha hr hs) fun σ H Q h => ?_
  obtain ⟨g, ρ, R, h⟩ := h
  refine ⟨g, ρ, R, okT_mono (okT_bind h) fun g1 H1 p e1 h1 x R1 rx => ?_⟩
  obtain ⟨g2, q, e2, R2, rq, h2⟩ := frz_ok R1 rx h1
  refine ⟨g2, q.2, R2, okT_mono (okT_bind h2) fun g3 H3 r e3 h3 vs R3 rr => ?_⟩
  exact okT_ret h3 _ R3 (.cons (e3.rep rq) rr)
def fTup (k : SemL) : Sem := fun ρ => (k ρ).bind fun p => if p.1.length ≤ big then .ret (.val (.tup p.1), p.2) else .bad
def fLst (k : SemL) : Sem := fun ρ => (k ρ).bind fun p => if p.1.length ≤ big then .ret (.val (.lst p.1), p.2) else .bad
theorem Rel.freshAv {c0 : Gc} {g : G} {ρ : Env'} {σ : L2.St} {H : Hp} {p : Addr} (R : Rel c0 β g ρ σ H) (h : H p = none) : ¬ g.Av p := fun z => R.avLive z h
theorem j_tup {es : List Expr} {m : SemL} {x1} (h : JL X ct β Ex es m) : JE X ct β Ex (.Tuple es x1 pos) (fTup m) := by
  refine PE.imp (pe_tup h) fun σ H Q h => ?_
  obtain ⟨g, ρ, R, h⟩ := h
  refine ⟨g, ρ, R, okT_mono (okT_bind h) fun g1 H1 p e1 h1 vs R1 rx => ?_⟩
  by_cases hl : p.1.length ≤ big
  · rw [if_pos hl] at h1
    refine ⟨by rw [rx.length]; exact Nat.le_trans hl big_line, fun q hq => ?_⟩
    have s := same_upd (o := .tup vs) hq
    exact okT_ret' h1 (Ext.same s) _ (R1.same s) (rep_tup_new (R1.freshAv hq) upd_same ((Ext.same s).reps rx))
  · rw [if_neg hl] at h1
    exact (show False from h1).elim
theorem j_lst {es : List Expr} {m : SemL} (h : JL X ct β Ex es m) : JE X ct β Ex (.List es pos) (fLst m) := by
  refine PE.imp (pe_lst h) fun σ H Q h => ?_
  obtain ⟨g, ρ, R, h⟩ := h
  refine ⟨g, ρ, R, okT_mono (okT_bind h) fun g1 H1 p e1 h1 vs R1 rx => ?_⟩
  by_cases hl : p.1.length ≤ big
  · rw [if_pos hl] at h1
    refine ⟨by rw [rx.length]; exact Nat.le_trans hl big_line, fun q hq => ?_⟩
    have s := same_upd (o := .lst vs) hq
    exact okT_ret' h1 (Ext.same s) _ (R1.same s) (rep_lst_new (R1.freshAv hq) upd_same ((Ext.same s).reps rx))
  · rw [if_neg hl] at h1
    exact (show False from h1).elim
end
end Dn

set_option Elab.async false
set_option linter.all false
set_option maxRecDepth 100000
namespace Dn
open PySem PySem.Spec PyProof.Rows L2

/-! ### data: == -/
def dat : Nat → AV → Bool
  | _, .non => true
  | _, .bl _ => true
  | _, .int _ => true
  | _, .str s => PyData.strOk s
  | n + 1, .tup xs => xs.all (dat n)
  | n + 1, .lst xs => xs.all (dat n)
  | _, _ => false
def allEq (f : AV → AV → Bool) : List AV → List AV → Bool
  | [], [] => true
  | x :: xs, y :: ys => f x y && allEq f xs ys
  | _, _ => false
/-- == of two data -/
def aeq : Nat → AV → AV → Bool
  | _, .non, .non => true
  | _, .bl a, .bl b => a == b
  | _, .bl a, .int j => (if a then 1 else 0) == j
  | _, .int i, .bl b => i == (if b then 1 else 0)
  | _, .int i, .int j => i == j
  | _, .str x, .str y => x == y
  | n + 1, .tup xs, .tup ys => allEq (aeq n) xs ys
  | n + 1, .lst xs, .lst ys => allEq (aeq n) xs ys
  | _, _, _ => false
def toD : Nat → AV → PyData
  | _, .non => .none
  | _, .bl b => .bool b
  | _, .int i => .int i
  | _, .str s => .str s
  | n + 1, .tup xs => .tuple (xs.map (toD n))
  | n + 1, .lst xs => .list (xs.map (toD n))
  | _, _ => .none
theorem toD_lay : ∀ (n : Nat) (t : AV), dat n t = true → (toD n t).canLay0 = true ∧ (toD n t).depth ≤ n
  | n, .non, _ => by cases n <;> simp [toD, PyData.canLay0, PyData.depth]
  | n, .bl _, _ => by cases n <;> simp [toD, PyData.canLay0, PyData.depth]
  | n, .int _, _ => by cases n <;> simp [toD, PyData.canLay0, PyData.depth]
  | n, .str s, h => by
    have h' : PyData.strOk s = true := by cases n <;> exact h
    cases n <;> simp [toD, PyData.canLay0, PyData.depth, h']
  | 0, .tup _, h => by simp [dat] at h
  | 0, .lst _, h => by simp [dat] at h
  | n, .ins _ _, h => by cases n <;> simp [dat] at h
  | n, .box, h => by cases n <;> simp [dat] at h
  | n, .scr _, h => by cases n <;> simp [dat] at h
  | n, .any, h => by cases n <;> simp [dat] at h
  | n + 1, .tup xs, h => by
    have h' : xs.all (dat n) = true := h
    have q : PyData.canLayAll0 (xs.map (toD n)) = true ∧ PyData.depthAll (xs.map (toD n)) ≤ n := by
      induction xs with
      | nil => simp [PyData.canLayAll0, PyData.depthAll]
      | cons x xs ih =>
        rw [List.all_cons, Bool.and_eq_true] at h'
        have a := toD_lay n x h'.1
        have b := ih h'.2 h'.2
        simp only [List.map_cons, PyData.canLayAll0, PyData.depthAll, a.1, b.1, Bool.and_self, true_and]
        omega
    simp only [toD, PyData.canLay0, PyData.depth, q.1, true_and]
    omega
  | n + 1, .lst xs, h => by
    have h' : xs.all (dat n) = true := h
    have q : PyData.canLayAll0 (xs.map (toD n)) = true ∧ PyData.depthAll (xs.map (toD n)) ≤ n := by
      induction xs with
      | nil => simp [PyData.canLayAll0, PyData.depthAll]
      | cons x xs ih =>
        rw [List.all_cons, Bool.and_eq_true] at h'
        have a := toD_lay n x h'.1
        have b := ih h'.2 h'.2
        simp only [List.map_cons, PyData.canLayAll0, PyData.depthAll, a.1, b.1, Bool.and_self, true_and]
        omega
    simp only [toD, PyData.canLay0, PyData.depth, q.1, true_and]
    omega
theorem toD_shaped {n : Nat} {t : AV} (h : dat n t = true) (hn : n ≤ 64) : SeqAt.shaped (toD n t) = true := by
  obtain ⟨a, b⟩ := toD_lay n t h
  show ((toD n t).canLay0 && decide ((toD n t).depth ≤ 64)) = true
  rw [a, Bool.true_and]
  exact decide_eq_true (by omega)
theorem dp_of {c0 : Gc} {g : G} {H : Hp} : ∀ (n : Nat) {t : AV} {v : V}, RepG c0 g H t v → dat n t = true → Dp c0.K H v (toD n t)
  | n, .non, v, h, _ => by rw [RepG, Rep] at h; subst h; cases n <;> exact .non
  | n, .bl b, v, h, _ => by rw [RepG, Rep] at h; subst h; cases n <;> exact .bl b
  | n, .int i, v, h, _ => by rw [RepG, Rep] at h; subst h; cases n <;> exact .int i
  | n, .str s, v, h, _ => by rw [RepG, Rep] at h; subst h; cases n <;> exact .str s
  | 0, .tup _, _, _, h => by simp [dat] at h
  | 0, .lst _, _, _, h => by simp [dat] at h
  | n, .ins _ _, _, _, h => by cases n <;> simp [dat] at h
  | n, .box, _, _, h => by cases n <;> simp [dat] at h
  | n, .scr _, _, _, h => by cases n <;> simp [dat] at h
  | n, .any, _, _, h => by cases n <;> simp [dat] at h
  | n + 1, .tup xs, v, h, hd => by
    rw [RepG, Rep] at h
    obtain ⟨a, vs, rfl, q, r⟩ := h
    refine .tup q.sq ?_
    have hd' : xs.all (dat n) = true := hd
    clear q
    induction xs generalizing vs with
    | nil => rw [RepL] at r; subst r; exact .nil
    | cons x xs ih =>
      rw [RepL] at r
      obtain ⟨v, r', rfl, h1, h2⟩ := r
      rw [List.all_cons, Bool.and_eq_true] at hd'
      exact .cons (dp_of n h1 hd'.1) (ih hd'.2 _ h2 hd'.2)
  | n + 1, .lst xs, v, h, hd => by
    rw [RepG, Rep] at h
    obtain ⟨a, vs, rfl, q, r⟩ := h
    refine .lst q.sq ?_
    have hd' : xs.all (dat n) = true := hd
    clear q
    induction xs generalizing vs with
    | nil => rw [RepL] at r; subst r; exact .nil
    | cons x xs ih =>
      rw [RepL] at r
      obtain ⟨v, r', rfl, h1, h2⟩ := r
      rw [List.all_cons, Bool.and_eq_true] at hd'
      exact .cons (dp_of n h1 hd'.1) (ih hd'.2 _ h2 hd'.2)
theorem dpAll_of {c0 : Gc} {g : G} {H : Hp} (n : Nat) : ∀ {xs : List AV} {vs : List V}, RepsG c0 g H xs vs → xs.all (dat n) = true → DpAll c0.K H vs (xs.map (toD n))
  | [], vs, r, _ => by rw [RepsG, RepL] at r; subst r; exact .nil
  | x :: xs, vs, r, hd => by
    rw [RepsG, RepL] at r
    obtain ⟨v, r', rfl, h1, h2⟩ := r
    rw [List.all_cons, Bool.and_eq_true] at hd
    exact .cons (dp_of n h1 hd.1) (dpAll_of n h2 hd.2)
theorem dp_ofR {c0 : Gc} {g : G} {H : Hp} {n : Nat} {t : AV} {v : V} (h : RepR c0 g H t v) (hd : dat n t = true) : Dp c0.K H v (toD n t) := by
  rcases h with h | ⟨xs, p, vs, rfl, rfl, _, e, r⟩
  · exact dp_of n h hd
  · cases n with
    | zero => simp [dat] at hd
    | succ n => exact .lst (.of e) (dpAll_of n r hd)
theorem aeq_eqv : ∀ (n : Nat) (a b : AV), dat n a = true → dat n b = true → PyData.eqv (toD n a) (toD n b) = aeq n a b := by
  intro n
  induction n with
  | zero =>
    intro a b ha hb
    cases a <;> cases b <;> first | (simp [dat] at ha; done) | (simp [dat] at hb; done) | rfl
  | succ n ih =>
    have lists : ∀ (xs ys : List AV), xs.all (dat n) = true → ys.all (dat n) = true → PyData.eqvAll (xs.map (toD n)) (ys.map (toD n)) = allEq (aeq n) xs ys := by
      intro xs
      induction xs with
      | nil => intro ys _ _; cases ys <;> rfl
      | cons x xs ihx =>
        intro ys hx hy
        cases ys with
        | nil => rfl
        | cons y ys =>
          rw [List.all_cons, Bool.and_eq_true] at hx hy
          show (PyData.eqv (toD n x) (toD n y) && PyData.eqvAll (xs.map (toD n)) (ys.map (toD n))) = (aeq n x y && allEq (aeq n) xs ys)
          rw [ih x y hx.1 hy.1, ihx ys hx.2 hy.2]
    intro a b ha hb
    cases a <;> cases b <;> first
      | (simp [dat] at ha; done)
      | (simp [dat] at hb; done)
      | rfl
      | (simp only [toD, PyData.eqv, aeq]; exact lists _ _ ha hb)
abbrev DEP : Nat := 12
def pEq (a b : AV) : Option AV := if dat DEP a && dat DEP b then some (.bl (aeq DEP a b)) else none
def pNe (a b : AV) : Option AV := if dat DEP a && dat DEP b then some (.bl (!aeq DEP a b)) else none
def inAny (a : AV) (xs : List AV) : Bool := xs.any fun z => aeq DEP z a
def pIn (a b : AV) : Option AV := match b with
  | .tup xs => if dat DEP a && xs.all (dat DEP) then some (.bl (inAny a xs)) else none
  | .lst xs => if dat DEP a && xs.all (dat DEP) then some (.bl (inAny a xs)) else none
  | _ => none
def pNotIn (a b : AV) : Option AV := match b with
  | .tup xs => if dat DEP a && xs.all (dat DEP) then some (.bl (!inAny a xs)) else none
  | .lst xs => if dat DEP a && xs.all (dat DEP) then some (.bl (!inAny a xs)) else none
  | _ => none
theorem if_some {p : Bool} {a z : AV} (h : (if p then some a else none) = some z) : p = true ∧ z = a := by
  cases p with
  | true => cases h; exact ⟨rfl, rfl⟩
  | false => cases h
section
variable {X : Cx} {ct : CT} {β : BInv} {Ex : XK}
theorem o_eq : Op2p X ct (rEqD X.K) pEq := by
  intro g H a b z x y Q ra rb e q
  obtain ⟨h, rfl⟩ := if_some e
  rw [Bool.and_eq_true] at h
  exact ⟨_, _, dp_ofR ra h.1, dp_ofR rb h.2, toD_shaped h.1 (by decide), toD_shaped h.2 (by decide), by rw [aeq_eqv _ _ _ h.1 h.2]; exact q _ rep_bl⟩
theorem o_ne : Op2p X ct (rNeD X.K) pNe := by
  intro g H a b z x y Q ra rb e q
  obtain ⟨h, rfl⟩ := if_some e
  rw [Bool.and_eq_true] at h
  exact ⟨_, _, dp_ofR ra h.1, dp_ofR rb h.2, toD_shaped h.1 (by decide), toD_shaped h.2 (by decide), by rw [aeq_eqv _ _ _ h.1 h.2]; exact q _ rep_bl⟩
def rInT (K : PySem.W.Frag) (neg : Bool) : R2 := fun x y H Q => ∃ d ds, Dp K H x d ∧ Dp K H y (.tuple ds) ∧ SeqAt.shaped d = true ∧ SeqAt.shaped (.list ds) = true ∧ Q (.bl (if neg then !ds.any fun z => PyData.eqv z d else ds.any fun z => PyData.eqv z d)) H
theorem lay_tl {ds : List PyData} (h : SeqAt.shaped (.list ds) = true) : PyData.canLayAll0 ds = true := SeqAt.canLay_of_shaped h
theorem op_inT (hu : X.A.units + 65 < cLine) : OpR X (compareOp .In) (rInT X.K false) := by
  intro pins s σ H x y v u Q I rx ry h
  obtain ⟨d, ds, hd, he, sd, se, q⟩ := h
  obtain ⟨as, r1⟩ := Dp.reads I d x v hd rx
  obtain ⟨bs, r2⟩ := Dp.reads I (.tuple ds) y u he ry
  exact SeqAt.in_tuple_reads r2 r1 (lay_tl se) (SeqAt.canLay_of_shaped sd) (room_in_shaped sd hu) ⟨.bl _, H, I, rfl, q⟩
theorem op_notInT (hu : X.A.units + 65 < cLine) : OpR X (compareOp .NotIn) (rInT X.K true) := by
  intro pins s σ H x y v u Q I rx ry h
  obtain ⟨d, ds, hd, he, sd, se, q⟩ := h
  obtain ⟨as, r1⟩ := Dp.reads I d x v hd rx
  obtain ⟨bs, r2⟩ := Dp.reads I (.tuple ds) y u he ry
  exact SeqAt.notIn_tuple_reads r2 r1 (lay_tl se) (SeqAt.canLay_of_shaped sd) (room_in_shaped sd hu) ⟨.bl _, H, I, rfl, q⟩
theorem anyD {a : AV} (ha : dat DEP a = true) : ∀ {xs : List AV}, xs.all (dat DEP) = true → ((xs.map (toD DEP)).any fun z => PyData.eqv z (toD DEP a)) = inAny a xs
  | [], _ => rfl
  | x :: xs, h => by
    rw [List.all_cons, Bool.and_eq_true] at h
    show (PyData.eqv (toD DEP x) (toD DEP a) || (xs.map (toD DEP)).any _) = (aeq DEP x a || inAny a xs)
    rw [aeq_eqv _ _ _ h.1 ha, anyD ha h.2]
theorem shapedL {xs : List AV} (h : xs.all (dat DEP) = true) : SeqAt.shaped (.list (xs.map (toD DEP))) = true := toD_shaped (n := DEP + 1) (t := .lst xs) h (by decide)
theorem o_in : Op2p X ct (fun x y H Q => rInD X.K x y H Q ∨ rInT X.K false x y H Q) pIn := by
  intro g H a b z x y Q ra rb e q
  cases b with
  | tup xs =>
    obtain ⟨h, rfl⟩ := if_some (show (if dat DEP a && xs.all (dat DEP) then some (AV.bl (inAny a xs)) else none) = some z from e)
    rw [Bool.and_eq_true] at h
    refine .inr ⟨_, _, dp_ofR ra h.1, dp_ofR (n := DEP + 1) rb h.2, toD_shaped h.1 (by decide), shapedL h.2, ?_⟩
    have e1 := anyD h.1 h.2
    simp only [e1]
    exact q _ rep_bl
  | lst xs =>
    obtain ⟨h, rfl⟩ := if_some (show (if dat DEP a && xs.all (dat DEP) then some (AV.bl (inAny a xs)) else none) = some z from e)
    rw [Bool.and_eq_true] at h
    refine .inl ⟨_, _, dp_ofR ra h.1, dp_ofR (n := DEP + 1) rb h.2, toD_shaped h.1 (by decide), shapedL h.2, ?_⟩
    have e1 := anyD h.1 h.2
    simp only [e1]
    exact q _ rep_bl
  | _ => cases e
theorem o_notIn : Op2p X ct (fun x y H Q => rNotInD X.K x y H Q ∨ rInT X.K true x y H Q) pNotIn := by
  intro g H a b z x y Q ra rb e q
  cases b with
  | tup xs =>
    obtain ⟨h, rfl⟩ := if_some (show (if dat DEP a && xs.all (dat DEP) then some (AV.bl (!inAny a xs)) else none) = some z from e)
    rw [Bool.and_eq_true] at h
    refine .inr ⟨_, _, dp_ofR ra h.1, dp_ofR (n := DEP + 1) rb h.2, toD_shaped h.1 (by decide), shapedL h.2, ?_⟩
    have e1 := anyD h.1 h.2
    simp only [e1]
    exact q _ rep_bl
  | lst xs =>
    obtain ⟨h, rfl⟩ := if_some (show (if dat DEP a && xs.all (dat DEP) then some (AV.bl (!inAny a xs)) else none) = some z from e)
    rw [Bool.and_eq_true] at h
    refine .inl ⟨_, _, dp_ofR ra h.1, dp_ofR (n := DEP + 1) rb h.2, toD_shaped h.1 (by decide), shapedL h.2, ?_⟩
    have e1 := anyD h.1 h.2
    simp only [e1]
    exact q _ rep_bl
  | _ => cases e
end

/-! ### numbers, +, .. -/
def pAdd (a b : AV) : Option AV := match a, b with
  | .int i, .int j => some (.int (i + j))
  | .str x, .str y => if x.length + y.length ≤ big then some (.str (x ++ y)) else none
  | .tup xs, .tup ys => if xs.length + ys.length ≤ big then some (.tup (xs ++ ys)) else none
  | .lst xs, .lst ys => if xs.length + ys.length ≤ big then some (.lst (xs ++ ys)) else none
  | _, _ => none
def pSub (a b : AV) : Option AV := match a, b with
  | .int i, .int j => some (.int (i - j))
  | _, _ => none
def pMul (a b : AV) : Option AV := match a, b with
  | .int i, .int j => if i.natAbs.log2 + j.natAbs.log2 < 1000000 then some (.int (i * j)) else none
  | .lst xs, .int k => if 0 ≤ k ∧ xs.length * k.toNat ≤ big ∧ k < 1000000 then some (.lst (List.replicate k.toNat xs).flatten) else none
  | .tup xs, .int k => if xs.isEmpty = false ∧ 2 ≤ k ∧ k ≤ 1000 ∧ xs.length ≤ 1000 then some (.tup (List.replicate k.toNat xs).flatten) else none
  | _, _ => none
def pDiv (a b : AV) : Option AV := match a, b with
  | .int i, .int j => if 0 < j ∧ j.natAbs.log2 < 9000 then some (.int (i / j)) else none
  | _, _ => none
def pMod (a b : AV) : Option AV := match a, b with
  | .int i, .int j => if 0 < j then some (.int (i % j)) else none
  | _, _ => none
def pPow (a b : AV) : Option AV := match a, b with
  | .int i, .int j => if 0 ≤ j ∧ j ≤ 1000000 ∧ below i 64 = true then some (.int (i ^ j.toNat)) else none
  | _, _ => none
def pNeg (a : AV) : Option AV := match a with
  | .int i => some (.int (-i))
  | _ => none
def pLt (a b : AV) : Option AV := match a, b with
  | .int i, .int j => some (.bl (decide (i < j)))
  | _, _ => none
def pLe (a b : AV) : Option AV := match a, b with
  | .int i, .int j => some (.bl (decide (i ≤ j)))
  | _, _ => none
def pGt (a b : AV) : Option AV := match a, b with
  | .int i, .int j => some (.bl (decide (j < i)))
  | _, _ => none
def pGe (a b : AV) : Option AV := match a, b with
  | .int i, .int j => some (.bl (decide (j ≤ i)))
  | _, _ => none
def pIsN (a b : AV) : Option AV := match b with
  | .non => match a with
    | .non => some (.bl true)
    | .any => none
    | _ => some (.bl false)
  | _ => none
def pNotN (a b : AV) : Option AV := match b with
  | .non => match a with
    | .non => some (.bl false)
    | .any => none
    | _ => some (.bl true)
  | _ => none
theorem ifp_some {p : Prop} [Decidable p] {a z : AV} (h : (if p then some a else none) = some z) : p ∧ z = a := by
  by_cases hp : p
  · rw [if_pos hp] at h; cases h; exact ⟨hp, rfl⟩
  · rw [if_neg hp] at h; cases h
section
variable {X : Cx} {ct : CT} {β : BInv} {Ex : XK}
theorem rep_tupR {c0 : Gc} {g : G} {H : Hp} {xs : List AV} {v : V} (h : RepR c0 g H (.tup xs) v) : RepG c0 g H (.tup xs) v := by
  rcases h with h | ⟨ys, p, vs, e, _⟩
  · exact h
  · cases e
abbrev rAddA (K : PySem.W.Frag) : R2 := fun x y H Q => (((rI0 fun i j => .int (i + j)) x y H Q ∨ (∃ i j, x = .str i ∧ y = .str j ∧ i.length + j.length ≤ sizeLine ∧ Q (.str (i ++ j)) H)) ∨ rCatA K x y H Q) ∨ rCat x y H Q
theorem op_addA : OpR X (binaryOp .Add) (rAddA X.K) := ((op_add.or op_add_str).or op_catA).or op_cat
/-- (as Op2, where every address that is avoided is there) -/
def Op2' (X : Cx) (ct : CT) (r : R2) (op : AV → AV → Option AV) : Prop := ∀ (g : G) (H : Hp) (a b z : AV) (x y : V) (Q : VK), (∀ p, g.Av p → H p ≠ none) → RepR (gc X ct) g H a x → RepR (gc X ct) g H b y → op a b = some z →
  (∀ v H', Same H H' → RepG (gc X ct) g H' z v → Q v H') → r x y H Q
theorem Op2.op' {r : R2} {o : AV → AV → Option AV} (h : Op2 X ct r o) : Op2' X ct r o := fun g H a b z x y Q _ => h g H a b z x y Q
theorem fBin_ok' {r : R2} {op : AV → AV → Option AV} {f k : Sem} (hop : Op2' X ct r op) {σ : L2.St} {H : Hp} {Q : VK} (h : rdE (gc X ct) β Ex (fBin op f k) σ H Q) :
    rdE (gc X ct) β Ex f σ H fun x H1 => rdE (gc X ct) β Ex k σ H1 fun y H2 => r x y H2 Q := by
  obtain ⟨g, ρ, R, h⟩ := h
  refine ⟨g, ρ, R, okT_mono (okT_bind h) fun g1 H1 p e1 h1 x R1 rx => ⟨g1, p.2, R1, okT_mono (okT_bind h1) fun g2 H2 q e2 h2 y R2 ry => ?_⟩⟩
  obtain ⟨a, ea, h3⟩ := okT_lift h2
  obtain ⟨b, eb, h4⟩ := okT_lift h3
  obtain ⟨z, ez, h5⟩ := okT_lift h4
  refine hop g2 H2 a b z x y Q (fun _ h => R2.avLive h) ((rx.ext e2).rs R2 ea) (ry.rs R2 eb) ez fun v H' s rv => ?_
  exact okT_ret' h5 (Ext.same s) v (R2.same s) rv
theorem j_bin' {op : Operator} {r : R2} {o : AV → AV → Option AV} {a b : Expr} {f k : Sem} {pos : Pos} (ho : OpR X (binaryOp op) r) (hop : Op2' X ct r o) (ha : JE X ct β Ex a f) (hb : JE X ct β Ex b k) : JE X ct β Ex (.BinOp a op b pos) (fBin o f k) :=
  PE.imp (pe_op ho ha hb) fun σ H Q h => fBin_ok' hop h
theorem reps_nil {c0 : Gc} {A D : Addr → Prop} {H : Hp} {xs : List AV} {vs : List V} (r : RepL c0 A D H xs vs) (h : vs = []) : xs = [] := by
  have := r.length
  rw [h] at this
  cases xs with
  | nil => rfl
  | cons _ _ => simp at this
theorem o_add : Op2' X ct (rAddA X.K) pAdd := by
  intro g H a b z x y Q live ra rb e q
  cases a <;> cases b <;> first | (simp [pAdd] at e; done) | skip
  · cases e
    exact .inl (.inl (.inl ⟨_, _, ra.int, rb.int, q _ H (Same.refl H) rep_int⟩))
  · obtain ⟨h, rfl⟩ := ifp_some e
    exact .inl (.inl (.inr ⟨_, _, ra.str, rb.str, Nat.le_trans h big_line, q _ H (Same.refl H) rep_str⟩))
  · obtain ⟨h, rfl⟩ := ifp_some e
    obtain ⟨a', vs, rfl, h1, r1⟩ := ra.tup
    obtain ⟨b', ws, rfl, h2, r2⟩ := rb.tup
    refine .inl (.inr ⟨a', b', vs, ws, rfl, rfl, h1, h2, ?_, fun hv => ?_, fun _ hw => ?_, fun _ _ p hp => ?_⟩)
    · rw [r1.length, r2.length]; exact Nat.le_trans h big_line
    · refine q _ H (Same.refl H) ?_
      rw [reps_nil r1 hv]
      exact rep_tupR rb
    · refine q _ H (Same.refl H) ?_
      rw [reps_nil r2 hw, List.append_nil]
      exact rep_tupR ra
    · have s := same_upd (o := .tup (vs ++ ws)) hp
      exact q _ _ s (rep_tup_new (fun z => live p z hp) upd_same ((Ext.same s).reps (r1.append r2)))
  · obtain ⟨h, rfl⟩ := ifp_some e
    obtain ⟨a', vs, rfl, h1, r1⟩ := ra.lst'
    obtain ⟨b', ws, rfl, h2, r2⟩ := rb.lst'
    refine .inr ⟨a', b', vs, ws, rfl, rfl, h1, h2, ?_, fun p hp => ?_⟩
    · rw [r1.length, r2.length]; exact Nat.le_trans h big_line
    · have s := same_upd (o := .lst (vs ++ ws)) hp
      exact q _ _ s (rep_lst_new (fun z => live p z hp) upd_same ((Ext.same s).reps (r1.append r2)))
theorem o_sub : Op2 X ct (rI0 fun i j => .int (i - j)) pSub := by
  intro g H a b z x y Q ra rb e q
  cases a <;> cases b <;> first | (simp [pSub] at e; done) | skip
  cases e
  exact ⟨_, _, ra.int, rb.int, q _ H (Same.refl H) rep_int⟩
theorem o_div : Op2 X ct (rI CDivW fun i j => .int (i / j)) pDiv := by
  intro g H a b z x y Q ra rb e q
  cases a <;> cases b <;> first | (simp [pDiv] at e; done) | skip
  obtain ⟨h, rfl⟩ := ifp_some e
  exact ⟨_, _, ra.int, rb.int, h, q _ H (Same.refl H) rep_int⟩
theorem o_mod : Op2 X ct (rI (fun _ j => 0 < j) fun i j => .int (i % j)) pMod := by
  intro g H a b z x y Q ra rb e q
  cases a <;> cases b <;> first | (simp [pMod] at e; done) | skip
  obtain ⟨h, rfl⟩ := ifp_some e
  exact ⟨_, _, ra.int, rb.int, h, q _ H (Same.refl H) rep_int⟩
theorem o_pow : Op2 X ct (rI CPow fun i j => .int (i ^ j.toNat)) pPow := by
  intro g H a b z x y Q ra rb e q
  cases a <;> cases b <;> first | (simp [pPow] at e; done) | skip
  obtain ⟨h, rfl⟩ := ifp_some e
  exact ⟨_, _, ra.int, rb.int, ⟨h.1, h.2.1, below_iff.mp h.2.2⟩, q _ H (Same.refl H) rep_int⟩
theorem o_neg : Op1 X ct (rU fun i => .int (-i)) pNeg := by
  intro g H a z x Q ra e q
  cases a <;> first | (simp [pNeg] at e; done) | skip
  cases e
  exact ⟨_, ra.int, q _ H (Same.refl H) rep_int⟩
theorem o_lt : Op2p X ct (rI0 fun i j => .bl (decide (i < j))) pLt := by
  intro g H a b z x y Q ra rb e q
  cases a <;> cases b <;> first | (simp [pLt] at e; done) | skip
  cases e
  exact ⟨_, _, ra.int, rb.int, q _ rep_bl⟩
theorem o_le : Op2p X ct (rI0 fun i j => .bl (decide (i ≤ j))) pLe := by
  intro g H a b z x y Q ra rb e q
  cases a <;> cases b <;> first | (simp [pLe] at e; done) | skip
  cases e
  exact ⟨_, _, ra.int, rb.int, q _ rep_bl⟩
theorem o_gt : Op2p X ct (rI0 fun i j => .bl (decide (j < i))) pGt := by
  intro g H a b z x y Q ra rb e q
  cases a <;> cases b <;> first | (simp [pGt] at e; done) | skip
  cases e
  exact ⟨_, _, ra.int, rb.int, q _ rep_bl⟩
theorem o_ge : Op2p X ct (rI0 fun i j => .bl (decide (j ≤ i))) pGe := by
  intro g H a b z x y Q ra rb e q
  cases a <;> cases b <;> first | (simp [pGe] at e; done) | skip
  cases e
  exact ⟨_, _, ra.int, rb.int, q _ rep_bl⟩
def isNon : AV → Bool
  | .non => true
  | _ => false
theorem repR_ref {c0 : Gc} {g : G} {H : Hp} {t : AV} {v : V} (h : RepR c0 g H t v) (ha : t ≠ .any) : decide (v = .non) = isNon t := by
  cases t with
  | non => have e := h.non; subst e; rfl
  | bl _ => have e := h.bl; subst e; rfl
  | int _ => have e := h.int; subst e; rfl
  | str _ => have e := h.str; subst e; rfl
  | tup _ => obtain ⟨a, vs, rfl, _⟩ := h.tup; rfl
  | lst _ => obtain ⟨a, vs, rfl, _⟩ := h.lst; rfl
  | ins _ _ => have h := h.ins; rw [RepG, Rep] at h; obtain ⟨a, _, _, _, rfl, _⟩ := h; rfl
  | box =>
    rcases h with h | ⟨_, _, _, e, _⟩
    · rw [RepG, Rep] at h; obtain ⟨a, rfl, _⟩ := h; rfl
    · cases e
  | scr _ =>
    rcases h with h | ⟨_, _, _, e, _⟩
    · rw [RepG, Rep] at h; obtain ⟨a, rfl, _⟩ := h; rfl
    · cases e
  | any => exact absurd rfl ha
theorem o_isN : Op2p X ct (fun x y H Q => y = .non ∧ Q (.bl (decide (x = .non))) H) pIsN := by
  intro g H a b z x y Q ra rb e q
  cases b <;> first | (simp [pIsN] at e; done) | skip
  refine ⟨rb.non, ?_⟩
  rw [repR_ref ra (fun z => by subst z; cases e)]
  cases a <;> (cases e; try exact q _ rep_bl)
theorem o_notN : Op2p X ct (fun x y H Q => y = .non ∧ Q (.bl (!decide (x = .non))) H) pNotN := by
  intro g H a b z x y Q ra rb e q
  cases b <;> first | (simp [pNotN] at e; done) | skip
  refine ⟨rb.non, ?_⟩
  rw [repR_ref ra (fun z => by subst z; cases e)]
  cases a <;> (cases e; try exact q _ rep_bl)
end
end Dn

set_option Elab.async false
set_option linter.all false
set_option maxRecDepth 100000
namespace Dn
open PySem PySem.Spec PyProof.Rows L2

/-! ### one-place operations that may make new things -/
def Op1' (X : Cx) (ct : CT) (r : V → Hp → VK → Prop) (op : AV → Option AV) : Prop := ∀ (g : G) (H : Hp) (a z : AV) (x : V) (Q : VK), (∀ p, g.Av p → H p ≠ none) → RepR (gc X ct) g H a x → op a = some z →
  (∀ v H', Same H H' → RepG (gc X ct) g H' z v → Q v H') → r x H Q
section
variable {X : Cx} {ct : CT} {β : BInv} {Ex : XK} {a b : Expr} {f k : Sem} {pos p : Pos} {x : Str} {id ty : String}
theorem Op1.op' {r : V → Hp → VK → Prop} {o : AV → Option AV} (h : Op1 X ct r o) : Op1' X ct r o := fun g H a z x Q _ => h g H a z x Q
theorem fUn_ok' {r : V → Hp → VK → Prop} {op : AV → Option AV} (hop : Op1' X ct r op) {σ : L2.St} {H : Hp} {Q : VK} (h : rdE (gc X ct) β Ex (fUn op f) σ H Q) :
    rdE (gc X ct) β Ex f σ H fun x H1 => r x H1 Q := by
  obtain ⟨g, ρ, R, h⟩ := h
  refine ⟨g, ρ, R, okT_mono (okT_bind h) fun g1 H1 p e1 h1 x R1 rx => ?_⟩
  obtain ⟨a, ea, h3⟩ := okT_lift h1
  obtain ⟨z, ez, h5⟩ := okT_lift h3
  refine hop g1 H1 a z x Q (fun _ h => R1.avLive h) (rx.rs R1 ea) ez fun v H' s rv => ?_
  exact okT_ret' h5 (Ext.same s) v (R1.same s) rv
/-- f(e), f a built-in function; T(e), T a built-in type -/
theorem j_callB {r : List V → Hp → VK → Prop} {o : AV → Option AV} (hc : CallR X (.builtin id) r) (hop : Op1' X ct (fun x H Q => r [x] H Q) o) (hg : Gl X x) (hm : X.mg x = none) (hv : bootBuiltins x = some (.builtin id)) (ha : JE X ct β Ex a f)
    (hn : x ≠ "__name__" := by decide +kernel) (hdb : (x == ("__debug__" : Str)) = false := by decide +kernel) (he : starEach [a] X.env = (false, eval a X.env) :: starEach [] X.env := by rfl) : JE X ct β Ex (.Call (.Name x p) [a] [] pos) (fUn o f) := by
  refine PE.imp (pe_callB hc hg hm hv (pa_cons ha pa_nil he) hn hdb he) fun σ H Q h => ?_
  exact fUn_ok' hop h
theorem j_callTy {r : List V → Hp → VK → Prop} {o : AV → Option AV} (hc : CallR X (.type ty) r) (hop : Op1' X ct (fun x H Q => r [x] H Q) o) (hg : Gl X x) (hm : X.mg x = none) (hv : bootBuiltins x = some (.type ty)) (ha : JE X ct β Ex a f)
    (hn : x ≠ "__name__" := by decide +kernel) (hdb : (x == ("__debug__" : Str)) = false := by decide +kernel) (he : starEach [a] X.env = (false, eval a X.env) :: starEach [] X.env := by rfl) : JE X ct β Ex (.Call (.Name x p) [a] [] pos) (fUn o f) := by
  refine PE.imp (pe_callTy hc hg hm hv (pa_cons ha pa_nil he) hn hdb he) fun σ H Q h => ?_
  exact fUn_ok' hop h
theorem j_callB2 {r : List V → Hp → VK → Prop} {o : AV → AV → Option AV} (hc : CallR X (.builtin id) r) (hop : Op2' X ct (fun x y H Q => r [x, y] H Q) o) (hg : Gl X x) (hm : X.mg x = none) (hv : bootBuiltins x = some (.builtin id)) (ha : JE X ct β Ex a f) (hb : JE X ct β Ex b k)
    (hn : x ≠ "__name__" := by decide +kernel) (hdb : (x == ("__debug__" : Str)) = false := by decide +kernel) (he : starEach [a, b] X.env = (false, eval a X.env) :: starEach [b] X.env := by rfl) (he2 : starEach [b] X.env = (false, eval b X.env) :: starEach [] X.env := by rfl)
    (hpl : (backTo pos (starEach [b] X.env)).any (·.1) = false := by rfl) : JE X ct β Ex (.Call (.Name x p) [a, b] [] pos) (fBin o f k) := by
  refine PE.imp (pe_callB hc hg hm hv (pa_cons ha (pa_cons hb pa_nil he2) he) hn hdb he hpl) fun σ H Q h => ?_
  exact fBin_ok' hop h
theorem RepR.scr {c0 : Gc} {g : G} {H : Hp} {ns : List Int} {v : V} (h : RepR c0 g H (.scr ns) v) : ∃ a, v = .ref a ∧ SqL c0.K H a (ns.map V.int) := by
  rcases h with h | ⟨_, _, _, e, _⟩
  · rw [RepG, Rep] at h
    obtain ⟨a, rfl, q⟩ := h
    exact ⟨a, rfl, q.sq⟩
  · cases e
/-! ### o[i] -/
def strAt (s : Str) (i : Int) : Option AV := if s.length ≤ big then (atI s.cps.toList i).map fun c => .str ⟨#[c]⟩ else none
def pIx (a b : AV) : Option AV := match b with
  | .int i => match a with
    | .tup xs => atI xs i
    | .lst xs => atI xs i
    | .str s => strAt s i
    | .scr ns => atI (ns.map AV.int) i
    | _ => none
  | _ => none
theorem atI_rep {c0 : Gc} {A D : Addr → Prop} {H : Hp} {xs : List AV} {vs : List V} {i : Int} {t : AV} (r : RepL c0 A D H xs vs) (h : atI xs i = some t) : ∃ v, atI vs i = some v ∧ Rep c0 A D H t v := by
  unfold atI at h ⊢
  rw [r.length]
  cases e : ixN xs.length i with
  | none => rw [e] at h; cases h
  | some j =>
    rw [e] at h
    exact r.get' (i := j) h
theorem o_ix : Op2 X ct (rIx X.K) pIx := by
  intro g H a b z x y Q ra rb e q
  cases b with
  | int i =>
    have hy := rb.int
    cases a with
    | tup xs =>
      obtain ⟨p, vs, rfl, h1, r⟩ := ra.tup
      obtain ⟨v, e1, r1⟩ := atI_rep r (show atI xs i = some z from e)
      exact .inr (.inl ⟨p, vs, i, v, rfl, hy, h1, e1, q v H (Same.refl H) r1⟩)
    | lst xs =>
      obtain ⟨p, vs, rfl, h1, r⟩ := ra.lst
      obtain ⟨v, e1, r1⟩ := atI_rep r (show atI xs i = some z from e)
      exact .inl ⟨p, vs, i, v, rfl, hy, h1, e1, q v H (Same.refl H) r1⟩
    | str s =>
      have hx := ra.str
      have e : strAt s i = some z := e
      unfold strAt at e
      by_cases hs : s.length ≤ big
      · rw [if_pos hs] at e
        cases e1 : atI s.cps.toList i with
        | none => rw [e1] at e; cases e
        | some c =>
          rw [e1] at e
          cases e
          exact .inr (.inr ⟨s, i, c, hx, hy, Nat.le_trans hs big_line, e1, q _ H (Same.refl H) rep_str⟩)
      · rw [if_neg hs] at e; cases e
    | scr ns =>
      obtain ⟨p, rfl, h1⟩ := ra.scr
      obtain ⟨v, e1, r1⟩ := atI_rep (RepL.ints' (c0 := gc X ct) (A := g.Av) (D := g.D) (H := H) ns) (show atI (ns.map AV.int) i = some z from e)
      exact .inl ⟨p, _, i, v, rfl, hy, h1, e1, q v H (Same.refl H) r1⟩
    | _ => cases e
  | _ => cases e
theorem j_ix (ha : JE X ct β Ex a f) (hb : JE X ct β Ex b k) (hs : PlainIx b := by exact fun _ _ => rfl) : JE X ct β Ex (.Subscript a b pos) (fBin pIx f k) :=
  PE.imp (pe_ix ix_seq ha hb hs) fun σ H Q h => fBin_ok o_ix h
/-! ### slices -/
def cutA (xs : List AV) (lo hi : Option Int) : List AV := (xs.drop (HT.sIx xs.length 0 lo)).take (HT.sIx xs.length xs.length hi - HT.sIx xs.length 0 lo)
def intOf : AV → Option Int
  | .int i => some i
  | _ => none
/-- what a slice's bound is -/
def fPart : Option Sem → Env' → T (Option Int × Env')
  | none, ρ => .ret (none, ρ)
  | some f, ρ => (f ρ).bind fun p => (lift (rs p.1 p.2)).bind fun a => (lift (intOf a)).bind fun i => .ret (some i, p.2)
def pCut (a : AV) (lo hi : Option Int) : Option AV := match a with
  | .tup xs => some (.tup (cutA xs lo hi))
  | .lst xs => some (.lst (cutA xs lo hi))
  | .scr ns => some (.lst (cutA (ns.map AV.int) lo hi))
  | _ => none
def fSl (f : Sem) (l h : Option Sem) : Sem := fun ρ => (f ρ).bind fun p => (fPart l p.2).bind fun q => (fPart h q.2).bind fun r => (lift (rs p.1 r.2)).bind fun a => (lift (pCut a q.1 r.1)).bind fun z => .ret (.val z, r.2)
def rdO (c0 : Gc) (β : BInv) (Ex : XK) (f : Env' → T (Option Int × Env')) : TO := fun σ H Q => ∃ g ρ, Rel c0 β g ρ σ H ∧ okT c0 β Ex g H (f ρ) fun g' H' p => Rel c0 β g' p.2 σ H' → Q p.1 H'
def JO (X : Cx) (ct : CT) (β : BInv) (Ex : XK) (e : Option Expr) (f : Option Sem) : Prop := PO X e (rdO (gc X ct) β Ex (fPart f))
theorem PO.imp {X : Cx} {e : Option Expr} {t t' : TO} (h : PO X e t) (i : ∀ σ H Q, t' σ H Q → t σ H Q) : PO X e t' := ⟨fun pins s σ H Q I q => h.run pins s σ H Q I (i σ H Q q)⟩
theorem intOf_eq {t : AV} {i : Int} (h : intOf t = some i) : t = .int i := by
  cases t with
  | int j => cases h; rfl
  | _ => cases h
theorem jo_none : JO X ct β Ex none none := PO.imp po_none fun σ H Q h => by
  obtain ⟨g, ρ, R, h⟩ := h
  exact okT_ret h R
theorem jo_some (ha : JE X ct β Ex a f) : JO X ct β Ex (some a) (some f) := PO.imp (po_some ha) fun σ H Q h => by
  obtain ⟨g, ρ, R, h⟩ := h
  refine ⟨g, ρ, R, okT_mono (okT_bind h) fun g1 H1 p e1 h1 x R1 rx => ?_⟩
  obtain ⟨u, eu, h2⟩ := okT_lift h1
  obtain ⟨i, ei, h3⟩ := okT_lift h2
  have := intOf_eq ei
  subst this
  exact ⟨i, (rx.rs R1 eu).int, okT_ret h3 R1⟩
theorem cut_rep {c0 : Gc} {A D : Addr → Prop} {H : Hp} {xs : List AV} {vs : List V} {lo hi : Option Int} (r : RepL c0 A D H xs vs) : RepL c0 A D H (cutA xs lo hi) (cutV vs lo hi) := by
  unfold cutA cutV
  rw [r.length]
  exact (r.drop _).take _
theorem cutA_whole {xs : List AV} {lo hi : Option Int} (h : HT.sIx xs.length 0 lo = 0 ∧ HT.sIx xs.length xs.length hi = xs.length) : cutA xs lo hi = xs := by
  unfold cutA
  rw [h.1, h.2]
  simp
theorem j_sl {l h : Option Expr} {fl fh : Option Sem} {p2 : Pos} (ha : JE X ct β Ex a f) (hl : JO X ct β Ex l fl) (hh : JO X ct β Ex h fh) : JE X ct β Ex (.Subscript a (.Slice l h none p2) pos) (fSl f fl fh) := by
  refine PE.imp (pe_slice (sl_list.or sl_tupA) ha hl hh) fun σ H Q h => ?_
  obtain ⟨g, ρ, R, h⟩ := h
  refine ⟨g, ρ, R, okT_mono (okT_bind h) fun g1 H1 p e1 h1 x R1 rx => ⟨g1, p.2, R1, okT_mono (okT_bind h1) fun g2 H2 q e2 h2 R2 => ⟨g2, q.2, R2, okT_mono (okT_bind h2) fun g3 H3 r e3 h3 R3 => ?_⟩⟩⟩
  obtain ⟨u, eu, h4⟩ := okT_lift h3
  obtain ⟨z, ez, h5⟩ := okT_lift h4
  have ru := (rx.ext (e2.trans e3)).rs R3 eu
  cases u with
  | tup xs =>
    cases ez
    have rg := rep_tupR ru
    obtain ⟨a, vs, rfl, h1, rv⟩ := ru.tup
    refine .inr ⟨a, vs, rfl, h1, fun hw => ?_, fun _ p hp => ?_⟩
    · rw [rv.length] at hw
      refine okT_ret h5 _ R3 (show RepG (gc X ct) g3 H3 (.tup (cutA xs q.1 r.1)) (.ref a) from ?_)
      rw [cutA_whole hw]
      exact rg
    · have s := same_upd (o := .tup (cutV vs q.1 r.1)) hp
      exact okT_ret' h5 (Ext.same s) _ (R3.same s) (show RepG (gc X ct) g3 _ _ _ from rep_tup_new (R3.freshAv hp) upd_same ((Ext.same s).reps (cut_rep rv)))
  | lst xs =>
    cases ez
    obtain ⟨a, vs, rfl, h1, rv⟩ := ru.lst
    refine .inl ⟨a, vs, rfl, h1, fun p hp => ?_⟩
    have s := same_upd (o := .lst (cutV vs q.1 r.1)) hp
    exact okT_ret' h5 (Ext.same s) _ (R3.same s) (show RepG (gc X ct) g3 _ _ _ from rep_lst_new (R3.freshAv hp) upd_same ((Ext.same s).reps (cut_rep rv)))
  | scr ns =>
    cases ez
    obtain ⟨a, rfl, h1⟩ := ru.scr
    refine .inl ⟨a, _, rfl, h1, fun p hp => ?_⟩
    have s := same_upd (o := .lst (cutV (ns.map V.int) q.1 r.1)) hp
    exact okT_ret' h5 (Ext.same s) _ (R3.same s) (show RepG (gc X ct) g3 _ _ _ from rep_lst_new (R3.freshAv hp) upd_same ((Ext.same s).reps (cut_rep (RepL.ints' ns))))
  | _ => cases ez
/-! ### o.f -/
def pFld (c i : Nat) (a : AV) : Option AV := match a with
  | .ins c' xs => if c' = c then xs[i]? else none
  | _ => none
/-- what a class of the table has for a field -/
structure FldOk (X : Cx) (ct : CT) (c i : Nat) (f : Str) : Prop where
  at_ : (ct c).2[i]? = some f
  nd : (ct c).2.Nodup
  cls : ∀ C, X.mg (ct c).1 = some (.ref C) → Cls X.K C ∧ NoAttr X.K C f
theorem lookup_zip : ∀ {fl : List Str} {vs : List V} {i : Nat} {f : Str} {v : V}, fl.Nodup → fl[i]? = some f → vs[i]? = some v → (fl.zip vs).lookup f = some v
  | [], _, _, _, _, _, h, _ => by simp at h
  | _ :: _, [], _, _, _, _, _, h => by simp at h
  | g :: fl, w :: vs, 0, f, v, _, h, h' => by
    simp at h h'
    subst h h'
    simp [List.lookup]
  | g :: fl, w :: vs, i + 1, f, v, nd, h, h' => by
    have h1 : fl[i]? = some f := by simpa using h
    have h2 : vs[i]? = some v := by simpa using h'
    have ne : f ≠ g := fun e => (List.nodup_cons.mp nd).1 (e ▸ List.mem_of_getElem? h1)
    have hb : (f == g) = false := beq_eq_false_iff_ne.mpr ne
    simp only [List.zip_cons_cons, List.lookup, hb]
    exact lookup_zip (List.nodup_cons.mp nd).2 h1 h2
theorem j_fld {c i : Nat} {n : Str} (F : FldOk X ct c i n) (ha : JE X ct β Ex a f) (hb : attributeBase a n X.env (eval a X.env) = eval a X.env := by rfl) : JE X ct β Ex (.Attribute a n pos) (fUn (pFld c i) f) := by
  refine PE.imp (pe_fld ha hb) fun σ H Q h => ?_
  refine fUn_ok' (r := fun x H1 Q => ∃ a C dx fs v, x = .ref a ∧ H1 a = some (.ins C dx fs) ∧ Cls X.K C ∧ NoAttr X.K C n ∧ fs.lookup n = some v ∧ Q v H1) (fun g H a z x Q _ ra e q => ?_) h
  cases a with
  | ins c' xs =>
    have e' : (if c' = c then xs[i]? else none) = some z := e
    clear e
    by_cases hc : c' = c
    · rw [if_pos hc] at e'
      subst hc
      have ra := ra.ins
      rw [RepG, Rep] at ra
      obtain ⟨a, C, dx, vs, rfl, na, hm, ho, hl, r⟩ := ra
      obtain ⟨v, ev, rv⟩ := r.get' e'
      obtain ⟨k1, k2⟩ := F.cls C hm
      exact ⟨a, C, dx, _, v, rfl, ho, k1, k2, lookup_zip F.nd F.at_ ev, q v H (Same.refl H) rv⟩
    · rw [if_neg hc] at e'; cases e'
  | _ => cases e
end

/-! ### built-ins -/
def intsOf : List AV → Option (List Int)
  | [] => some []
  | .int i :: xs => (intsOf xs).map fun r => i :: r
  | _ :: _ => none
def bsOf : List AV → Option (List Bool)
  | [] => some []
  | .bl i :: xs => (bsOf xs).map fun r => i :: r
  | _ :: _ => none
theorem intsOf_eq : ∀ {xs : List AV} {ns : List Int}, intsOf xs = some ns → xs = ns.map AV.int
  | [], ns, h => by cases h; rfl
  | .int i :: xs, ns, h => by
    unfold intsOf at h
    cases e : intsOf xs with
    | none => rw [e] at h; cases h
    | some r => rw [e] at h; cases h; rw [intsOf_eq e]; rfl
  | .non :: _, _, h => by cases h
  | .bl _ :: _, _, h => by cases h
  | .str _ :: _, _, h => by cases h
  | .tup _ :: _, _, h => by cases h
  | .lst _ :: _, _, h => by cases h
  | .ins _ _ :: _, _, h => by cases h
  | .box :: _, _, h => by cases h
  | .scr _ :: _, _, h => by cases h
  | .any :: _, _, h => by cases h
theorem intsOf_map (ns : List Int) : intsOf (ns.map AV.int) = some ns := by
  induction ns with
  | nil => rfl
  | cons n ns ih =>
    show (intsOf (ns.map AV.int)).map _ = _
    rw [ih]
    rfl
theorem bsOf_eq : ∀ {xs : List AV} {ns : List Bool}, bsOf xs = some ns → xs = ns.map AV.bl
  | [], ns, h => by cases h; rfl
  | .bl i :: xs, ns, h => by
    unfold bsOf at h
    cases e : bsOf xs with
    | none => rw [e] at h; cases h
    | some r => rw [e] at h; cases h; rw [bsOf_eq e]; rfl
  | .non :: _, _, h => by cases h
  | .int _ :: _, _, h => by cases h
  | .str _ :: _, _, h => by cases h
  | .tup _ :: _, _, h => by cases h
  | .lst _ :: _, _, h => by cases h
  | .ins _ _ :: _, _, h => by cases h
  | .box :: _, _, h => by cases h
  | .scr _ :: _, _, h => by cases h
  | .any :: _, _, h => by cases h
theorem bsOf_map (ns : List Bool) : bsOf (ns.map AV.bl) = some ns := by
  induction ns with
  | nil => rfl
  | cons n ns ih =>
    show (bsOf (ns.map AV.bl)).map _ = _
    rw [ih]
    rfl
theorem reps_ints {c0 : Gc} {A D : Addr → Prop} {H : Hp} {ns : List Int} {vs : List V} (r : RepL c0 A D H (ns.map AV.int) vs) : vs = ns.map V.int := r.ints
theorem reps_bls {c0 : Gc} {A D : Addr → Prop} {H : Hp} : ∀ {bs : List Bool} {vs : List V}, RepL c0 A D H (bs.map AV.bl) vs → vs = bs.map V.bl
  | [], _, h => by simpa [RepL] using h
  | n :: ns, vs, h => by
    rw [List.map_cons, RepL] at h
    obtain ⟨v, r, e, h1, h2⟩ := h
    rw [Rep] at h1
    rw [e, h1, reps_bls h2]
    rfl
def pLen (a : AV) : Option AV := match a with
  | .tup xs => some (.int xs.length)
  | .lst xs => some (.int xs.length)
  | .scr xs => some (.int xs.length)
  | .str s => if s.length ≤ big then some (.int s.length) else none
  | _ => none
def pInt (a : AV) : Option AV := match a with
  | .int i => some (.int i)
  | .bl b => some (.int (if b then 1 else 0))
  | _ => none
def pAbs (a : AV) : Option AV := match a with
  | .int i => some (.int (if i < 0 then -i else i))
  | _ => none
def pStr (a : AV) : Option AV := match a with
  | .int i => if i.natAbs.log2 < 1920 then some (.str (toString i)) else none
  | _ => none
def pList (a : AV) : Option AV := match a with
  | .tup xs => some (.lst xs)
  | .lst xs => some (.lst xs)
  | _ => none
def pTuple (a : AV) : Option AV := match a with
  | .tup xs => some (.tup xs)
  | .lst xs => some (.tup xs)
  | _ => none
def pAll (a : AV) : Option AV := match a with
  | .lst xs => (bsOf xs).map fun bs => .bl (bs.all id)
  | _ => none
def pAny (a : AV) : Option AV := match a with
  | .lst xs => (bsOf xs).map fun bs => .bl (bs.any id)
  | _ => none
def pSum (a : AV) : Option AV := match a with
  | .lst xs => (intsOf xs).map fun bs => .int bs.sum
  | _ => none
def pMax2 (a b : AV) : Option AV := match a, b with
  | .int i, .int j => some (.int (if j > i then j else i))
  | _, _ => none
def pMin2 (a b : AV) : Option AV := match a, b with
  | .int i, .int j => some (.int (if j < i then j else i))
  | _, _ => none
def pDivmod (a b : AV) : Option AV := match a, b with
  | .int i, .int j => if 0 < j ∧ below j 29 = true then some (.tup [.int (i / j), .int (i % j)]) else none
  | _, _ => none
section
variable {X : Cx} {ct : CT} {β : BInv} {Ex : XK}
theorem o_len : Op1' X ct (fun x H Q => ∃ y n, [x] = [y] ∧ LenV X.K y H n ∧ Q (.int n) H) pLen := by
  intro g H a z x Q live ra e q
  cases a with
  | tup xs =>
    cases e
    obtain ⟨p, vs, rfl, h1, r⟩ := ra.tup
    exact ⟨_, _, rfl, .inr ⟨vs, h1, r.length.symm⟩, q _ H (Same.refl H) rep_int⟩
  | lst xs =>
    cases e
    obtain ⟨p, vs, rfl, h1, r⟩ := ra.lst
    exact ⟨_, _, rfl, .inl ⟨vs, h1, r.length.symm⟩, q _ H (Same.refl H) rep_int⟩
  | scr xs =>
    cases e
    obtain ⟨p, rfl, h1⟩ := ra.scr
    exact ⟨_, _, rfl, .inl ⟨_, h1, (List.length_map _).symm⟩, q _ H (Same.refl H) rep_int⟩
  | str s =>
    obtain ⟨h, rfl⟩ := ifp_some e
    have hx := ra.str
    subst hx
    exact ⟨_, _, rfl, ⟨Nat.le_trans h big_line, rfl⟩, q _ H (Same.refl H) rep_int⟩
  | _ => cases e
theorem o_int : Op1' X ct (fun x H Q => (∃ i, [x] = [V.int i] ∧ Q (.int i) H) ∨ ∃ k, [x] = [V.bl k] ∧ Q (.int (if k then 1 else 0)) H) pInt := by
  intro g H a z x Q live ra e q
  cases a with
  | int i => cases e; exact .inl ⟨i, by rw [ra.int], q _ H (Same.refl H) rep_int⟩
  | bl b => cases e; exact .inr ⟨b, by rw [ra.bl], q _ H (Same.refl H) rep_int⟩
  | _ => cases e
theorem o_abs : Op1' X ct (fun x H Q => ∃ i, [x] = [V.int i] ∧ Q (.int (if i < 0 then -i else i)) H) pAbs := by
  intro g H a z x Q live ra e q
  cases a with
  | int i => cases e; exact ⟨i, by rw [ra.int], q _ H (Same.refl H) rep_int⟩
  | _ => cases e
theorem o_str : Op1' X ct (fun x H Q => ∃ i, [x] = [V.int i] ∧ i.natAbs.log2 < 1920 ∧ Q (.str (toString i)) H) pStr := by
  intro g H a z x Q live ra e q
  cases a with
  | int i =>
    obtain ⟨h, rfl⟩ := ifp_some e
    exact ⟨i, by rw [ra.int], h, q _ H (Same.refl H) rep_str⟩
  | _ => cases e
theorem o_list : Op1' X ct (fun x H Q => ∃ p ys, [x] = [V.ref p] ∧ (SqL X.K H p ys ∨ SqT X.K H p ys) ∧ ∀ l, H l = none → Q (.ref l) (upd H l (.lst ys))) pList := by
  intro g H a z x Q live ra e q
  cases a with
  | tup xs =>
    cases e
    obtain ⟨p, vs, rfl, h1, r⟩ := ra.tup
    refine ⟨p, vs, rfl, .inr h1, fun l hl => ?_⟩
    have s := same_upd (o := .lst vs) hl
    exact q _ _ s (rep_lst_new (fun z => live l z hl) upd_same ((Ext.same s).reps r))
  | lst xs =>
    cases e
    obtain ⟨p, vs, rfl, h1, r⟩ := ra.lst
    refine ⟨p, vs, rfl, .inl h1, fun l hl => ?_⟩
    have s := same_upd (o := .lst vs) hl
    exact q _ _ s (rep_lst_new (fun z => live l z hl) upd_same ((Ext.same s).reps r))
  | _ => cases e
theorem o_tuple : Op1' X ct (fun x H Q => ∃ p ys, [x] = [V.ref p] ∧ ((SqL X.K H p ys ∧ ∀ l, H l = none → Q (.ref l) (upd H l (.tup ys))) ∨ (SqT X.K H p ys ∧ Q (.ref p) H))) pTuple := by
  intro g H a z x Q live ra e q
  cases a with
  | tup xs =>
    cases e
    have rg := rep_tupR ra
    obtain ⟨p, vs, rfl, h1, r⟩ := ra.tup
    exact ⟨p, vs, rfl, .inr ⟨h1, q _ H (Same.refl H) rg⟩⟩
  | lst xs =>
    cases e
    obtain ⟨p, vs, rfl, h1, r⟩ := ra.lst
    refine ⟨p, vs, rfl, .inl ⟨h1, fun l hl => ?_⟩⟩
    have s := same_upd (o := .tup vs) hl
    exact q _ _ s (rep_tup_new (fun z => live l z hl) upd_same ((Ext.same s).reps r))
  | _ => cases e
theorem map_some {α : Type} {o : Option α} {f : α → AV} {z : AV} (h : o.map f = some z) : ∃ a, o = some a ∧ z = f a := by
  cases o with
  | none => cases h
  | some a => cases h; exact ⟨a, rfl, rfl⟩
theorem o_all : Op1' X ct (fun x H Q => rAll X.K [x] H Q) pAll := by
  intro g H a z x Q live ra e q
  cases a with
  | lst xs =>
    obtain ⟨bs, e1, rfl⟩ := map_some e
    rw [bsOf_eq e1] at ra
    obtain ⟨p, vs, rfl, h1, r⟩ := ra.lst
    rw [reps_bls r] at h1
    exact ⟨p, bs, rfl, h1, q _ H (Same.refl H) rep_bl⟩
  | _ => cases e
theorem o_any : Op1' X ct (fun x H Q => rAny X.K [x] H Q) pAny := by
  intro g H a z x Q live ra e q
  cases a with
  | lst xs =>
    obtain ⟨bs, e1, rfl⟩ := map_some e
    rw [bsOf_eq e1] at ra
    obtain ⟨p, vs, rfl, h1, r⟩ := ra.lst
    rw [reps_bls r] at h1
    exact ⟨p, bs, rfl, h1, q _ H (Same.refl H) rep_bl⟩
  | _ => cases e
theorem o_sum : Op1' X ct (fun x H Q => rSum X.K [x] H Q) pSum := by
  intro g H a z x Q live ra e q
  cases a with
  | lst xs =>
    obtain ⟨bs, e1, rfl⟩ := map_some e
    rw [intsOf_eq e1] at ra
    obtain ⟨p, vs, rfl, h1, r⟩ := ra.lst
    rw [reps_ints r] at h1
    exact ⟨p, bs, rfl, h1, q _ H (Same.refl H) rep_int⟩
  | _ => cases e
theorem o_max2 : Op2' X ct (fun x y H Q => ∃ i j, [x, y] = [V.int i, .int j] ∧ Q (.int (if j > i then j else i)) H) pMax2 := by
  intro g H a b z x y Q live ra rb e q
  cases a <;> cases b <;> first | (simp [pMax2] at e; done) | skip
  cases e
  exact ⟨_, _, by rw [ra.int, rb.int], q _ H (Same.refl H) rep_int⟩
theorem o_min2 : Op2' X ct (fun x y H Q => ∃ i j, [x, y] = [V.int i, .int j] ∧ Q (.int (if j < i then j else i)) H) pMin2 := by
  intro g H a b z x y Q live ra rb e q
  cases a <;> cases b <;> first | (simp [pMin2] at e; done) | skip
  cases e
  exact ⟨_, _, by rw [ra.int, rb.int], q _ H (Same.refl H) rep_int⟩
theorem o_divmod : Op2' X ct (fun x y H Q => ∃ i j, [x, y] = [V.int i, .int j] ∧ CDiv i j ∧ ∀ p, H p = none → Q (.ref p) (upd H p (.tup [.int (i / j), .int (i % j)]))) pDivmod := by
  intro g H a b z x y Q live ra rb e q
  cases a <;> cases b <;> first | (simp [pDivmod] at e; done) | skip
  rename_i i j
  obtain ⟨h, rfl⟩ := ifp_some e
  refine ⟨i, j, by rw [ra.int, rb.int], ⟨h.1, by have := below_iff.mp h.2; omega⟩, fun p hp => ?_⟩
  have s := same_upd (o := .tup [V.int (i / j), V.int (i % j)]) hp
  exact q _ _ s (rep_tup_new (fun z => live p z hp) upd_same (.cons (by rw [Rep]) (.cons (by rw [Rep]) .nil)))
end
end Dn

set_option Elab.async false
set_option linter.all false
set_option maxRecDepth 100000
namespace Dn
open PySem PySem.Spec PyProof.Rows L2

/-! ### what a def is worth: a function on trees -/
def spM (c0 : Gc) (β : BInv) (n : Nat) (fn : List AV → T AV) : Sp := fun vs H Q E => ∃ (g : G) (ts : List AV), (∀ i, g.own i = none) ∧ (∀ a, g.M a → H a ≠ none ∧ ∀ ws, H a ≠ some (.tup ws)) ∧ (∀ a, g.M a → ¬ g.B a) ∧ β.I g.B g.D H ∧ RepsG c0 g H ts vs ∧ ts.length = n ∧
  okT c0 β E g H (fn ts) fun g' H' t => ∀ v, β.I g'.B g'.D H' → RepG c0 g' H' t v → Q v H'
/-- what a callee sees: all that the frame owns is its callers' -/
def G.down (g : G) : G := { g with M := fun a => g.M a ∨ ∃ i, g.own i = some a, own := fun _ => none }
theorem down_av {g : G} {a : Addr} : g.down.Av a ↔ g.Av a := by
  unfold G.Av G.down
  constructor
  · rintro ((h | h) | ⟨i, h⟩ | h)
    · exact .inl h
    · exact .inr (.inl h)
    · cases h
    · exact .inr (.inr h)
  · rintro (h | h | h)
    · exact .inl (.inl h)
    · exact .inl (.inr h)
    · exact .inr (.inr h)
/-- what the frame has behind a call -/
def G.up (g g1 : G) : G := { g with B := g1.B, D := g1.D }
section
variable {c0 : Gc} {β : BInv} {Ex : XK} {g g1 : G} {H H1 : Hp} {ρ : Env'} {σ : L2.St}
theorem down_ext (R : Rel c0 β g ρ σ H) (e : Ext g.down g1 H H1) : Ext g (g.up g1) H H1 where
  keep := fun a o h hn hb => e.keep a o h (fun i z => by cases z) hb
  live := e.live
  m := rfl
  bsub := e.bsub
  bnew := e.bnew
  dsub := e.dsub
  own := fun i a h => .inl ⟨i, h⟩
  s := rfl
theorem down_rep (e : Ext g.down g1 H H1) {t : AV} {v : V} (h : RepG c0 g1 H1 t v) : RepG c0 (g.up g1) H1 t v := h.imp (fun a o q na => ⟨q, fun z => na (by
  rcases z with z | ⟨i, z⟩ | z
  · exact .inl (by rw [e.m]; exact .inl z)
  · exact .inl (by rw [e.m]; exact .inr ⟨i, z⟩)
  · exact .inr (.inr z))⟩) fun _ h => h
theorem down_reps (e : Ext g.down g1 H H1) {t : List AV} {v : List V} (h : RepsG c0 g1 H1 t v) : RepsG c0 (g.up g1) H1 t v := h.imp (fun a o q na => ⟨q, fun z => na (by
  rcases z with z | ⟨i, z⟩ | z
  · exact .inl (by rw [e.m]; exact .inl z)
  · exact .inl (by rw [e.m]; exact .inr ⟨i, z⟩)
  · exact .inr (.inr z))⟩) fun _ h => h
theorem rep_down {t : AV} {v : V} (h : RepG c0 g H t v) : RepG c0 g.down H t v := h.imp (fun a o q na => ⟨q, fun z => na (down_av.mp z)⟩) fun _ h => h
theorem reps_down {t : List AV} {v : List V} (h : RepsG c0 g H t v) : RepsG c0 g.down H t v := h.imp (fun a o q na => ⟨q, fun z => na (down_av.mp z)⟩) fun _ h => h
theorem down_rel (R : Rel c0 β g ρ σ H) (e : Ext g.down g1 H H1) (hb : β.I g1.B g1.D H1) : Rel c0 β (g.up g1) ρ σ H1 :=
  R.step (down_ext R e) rfl (fun i a o h1 h2 => e.keep a o h2 (fun i z => by cases z) (R.sep i a h1).2) hb
theorem sp_call {n : Nat} {fn : List AV → T AV} {ts : List AV} {vs : List V} {Q : VK} (R : Rel c0 β g ρ σ H) (r : RepsG c0 g H ts vs) (hn : ts.length = n)
    (h : okT c0 β Ex g H (fn ts) fun g' H' t => ∀ v, Rel c0 β g' ρ σ H' → RepG c0 g' H' t v → Q v H') : spM c0 β n fn vs H Q Ex := by
  refine ⟨g.down, ts, fun _ => rfl, fun a h => ?_, fun a h => ?_, R.box, reps_down r, hn, ?_⟩
  · have h : g.Av a := h.elim .inl fun h => .inr (.inl h)
    exact ⟨R.avLive h, R.avNt h⟩
  · rcases h with h | ⟨i, h⟩
    · exact R.mb a h
    · exact (R.sep i a h).2
  · refine T.all_mono h (fun t q g1 H1 e v hb rv => q _ _ (down_ext R e) v (down_rel R e hb) (down_rep e rv)) fun c xs q g1 H1 C d ws e hb hm hd hl rv => ?_
    exact q _ _ C d ws (down_ext R e) hb hm hd hl (down_reps e rv)
end

/-- what stands where nothing is: written default values -/
def Deft (c0 : Gc) (ts : List AV) (vs : List V) : Prop := ∀ g H, RepsG c0 g H ts vs
def fCall (fn : List AV → T AV) (dts : List AV) (k : SemL) : Sem := fun ρ => (k ρ).bind fun p => (fn (p.1 ++ dts)).bind fun t => .ret (.val t, p.2)
section
variable {X : Cx} {ct : CT} {β : BInv} {Ex : XK} {a b e : Expr} {es : List Expr} {f k : Sem} {m : SemL} {pos p apos : Pos} {x : Str} {lv n : Nat} {fa C : Addr} {fd : FuncData} {ps : List Str} {fn : List AV → T AV} {ds : List Value} {dvs : List V} {dts : List AV}
theorem fCall_ok {σ : L2.St} {H : Hp} {Q : VK} (hd : Deft (gc X ct) dts dvs) (hn : ∀ ts : List AV, T.all (fun _ => True) (fun _ _ => True) (fn ts) → ts.length = n) (h : rdE (gc X ct) β Ex (fCall fn dts m) σ H Q) :
    rdL (gc X ct) β Ex m σ H fun vs H1 => spM (gc X ct) β n fn (vs ++ dvs) H1 Q Ex := by
  obtain ⟨g, ρ, R, h⟩ := h
  refine ⟨g, ρ, R, okT_mono (okT_bind h) fun g1 H1 q e1 h1 vs R1 rv => ?_⟩
  have h2 := okT_bind h1
  refine sp_call R1 (rv.append (hd g1 H1)) (hn _ (T.all_mono h2 (fun _ _ => trivial) fun _ _ _ => trivial)) (okT_mono h2 fun g' H' t e' q v R' rt => okT_ret q v R' rt)
/-- f(e, ..), a def of the text -/
theorem j_call (F : FnOk X.prog X.w X.K X.mg X.base (L2.CX X.prog X.w) lv fa fd ps (spM (gc X ct) β n fn)) (hn : ∀ ts : List AV, T.all (fun _ => True) (fun _ _ => True) (fn ts) → ts.length = n) (hr : Room lv X.A) (hm : X.mg x = some (.ref fa)) (hk : PySem.W.keepIn X.K (.ref fa) = true)
    (hb : Binds X.K fd ps ds) (hd : Vals dvs ds) (hdt : Deft (gc X ct) dts dvs) (hx : Passes (L2.CX X.prog X.w) X Ex) (ha : JL X ct β Ex (e :: es) m) (hg : Gl X x := by rfl) (hdb : (x == ("__debug__" : Str)) = false := by decide +kernel)
    (he : starEach (e :: es) X.env = (false, eval e X.env) :: starEach es X.env := by rfl) (hpl : (backTo pos (starEach es X.env)).any (·.1) = false := by rfl) : JE X ct β Ex (.Call (.Name x p) (e :: es) [] pos) (fCall fn dts m) :=
  PE.imp (pe_call F hr hg hm hk hb hd hx ha hdb he hpl) fun σ H Q h => fCall_ok hdt hn h
theorem j_call0 (F : FnOk X.prog X.w X.K X.mg X.base (L2.CX X.prog X.w) lv fa fd ps (spM (gc X ct) β n fn)) (hn : ∀ ts : List AV, T.all (fun _ => True) (fun _ _ => True) (fn ts) → ts.length = n) (hr : Room lv X.A) (hm : X.mg x = some (.ref fa)) (hk : PySem.W.keepIn X.K (.ref fa) = true)
    (hb : Binds X.K fd ps ds) (hd : Vals dvs ds) (hdt : Deft (gc X ct) dts dvs) (hx : Passes (L2.CX X.prog X.w) X Ex) (hg : Gl X x := by rfl) (hdb : (x == ("__debug__" : Str)) = false := by decide +kernel) : JE X ct β Ex (.Call (.Name x p) [] [] pos) (fCall fn dts lNil) := by
  refine PE.imp (pe_call0 F hr hg hm hk hb hd hx hdb) fun σ H Q h => ?_
  have h := fCall_ok hdt hn h
  obtain ⟨g, ρ, R, h⟩ := h
  exact okT_ret h [] R .nil
/-- o.m(e, ..) of an instance -/
def fMeth (c : Nat) (fn : List AV → T AV) (dts : List AV) (f : Sem) (k : SemL) : Sem := fun ρ => (f ρ).bind fun q => (frz q).bind fun s => match s.1 with
  | .ins c' xs => if c' = c then (k s.2).bind fun p => (fn (.ins c' xs :: (p.1 ++ dts))).bind fun t => .ret (.val t, p.2) else .bad
  | _ => .bad
/-- what a class of the table has for a method -/
structure MethOk (X : Cx) (ct : CT) (c : Nat) (m : Str) (fa : Addr) : Prop where
  cls : ∀ C, X.mg (ct c).1 = some (.ref C) → Cls X.K C ∧ Meth X.K C m fa
  no : m ∉ (ct c).2
theorem lookup_zip_none : ∀ {fl : List Str} {vs : List V} {f : Str}, f ∉ fl → (fl.zip vs).lookup f = none
  | [], _, _, _ => rfl
  | _ :: _, [], _, _ => rfl
  | g :: fl, v :: vs, f, h => by
    have hb : (f == g) = false := beq_eq_false_iff_ne.mpr fun e => h (e ▸ List.mem_cons_self)
    simp only [List.zip_cons_cons, List.lookup, hb]
    exact lookup_zip_none fun z => h (List.mem_cons_of_mem _ z)
theorem fMeth_ok {c : Nat} {mt : Str} {σ : L2.St} {H : Hp} {Q : VK} (M : MethOk X ct c mt fa) (hC : X.mg (ct c).1 = some (.ref C)) (hd : Deft (gc X ct) dts dvs) (hn : ∀ ts : List AV, T.all (fun _ => True) (fun _ _ => True) (fn ts) → ts.length = n) (h : rdE (gc X ct) β Ex (fMeth c fn dts f m) σ H Q) :
    rdE (gc X ct) β Ex f σ H fun x H1 => ∃ a dx fs, x = .ref a ∧ H1 a = some (.ins C dx fs) ∧ fs.lookup mt = none ∧ rdL (gc X ct) β Ex m σ H1 fun vs H2 => spM (gc X ct) β n fn (x :: (vs ++ dvs)) H2 Q Ex := by
  obtain ⟨g, ρ, R, h⟩ := h
  refine ⟨g, ρ, R, okT_mono (okT_bind h) fun g1 H1 q e1 h1 v R1 rv => ?_⟩
  obtain ⟨g2, s, e2, R2, rs, h2⟩ := frz_ok R1 rv h1
  obtain ⟨t, ρ2⟩ := s
  cases t with
  | ins c' xs =>
    by_cases hc : c' = c
    · subst hc
      have h3 : okT (gc X ct) β Ex g2 H1 ((m ρ2).bind fun p => (fn (.ins c' xs :: (p.1 ++ dts))).bind fun t => .ret (Hd.val t, p.2)) fun g' H' p => ∀ v, Rel (gc X ct) β g' p.2 σ H' → RepH (gc X ct) g' σ H' p.1 v → Q v H' := by
        have h2' : okT (gc X ct) β Ex g2 H1 (if c' = c' then _ else _) _ := h2
        rw [if_pos rfl] at h2'
        exact h2'
      have rs0 := rs
      rw [RepG, Rep] at rs
      obtain ⟨a, C', dx, vs, rfl, na, hm, ho, hl, r⟩ := rs
      have hC' : C' = C := by
        have e : some (Value.ref C') = some (Value.ref C) := hm.symm.trans hC
        cases e
        rfl
      subst hC'
      refine ⟨a, dx, _, rfl, ho, lookup_zip_none M.no, g2, ρ2, R2, okT_mono (okT_bind h3) fun g3 H3 q e3 h4 ws R3 rw => ?_⟩
      have h5 := okT_bind h4
      exact sp_call R3 (.cons (e3.rep rs0) (rw.append (hd g3 H3))) (hn _ (T.all_mono h5 (fun _ _ => trivial) fun _ _ _ => trivial)) (okT_mono h5 fun g' H' t e' q v R' rt => okT_ret q v R' rt)
    · have h2' : okT (gc X ct) β Ex g2 H1 (if c' = c then _ else _) _ := h2
      rw [if_neg hc] at h2'
      exact (show False from h2').elim
  | _ => exact (show False from h2).elim
theorem j_meth {c : Nat} {mt : Str} {pl : PySem.Sem Bool} (ha0 : JE X ct β Ex a f) (M : MethOk X ct c mt fa) (hC : X.mg (ct c).1 = some (.ref C)) (F : FnOk X.prog X.w X.K X.mg X.base (L2.CX X.prog X.w) lv fa fd ps (spM (gc X ct) β n fn)) (hn : ∀ ts : List AV, T.all (fun _ => True) (fun _ _ => True) (fn ts) → ts.length = n) (hr : Room lv X.A)
    (hb : Binds X.K fd ps ds) (hd : Vals dvs ds) (hdt : Deft (gc X ct) dts dvs) (hx : Passes (L2.CX X.prog X.w) X Ex) (ha : JL X ct β Ex (e :: es) m)
    (hst : starEach (e :: es) X.env = (false, eval e X.env) :: starEach es X.env := by rfl) (hpl : (backTo pos (starEach es X.env)).any (·.1) = false := by rfl)
    (ht : eval (.Call (.Attribute a mt apos) (e :: es) [] pos) X.env = (do
      let ov ← eval a X.env
      standAt apos.atName
      let (f, first) ← holding [ov] (getMethod ov mt pl)
      callWith pos f first (backTo pos (starEach (e :: es) X.env)) (backToKw pos (keywordEach [] X.env))) := by rfl) : JE X ct β Ex (.Call (.Attribute a mt apos) (e :: es) [] pos) (fMeth c fn dts f m) :=
  PE.imp (pe_meth ha0 (M.cls C hC).1 (M.cls C hC).2 F hr hb hd hx ha hst hpl ht) fun σ H Q h => fMeth_ok M hC hdt hn h
theorem j_meth0 {c : Nat} {mt : Str} {pl : PySem.Sem Bool} (ha0 : JE X ct β Ex a f) (M : MethOk X ct c mt fa) (hC : X.mg (ct c).1 = some (.ref C)) (F : FnOk X.prog X.w X.K X.mg X.base (L2.CX X.prog X.w) lv fa fd ps (spM (gc X ct) β n fn)) (hn : ∀ ts : List AV, T.all (fun _ => True) (fun _ _ => True) (fn ts) → ts.length = n) (hr : Room lv X.A)
    (hb : Binds X.K fd ps ds) (hd : Vals dvs ds) (hdt : Deft (gc X ct) dts dvs) (hx : Passes (L2.CX X.prog X.w) X Ex)
    (ht : eval (.Call (.Attribute a mt apos) [] [] pos) X.env = (do
      let ov ← eval a X.env
      standAt apos.atName
      let (f, first) ← holding [ov] (getMethod ov mt pl)
      callWith pos f first (backTo pos (starEach [] X.env)) (backToKw pos (keywordEach [] X.env))) := by rfl) : JE X ct β Ex (.Call (.Attribute a mt apos) [] [] pos) (fMeth c fn dts f lNil) := by
  refine PE.imp (pe_meth0 ha0 (M.cls C hC).1 (M.cls C hC).2 F hr hb hd hx ht) fun σ H Q h => ?_
  have h := fMeth_ok M hC hdt hn h
  obtain ⟨g, ρ, R, h⟩ := h
  refine ⟨g, ρ, R, okT_mono h fun g' H' p e q v R' rv => ?_⟩
  obtain ⟨a, dx, fs, e1, e2, e3, g2, ρ2, R2, h2⟩ := q v R' rv
  exact ⟨a, dx, fs, e1, e2, e3, okT_ret h2 [] R2 .nil⟩
end

/-! ### statements -/
inductive Out where
  | nx (ρ : Env') | rt (t : AV) | bk (ρ : Env') | ct (ρ : Env')
abbrev SSem := Env' → T Out
def endOk (c0 : Gc) (β : BInv) (D : Ends) (g : G) (H : Hp) : Out → Prop
  | .nx ρ => ∀ σ, Rel c0 β g ρ σ H → D.nx σ H
  | .rt t => ∀ v, β.I g.B g.D H → RepG c0 g H t v → D.rt v H
  | .bk ρ => ∀ σ, Rel c0 β g ρ σ H → D.bk σ H
  | .ct ρ => ∀ σ, Rel c0 β g ρ σ H → D.ct σ H
def rdS (c0 : Gc) (β : BInv) (Ex : XK) (f : SSem) : TS := fun D σ H => ∃ g ρ, Rel c0 β g ρ σ H ∧ okT c0 β Ex g H (f ρ) (endOk c0 β D)
def JS (X : Cx) (ct : CT) (β : BInv) (Ex : XK) (st : Stmt) (f : SSem) : Prop := PS X st (rdS (gc X ct) β Ex f)
def JSs (X : Cx) (ct : CT) (β : BInv) (Ex : XK) (st : List Stmt) (f : SSem) : Prop := PSs X st (rdS (gc X ct) β Ex f)
theorem PS.imp {X : Cx} {st : Stmt} {t t' : TS} (h : PS X st t) (i : ∀ D σ H, t' D σ H → t D σ H) : PS X st t' := ⟨fun pins s σ H D I q => h.run pins s σ H D I (i D σ H q)⟩
theorem PSs.imp {X : Cx} {st : List Stmt} {t t' : TS} (h : PSs X st t) (i : ∀ D σ H, t' D σ H → t D σ H) : PSs X st t' := ⟨fun pins s σ H D I q => h.run pins s σ H D I (i D σ H q)⟩
def sSeq (f k : SSem) : SSem := fun ρ => (f ρ).bind fun
  | .nx ρ' => k ρ'
  | o => .ret o
def sNil : SSem := fun ρ => .ret (.nx ρ)
def sExpr (f : Sem) : SSem := fun ρ => (f ρ).bind fun p => .ret (.nx p.2)
def sRet (f : Sem) : SSem := fun ρ => (f ρ).bind fun p => (frz p).bind fun q => .ret (.rt q.1)
def sRetN : SSem := fun _ => .ret (.rt .non)
def sBreak : SSem := fun ρ => .ret (.bk ρ)
def sCont : SSem := fun ρ => .ret (.ct ρ)
def sIf (t : SemB) (f k : SSem) : SSem := fun ρ => (t ρ).bind fun p => if p.1 then f p.2 else k p.2
def sSet (i : Nat) (f : Sem) : SSem := fun ρ => (f ρ).bind fun p => (frz p).bind fun q => .ret (.nx (q.2.set i (.fro q.1)))
section
variable {X : Cx} {ct : CT} {β : BInv} {Ex : XK} {a b e : Expr} {st : Stmt} {sts sts' : List Stmt} {f : Sem} {fb : SemB} {s s' : SSem} {pos p : Pos} {x : Str} {i : Nat}
theorem js_nil : JSs X ct β Ex [] sNil := PSs.imp pss_nil fun D σ H h => by
  obtain ⟨g, ρ, R, h⟩ := h
  exact okT_ret h σ R
theorem js_cons (h1 : JS X ct β Ex st s) (h2 : JSs X ct β Ex sts s') : JSs X ct β Ex (st :: sts) (sSeq s s') := by
  refine PSs.imp (pss_cons h1 h2) fun D σ H h => ?_
  obtain ⟨g, ρ, R, h⟩ := h
  refine ⟨g, ρ, R, okT_mono (okT_bind h) fun g' H' o e q => ?_⟩
  cases o with
  | nx ρ' => exact fun σ' R' => ⟨g', ρ', R', q⟩
  | rt t => exact (okT_ret (c0 := gc X ct) (β := β) (Ex := Ex) (Q := endOk (gc X ct) β D) q : endOk (gc X ct) β D g' H' (.rt t))
  | bk ρ' => exact (okT_ret (c0 := gc X ct) (β := β) (Ex := Ex) (Q := endOk (gc X ct) β D) q : endOk (gc X ct) β D g' H' (.bk ρ'))
  | ct ρ' => exact (okT_ret (c0 := gc X ct) (β := β) (Ex := Ex) (Q := endOk (gc X ct) β D) q : endOk (gc X ct) β D g' H' (.ct ρ'))
theorem js_one (h1 : JS X ct β Ex st s) : JSs X ct β Ex [st] s := PSs.imp (pss_one h1) fun _ _ _ h => h
theorem js_expr (ha : JE X ct β Ex a f) (hs : swapsWith a none pos.line X.env = pure false := by rfl) : JS X ct β Ex (.Expr a pos) (sExpr f) := by
  refine PS.imp (ps_expr ha hs) fun D σ H h => ?_
  obtain ⟨g, ρ, R, h⟩ := h
  exact ⟨g, ρ, R, okT_mono (okT_bind h) fun g' H' p e q v R' rv => okT_ret q σ R'⟩
theorem js_ret (ha : JE X ct β Ex a f) : JS X ct β Ex (.Return (some a) pos) (sRet f) := by
  refine PS.imp (ps_ret ha) fun D σ H h => ?_
  obtain ⟨g, ρ, R, h⟩ := h
  refine ⟨g, ρ, R, okT_mono (okT_bind h) fun g' H' p e q v R' rv => ?_⟩
  obtain ⟨g2, s, e2, R2, rs, h2⟩ := frz_ok R' rv q
  exact okT_ret h2 v R2.box rs
theorem js_retN : JS X ct β Ex (.Return none pos) sRetN := PS.imp ps_retN fun D σ H h => by
  obtain ⟨g, ρ, R, h⟩ := h
  exact okT_ret h .non R.box rep_non
theorem js_break : JS X ct β Ex (.Break pos) sBreak := PS.imp ps_break fun D σ H h => by
  obtain ⟨g, ρ, R, h⟩ := h
  exact okT_ret h σ R
theorem js_cont : JS X ct β Ex (.Continue pos) sCont := PS.imp ps_continue fun D σ H h => by
  obtain ⟨g, ρ, R, h⟩ := h
  exact okT_ret h σ R
theorem js_pass : JS X ct β Ex (.Pass pos) sNil := PS.imp ps_pass fun D σ H h => by
  obtain ⟨g, ρ, R, h⟩ := h
  exact okT_ret h σ R
theorem js_if (hc : JT X ct β Ex a fb) (h1 : JSs X ct β Ex sts s) (h2 : JSs X ct β Ex sts' s') : JS X ct β Ex (.If a sts sts' pos) (sIf fb s s') := by
  refine PS.imp (ps_if hc h1 h2) fun D σ H h => ?_
  obtain ⟨g, ρ, R, h⟩ := h
  refine ⟨g, ρ, R, okT_mono (okT_bind h) fun g1 H1 p e1 h1 R1 => ?_⟩
  by_cases hp : p.1 = true
  · rw [if_pos hp] at h1 ⊢
    exact ⟨g1, p.2, R1, h1⟩
  · rw [if_neg hp] at h1 ⊢
    exact ⟨g1, p.2, R1, h1⟩
/-- a tree put into a slot -/
theorem Rel.setFro {c0 : Gc} {g : G} {ρ : Env'} {σ : L2.St} {H : Hp} {j : Nat} {t : AV} {v : V} (R : Rel c0 β g ρ σ H) (r : RepG c0 g H t v) (hj : j < ρ.length) : Rel c0 β (g.no j) (ρ.set j (.fro t)) (σ.set j (some v)) H := by
  refine R.put (ext_no g j H) (List.length_set ..) (fun i hi => List.getElem?_set_ne (Ne.symm hi)) hj (fun i hi => own_no_ne hi) (fun _ _ _ _ _ h => h) R.box ?_ fun a h => by rw [own_no] at h; cases h
  rw [own_no]
  exact ⟨rfl, v, by rw [List.getElem?_set_self (by rw [R.len]; exact hj)], (ext_no g j H).rep r⟩
theorem set_ge {ρ : Env'} {j : Nat} {s : Slot} (h : ¬ j < ρ.length) : ρ.set j s = ρ := List.set_eq_of_length_le (by omega)
theorem js_set (i : Nat) (ha : JE X ct β Ex a f) (hN : X.N.Nodup) (hi : X.N[i]? = some x := by rfl) (hx : Loc X.env.scope x := by first | exact Or.inl rfl | exact Or.inr rfl) (hs : swapsWith a (some (.Name x p)) pos.line X.env = pure false := by rfl)
    (hf : X.fn x = true ∨ X.env.scope.names.lookup x = some .local := by first | exact .inl rfl | exact .inr rfl) : JS X ct β Ex (.Assign [.Name x p] a pos) (sSet i f) := by
  refine PS.imp (ps_set hN hi hx ha hs hf) fun D σ H h => ?_
  obtain ⟨g, ρ, R, h⟩ := h
  refine ⟨g, ρ, R, okT_mono (okT_bind h) fun g' H' p e q v R' rv => ?_⟩
  obtain ⟨g2, s, e2, R2, rs, h2⟩ := frz_ok R' rv q
  show D.nx (σ.set i (some v)) H'
  by_cases hj : i < s.2.length
  · exact okT_ret' h2 (ext_no g2 i H') _ (R2.setFro rs hj)
  · have e := okT_ret h2
    rw [set_ge hj] at e
    have : σ.set i (some v) = σ := List.set_eq_of_length_le (by rw [R2.len]; omega)
    rw [this]
    exact e σ R2
end
/-! ### targets -/
abbrev GSem := AV → Env' → T Env'
/-- two readings of the slots that agree but at some -/
def Agree (is : List Nat) (σ σ' : L2.St) : Prop := σ'.length = σ.length ∧ ∀ i, i ∉ is → σ'[i]? = σ[i]?
theorem Agree.refl {is : List Nat} {σ : L2.St} : Agree is σ σ := ⟨rfl, fun _ _ => rfl⟩
theorem Agree.trans {is js : List Nat} {σ σ1 σ2 : L2.St} (a : Agree is σ σ1) (b : Agree js σ1 σ2) : Agree (is ++ js) σ σ2 :=
  ⟨b.1.trans a.1, fun i h => (b.2 i fun z => h (List.mem_append_right _ z)).trans (a.2 i fun z => h (List.mem_append_left _ z))⟩
def rdG (c0 : Gc) (β : BInv) (Ex : XK) (is : List Nat) (f : GSem) : TG := fun v σ H Q => ∃ g ρ t, Rel c0 β g ρ σ H ∧ RepG c0 g H t v ∧ okT c0 β Ex g H (f t ρ) fun g' H' ρ' => ∀ σ', Agree is σ σ' → Rel c0 β g' ρ' σ' H' → Q σ' H'
def rdGs (c0 : Gc) (β : BInv) (Ex : XK) (is : List Nat) (f : List AV → Env' → T Env') : TGs := fun vs σ H Q => ∃ g ρ ts, Rel c0 β g ρ σ H ∧ RepsG c0 g H ts vs ∧ okT c0 β Ex g H (f ts ρ) fun g' H' ρ' => ∀ σ', Agree is σ σ' → Rel c0 β g' ρ' σ' H' → Q σ' H'
def JG (X : Cx) (ct : CT) (β : BInv) (Ex : XK) (e : Expr) (is : List Nat) (f : GSem) : Prop := PG X e (rdG (gc X ct) β Ex is f)
def JGs (X : Cx) (ct : CT) (β : BInv) (Ex : XK) (e : List Expr) (is : List Nat) (f : List AV → Env' → T Env') : Prop := PGs X e (rdGs (gc X ct) β Ex is f)
theorem PG.imp {X : Cx} {e : Expr} {t t' : TG} (h : PG X e t) (i : ∀ v σ H Q, t' v σ H Q → t v σ H Q) : PG X e t' := ⟨fun pins s σ H v u Q I r q => h.run pins s σ H v u Q I r (i v σ H Q q)⟩
theorem PGs.imp {X : Cx} {e : List Expr} {t t' : TGs} (h : PGs X e t) (i : ∀ v σ H Q, t' v σ H Q → t v σ H Q) : PGs X e t' := ⟨fun pins s σ H v u Q I r q => h.run pins s σ H v u Q I r (i v σ H Q q)⟩
def tgName (i : Nat) : GSem := fun t ρ => .ret (ρ.set i (.fro t))
def tgNil : List AV → Env' → T Env' := fun ts ρ => match ts with
  | [] => .ret ρ
  | _ => .bad
def tgCons (f : GSem) (k : List AV → Env' → T Env') : List AV → Env' → T Env' := fun ts ρ => match ts with
  | t :: r => (f t ρ).bind fun ρ' => k r ρ'
  | [] => .bad
def tgTup (n : Nat) (k : List AV → Env' → T Env') : GSem := fun t ρ => match t with
  | .tup xs => if xs.length = n then k xs ρ else .bad
  | _ => .bad
def sAsg (f : Sem) (k : GSem) : SSem := fun ρ => (f ρ).bind fun p => (frz p).bind fun q => (k q.1 q.2).bind fun ρ' => .ret (.nx ρ')
section
variable {X : Cx} {ct : CT} {β : BInv} {Ex : XK} {a tg : Expr} {es : List Expr} {is js : List Nat} {f : Sem} {k : GSem} {ks : List AV → Env' → T Env'} {pos p : Pos} {x : Str} {n kk : Nat}
theorem jg_name (i : Nat) (hN : X.N.Nodup) (hi : X.N[i]? = some x := by rfl) (hx : Loc X.env.scope x := by first | exact Or.inl rfl | exact Or.inr rfl)
    (hf : X.fn x = true ∨ X.env.scope.names.lookup x = some .local := by first | exact .inl rfl | exact .inr rfl) : JG X ct β Ex (.Name x p) [i] (tgName i) := by
  refine PG.imp (pg_name hN hi hx hf) fun v σ H Q h => ?_
  obtain ⟨g, ρ, t, R, r, h⟩ := h
  show Q (σ.set i (some v)) H
  have ag : Agree [i] σ (σ.set i (some v)) := ⟨List.length_set .., fun j hj => List.getElem?_set_ne (fun e => hj (by simp [e]))⟩
  by_cases hj : i < ρ.length
  · exact okT_ret' h (ext_no g i H) _ ag (R.setFro r hj)
  · have e := okT_ret h
    rw [set_ge hj] at e
    have e2 : σ.set i (some v) = σ := List.set_eq_of_length_le (by rw [R.len]; omega)
    rw [e2] at ag ⊢
    exact e σ ag R
theorem jg_nil : JGs X ct β Ex [] [] tgNil := PGs.imp pgs_nil fun vs σ H Q h => by
  obtain ⟨g, ρ, ts, R, r, h⟩ := h
  cases ts with
  | nil => rw [RepsG, RepL] at r; exact ⟨r, okT_ret h σ Agree.refl R⟩
  | cons _ _ => exact (show False from h).elim
theorem jg_cons (h1 : JG X ct β Ex tg is k) (h2 : JGs X ct β Ex es js ks) (hs : (assignEach (tg :: es) X.env).map (·.2) = assign tg X.env :: (assignEach es X.env).map (·.2) := by rfl) : JGs X ct β Ex (tg :: es) (is ++ js) (tgCons k ks) := by
  refine PGs.imp (pgs_cons h1 h2 hs) fun vs σ H Q h => ?_
  obtain ⟨g, ρ, ts, R, r, h⟩ := h
  cases ts with
  | nil => exact (show False from h).elim
  | cons t ts =>
    rw [RepsG, RepL] at r
    obtain ⟨v, r', rfl, h1, h2⟩ := r
    exact ⟨v, r', rfl, g, ρ, t, R, h1, okT_mono (okT_bind h) fun g' H' ρ' e q σ' a1 R' => ⟨g', ρ', ts, R', e.reps h2, okT_mono q fun g2 H2 ρ2 e2 q2 σ2 a2 R2 => q2 σ2 (a1.trans a2) R2⟩⟩
theorem jg_tup (hc : X.calm = true) (h : JGs X ct β Ex es is ks) (hn : (assignEach es X.env).length = n := by rfl) (hst : (assignEach es X.env).findIdx? (·.1) = none := by rfl) : JG X ct β Ex (.Tuple es kk pos) is (tgTup n ks) := by
  refine PG.imp (pg_tup hc h hn hst) fun v σ H Q h => ?_
  obtain ⟨g, ρ, t, R, r, h⟩ := h
  cases t with
  | tup xs =>
    rw [RepG, Rep] at r
    obtain ⟨a, vs, rfl, q, r⟩ := r
    have h' : okT (gc X ct) β Ex g H (if xs.length = n then ks xs ρ else .bad) _ := h
    by_cases hl : xs.length = n
    · rw [if_pos hl] at h'
      exact ⟨a, vs, rfl, q.sq, r.length.trans hl, g, ρ, xs, R, r, h'⟩
    · rw [if_neg hl] at h'
      exact (show False from h').elim
  | _ => exact (show False from h).elim
theorem js_asg (ha : JE X ct β Ex a f) (hg : JG X ct β Ex tg is k) (hs : swapsWithSole [tg] a pos.line X.env = pure false := by rfl) (hw : swappedStores [tg] a X.env = pure none := by rfl)
    (h1 : (assignEach [tg] X.env).map (·.2) = [assign tg X.env] := by rfl) : JS X ct β Ex (.Assign [tg] a pos) (sAsg f k) := by
  refine PS.imp (ps_asg ha hg hs hw h1) fun D σ H h => ?_
  obtain ⟨g, ρ, R, h⟩ := h
  refine ⟨g, ρ, R, okT_mono (okT_bind h) fun g' H' p e q v R' rv => ?_⟩
  obtain ⟨g2, s, e2, R2, rs, h2⟩ := frz_ok R' rv q
  exact ⟨g2, s.2, s.1, R2, rs, okT_mono (okT_bind h2) fun g3 H3 ρ' e3 q3 σ' _ R3 => okT_ret q3 σ' R3⟩
end

/-! ### a def -/
def outV : Out → T AV
  | .rt t => .ret t
  | .nx _ => .ret .non
  | _ => .bad
/-- np: how many parameters; n: how many slots -/
def fnOf (np n : Nat) (body : SSem) : List AV → T AV := fun ts => if ts.length = np then (body (ts.map Slot.fro ++ List.replicate (n - np) .un)).bind outV else .bad
theorem fnOf_len {np n : Nat} {body : SSem} (ts : List AV) (h : T.all (fun _ => True) (fun _ _ => True) (fnOf np n body ts)) : ts.length = np := by
  unfold fnOf at h
  by_cases hl : ts.length = np
  · exact hl
  · rw [if_neg hl] at h; exact h.elim
section
variable {P : Program} {w : World} {K : PySem.W.Frag} {mg : Str → Option Value} {base : Heap} {ct : CT} {β : BInv}
theorem passB {N : List Str} {qual : Str} {scope : Scope} {f : Addr} {cd : Value} {A : Around} {outer : List Env} {s : Shared} {H : Hp} {E : XK} : Passes (L2.CX P w) (cxOf (L2.CX P w) P w K mg base N qual scope f cd A outer s H E) E :=
  passes_call (X := cxOf (L2.CX P w) P w K mg base N qual scope f cd A outer s H E) (takes_of rfl rfl rfl rfl) fun _ _ _ _ h => h
theorem passOwnB {N : List Str} {qual : Str} {scope : Scope} {f : Addr} {cd : Value} {A : Around} {outer : List Env} {s : Shared} {H : Hp} {E : XK} :
    PassesOwn (model P w) (cxOf (L2.CX P w) P w K mg base N qual scope f cd A outer s H E).A (cxOf (L2.CX P w) P w K mg base N qual scope f cd A outer s H E).env (cxOf (L2.CX P w) P w K mg base N qual scope f cd A outer s H E).xe :=
  passes_of (X := cxOf (L2.CX P w) P w K mg base N qual scope f cd A outer s H E) rfl
theorem rel_start {c0 : Gc} {g : G} {H : Hp} {ts : List AV} {vs : List V} {N : List Str} {np : Nat} (ho : ∀ i, g.own i = none) (hm : ∀ a, g.M a → H a ≠ none ∧ ∀ ws, H a ≠ some (.tup ws)) (hmb : ∀ a, g.M a → ¬ g.B a) (hb : β.I g.B g.D H) (r : RepsG c0 g H ts vs) (hl : ts.length = np) (hN : np ≤ N.length) :
    Rel c0 β g (ts.map Slot.fro ++ List.replicate (N.length - np) .un) (L2.start N vs) H where
  len := by
    unfold L2.start
    rw [List.length_append, List.length_append, List.length_map, List.length_map, List.length_replicate, List.length_replicate, r.length, hl]
  sl := fun i s hi => by
    rw [ho i]
    by_cases h : i < ts.length
    · rw [List.getElem?_append_left (by rw [List.length_map]; exact h), List.getElem?_map] at hi
      cases e : ts[i]? with
      | none => rw [e] at hi; cases hi
      | some t =>
        rw [e] at hi
        cases hi
        obtain ⟨v, ev, rv⟩ := r.get' e
        refine ⟨rfl, v, ?_, rv⟩
        unfold L2.start
        rw [List.getElem?_append_left (by rw [List.length_map, r.length]; exact h), List.getElem?_map, ev]
        rfl
    · rw [List.getElem?_append_right (by rw [List.length_map]; omega), List.getElem?_replicate] at hi
      split at hi
      · cases hi; rfl
      · cases hi
  out := fun i _ => ho i
  inj := fun i j a h => by rw [ho i] at h; cases h
  alive := fun a h => (hm a h).1
  nt := fun a h => (hm a h).2
  sep := fun i a h => by rw [ho i] at h; cases h
  mb := hmb
  box := hb
theorem fn_def {x qual : Str} {st : Stmt} {f : Addr} {fd : FuncData} {N ps : List Str} {k : Nat} {body : SSem} (F : Fun K x qual st f fd) (S : FnScope N ps (defScope st)) (hl : ps.length ≤ N.length)
    (hb : ∀ (cdv : Value) (A : Around) (outer : List Env) (s : Shared) (H : Hp) (E : XK), Room k (A.deeper (envOfC qual (defScope st) s.heap.objs.size f cdv)) → JSs (cxOf (L2.CX P w) P w K mg base N qual (defScope st) f cdv A outer s H E) ct β E (defBody st) body) :
    FnOk P w K mg base (L2.CX P w) (k + 1) f fd ps (spM ⟨K, mg, ct⟩ β ps.length (fnOf ps.length N.length body)) := by
  refine F.okX S (fun vs H Q E h => ?_) fun cdv A outer s H vs Q E hr h => ?_
  · obtain ⟨g, ts, _, _, _, _, r, e, _⟩ := h
    rw [r.length, e]
  · obtain ⟨g, ts, ho, hm, hmb, hbx, r, e, h⟩ := h
    refine ⟨_, hb cdv A outer s H E hr, g, _, rel_start ho hm hmb hbx r e hl, ?_⟩
    have h' : okT ⟨K, mg, ct⟩ β E g H ((body (ts.map Slot.fro ++ List.replicate (N.length - ps.length) .un)).bind outV) fun g' H' t => ∀ v, β.I g'.B g'.D H' → RepG ⟨K, mg, ct⟩ g' H' t v → Q v H' := by
      unfold fnOf at h
      rw [if_pos e] at h
      exact h
    refine okT_mono (okT_bind h') fun g' H' o e q => ?_
    cases o with
    | nx ρ => exact fun σ R => okT_ret q .non R.box rep_non
    | rt t => exact okT_ret (c0 := ⟨K, mg, ct⟩) (β := β) (Ex := E) (Q := fun g' H' t => ∀ v, β.I g'.B g'.D H' → RepG ⟨K, mg, ct⟩ g' H' t v → Q v H') q
    | bk ρ => exact (show False from q).elim
    | ct ρ => exact (show False from q).elim
end
end Dn

set_option Elab.async false
set_option linter.all false
set_option maxRecDepth 100000
namespace Dn
open PySem PySem.Spec PyProof.Rows L2

/-! ### what a loop walks -/
/-- what stood then stands now -/
def Keeps (c0 : Gc) (g g' : G) (H H' : Hp) : Prop := ∀ t v, RepG c0 g H t v → RepG c0 g' H' t v
structure Wk (c0 : Gc) (g : G) (H : Hp) (J : It) (xs : List AV) : Prop where
  go : ∀ (g' : G) (H' : Hp) (i : Nat), Keeps c0 g g' H H' → i < xs.length → J.go i H'
  yld : ∀ (g' : G) (H' H2 : Hp) (i : Nat) (x : AV) (v : V), Keeps c0 g g' H H' → (∀ p, g'.Av p → H' p ≠ none) → xs[i]? = some x → J.yld i H' v H2 → Same H' H2 ∧ RepG c0 g' H2 x v
  stop : ∀ (g' : G) (H' : Hp) (i : Nat), Keeps c0 g g' H H' → xs.length ≤ i → J.stop i H'
abbrev SemI := Env' → T (List AV × Env')
def rdI (c0 : Gc) (β : BInv) (Ex : XK) (f : SemI) : TI := fun σ H R => ∃ g ρ, Rel c0 β g ρ σ H ∧ okT c0 β Ex g H (f ρ) fun g' H' p => ∀ J, Rel c0 β g' p.2 σ H' → Wk c0 g' H' J p.1 → R J H'
def JI (X : Cx) (ct : CT) (β : BInv) (Ex : XK) (tg e : Expr) (f : SemI) : Prop := PI X tg e (rdI (gc X ct) β Ex f)
theorem PI.imp {X : Cx} {tg e : Expr} {t t' : TI} (h : PI X tg e t) (i : ∀ σ H Q, t' σ H Q → t σ H Q) : PI X tg e t' := ⟨fun pins s σ H R I q => h.run pins s σ H R I (i σ H R q)⟩
def seqOf : AV → Option (List AV)
  | .tup xs => some xs
  | .lst xs => some xs
  | _ => none
/-- a list, a tuple -/
def iSeq (f : Sem) : SemI := fun ρ => (f ρ).bind fun p => (frz p).bind fun q => (lift (seqOf q.1)).bind fun xs => .ret (xs, q.2)
def rangeL (lo : Int) (n : Nat) : List AV := (List.range n).map fun (i : Nat) => AV.int (lo + (i : Int))
def iRange1 (f : Sem) : SemI := fun ρ => (f ρ).bind fun p => (lift (rs p.1 p.2)).bind fun a => (lift (intOf a)).bind fun j => if below j 62 = true then .ret (rangeL 0 j.toNat, p.2) else .bad
def iRange2 (f k : Sem) : SemI := fun ρ => (f ρ).bind fun p => (k p.2).bind fun q => (lift (rs p.1 q.2)).bind fun a => (lift (intOf a)).bind fun i => (lift (rs q.1 q.2)).bind fun b => (lift (intOf b)).bind fun j =>
  if below i 62 = true ∧ below j 62 = true then .ret (rangeL i (j - i).toNat, q.2) else .bad
section
variable {X : Cx} {ct : CT} {β : BInv} {Ex : XK} {a b tg : Expr} {f k : Sem} {pos p : Pos}
/-- a list or a tuple: which one is seen when it is there -/
def iAny (K : PySem.W.Frag) (t0 : TE) : TI := fun σ H R => t0 σ H fun x H1 => (∃ q, x = .ref q ∧ (∃ xs, SqL K H1 q xs) ∧ R (Itl K q) H1) ∨ ∃ q, x = .ref q ∧ (∃ xs, SqT K H1 q xs) ∧ R (Itt K q) H1
theorem pi_anySeq {e0 : Expr} {t0 : TE} (he : PE X e0 t0) : PI X tg e0 (iAny X.K t0) := by
  constructor
  intro pins s σ H R I h
  refine thn (he.run pins s σ H _ I h) ?_
  rintro v s1 ⟨x, H1, I1, r1, ⟨q, rfl, ⟨xs, hq⟩, k⟩ | ⟨q, rfl, ⟨xs, hq⟩, k⟩⟩
  · cases r1
    obtain ⟨its, _, pl, _⟩ := I1.list hq
    apply wpAny_pyIter_list pl.isList
    have J := I1.kept (t' := s1.toks) (h' := s1.heap.push { cls := .type "list_iterator", data := .fields #[.ref q, .int 0 0] }) fun _ _ w => Heap.get?_push_of_some _ w
    refine ⟨_, [s1.heap.objs.size], _, Itl X.K q, H1, rfl, J, turn_list q _, ⟨_, Heap.get?_push_size _ rfl, rfl, rfl⟩, ?_, k⟩
    intro b hb
    cases List.mem_singleton.mp hb
    exact I1.fpOk (Nat.le_refl _) I1.fresh
  · cases r1
    obtain ⟨its, _, pl, _⟩ := I1.tuple hq
    apply wpAny_pyIter_tuple (show s1.heap.IsTuple q its.toArray from pl)
    have J := I1.kept (t' := s1.toks) (h' := s1.heap.push { cls := .type "tuple_iterator", data := .fields #[.ref q, .int 0 0] }) fun _ _ w => Heap.get?_push_of_some _ w
    refine ⟨_, [s1.heap.objs.size], _, Itt X.K q, H1, rfl, J, turn_tuple q _, ⟨_, Heap.get?_push_size _ rfl, rfl, rfl⟩, ?_, k⟩
    intro b hb
    cases List.mem_singleton.mp hb
    exact I1.fpOk (Nat.le_refl _) I1.fresh
theorem sqL_inj {K : PySem.W.Frag} {H : Hp} {a : Addr} {xs : List V} (h : H a = some (.lst xs)) : SqL K H a xs := .of h
theorem wk_list {c0 : Gc} {g : G} {H : Hp} {a : Addr} {xs : List AV} (h : RepG c0 g H (.lst xs) (.ref a)) : Wk c0 g H (Itl c0.K a) xs := by
  have at_ : ∀ (g' : G) (H' : Hp), Keeps c0 g g' H H' → ∃ vs, H' a = some (.lst vs) ∧ RepsG c0 g' H' xs vs := fun g' H' k => by
    have q := k _ _ h
    rw [RepG, Rep] at q
    obtain ⟨a', vs, e, ⟨na, ho⟩, r⟩ := q
    cases e
    exact ⟨vs, ho, r⟩
  refine ⟨fun g' H' i e hi => ?_, fun g' H' H2 i x v e _ hx hy => ?_, fun g' H' i e hi => ?_⟩
  · obtain ⟨vs, ho, r⟩ := at_ g' H' e
    exact ⟨vs, vs[i]'(by rw [r.length]; exact hi), .of ho, List.getElem?_eq_getElem _⟩
  · obtain ⟨e1, hy⟩ := hy
    subst e1
    obtain ⟨vs, ho, r⟩ := at_ g' _ e
    refine ⟨Same.refl _, ?_⟩
    obtain ⟨y, ey, ry⟩ := r.get (hy vs (.of ho))
    rw [hx] at ey
    cases ey
    exact ry
  · obtain ⟨vs, ho, r⟩ := at_ g' H' e
    exact ⟨vs, .of ho, by rw [r.length]; exact hi⟩
theorem TupAt.ext {K : PySem.W.Frag} {g g' : G} {H H' : Hp} {a : Addr} {vs : List V} (e : Ext g g' H H') (h : TupAt K g.Av H a vs) : TupAt K g'.Av H' a vs := by
  rcases h with ⟨na, q⟩ | q
  · exact .inl ⟨(e.av q na).2, (e.av q na).1⟩
  · exact .inr q
theorem wk_tup {c0 : Gc} {g : G} {H : Hp} {a : Addr} {xs : List AV} (h : RepG c0 g H (.tup xs) (.ref a)) : Wk c0 g H (Itt c0.K a) xs := by
  have at_ : ∀ (g' : G) (H' : Hp), Keeps c0 g g' H H' → ∃ vs, SqT c0.K H' a vs ∧ RepsG c0 g' H' xs vs := fun g' H' k => by
    have q := k _ _ h
    rw [RepG, Rep] at q
    obtain ⟨a', vs, e, ho, r⟩ := q
    cases e
    exact ⟨vs, ho.sq, r⟩
  refine ⟨fun g' H' i e hi => ?_, fun g' H' H2 i x v e _ hx hy => ?_, fun g' H' i e hi => ?_⟩
  · obtain ⟨vs, ho, r⟩ := at_ g' H' e
    exact ⟨vs, vs[i]'(by rw [r.length]; exact hi), ho, List.getElem?_eq_getElem _⟩
  · obtain ⟨e1, hy⟩ := hy
    subst e1
    obtain ⟨vs, ho, r⟩ := at_ g' _ e
    refine ⟨Same.refl _, ?_⟩
    obtain ⟨y, ey, ry⟩ := r.get (hy vs ho)
    rw [hx] at ey
    cases ey
    exact ry
  · obtain ⟨vs, ho, r⟩ := at_ g' H' e
    exact ⟨vs, ho, by rw [r.length]; exact hi⟩
theorem ji_seq (ha : JE X ct β Ex a f) : JI X ct β Ex tg a (iSeq f) := by
  refine PI.imp (pi_anySeq ha) fun σ H R h => ?_
  obtain ⟨g, ρ, Rl, h⟩ := h
  refine ⟨g, ρ, Rl, okT_mono (okT_bind h) fun g1 H1 p e1 h1 x R1 rx => ?_⟩
  obtain ⟨g2, s, e2, R2, rs, h2⟩ := frz_ok R1 rx h1
  obtain ⟨xs, ex, h3⟩ := okT_lift h2
  obtain ⟨t, ρ2⟩ := s
  cases t with
  | tup ys =>
    cases ex
    have rs0 := rs
    rw [RepG, Rep] at rs
    obtain ⟨q, vs, rfl, hq, _⟩ := rs
    exact .inr ⟨q, rfl, ⟨vs, hq.sq⟩, okT_ret h3 _ R2 (wk_tup rs0)⟩
  | lst ys =>
    cases ex
    have rs0 := rs
    rw [RepG, Rep] at rs
    obtain ⟨q, vs, rfl, hq, _⟩ := rs
    exact .inl ⟨q, rfl, ⟨vs, hq.sq⟩, okT_ret h3 _ R2 (wk_list rs0)⟩
  | _ => cases ex
theorem wk_range {c0 : Gc} {g : G} {H : Hp} {lo : Int} {n : Nat} : Wk c0 g H (Itr lo n) (rangeL lo n) := by
  have hl : (rangeL lo n).length = n := by unfold rangeL; rw [List.length_map, List.length_range]
  refine ⟨fun g' H' i e hi => by rw [hl] at hi; exact hi, fun g' H' H2 i x v e _ hx hy => ?_, fun g' H' i e hi => by rw [hl] at hi; exact hi⟩
  obtain ⟨e1, hy⟩ := hy
  subst e1
  refine ⟨Same.refl _, ?_⟩
  unfold rangeL at hx
  rw [List.getElem?_map] at hx
  have hi : i < n := by
    cases q : (List.range n)[i]? with
    | none => rw [q] at hx; cases hx
    | some j =>
      have := (List.getElem?_eq_some_iff.mp q).1
      rwa [List.length_range] at this
  rw [List.getElem?_range hi] at hx
  cases hx
  rw [hy]
  exact rep_int
theorem ji_range1 (hg : Gl X "range") (hm : X.mg "range" = none) (ha : JE X ct β Ex a f) (hs : starEach [a] X.env = [(false, eval a X.env)] := by rfl) (he : starEach [a] X.env = (false, eval a X.env) :: starEach [] X.env := by rfl) :
    JI X ct β Ex tg (.Call (.Name "range" p) [a] [] pos) (iRange1 f) := by
  refine PI.imp (pi_range1 hg hm (pa_cons ha pa_nil he) hs) fun σ H R h => ?_
  obtain ⟨g, ρ, Rl, h⟩ := h
  refine ⟨g, ρ, Rl, okT_mono (okT_bind h) fun g1 H1 p e1 h1 x R1 rx => ?_⟩
  obtain ⟨u, eu, h2⟩ := okT_lift h1
  obtain ⟨j, ej, h3⟩ := okT_lift h2
  have := intOf_eq ej
  subst this
  have ex := (rx.rs R1 eu).int
  subst ex
  by_cases hb : below j 62 = true
  · rw [if_pos hb] at h3
    have hb := below62 hb
    exact ⟨j, rfl, hb.1, hb.2, okT_ret h3 _ R1 wk_range⟩
  · rw [if_neg hb] at h3
    exact (show False from h3).elim
theorem ji_range2 (hg : Gl X "range") (hm : X.mg "range" = none) (ha : JE X ct β Ex a f) (hb : JE X ct β Ex b k) (hs : starEach [a, b] X.env = [(false, eval a X.env), (false, eval b X.env)] := by rfl) (hs2 : starEach [b] X.env = [(false, eval b X.env)] := by rfl)
    (he : starEach [a, b] X.env = (false, eval a X.env) :: starEach [b] X.env := by rfl) (he2 : starEach [b] X.env = (false, eval b X.env) :: starEach [] X.env := by rfl) :
    JI X ct β Ex tg (.Call (.Name "range" p) [a, b] [] pos) (iRange2 f k) := by
  refine PI.imp (pi_range2 hg hm (pa_cons ha (pa_cons hb pa_nil he2) he) hs hs2) fun σ H R h => ?_
  obtain ⟨g, ρ, Rl, h⟩ := h
  refine ⟨g, ρ, Rl, okT_mono (okT_bind h) fun g1 H1 p e1 h1 x R1 rx => ⟨g1, p.2, R1, okT_mono (okT_bind h1) fun g2 H2 q e2 h2 y R2 ry => ?_⟩⟩
  obtain ⟨u, eu, h3⟩ := okT_lift h2
  obtain ⟨i, ei, h4⟩ := okT_lift h3
  obtain ⟨w, ew, h5⟩ := okT_lift h4
  obtain ⟨j, ej, h6⟩ := okT_lift h5
  have := intOf_eq ei
  subst this
  have := intOf_eq ej
  subst this
  have ex := ((rx.ext e2).rs R2 eu).int
  have ey := (ry.rs R2 ew).int
  subst ex ey
  by_cases hb : below i 62 = true ∧ below j 62 = true
  · rw [if_pos hb] at h6
    have hb : -(2 ^ 62) ≤ i ∧ i < 2 ^ 62 ∧ -(2 ^ 62) ≤ j ∧ j < 2 ^ 62 := ⟨(below62 hb.1).1, (below62 hb.1).2, below62 hb.2⟩
    exact ⟨i, j, rfl, hb, okT_ret h6 _ R2 wk_range⟩
  · rw [if_neg hb] at h6
    exact (show False from h6).elim
end

/-! ### for -/
def forL (k : GSem) (body : SSem) : List AV → Env' → T Out
  | [], ρ => .ret (.nx ρ)
  | x :: xs, ρ => (k x ρ).bind fun ρ1 => (body ρ1).bind fun
    | .nx ρ' => forL k body xs ρ'
    | .ct ρ' => forL k body xs ρ'
    | .bk ρ' => .ret (.nx ρ')
    | .rt t => .ret (.rt t)
def sFor (it : SemI) (k : GSem) (body : SSem) : SSem := fun ρ => (it ρ).bind fun p => forL k body p.1 p.2
section
variable {X : Cx} {ct : CT} {β : BInv} {Ex : XK} {a tg it : Expr} {is : List Nat} {body : List Stmt} {f : SemI} {k : GSem} {sb : SSem} {pos : Pos} {fb : SemB}
theorem js_for (hp : PassesOwn (model X.prog X.w) X.A X.env X.xe) (hc : X.calm = true) (hi : JI X ct β Ex tg it f) (hg : JG X ct β Ex tg is k) (hb : JSs X ct β Ex body sb) (hs : ∀ x, foldedSetIterable it X.env x = pure x := by intro _; rfl) :
    JS X ct β Ex (.For tg it body [] pos) (sFor f k sb) := by
  refine PS.imp (ps_for hp hc hi hg hb hs) fun D σ H h => ?_
  obtain ⟨g, ρ, R, h⟩ := h
  refine ⟨g, ρ, R, okT_mono (okT_bind h) fun g1 H1 p e1 h1 J R1 wk => ?_⟩
  obtain ⟨xs, ρ1⟩ := p
  refine ⟨fun i m σ H => m = xs.length - i ∧ i ≤ xs.length ∧ ∃ g ρ, Ext g1 g H1 H ∧ Rel (gc X ct) β g ρ σ H ∧ okT (gc X ct) β Ex g H (forL k sb (xs.drop i) ρ) (endOk (gc X ct) β D), ⟨xs.length, by simp, Nat.zero_le _, g1, ρ1, .refl _ _, R1, h1⟩, ?_⟩
  rintro i m σ2 H2 ⟨rfl, hi, g2, ρ2, e2, R2, h2⟩
  by_cases hlt : i < xs.length
  · refine .inr ⟨wk.go _ _ _ (fun _ _ => e2.rep) hlt, _, fun σ' H' n => ⟨xs.length - (i + 1), by omega, n⟩, fun x H3 hy => ?_⟩
    have ex : xs[i]? = some xs[i] := List.getElem?_eq_getElem hlt
    obtain ⟨sm, rx⟩ := wk.yld _ _ _ _ _ _ (fun _ _ => e2.rep) (fun _ h => R2.avLive h) ex hy
    rw [List.drop_eq_getElem_cons hlt] at h2
    have h3 : okT (gc X ct) β Ex g2 H3 ((k xs[i] ρ2).bind fun ρ1 => (sb ρ1).bind fun | .nx ρ' => forL k sb (xs.drop (i + 1)) ρ' | .ct ρ' => forL k sb (xs.drop (i + 1)) ρ' | .bk ρ' => .ret (.nx ρ') | .rt t => .ret (.rt t)) (endOk (gc X ct) β D) :=
      T.all_mono h2 (fun o q g' H' e => q g' H' ((Ext.same sm).trans e)) fun c xs q g' H' C d vs e => q g' H' C d vs ((Ext.same sm).trans e)
    refine ⟨g2, ρ2, xs[i], R2.same sm, rx, okT_mono (okT_bind h3) fun g4 H4 ρ4 e4 h4 σ4 _ R4 => ⟨g4, ρ4, R4, okT_mono (okT_bind h4) fun g5 H5 o e5 h5 => ?_⟩⟩
    have e15 : Ext g1 g5 H1 H5 := (((e2.trans (Ext.same sm)).trans e4).trans e5)
    cases o with
    | nx ρ' => exact fun σ' R' => ⟨rfl, hlt, g5, ρ', e15, R', h5⟩
    | ct ρ' => exact fun σ' R' => ⟨rfl, hlt, g5, ρ', e15, R', h5⟩
    | bk ρ' => exact (okT_ret (c0 := gc X ct) (β := β) (Ex := Ex) (Q := endOk (gc X ct) β D) h5 : endOk (gc X ct) β D g5 H5 (.nx ρ'))
    | rt t => exact (okT_ret (c0 := gc X ct) (β := β) (Ex := Ex) (Q := endOk (gc X ct) β D) h5 : endOk (gc X ct) β D g5 H5 (.rt t))
  · have e : i = xs.length := by omega
    subst e
    rw [List.drop_length] at h2
    exact .inl ⟨wk.stop _ _ _ (fun _ _ => e2.rep) (Nat.le_refl _), okT_ret h2 σ2 R2⟩
/-! ### while -/
def whileL (c : SemB) (body : SSem) : Nat → Env' → T Out
  | 0, _ => .bad
  | n + 1, ρ => (c ρ).bind fun p => if p.1 then (body p.2).bind fun
      | .nx ρ' => whileL c body n ρ'
      | .ct ρ' => whileL c body n ρ'
      | .bk ρ' => .ret (.nx ρ')
      | .rt t => .ret (.rt t)
    else .ret (.nx p.2)
theorem js_while (n : Nat) (hp : PassesOwn (model X.prog X.w) X.A X.env X.xe) (hc : JT X ct β Ex a fb) (hb : JSs X ct β Ex body sb) : JS X ct β Ex (.While a body [] pos) (whileL fb sb n) := by
  refine PS.imp (ps_while hp hc hb) fun D σ H h => ?_
  obtain ⟨g, ρ, R, h⟩ := h
  refine ⟨fun m σ H => ∃ g ρ, Rel (gc X ct) β g ρ σ H ∧ okT (gc X ct) β Ex g H (whileL fb sb m ρ) (endOk (gc X ct) β D), ⟨n, g, ρ, R, h⟩, ?_⟩
  rintro m σ2 H2 ⟨g2, ρ2, R2, h2⟩
  cases m with
  | zero => exact (show False from h2).elim
  | succ m =>
    refine ⟨g2, ρ2, R2, okT_mono (okT_bind h2) fun g3 H3 p e3 h3 R3 => ?_⟩
    by_cases hp : p.1 = true
    · rw [if_pos hp] at h3 ⊢
      refine ⟨_, fun σ' H' n => ⟨m, Nat.lt_succ_self _, n⟩, g3, p.2, R3, okT_mono (okT_bind h3) fun g5 H5 o e5 h5 => ?_⟩
      cases o with
      | nx ρ' => exact fun σ' R' => ⟨g5, ρ', R', h5⟩
      | ct ρ' => exact fun σ' R' => ⟨g5, ρ', R', h5⟩
      | bk ρ' => exact (okT_ret (c0 := gc X ct) (β := β) (Ex := Ex) (Q := endOk (gc X ct) β D) h5 : endOk (gc X ct) β D g5 H5 (.nx ρ'))
      | rt t => exact (okT_ret (c0 := gc X ct) (β := β) (Ex := Ex) (Q := endOk (gc X ct) β D) h5 : endOk (gc X ct) β D g5 H5 (.rt t))
    · rw [if_neg hp] at h3 ⊢
      exact okT_ret h3 σ2 R3
end
end Dn

set_option Elab.async false
set_option linter.all false
set_option maxRecDepth 100000
namespace Dn
open PySem PySem.Spec PyProof.Rows L2

/-! ### a list that nobody else knows yet -/
def G.plus (g : G) (a : Addr) : G := { g with M := fun b => g.M b ∨ b = a }
theorem plus_av {g : G} {a b : Addr} : (g.plus a).Av b ↔ g.Av b ∨ b = a := by
  unfold G.Av G.plus
  constructor
  · rintro ((h | h) | h | h)
    · exact .inl (.inl h)
    · exact .inr h
    · exact .inl (.inr (.inl h))
    · exact .inl (.inr (.inr h))
  · rintro ((h | h | h) | h)
    · exact .inl (.inl h)
    · exact .inr (.inl h)
    · exact .inr (.inr h)
    · exact .inl (.inr h)
section
variable {c0 : Gc} {β : BInv} {g : G} {H : Hp} {ρ : Env'} {σ : L2.St} {a : Addr}
theorem plus_rep {t : AV} {v : V} (h : RepG c0 (g.plus a) H t v) : RepG c0 g H t v := h.imp (fun b o q na => ⟨q, fun z => na (plus_av.mpr (.inl z))⟩) fun _ h => h
theorem plus_reps {t : List AV} {v : List V} (h : RepsG c0 (g.plus a) H t v) : RepsG c0 g H t v := h.imp (fun b o q na => ⟨q, fun z => na (plus_av.mpr (.inl z))⟩) fun _ h => h
/-- what stood ahead of the new thing does not know it -/
theorem rep_plus {t : AV} {v : V} {H' : Hp} (h : RepG c0 g H t v) (s : Same H H') (hn : H a = none) : RepG c0 (g.plus a) H' t v := h.imp (fun b o q na => ⟨s b o q, fun z => (plus_av.mp z).elim na fun e => by rw [e, hn] at q; cases q⟩) fun _ h => h
theorem reps_plus {t : List AV} {v : List V} {H' : Hp} (h : RepsG c0 g H t v) (s : Same H H') (hn : H a = none) : RepsG c0 (g.plus a) H' t v := h.imp (fun b o q na => ⟨s b o q, fun z => (plus_av.mp z).elim na fun e => by rw [e, hn] at q; cases q⟩) fun _ h => h
theorem slot_weak {g g' : G} {o : Option Addr} {sv : Option (Option V)} {s : Slot} (hav : ∀ b, g'.Av b → g.Av b) (hd : g'.D = g.D) (hS : g'.S = g.S) (q : slotOk c0 g H o sv s) : slotOk c0 g' H o sv s := by
  have hi : ∀ (b : Addr) (o : HO), H b = some o → ¬ g.Av b → H b = some o ∧ ¬ g'.Av b := fun b o q na => ⟨q, fun z => na (hav b z)⟩
  have hd' : ∀ b, g.D b → g'.D b := fun b h => by rw [hd]; exact h
  cases s with
  | un => exact q
  | fro t => obtain ⟨a, v, b, c⟩ := q; exact ⟨a, v, b, Rep.imp hi hd' c⟩
  | ml xs => obtain ⟨p, vs, e1, e2, e3, e4⟩ := q; exact ⟨p, vs, e1, e2, e3, RepL.imp hi hd' e4⟩
  | md kd kvs => obtain ⟨p, ws, e1, e2, e3, e4⟩ := q; exact ⟨p, ws, e1, e2, e3.imp hi hd', e4⟩
  | slf c fs => obtain ⟨p, C, dx, vs, e1, e2, e3, e4, e5, e6, e7⟩ := q; exact ⟨p, C, dx, vs, e1, e2, e3, e4, e5, RepL.imp hi hd' e6, hS.trans e7⟩
/-- the frame owns the less: it stands -/
theorem Rel.minus (R : Rel c0 β (g.plus a) ρ σ H) : Rel c0 β g ρ σ H where
  len := R.len
  sl := fun i s hs => slot_weak (fun b h => plus_av.mpr (.inl h)) rfl rfl (R.sl i s hs)
  out := R.out
  inj := R.inj
  alive := fun b h => R.alive b (.inl h)
  nt := fun b h => R.nt b (.inl h)
  sep := fun i b h => ⟨fun z => (R.sep i b h).1 (.inl z), (R.sep i b h).2⟩
  mb := fun b h => R.mb b (.inl h)
  box := R.box
theorem Rel.plus {H' : Hp} (R : Rel c0 β g ρ σ H) (s : Same H H') (hn : H a = none) (hl : H' a ≠ none) (ht : ∀ ws, H' a ≠ some (.tup ws) := by intro ws; rw [upd_same]; exact fun z => by cases z) : Rel c0 β (g.plus a) ρ σ H' where
  len := R.len
  sl := fun i sl hs => by
    have q := R.sl i sl hs
    have hi : ∀ (b : Addr) (o : HO), H b = some o → ¬ g.Av b → H' b = some o ∧ ¬ (g.plus a).Av b := fun b o q na => ⟨s b o q, fun z => (plus_av.mp z).elim na fun e => by rw [e, hn] at q; cases q⟩
    cases sl with
    | un => exact q
    | fro t => obtain ⟨a, v, b, c⟩ := q; exact ⟨a, v, b, Rep.imp hi (fun _ h => h) c⟩
    | ml xs => obtain ⟨p, vs, e1, e2, e3, e4⟩ := q; exact ⟨p, vs, e1, e2, s _ _ e3, RepL.imp hi (fun _ h => h) e4⟩
    | md kd kvs =>
      obtain ⟨p, ws, e1, e2, e3, e4⟩ := q
      refine ⟨p, ws, e1, e2, e3.imp hi fun _ h => h, ?_⟩
      rcases e4 with ⟨us, e4, e5⟩ | ⟨us, e4, e5⟩
      · exact .inl ⟨us, s _ _ e4, e5⟩
      · exact .inr ⟨us, s _ _ e4, e5⟩
    | slf c fs => obtain ⟨p, C, dx, vs, e1, e2, e3, e4, e5, e6, e7⟩ := q; exact ⟨p, C, dx, vs, e1, e2, e3, s _ _ e4, e5, RepL.imp hi (fun _ h => h) e6, e7⟩
  out := R.out
  inj := R.inj
  alive := fun b h => by
    rcases h with h | h
    · cases q : H b with
      | none => exact absurd q (R.alive b h)
      | some o => rw [s b o q]; exact fun z => by cases z
    · rw [h]; exact hl
  nt := fun b h vs z => by
    rcases h with h | h
    · cases q : H b with
      | none => exact R.alive b h q
      | some o => rw [s b o q] at z; cases z; exact R.nt b h vs q
    · rw [h] at z; exact ht vs z
  sep := fun i b h => ⟨fun z => z.elim (R.sep i b h).1 fun e => R.ownLive h (e ▸ hn), (R.sep i b h).2⟩
  mb := fun b h hb => h.elim (fun z => R.mb b z hb) fun e => β.live R.box hb (e ▸ hn)
  box := β.frame R.box fun b h => by
    cases q : H b with
    | none => exact absurd q (β.live R.box h)
    | some o => exact s b o q
/-- ghosts with another set of what callers own -/
def G.setM (g : G) (M : Addr → Prop) : G := { g with M := M }
theorem ext_of_plus {g' : G} {H1 H' : Hp} (e : Ext (g.plus a) g' H1 H') (s : Same H H1) (hn : H a = none) : Ext g (g'.setM g.M) H H' where
  keep := fun b o h h1 h2 => e.keep b o (s b o h) h1 h2
  live := fun b h => by
    cases q : H b with
    | none => exact absurd q h
    | some o => exact e.live b (by rw [s b o q]; exact fun z => by cases z)
  m := rfl
  bsub := e.bsub
  bnew := fun b h => (e.bnew b h).imp id fun z => (by
    cases q : H b with
    | none => rfl
    | some o => rw [s b o q] at z; cases z)
  dsub := e.dsub
  own := fun i b h => (e.own i b h).imp id fun z => (by
    cases q : H b with
    | none => rfl
    | some o => rw [s b o q] at z; cases z)
  s := e.s
theorem setM_plus {g g' : G} {H1 H' : Hp} (e : Ext (g.plus a) g' H1 H') : (g'.setM g.M).plus a = g' := by
  have : g'.M = (g.plus a).M := e.m
  cases g'
  cases this
  rfl
/-- a slot takes the new list -/
def G.own1 (g : G) (j : Nat) (a : Addr) : G := { g with own := fun i => if i = j then some a else g.own i }
theorem own1_same {j : Nat} : (g.own1 j a).own j = some a := by simp [G.own1]
theorem own1_ne {i j : Nat} (h : i ≠ j) : (g.own1 j a).own i = g.own i := by simp [G.own1, h]
theorem own1_av {j : Nat} {b : Addr} (h : (g.own1 j a).Av b) : (g.plus a).Av b := by
  refine plus_av.mpr ?_
  rcases h with h | ⟨i, h⟩ | h
  · exact .inl (.inl h)
  · by_cases hi : i = j
    · subst hi; rw [own1_same] at h; cases h; exact .inr rfl
    · rw [own1_ne hi] at h; exact .inl (.inr (.inl ⟨i, h⟩))
  · exact .inl (.inr (.inr h))
theorem Rel.take {j : Nat} {xs : List AV} {vs : List V} (R : Rel c0 β (g.plus a) ρ σ H) (hj : j < ρ.length) (ho : H a = some (.lst vs)) (na : ¬ g.Av a) (r : RepsG c0 (g.plus a) H xs vs) : Rel c0 β (g.own1 j a) (ρ.set j (.ml xs)) (σ.set j (some (.ref a))) H where
  len := by rw [List.length_set, List.length_set]; exact R.len
  sl := fun i s hs => by
    by_cases hi : i = j
    · subst hi
      rw [List.getElem?_set_self hj] at hs
      cases hs
      rw [own1_same, List.getElem?_set_self (by rw [R.len]; exact hj)]
      exact ⟨a, vs, rfl, rfl, ho, r.imp (fun b o q nb => ⟨q, fun z => nb (own1_av z)⟩) fun _ h => h⟩
    · rw [List.getElem?_set_ne (Ne.symm hi)] at hs
      rw [own1_ne hi, List.getElem?_set_ne (Ne.symm hi)]
      exact slot_weak (fun b h => own1_av h) rfl rfl (R.sl i s hs)
  out := fun i hi => by
    rw [List.length_set] at hi
    rw [own1_ne (by omega)]
    exact R.out i hi
  inj := fun i k b h1 h2 => by
    have nobody : ∀ i, (g.plus a).own i ≠ some a := fun i h => na (.inr (.inl ⟨i, h⟩))
    by_cases hi : i = j
    · by_cases hk : k = j
      · rw [hi, hk]
      · subst hi
        rw [own1_same] at h1
        cases h1
        rw [own1_ne hk] at h2
        exact absurd h2 (nobody k)
    · by_cases hk : k = j
      · subst hk
        rw [own1_same] at h2
        cases h2
        rw [own1_ne hi] at h1
        exact absurd h1 (nobody i)
      · rw [own1_ne hi] at h1
        rw [own1_ne hk] at h2
        exact R.inj i k b h1 h2
  alive := fun b h => R.alive b (.inl h)
  nt := fun b h => R.nt b (.inl h)
  sep := fun i b h => by
    by_cases hi : i = j
    · subst hi
      rw [own1_same] at h
      cases h
      exact ⟨fun z => na (.inl z), fun z => na (.inr (.inr z))⟩
    · rw [own1_ne hi] at h
      exact ⟨fun z => (R.sep i b h).1 (.inl z), (R.sep i b h).2⟩
  mb := fun b h => R.mb b (.inl h)
  box := R.box
theorem ext_own1 {g' : G} {j : Nat} {H' : Hp} (e : Ext g g' H H') (hn : H a = none) : Ext g (g'.own1 j a) H H' where
  keep := e.keep
  live := e.live
  m := e.m
  bsub := e.bsub
  bnew := e.bnew
  dsub := e.dsub
  own := fun i b h => by
    by_cases hi : i = j
    · subst hi; rw [own1_same] at h; cases h; exact .inr hn
    · rw [own1_ne hi] at h; exact e.own i b h
  s := e.s
end
abbrev SemN := Env' → T (List AV × Env')
/-- a new list: what is known of it -/
def newOk (c0 : Gc) (β : BInv) (Ex : XK) (g : G) (σ : L2.St) (H : Hp) (m : T (List AV × Env')) (Q : VK) : Prop :=
  okT c0 β Ex g H m fun g' H' p => ∀ a vs, H a = none → ¬ g'.Av a → H' a = some (.lst vs) → Rel c0 β (g'.plus a) p.2 σ H' → RepsG c0 (g'.plus a) H' p.1 vs → Q (.ref a) H'
def rdN (c0 : Gc) (β : BInv) (Ex : XK) (f : SemN) : TE := fun σ H Q => ∃ g ρ, Rel c0 β g ρ σ H ∧ newOk c0 β Ex g σ H (f ρ) Q
def JN (X : Cx) (ct : CT) (β : BInv) (Ex : XK) (e : Expr) (f : SemN) : Prop := PE X e (rdN (gc X ct) β Ex f)
def fNew (f : SemN) : Sem := fun ρ => (f ρ).bind fun p => .ret (.val (.lst p.1), p.2)
def sSetN (i : Nat) (f : SemN) : SSem := fun ρ => (f ρ).bind fun p => .ret (.nx (p.2.set i (.ml p.1)))
/-- a run and what follows, both from the same point -/
theorem okT_bind0 {c0 : Gc} {β : BInv} {Ex : XK} {α γ : Type} {g : G} {H : Hp} {m : T α} {k : α → T γ} {Q : G → Hp → γ → Prop} (h : okT c0 β Ex g H (m.bind k) Q) {R : G → Hp → α → Prop} (hR : ∀ a, okT c0 β Ex g H (k a) Q → ∀ g' H', Ext g g' H H' → R g' H' a) : okT c0 β Ex g H m R :=
  T.all_mono (T.all_bind.mp h) (fun a q => hR a q) fun _ _ q => q
section
variable {X : Cx} {ct : CT} {β : BInv} {Ex : XK} {e a b : Expr} {es : List Expr} {f : SemN} {fe k : Sem} {m : SemL} {pos p : Pos} {x : Str} {i : Nat}
theorem j_new (h : JN X ct β Ex e f) : JE X ct β Ex e (fNew f) := by
  refine PE.imp h fun σ H Q h => ?_
  obtain ⟨g, ρ, R, h⟩ := h
  refine ⟨g, ρ, R, okT_mono (okT_bind h) fun g' H' p e q a vs hn na ho R' r => ?_⟩
  exact okT_ret q _ R'.minus (show RepG (gc X ct) g' H' (.lst p.1) (.ref a) from rep_lst_new na ho (plus_reps r))
theorem js_setN (i : Nat) (ha : JN X ct β Ex a f) (hN : X.N.Nodup) (hi : X.N[i]? = some x := by rfl) (hx : Loc X.env.scope x := by first | exact Or.inl rfl | exact Or.inr rfl) (hs : swapsWith a (some (.Name x p)) pos.line X.env = pure false := by rfl)
    (hf : X.fn x = true ∨ X.env.scope.names.lookup x = some .local := by first | exact .inl rfl | exact .inr rfl) : JS X ct β Ex (.Assign [.Name x p] a pos) (sSetN i f) := by
  refine PS.imp (ps_set hN hi hx ha hs hf) fun D σ H h => ?_
  obtain ⟨g, ρ, R, h⟩ := h
  refine ⟨g, ρ, R, okT_bind0 h fun p q g' H' e a vs hn na ho R' r => ?_⟩
  show D.nx (σ.set i (some (.ref a))) H'
  by_cases hj : i < p.2.length
  · exact okT_ret' q (ext_own1 e hn) _ (R'.take hj ho na r)
  · have q2 := okT_ret' q e
    rw [set_ge hj] at q2
    have : σ.set i (some (V.ref a)) = σ := List.set_eq_of_length_le (by rw [R'.len]; omega)
    rw [this]
    exact q2 σ R'.minus
/-- [a, b, ..] -/
def nLst (k : SemL) : SemN := fun ρ => (k ρ).bind fun p => if p.1.length ≤ big then .ret (p.1, p.2) else .bad
theorem jn_lst (h : JL X ct β Ex es m) : JN X ct β Ex (.List es pos) (nLst m) := by
  refine PE.imp (pe_lst h) fun σ H Q h => ?_
  obtain ⟨g, ρ, R, h⟩ := h
  refine ⟨g, ρ, R, okT_bind0 h fun p q g1 H1 e vs R1 rx => ?_⟩
  by_cases hl : p.1.length ≤ big
  · rw [if_pos hl] at q
    refine ⟨by rw [rx.length]; exact Nat.le_trans hl big_line, fun l hl => ?_⟩
    have s := same_upd (o := .lst vs) hl
    have hn : H l = none := none_back e hl
    exact okT_ret' q (e.trans (Ext.same s)) l vs hn (R1.freshAv hl) upd_same (R1.plus s hl (by rw [upd_same]; exact fun z => by cases z)) (reps_plus rx s hl)
  · rw [if_neg hl] at q
    exact (show False from q).elim
/-- list(e) -/
def nList (f : Sem) : SemN := fun ρ => (f ρ).bind fun p => (lift (rs p.1 p.2)).bind fun a => (lift (seqOf a)).bind fun xs => .ret (xs, p.2)
theorem seq_sq {c0 : Gc} {g : G} {H : Hp} {t : AV} {v : V} {xs : List AV} (h : RepR c0 g H t v) (e : seqOf t = some xs) : ∃ a vs, v = .ref a ∧ (SqL c0.K H a vs ∨ SqT c0.K H a vs) ∧ RepsG c0 g H xs vs := by
  cases t with
  | tup ys =>
    cases e
    obtain ⟨a, vs, rfl, q, r⟩ := h.tup
    exact ⟨a, vs, rfl, .inr q, r⟩
  | lst ys =>
    cases e
    obtain ⟨a, vs, rfl, q, r⟩ := h.lst
    exact ⟨a, vs, rfl, .inl q, r⟩
  | _ => cases e
theorem jn_list (hg : Gl X "list") (hm : X.mg "list" = none) (ha : JE X ct β Ex a fe) (he : starEach [a] X.env = (false, eval a X.env) :: starEach [] X.env := by rfl) : JN X ct β Ex (.Call (.Name "list" p) [a] [] pos) (nList fe) := by
  refine PE.imp (pe_callTy call_list_of hg hm (by decide +kernel) (pa_cons ha pa_nil he) (by decide +kernel) (by decide +kernel) he) fun σ H Q h => ?_
  obtain ⟨g, ρ, R, h⟩ := h
  refine ⟨g, ρ, R, okT_bind0 h fun p q g1 H1 e v R1 rv => ?_⟩
  obtain ⟨u, eu, h2⟩ := okT_lift q
  obtain ⟨xs, ex, h3⟩ := okT_lift h2
  obtain ⟨b, vs, rfl, hs, r⟩ := seq_sq (rv.rs R1 eu) ex
  refine ⟨b, vs, rfl, hs, fun l hl => ?_⟩
  have s := same_upd (o := .lst vs) hl
  exact okT_ret' h3 (e.trans (Ext.same s)) l vs (none_back e hl) (R1.freshAv hl) upd_same (R1.plus s hl (by rw [upd_same]; exact fun z => by cases z)) (reps_plus r s hl)
end

/-! ### a slot's list changes -/
section
variable {c0 : Gc} {β : BInv} {g : G} {H : Hp} {ρ : Env'} {σ : L2.St}
theorem Rel.ml {j : Nat} {xs : List AV} (R : Rel c0 β g ρ σ H) (h : ρ[j]? = some (.ml xs)) : ∃ p vs, g.own j = some p ∧ σ[j]? = some (some (.ref p)) ∧ H p = some (.lst vs) ∧ RepsG c0 g H xs vs := R.sl j _ h
theorem ext_upd {j : Nat} {p : Addr} {o : HO} (ho : g.own j = some p) : Ext g g H (upd H p o) := ⟨fun a ob h hn _ => by rw [upd_ne (fun e => hn j (by rw [e]; exact ho))]; exact h, fun a h => by
  by_cases e : a = p
  · rw [e, upd_same]; exact fun z => by cases z
  · rw [upd_ne e]; exact h, rfl, fun _ h => h, fun _ h => .inl h, fun _ h => h, fun i a h => .inl ⟨i, h⟩, rfl⟩
theorem Rel.upd {j : Nat} {p : Addr} {ys : List AV} {ws : List V} (R : Rel c0 β g ρ σ H) (hj : j < ρ.length) (ho : g.own j = some p) (hσ : σ[j]? = some (some (.ref p))) (r : RepsG c0 g H ys ws) : Rel c0 β g (ρ.set j (.ml ys)) σ (L2.upd H p (.lst ws)) := by
  have e : Ext g g H (L2.upd H p (.lst ws)) := ext_upd ho
  refine R.put e rfl (fun _ _ => rfl) hj (fun _ _ => rfl) (fun i a o hi h1 h2 => ?_) ?_ ?_ fun a h => ?_
  · rw [upd_ne (fun z => hi (R.inj i j a h1 (by rw [z]; exact ho)))]
    exact h2
  · refine β.frame R.box fun a h => ?_
    rw [upd_ne (fun z => (R.sep j p ho).2 (by rw [← z]; exact h))]
  · exact ⟨p, ws, ho, hσ, upd_same, e.reps r⟩
  · rw [ho] at h
    cases h
    exact ⟨(R.sep j p ho).1, (R.sep j p ho).2, fun i hi h => hi (R.inj i j p h ho)⟩
end
def isMl (ρ : Env') (j : Nat) : Option (List AV) := match ρ[j]? with
  | some (.ml xs) => some xs
  | _ => none
theorem isMl_eq {ρ : Env'} {j : Nat} {xs : List AV} (h : isMl ρ j = some xs) : ρ[j]? = some (.ml xs) := by
  unfold isMl at h
  cases e : ρ[j]? with
  | none => rw [e] at h; cases h
  | some s =>
    rw [e] at h
    cases s with
    | ml ys => cases h; rfl
    | _ => cases h
/-- x.append(e) -/
def fAppend (j : Nat) (f : Sem) : Sem := fun ρ => (lift (isMl ρ j)).bind fun _ => (f ρ).bind fun p => (frz p).bind fun q => (lift (isMl q.2 j)).bind fun xs => if xs.length < big then .ret (.val .non, q.2.set j (.ml (xs ++ [q.1]))) else .bad
/-- x.extend(e), e a list -/
def lstOf : AV → Option (List AV)
  | .lst xs => some xs
  | _ => none
def fExtend (j : Nat) (f : Sem) : Sem := fun ρ => (lift (isMl ρ j)).bind fun _ => (f ρ).bind fun p => (lift (rs p.1 p.2)).bind fun a => (lift (lstOf a)).bind fun ys => (lift (isMl p.2 j)).bind fun xs => if xs.length + ys.length ≤ big then .ret (.val .non, p.2.set j (.ml (xs ++ ys))) else .bad
/-- x.pop(e) -/
def fPopAt (j : Nat) (f : Sem) : Sem := fun ρ => (lift (isMl ρ j)).bind fun _ => (f ρ).bind fun p => (lift (rs p.1 p.2)).bind fun a => (lift (intOf a)).bind fun i => (lift (isMl p.2 j)).bind fun xs => if 0 ≤ i ∧ below i 62 = true then (lift xs[i.toNat]?).bind fun t => .ret (.val t, p.2.set j (.ml (xs.eraseIdx i.toNat))) else .bad
/-- x.pop() -/
def fPop (j : Nat) : Sem := fun ρ => (lift (isMl ρ j)).bind fun xs => (lift xs[xs.length - 1]?).bind fun t => .ret (.val t, ρ.set j (.ml xs.dropLast))
section
variable {X : Cx} {ct : CT} {β : BInv} {Ex : XK} {a : Expr} {f : Sem} {pos p apos : Pos} {x : Str}
theorem rh_non {c0 : Gc} {g : G} {σ : L2.St} {H : Hp} : RepH c0 g σ H (.val .non) .non := (rep_non : RepG c0 g H .non .non)
theorem rh_val {c0 : Gc} {g : G} {σ : L2.St} {H : Hp} {t : AV} {v : V} (h : RepG c0 g H t v) : RepH c0 g σ H (.val t) v := h
theorem tyV_ml {c0 : Gc} {H : Hp} {p : Addr} {vs : List V} (h : H p = some (.lst vs)) : tyV c0.K "list" (.ref p) H := .inl ⟨rfl, _, .of h⟩
theorem lt_of_ml {ρ : Env'} {j : Nat} {s : Slot} (h : ρ[j]? = some s) : j < ρ.length := (List.getElem?_eq_some_iff.mp h).1
theorem j_append (j : Nat) (ha : JE X ct β Ex a f) (hpe : ∀ te : TE, PE X a te → PE X (.Call (.Attribute (.Name x p) "append" apos) [a] [] pos) (tBM X.K "list" rAppend (tVar j) (tCons te tNil)) := by intro te he; exact pe_bm PySem.F.plainAttrs_list PySem.F.slot_list_append PySem.F.type_list_append mt_append (pv j) (pa_cons he pa_nil)) : JE X ct β Ex (.Call (.Attribute (.Name x p) "append" apos) [a] [] pos) (fAppend j f) := by
  refine PE.imp (hpe _ ha) fun σ H Q h => ?_
  obtain ⟨g, ρ, R, h⟩ := h
  obtain ⟨xs0, e0, h⟩ := okT_lift h
  obtain ⟨q0, vs0, _, hσ, ho0, _⟩ := R.ml (isMl_eq e0)
  refine ⟨.ref q0, hσ, tyV_ml (c0 := gc X ct) ho0, g, ρ, R, okT_mono (okT_bind h) fun g1 H1 q e1 h1 v R1 rv => ?_⟩
  obtain ⟨g2, s, e2, R2, rs, h2⟩ := frz_ok R1 rv h1
  obtain ⟨xs, ex, h3⟩ := okT_lift h2
  have hm := isMl_eq ex
  obtain ⟨q1, vs, hq, hσ1, ho, r⟩ := R2.ml hm
  rw [hσ] at hσ1
  cases hσ1
  by_cases hl : xs.length < big
  · rw [if_pos hl] at h3
    refine ⟨q0, vs, v, rfl, rfl, ho, by rw [r.length]; exact Nat.lt_of_lt_of_le hl big_line, ?_⟩
    exact okT_ret' h3 (ext_upd hq) _ (R2.upd (lt_of_ml hm) hq hσ (r.append (.one rs))) rh_non
  · rw [if_neg hl] at h3
    exact (show False from h3).elim
theorem j_extend (j : Nat) (ha : JE X ct β Ex a f) (hpe : ∀ te : TE, PE X a te → PE X (.Call (.Attribute (.Name x p) "extend" apos) [a] [] pos) (tBM X.K "list" rExtend (tVar j) (tCons te tNil)) := by intro te he; exact pe_bm PySem.F.plainAttrs_list PySem.F.slot_list_extend PySem.F.type_list_extend mt_extend (pv j) (pa_cons he pa_nil)) : JE X ct β Ex (.Call (.Attribute (.Name x p) "extend" apos) [a] [] pos) (fExtend j f) := by
  refine PE.imp (hpe _ ha) fun σ H Q h => ?_
  obtain ⟨g, ρ, R, h⟩ := h
  obtain ⟨xs0, e0, h⟩ := okT_lift h
  obtain ⟨q0, vs0, _, hσ, ho0, _⟩ := R.ml (isMl_eq e0)
  refine ⟨.ref q0, hσ, tyV_ml (c0 := gc X ct) ho0, g, ρ, R, okT_mono (okT_bind h) fun g1 H1 q e1 h1 v R1 rv => ?_⟩
  obtain ⟨u, eu, h2⟩ := okT_lift h1
  obtain ⟨ys, ey, h2⟩ := okT_lift h2
  obtain ⟨xs, ex, h3⟩ := okT_lift h2
  have hm := isMl_eq ex
  obtain ⟨q1, vs, hq, hσ1, ho, r⟩ := R1.ml hm
  rw [hσ] at hσ1
  cases hσ1
  cases u with
  | lst zs =>
    cases ey
    obtain ⟨b, ws, rfl, hb, rb⟩ := (rv.rs R1 eu).lst'
    by_cases hl : xs.length + ys.length ≤ big
    · rw [if_pos hl] at h3
      refine ⟨q0, b, vs, ws, rfl, rfl, ho, hb, by rw [r.length, rb.length]; exact Nat.le_trans hl big_line, ?_⟩
      exact okT_ret' h3 (ext_upd hq) _ (R1.upd (lt_of_ml hm) hq hσ (r.append rb)) rh_non
    · rw [if_neg hl] at h3
      exact (show False from h3).elim
  | _ => cases ey
theorem eraseIdx_reps {c0 : Gc} {A D : Addr → Prop} {H : Hp} : ∀ {xs : List AV} {vs : List V} (i : Nat), RepL c0 A D H xs vs → RepL c0 A D H (xs.eraseIdx i) (vs.eraseIdx i)
  | [], vs, i, r => by rw [RepL] at r; subst r; exact .nil
  | x :: xs, vs, 0, r => by
    rw [RepL] at r
    obtain ⟨v, r', rfl, _, h⟩ := r
    exact h
  | x :: xs, vs, i + 1, r => by
    rw [RepL] at r
    obtain ⟨v, r', rfl, h1, h⟩ := r
    exact .cons h1 (eraseIdx_reps i h)
theorem j_popAt (j : Nat) (ha : JE X ct β Ex a f) (hpe : ∀ te : TE, PE X a te → PE X (.Call (.Attribute (.Name x p) "pop" apos) [a] [] pos) (tBM X.K "list" rPopAt (tVar j) (tCons te tNil)) := by intro te he; exact pe_bm PySem.F.plainAttrs_list PySem.F.slot_list_pop PySem.F.type_list_pop mt_popAt (pv j) (pa_cons he pa_nil)) : JE X ct β Ex (.Call (.Attribute (.Name x p) "pop" apos) [a] [] pos) (fPopAt j f) := by
  refine PE.imp (hpe _ ha) fun σ H Q h => ?_
  obtain ⟨g, ρ, R, h⟩ := h
  obtain ⟨xs0, e0, h⟩ := okT_lift h
  obtain ⟨q0, vs0, _, hσ, ho0, _⟩ := R.ml (isMl_eq e0)
  refine ⟨.ref q0, hσ, tyV_ml (c0 := gc X ct) ho0, g, ρ, R, okT_mono (okT_bind h) fun g1 H1 q e1 h1 v R1 rv => ?_⟩
  obtain ⟨u, eu, h2⟩ := okT_lift h1
  obtain ⟨i, ei, h2⟩ := okT_lift h2
  obtain ⟨xs, ex, h3⟩ := okT_lift h2
  have hm := isMl_eq ex
  obtain ⟨q1, vs, hq, hσ1, ho, r⟩ := R1.ml hm
  rw [hσ] at hσ1
  cases hσ1
  have := intOf_eq ei
  subst this
  have ev := (rv.rs R1 eu).int
  subst ev
  by_cases hb : 0 ≤ i ∧ below i 62 = true
  · have hb2 : 0 ≤ i ∧ i < 2 ^ 62 := ⟨hb.1, (below62 hb.2).2⟩
    rw [if_pos hb] at h3
    obtain ⟨t, et, h4⟩ := okT_lift h3
    obtain ⟨w, ew, rw'⟩ := r.get' et
    have hlt : i.toNat < vs.length := (List.getElem?_eq_some_iff.mp ew).1
    refine ⟨q0, vs, i, i.toNat, w, rfl, rfl, ho, by omega, by omega, seqIndex_of hb.1 (by omega), ew, ?_⟩
    exact okT_ret' h4 (ext_upd hq) _ (R1.upd (lt_of_ml hm) hq hσ (eraseIdx_reps i.toNat r)) (rh_val ((ext_upd hq).rep rw'))
  · rw [if_neg hb] at h3
    exact (show False from h3).elim
theorem j_pop (j : Nat) (hpe : PE X (.Call (.Attribute (.Name x p) "pop" apos) [] [] pos) (tBM0 X.K "list" rPop (tVar j)) := by exact pe_bm0 PySem.F.plainAttrs_list PySem.F.slot_list_pop PySem.F.type_list_pop mt_pop (pv j)) :
    JE X ct β Ex (.Call (.Attribute (.Name x p) "pop" apos) [] [] pos) (fPop j) := by
  refine PE.imp hpe fun σ H Q h => ?_
  obtain ⟨g, ρ, R, h⟩ := h
  obtain ⟨xs, e0, h⟩ := okT_lift h
  obtain ⟨t, et, h⟩ := okT_lift h
  have hm := isMl_eq e0
  obtain ⟨q0, vs, hq, hσ, ho, r⟩ := R.ml hm
  obtain ⟨w, ew, rw'⟩ := r.get' et
  refine ⟨.ref q0, hσ, tyV_ml (c0 := gc X ct) ho, q0, vs, w, rfl, rfl, ho, by rw [r.length]; exact ew, ?_⟩
  have rd : RepsG (gc X ct) g H xs.dropLast vs.dropLast := by
    rw [List.dropLast_eq_take, List.dropLast_eq_take, r.length]
    exact r.take _
  exact okT_ret' h (ext_upd hq) _ (R.upd (lt_of_ml hm) hq hσ rd) (rh_val ((ext_upd hq).rep rw'))
end
end Dn

set_option Elab.async false
set_option linter.all false
set_option maxRecDepth 100000
namespace Dn
open PySem PySem.Spec PyProof.Rows L2

/-! ### comprehensions -/
/-- exceptions end a run -/
def noExc {α : Type} : T α → T α
  | .ret a => .ret a
  | .bad => .bad
  | .exc _ _ => .bad
  | .draw n k => .draw n fun r => noExc (k r)
theorem okT_noExc {c0 : Gc} {β : BInv} {Ex : XK} {α : Type} {g : G} {H : Hp} {m : T α} {Q : G → Hp → α → Prop} (h : okT c0 β Ex g H (noExc m) Q) : okT c0 β E0 g H m Q := by
  induction m with
  | ret a => exact h
  | bad => exact h
  | exc c xs => exact (show False from h).elim
  | draw n k ih => exact fun r hr => ih r (h r hr)
/-- the block's own names are not there yet -/
def wipeE (ρ : Env') : List Nat → Env'
  | [] => ρ
  | v :: vs => (wipeE ρ vs).set v .un
def froOf : Option Slot → Slot
  | some (.fro t) => .fro t
  | _ => .un
/-- .. and afterwards what stood ahead of it -/
def backE (ρ0 ρ : Env') : List Nat → Env'
  | [] => ρ
  | v :: vs => (backE ρ0 ρ vs).set v (froOf ρ0[v]?)
def lcL (vs : List Nat) (k : GSem) (tt : SemB) (el : Sem) : List AV → List AV → Env' → T (List AV × Env')
  | [], acc, ρ => .ret (acc, ρ)
  | x :: xs, acc, ρ => (noExc ((k x (wipeE ρ vs)).bind fun ρ1 => (tt ρ1).bind fun p => if p.1 then (el p.2).bind fun q => (frz q).bind fun s => .ret (acc ++ [s.1], s.2) else .ret (acc, p.2))).bind fun r => lcL vs k tt el xs r.1 r.2
def nLc (vs : List Nat) (it : SemI) (k : GSem) (tt : SemB) (el : Sem) : SemN := fun ρ => (it ρ).bind fun p => if p.1.length < big then (lcL vs k tt el p.1 [] p.2).bind fun r => .ret (r.1, backE p.2 r.2 vs) else .bad
theorem wipeE_length (ρ : Env') : ∀ vs : List Nat, (wipeE ρ vs).length = ρ.length
  | [] => rfl
  | v :: vs => by unfold wipeE; rw [List.length_set, wipeE_length ρ vs]
theorem wipe_get {σ : L2.St} : ∀ {vs : List Nat} {i : Nat}, i ∉ vs → (wipe σ vs)[i]? = σ[i]?
  | [], _, _ => rfl
  | v :: vs, i, h => by
    unfold wipe
    rw [List.getElem?_set_ne (fun e => h (by simp [e]))]
    exact wipe_get fun z => h (List.mem_cons_of_mem _ z)
theorem wipe_none {σ : L2.St} : ∀ {vs : List Nat} {i : Nat}, i ∈ vs → i < σ.length → (wipe σ vs)[i]? = some none
  | [], _, h, _ => by simp at h
  | v :: vs, i, h, hl => by
    unfold wipe
    by_cases e : v = i
    · subst e
      rw [List.getElem?_set_self (by rw [wipe_length]; exact hl)]
    · rw [List.getElem?_set_ne e]
      exact wipe_none ((List.mem_cons.mp h).resolve_left fun z => e z.symm) hl
theorem wipe_agree {σ σ' : L2.St} {is vs : List Nat} (h : Agree is σ σ') (hs : ∀ i ∈ is, i ∈ vs) : wipe σ' vs = wipe σ vs := by
  refine List.ext_getElem? fun i => ?_
  by_cases hi : i ∈ vs
  · by_cases hl : i < σ.length
    · rw [wipe_none hi hl, wipe_none hi (by rw [h.1]; exact hl)]
    · rw [List.getElem?_eq_none (by rw [wipe_length, h.1]; omega), List.getElem?_eq_none (by rw [wipe_length]; omega)]
  · rw [wipe_get hi, wipe_get hi, h.2 i fun z => hi (hs i z)]
theorem wipe_wipe {σ : L2.St} {vs : List Nat} : wipe (wipe σ vs) vs = wipe σ vs :=
  wipe_agree (is := vs) ⟨wipe_length σ vs, fun i h => wipe_get h⟩ fun _ h => h
section
variable {c0 : Gc} {β : BInv} {g : G} {H : Hp} {ρ : Env'} {σ : L2.St}
/-- a slot forgotten -/
theorem Rel.drop1 {j : Nat} {σ' : L2.St} (R : Rel c0 β g ρ σ H) (hl : σ'.length = σ.length) (hs : ∀ i, i ≠ j → σ'[i]? = σ[i]?) : Rel c0 β (g.no j) (ρ.set j .un) σ' H := by
  by_cases hj : j < ρ.length
  · refine R.put (ext_no g j H) hl hs hj (fun i hi => own_no_ne hi) (fun _ _ _ _ _ h => h) R.box ?_ fun a h => by rw [own_no] at h; cases h
    rw [own_no]
    rfl
  · have e1 : ρ.set j .un = ρ := set_ge hj
    have e2 : g.no j = g := by
      unfold G.no
      cases g
      congr 1
      funext i
      by_cases h : i = j
      · subst h
        rw [if_pos rfl]
        exact (R.out i (by omega)).symm
      · rw [if_neg h]
    have e3 : σ' = σ := by
      refine List.ext_getElem? fun i => ?_
      by_cases h : i = j
      · subst h
        rw [List.getElem?_eq_none (by rw [hl, R.len]; omega), List.getElem?_eq_none (by rw [R.len]; omega)]
      · exact hs i h
    rw [e1, e2, e3]
    exact R
def G.nos (g : G) : List Nat → G
  | [] => g
  | v :: vs => (g.nos vs).no v
theorem ext_nos (g : G) (H : Hp) : ∀ vs : List Nat, Ext g (g.nos vs) H H
  | [] => .refl g H
  | v :: vs => (ext_nos g H vs).trans (ext_no _ v H)
theorem Rel.wipe (R : Rel c0 β g ρ σ H) : ∀ vs : List Nat, Rel c0 β (g.nos vs) (wipeE ρ vs) (L2.wipe σ vs) H
  | [] => R
  | v :: vs => by
    unfold wipeE L2.wipe
    exact (R.wipe vs).drop1 (List.length_set ..) fun i hi => List.getElem?_set_ne (Ne.symm hi)
theorem Rel.slotFro {j : Nat} (R : Rel c0 β g ρ σ H) : slotOk c0 g H none σ[j]? (froOf ρ[j]?) := by
  cases h : ρ[j]? with
  | none => rfl
  | some s =>
    have q := R.sl j s h
    cases s with
    | fro t => exact ⟨rfl, q.2⟩
    | un => rfl
    | ml xs => rfl
    | md kd kvs => rfl
    | slf c fs => rfl
/-- .. what stood ahead stands again -/
theorem Rel.back {g' : G} {H' : Hp} {ρ' : Env'} (R : Rel c0 β g ρ σ H) (e : Ext g g' H H') : ∀ (vs : List Nat) (σ' : L2.St), Rel c0 β g' ρ' σ' H' → σ'.length = σ.length → Rel c0 β (g'.nos vs) (backE ρ ρ' vs) (vs.foldr (fun v s => s.set v ((σ[v]?).getD none)) σ') H'
  | [], σ', R', _ => R'
  | v :: vs, σ', R', hl => by
    have ih := R.back e vs σ' R' hl
    have hl2 : (vs.foldr (fun v s => s.set v ((σ[v]?).getD none)) σ').length = σ.length := by
      clear ih
      induction vs with
      | nil => exact hl
      | cons w ws ih2 => rw [List.foldr_cons, List.length_set]; exact ih2
    show Rel c0 β ((g'.nos vs).no v) ((backE ρ ρ' vs).set v (froOf ρ[v]?)) ((vs.foldr (fun v s => s.set v ((σ[v]?).getD none)) σ').set v ((σ[v]?).getD none)) H'
    by_cases hv : v < (backE ρ ρ' vs).length
    · refine ih.put (ext_no _ v H') (List.length_set ..) (fun i hi => List.getElem?_set_ne (Ne.symm hi)) hv (fun i hi => own_no_ne hi) (fun _ _ _ _ _ h => h) ih.box ?_ fun a h => by rw [own_no] at h; cases h
      rw [own_no]
      have hvσ : v < σ.length := by rw [← hl2, ih.len]; exact hv
      rw [List.getElem?_set_self (by rw [hl2]; exact hvσ)]
      have q := R.slotFro (j := v)
      rw [List.getElem?_eq_getElem hvσ] at q ⊢
      exact slotOk_ext ((e.trans (ext_nos g' H' vs)).trans (ext_no _ v H')) (fun a o h _ => by cases h) q
    · have e1 : (backE ρ ρ' vs).set v (froOf ρ[v]?) = backE ρ ρ' vs := set_ge hv
      have e2 : (vs.foldr (fun v s => s.set v ((σ[v]?).getD none)) σ').set v ((σ[v]?).getD none) = vs.foldr (fun v s => s.set v ((σ[v]?).getD none)) σ' := List.set_eq_of_length_le (by rw [ih.len]; omega)
      have e3 : (g'.nos vs).no v = g'.nos vs := by
        unfold G.no
        generalize hg : g'.nos vs = gg
        rw [hg] at ih
        cases gg
        congr 1
        funext i
        by_cases h : i = v
        · subst h
          rw [if_pos rfl]
          exact (ih.out i (by omega)).symm
        · rw [if_neg h]
      rw [e1, e2, e3]
      exact ih
theorem restore_eq {σ : L2.St} : ∀ vs : List Nat, vs.foldr (fun v s => s.set v ((σ[v]?).getD none)) (L2.wipe σ vs) = σ := by
  intro vs
  refine List.ext_getElem? fun i => ?_
  have key : ∀ (ws : List Nat) (τ : L2.St), τ.length = σ.length → (∀ (i : Nat), i ∉ ws → τ[i]? = σ[i]?) → ∀ (i : Nat), (ws.foldr (fun v s => s.set v ((σ[v]?).getD none)) τ)[i]? = σ[i]? ∧ (ws.foldr (fun v s => s.set v ((σ[v]?).getD none)) τ).length = σ.length := by
    intro ws
    induction ws with
    | nil => intro τ hl h i; exact ⟨h i (by simp), hl⟩
    | cons w ws ih =>
      intro τ hl h i
      have lenA : ∀ (us : List Nat), (us.foldr (fun v s => s.set v ((σ[v]?).getD none)) τ).length = σ.length := by
        intro us
        induction us with
        | nil => exact hl
        | cons u us ih2 => rw [List.foldr_cons, List.length_set]; exact ih2
      have gen : ∀ (us : List Nat) (i : Nat), i ∈ us ∨ i ∉ us → (us.foldr (fun v s => s.set v ((σ[v]?).getD none)) τ)[i]? = if i ∈ us then σ[i]? else τ[i]? := by
        intro us
        induction us with
        | nil => intro i _; simp
        | cons u us ih2 =>
          intro i _
          rw [List.foldr_cons]
          by_cases hu : u = i
          · subst hu
            rw [if_pos (by simp)]
            by_cases hlt : u < σ.length
            · rw [List.getElem?_set_self (by rw [lenA]; exact hlt), List.getElem?_eq_getElem hlt]
              rfl
            · rw [List.getElem?_eq_none (by rw [List.length_set, lenA]; omega), List.getElem?_eq_none (by omega)]
          · rw [List.getElem?_set_ne hu, ih2 i (Classical.em _)]
            by_cases hm : i ∈ us
            · rw [if_pos hm, if_pos (List.mem_cons_of_mem _ hm)]
            · rw [if_neg hm, if_neg (fun z => (List.mem_cons.mp z).elim (fun e => hu e.symm) hm)]
      refine ⟨?_, lenA _⟩
      rw [gen _ i (Classical.em _)]
      by_cases hm : i ∈ w :: ws
      · rw [if_pos hm]
      · rw [if_neg hm]
        exact h i hm
  exact (key vs (L2.wipe σ vs) (wipe_length σ vs) (fun i h => wipe_get h) i).1
theorem nos_av {g : G} {a : Addr} : ∀ {vs : List Nat}, (g.nos vs).Av a → g.Av a
  | [], h => h
  | v :: vs, h => by
    refine nos_av (vs := vs) ?_
    rcases h with h | ⟨i, h⟩ | h
    · exact .inl h
    · unfold G.nos G.no at h
      simp only at h
      split at h
      · cases h
      · exact .inr (.inl ⟨i, h⟩)
    · exact .inr (.inr h)
theorem nos_M {g : G} : ∀ vs : List Nat, (g.nos vs).M = g.M
  | [] => rfl
  | v :: vs => by unfold G.nos G.no; exact nos_M vs
end
/-! what stands but for the list that is made -/
section
variable {c0 : Gc} {β : BInv} {g g' : G} {H H' : Hp} {ρ : Env'} {σ : L2.St} {D : Addr}
theorem rep_updD {o : HO} {t : AV} {v : V} (hM : g.M D) (h : RepG c0 g (upd H D o) t v) : RepG c0 g H t v := h.imp (fun a ob q na => ⟨by
  by_cases e : a = D
  · subst e; exact absurd (.inl hM) na
  · rw [upd_ne e] at q; exact q, na⟩) fun _ h => h
theorem reps_updD {o : HO} {t : List AV} {v : List V} (hM : g.M D) (h : RepsG c0 g (upd H D o) t v) : RepsG c0 g H t v := h.imp (fun a ob q na => ⟨by
  by_cases e : a = D
  · subst e; exact absurd (.inl hM) na
  · rw [upd_ne e] at q; exact q, na⟩) fun _ h => h
theorem upd_av {o : HO} (hM : g.M D) : ∀ (a : Addr) (ob : HO), H a = some ob → ¬ g.Av a → upd H D o a = some ob ∧ ¬ g.Av a := fun a ob q na => ⟨by
  by_cases e : a = D
  · subst e; exact absurd (.inl hM) na
  · rw [upd_ne e]; exact q, na⟩
theorem rep_updL {o : HO} {t : List AV} {v : List V} (hM : g.M D) (h : RepsG c0 g H t v) : RepsG c0 g (upd H D o) t v := h.imp (upd_av hM) fun _ h => h
theorem Rel.updM {o : HO} (R : Rel c0 β g ρ σ H) (hM : g.M D) (ht : ∀ ws, o ≠ .tup ws := by exact fun _ z => by cases z) : Rel c0 β g ρ σ (L2.upd H D o) where
  len := R.len
  sl := fun i s hs => by
    have q := R.sl i s hs
    have hi := upd_av (H := H) (o := o) hM
    have hp : ∀ (p : Addr) (ob : HO), g.own i = some p → H p = some ob → L2.upd H D o p = some ob := fun p ob h1 h2 => by
      rw [upd_ne (fun e => (R.sep i p h1).1 (by rw [e]; exact hM))]; exact h2
    cases s with
    | un => exact q
    | fro t => obtain ⟨a, v, b, c⟩ := q; exact ⟨a, v, b, Rep.imp hi (fun _ h => h) c⟩
    | ml xs => obtain ⟨p, vs, e1, e2, e3, e4⟩ := q; exact ⟨p, vs, e1, e2, hp p _ e1 e3, RepL.imp hi (fun _ h => h) e4⟩
    | md kd kvs =>
      obtain ⟨p, ws, e1, e2, e3, e4⟩ := q
      refine ⟨p, ws, e1, e2, e3.imp hi fun _ h => h, ?_⟩
      rcases e4 with ⟨us, e4, e5⟩ | ⟨us, e4, e5⟩
      · exact .inl ⟨us, hp p _ e1 e4, e5⟩
      · exact .inr ⟨us, hp p _ e1 e4, e5⟩
    | slf c fs => obtain ⟨p, C, dx, vs, e1, e2, e3, e4, e5, e6, e7⟩ := q; exact ⟨p, C, dx, vs, e1, e2, e3, hp p _ e1 e4, e5, RepL.imp hi (fun _ h => h) e6, e7⟩
  out := R.out
  inj := R.inj
  alive := fun b h => by
    by_cases e : b = D
    · rw [e, upd_same]; exact fun z => by cases z
    · rw [upd_ne e]; exact R.alive b h
  nt := fun b h vs z => by
    by_cases e : b = D
    · rw [e, upd_same] at z; cases z; exact ht vs rfl
    · rw [upd_ne e] at z; exact R.nt b h vs z
  sep := R.sep
  mb := R.mb
  box := β.frame R.box fun b h => by rw [upd_ne (fun e => R.mb D hM (by rw [← e]; exact h))]
theorem ext_updB {o : HO} (e : Ext g g' H H') (hD : H D ≠ none) : Ext g g' (upd H D o) (upd H' D o) where
  keep := fun a ob h h1 h2 => by
    by_cases ea : a = D
    · rw [ea, upd_same] at h ⊢; exact h
    · rw [upd_ne ea] at h ⊢; exact e.keep a ob h h1 h2
  live := fun a h => by
    by_cases ea : a = D
    · rw [ea, upd_same]; exact fun z => by cases z
    · rw [upd_ne ea] at h ⊢; exact e.live a h
  m := e.m
  bsub := e.bsub
  bnew := fun a h => (e.bnew a h).imp id fun z => by rw [upd_ne (fun ea => hD (by rw [← ea]; exact z))]; exact z
  dsub := e.dsub
  own := fun i a h => (e.own i a h).imp id fun z => by rw [upd_ne (fun ea => hD (by rw [← ea]; exact z))]; exact z
  s := e.s
theorem ext_of_plusD {H1 : Hp} (e : Ext (g.plus D) g' (upd H1 D (.lst [])) (upd H' D (.lst []))) (hl : H' D ≠ none) (nD : H1 D = none) : Ext g (g'.setM g.M) H1 H' where
  keep := fun a o h h1 h2 => by
    have ne : a ≠ D := fun ea => by rw [ea, nD] at h; cases h
    have q := e.keep a o (by rw [upd_ne ne]; exact h) h1 h2
    rw [upd_ne ne] at q
    exact q
  live := fun a h => by
    by_cases ea : a = D
    · rw [ea]; exact hl
    · have q := e.live a (by rw [upd_ne ea]; exact h)
      rw [upd_ne ea] at q
      exact q
  m := rfl
  bsub := e.bsub
  bnew := fun a h => (e.bnew a h).imp id fun z => by
    by_cases ea : a = D
    · rw [ea]; exact nD
    · rw [upd_ne ea] at z; exact z
  dsub := e.dsub
  own := fun i a h => (e.own i a h).imp id fun z => by
    by_cases ea : a = D
    · rw [ea]; exact nD
    · rw [upd_ne ea] at z; exact z
  s := e.s
theorem nos_plus {H1 : Hp} (e : g'.M = (g.plus D).M) (vs : List Nat) : ((g'.setM g.M).nos vs).plus D = g'.nos vs := by
  have h1 : ∀ vs : List Nat, ((g'.setM g.M).nos vs).own = (g'.nos vs).own ∧ ((g'.setM g.M).nos vs).B = (g'.nos vs).B ∧ ((g'.setM g.M).nos vs).D = (g'.nos vs).D ∧ ((g'.setM g.M).nos vs).S = (g'.nos vs).S := by
    intro vs
    induction vs with
    | nil => exact ⟨rfl, rfl, rfl, rfl⟩
    | cons v vs ih =>
      unfold G.nos G.no
      exact ⟨by simp only [ih.1], ih.2.1, ih.2.2.1, ih.2.2.2⟩
  obtain ⟨h1, h2, h3, h6⟩ := h1 vs
  have h4 : ((g'.setM g.M).nos vs).M = g.M := nos_M vs
  have h5 : (g'.nos vs).M = (g.plus D).M := (nos_M vs).trans e
  generalize (g'.setM g.M).nos vs = x at *
  generalize g'.nos vs = y at *
  cases x
  cases y
  simp only at h1 h2 h3 h4 h5 h6
  subst h1 h2 h3 h4 h5 h6
  rfl
theorem backE_set {ρ0 : Env'} : ∀ (vs : List Nat) (ρ : Env') (w : Nat) (s : Slot), w ∈ vs → backE ρ0 (ρ.set w s) vs = backE ρ0 ρ vs
  | [], _, _, _, h => by simp at h
  | v :: vs, ρ, w, s, h => by
    unfold backE
    by_cases hw : w ∈ vs
    · rw [backE_set vs ρ w s hw]
    · have e : w = v := (List.mem_cons.mp h).resolve_right hw
      subst e
      have out : ∀ (us : List Nat) (ρ : Env'), w ∉ us → backE ρ0 (ρ.set w s) us = (backE ρ0 ρ us).set w s := by
        intro us
        induction us with
        | nil => intro ρ _; rfl
        | cons u us ih =>
          intro ρ hu
          unfold backE
          rw [ih ρ fun z => hu (List.mem_cons_of_mem _ z), List.set_comm _ _ (fun e => hu (by simp [e]))]
      rw [out vs ρ hw, List.set_set]
theorem backE_wipe {ρ0 : Env'} (vs : List Nat) (ρ : Env') : backE ρ0 (wipeE ρ vs) vs = backE ρ0 ρ vs := by
  have gen : ∀ us : List Nat, (∀ u ∈ us, u ∈ vs) → backE ρ0 (wipeE ρ us) vs = backE ρ0 ρ vs := by
    intro us
    induction us with
    | nil => intro _; rfl
    | cons u us ih =>
      intro h
      unfold wipeE
      rw [backE_set vs _ u _ (h u (by simp)), ih fun w hw => h w (List.mem_cons_of_mem _ hw)]
  exact gen vs fun _ h => h
theorem Rel.backD {g0 : G} {H0 : Hp} {σ' : L2.St} {ρ' : Env'} {o : HO} (R : Rel c0 β g0 ρ σ (L2.upd H0 D o)) (e : Ext g0 g' (L2.upd H0 D o) (L2.upd H' D o)) (R' : Rel c0 β g' ρ' σ' H') (hl : σ'.length = σ.length) (vs : List Nat) (hM : g'.M D) (ho : H' D ≠ none) (ht : ∀ ws, o ≠ .tup ws := by exact fun _ z => by cases z) :
    Rel c0 β (g'.nos vs) (backE ρ ρ' vs) (vs.foldr (fun v s => s.set v ((σ[v]?).getD none)) σ') H' := by
  have h1 := R.back e vs σ' (R'.updM hM ht) hl
  cases q : H' D with
  | none => exact absurd q ho
  | some ob =>
    have h2 := h1.updM (D := D) (o := ob) (by rw [nos_M]; exact hM) (fun ws z => R'.nt D hM ws (by rw [q, z]))
    rw [upd_upd] at h2
    have e : L2.upd H' D ob = H' := by
      funext b
      by_cases hb : b = D
      · subst hb; rw [upd_same, q]
      · rw [upd_ne hb]
    rw [e] at h2
    exact h2
/-- a run that makes a list at D -/
def okD {α : Type} (D : Addr) (g : G) (H : Hp) (m : T α) (Q : G → Hp → α → Prop) : Prop := m.all (fun a => ∀ g' H', Ext g g' (upd H D (.lst [])) (upd H' D (.lst [])) → Q g' H' a) fun _ _ => False
def NoE {α : Type} (m : T α) : Prop := ∀ (Q : α → Prop) (E : Nat → List AV → Prop), m.all Q E → m.all Q fun _ _ => False
theorem noE_noExc {α : Type} (m : T α) : NoE (noExc m) := by
  intro Q E h
  induction m with
  | ret a => exact h
  | bad => exact h
  | exc c xs => exact h
  | draw n k ih => exact fun r hr => ih r (h r hr)
theorem NoE.bind {α γ : Type} {m : T α} {k : α → T γ} (h : NoE m) (hk : ∀ a, NoE (k a)) : NoE (m.bind k) := fun Q E q =>
  T.all_bind.mpr (T.all_mono (h _ _ (T.all_bind.mp q)) (fun a q => hk a Q E q) fun _ _ z => z)
theorem noE_ret {α : Type} (a : α) : NoE (T.ret a) := fun _ _ h => h
theorem lcL_noExc (vs : List Nat) (k : GSem) (tt : SemB) (el : Sem) : ∀ (xs acc : List AV) (ρ : Env'), NoE (lcL vs k tt el xs acc ρ)
  | [], _, _ => noE_ret _
  | _ :: xs, _, _ => (noE_noExc _).bind fun r => lcL_noExc vs k tt el xs r.1 r.2
theorem okD_of {Ex : XK} {α γ : Type} {g1 : G} {H1 : Hp} {m : T α} {k : α → T γ} {Q : G → Hp → γ → Prop} {R : G → Hp → α → Prop} (hn : NoE m) (h : okT c0 β Ex g H (m.bind k) Q)
    (hR : ∀ a, okT c0 β Ex g H (k a) Q → ∀ g' H', Ext g1 g' (upd H1 D (.lst [])) (upd H' D (.lst [])) → R g' H' a) : okD D g1 H1 m R :=
  T.all_mono (hn _ _ (T.all_bind.mp h)) (fun a q => hR a q) fun _ _ z => z
theorem okD_ext {α : Type} {g2 : G} {H2 : Hp} {m : T α} {Q : G → Hp → α → Prop} (h : okD D g H m Q) (e : Ext g g2 (upd H D (.lst [])) (upd H2 D (.lst []))) : okD D g2 H2 m Q :=
  T.all_mono h (fun a q g' H' e' => q g' H' (e.trans e')) fun _ _ z => z
theorem okD_ret {α : Type} {a : α} {Q : G → Hp → α → Prop} (h : okD D g H (.ret a) Q) : Q g H a := h g H (Ext.refl _ _)
theorem okT_of_noExc {Ex : XK} {α : Type} {m : T α} {Q : α → Prop} (h : (noExc m).all Q fun _ _ => False) {R : G → Hp → α → Prop} (hR : ∀ a, Q a → ∀ g' H', Ext g g' H H' → R g' H' a) : okT c0 β Ex g H m R := by
  induction m with
  | ret a => exact hR a h
  | bad => exact h
  | exc c xs => exact (show False from h).elim
  | draw n k ih => exact fun r hr => ih r (h r hr)
theorem okD_turn {Ex : XK} {α γ : Type} {m : T α} {k : α → T γ} {Q : G → Hp → γ → Prop} (h : okD D g H ((noExc m).bind k) Q) (hD : H D ≠ none) : okT c0 β Ex g H m fun g' H' a => okD D g' H' (k a) Q :=
  okT_of_noExc (T.all_bind.mp h) fun a q g' H' e => T.all_mono q (fun b q g2 H2 e2 => q g2 H2 ((ext_updB e hD).trans e2)) fun _ _ z => z
end
/-- tests of a comprehension -/
def JTs (X : Cx) (ct : CT) (β : BInv) (Ex : XK) (e : List Expr) (f : SemB) : Prop := PTs X e (rdB (gc X ct) β Ex f)
def fYes : SemB := fun ρ => .ret (true, ρ)
section
variable {X : Cx} {ct : CT} {β : BInv} {Ex : XK} {a c elt tg iter : Expr} {ifs : List Expr} {f : SemI} {k : GSem} {tt : SemB} {el : Sem} {pos : Pos} {scope : Scope} {own : List (Str × Nat)} {is : List Nat}
theorem jts_nil : JTs X ct β Ex [] fYes := ⟨fun pins s σ H Q I h => pts_nil.run pins s σ H Q I (by
  obtain ⟨g, ρ, R, h⟩ := h
  exact okT_ret h R)⟩
theorem jts_one (h : JT X ct β Ex c tt) : JTs X ct β Ex [c] tt := ⟨fun pins s σ H Q I q => (pts_one h).run pins s σ H Q I q⟩
theorem lc_ok {σ : L2.St} {H : Hp} {Q : VK} {vs : List Nat} (hown : ∀ i ∈ is, i ∈ vs) (h : rdN (gc X ct) β Ex (nLc vs f k tt el) σ H Q) : tLc (rdI (gc X ct) β Ex f) (rdG (gc X ct) β E0 is k) (rdB (gc X ct) β E0 tt) (rdE (gc X ct) β E0 el) vs σ H Q := by
  obtain ⟨g, ρ, R, h⟩ := h
  refine ⟨g, ρ, R, okT_bind0 h fun p q g1 H1 e1 J R1 wk D nD => ?_⟩
  obtain ⟨xs, ρ1⟩ := p
  have sD := same_upd (o := .lst []) nD
  have lD : (upd H1 D (.lst [])) D ≠ none := by rw [upd_same]; exact fun z => by cases z
  by_cases hbig : xs.length < big
  · have q : okT (gc X ct) β Ex g H ((lcL vs k tt el xs [] ρ1).bind fun r => .ret (r.1, backE ρ1 r.2 vs)) fun g' H' p => ∀ a vs, H a = none → ¬ g'.Av a → H' a = some (.lst vs) → Rel (gc X ct) β (g'.plus a) p.2 σ H' → RepsG (gc X ct) (g'.plus a) H' p.1 vs → Q (.ref a) H' := by
      have q' : okT (gc X ct) β Ex g H (if xs.length < big then _ else _) _ := q
      rw [if_pos hbig] at q'
      exact q'
    have RD : Rel (gc X ct) β (g1.plus D) ρ1 σ (upd H1 D (.lst [])) := R1.plus sD nD lD
    -- what the end asks, from the block's own point of view
    have start : okD D (g1.plus D) (upd H1 D (.lst [])) (lcL vs k tt el xs [] ρ1) (fun g' H' r => ∀ ws', H' D = some (.lst ws') → Rel (gc X ct) β g' (wipeE r.2 vs) (wipe σ vs) H' → RepsG (gc X ct) g' H' r.1 ws' → Q (.ref D) H') := by
      refine okD_of (lcL_noExc vs k tt el xs [] ρ1) q fun r hr g' H' e ws' hw R' r' => ?_
      have e := (show Ext (g1.plus D) g' (upd H1 D (.lst [])) (upd H' D (.lst [])) by rw [upd_upd] at e; exact e)
      have hl' : H' D ≠ none := by rw [hw]; exact fun z => by cases z
      have M' : g'.M D := by rw [e.m]; exact .inr rfl
      have e' : Ext g1 (g'.setM g1.M) H1 H' := ext_of_plusD e hl' nD
      have e2 : Ext g ((g'.setM g1.M).nos vs) H H' := (e1.trans e').trans (ext_nos _ _ vs)
      have gp : ((g'.setM g1.M).nos vs).plus D = g'.nos vs := nos_plus (H1 := H1) e.m vs
      refine okT_ret' hr e2 D ws' (none_back e1 nD) (fun z => ?_) hw ?_ ?_
      · rcases nos_av z with z | ⟨i, z⟩ | z
        · exact R1.alive D z nD
        · rcases e.own i D z with ⟨j, hj⟩ | hj
          · exact R1.ownLive (i := j) hj nD
          · exact lD hj
        · rcases e.bnew D z with z | z
          · exact β.live R1.box z nD
          · exact lD z
      · rw [gp]
        have hb := RD.backD e R' (wipe_length σ vs) vs M' hl'
        rw [restore_eq, backE_wipe] at hb
        exact hb
      · rw [gp]
        exact (ext_nos g' H' vs).reps r'
    refine ⟨fun i m H2 => m = xs.length - i ∧ i ≤ xs.length ∧ ∃ g2 ρ2 acc ws, Ext (g1.plus D) g2 (upd H1 D (.lst [])) (upd H2 D (.lst [])) ∧ Rel (gc X ct) β g2 (wipeE ρ2 vs) (wipe σ vs) H2 ∧ H2 D = some (.lst ws) ∧ RepsG (gc X ct) g2 H2 acc ws ∧ acc.length ≤ i ∧
      okD D g2 H2 (lcL vs k tt el (xs.drop i) acc ρ2) (fun g' H' r => ∀ ws', H' D = some (.lst ws') → Rel (gc X ct) β g' (wipeE r.2 vs) (wipe σ vs) H' → RepsG (gc X ct) g' H' r.1 ws' → Q (.ref D) H'),
      ⟨xs.length, by simp, Nat.zero_le _, (g1.plus D).nos vs, ρ1, [], [], by rw [upd_upd]; exact ext_nos _ _ vs, RD.wipe vs, upd_same, .nil, Nat.le_refl _, okD_ext start (by rw [upd_upd]; exact ext_nos _ _ vs)⟩, ?_⟩
    rintro i m H2 ⟨rfl, hi, g2, ρ2, acc, ws, e2, R2, hw, ra, hlen, h2⟩
    have M2 : g2.M D := by rw [e2.m]; exact .inr rfl
    have kp : Keeps (gc X ct) g1 g2 H1 H2 := fun t v r => rep_updD M2 (e2.rep (rep_plus r sD nD))
    by_cases hlt : i < xs.length
    · refine .inr ⟨wk.go _ _ _ kp hlt, _, fun H' n => ⟨xs.length - (i + 1), by omega, n⟩, fun x H3 hy => ?_⟩
      have ex : xs[i]? = some xs[i] := List.getElem?_eq_getElem hlt
      obtain ⟨sm, rx⟩ := wk.yld _ _ _ _ _ _ kp (fun _ h => R2.avLive h) ex hy
      rw [List.drop_eq_getElem_cons hlt] at h2
      have hD2 : H2 D ≠ none := by rw [hw]; exact fun z => by cases z
      have hD3 : H3 D = some (.lst ws) := sm D _ hw
      have hD3' : H3 D ≠ none := by rw [hD3]; exact fun z => by cases z
      have h3 := okD_turn (c0 := gc X ct) (β := β) (Ex := E0) (okD_ext h2 (ext_updB (Ext.same sm) hD2)) hD3'
      refine ⟨g2, wipeE ρ2 vs, xs[i], R2.same sm, rx, okT_mono (okT_bind h3) fun g4 H4 ρ4 e4 h4 σ4 ag R4 => ⟨(wipe_agree ag hown).trans wipe_wipe, g4, ρ4, R4, okT_mono (okT_bind h4) fun g5 H5 p e5 h5 R5 => ?_⟩⟩
      have e35 : Ext g2 g5 H3 H5 := e4.trans e5
      have eD : ∀ {g6 : G} {H6 : Hp}, Ext g2 g6 H3 H6 → H6 D = some (.lst ws) := fun e => e.keep D _ hD3 (fun i z => (R2.sep i D z).1 M2) (R2.mb D M2)
      have eT : ∀ {g6 : G} {H6 : Hp} (o : HO), Ext g2 g6 H3 H6 → Ext (g1.plus D) g6 (upd H1 D (.lst [])) (upd (upd H6 D o) D (.lst [])) := fun {g6 H6} o e => by
        rw [upd_upd]
        exact e2.trans ((ext_updB (Ext.same sm) hD2).trans (ext_updB e hD3'))
      by_cases hp : p.1 = true
      · dsimp only
        rw [if_pos hp] at h5 ⊢
        refine ⟨g5, p.2, R5, okT_mono (okT_bind h5) fun g6 H6 s e6 h6 y R6 ry => ?_⟩
        obtain ⟨g7, z, e7, R7, rz, h7⟩ := frz_ok R6 ry h6
        have e37 : Ext g2 g7 H3 H6 := (e35.trans e6).trans e7
        have M7 : g7.M D := by rw [e37.m]; exact M2
        refine ⟨ws, eD e37, ?_, rfl, hlt, g7.nos vs, z.2, acc ++ [z.1], ws ++ [y], (eT _ e37).trans (ext_nos _ _ vs), ?_, upd_same, ?_, by rw [List.length_append]; simp; omega, ?_⟩
        · have := ra.length
          have := big_line
          omega
        · have R8 := (R7.updM (o := .lst (ws ++ [y])) M7).wipe vs
          rw [wipe_agree ag hown, wipe_wipe] at R8
          exact R8
        · exact (ext_nos g7 _ vs).reps (rep_updL M7 ((((Ext.same sm).trans e37).reps ra).append (.one rz)))
        · exact okD_ext (okT_ret h7) (by rw [upd_upd]; exact ext_nos _ _ vs)
      · dsimp only
        rw [if_neg hp] at h5 ⊢
        refine ⟨rfl, hlt, g5.nos vs, p.2, acc, ws, ?_, ?_, eD e35, ?_, by omega, ?_⟩
        · have := eT (.lst ws) e35
          rw [upd_upd] at this
          exact this.trans (ext_nos _ _ vs)
        · have R8 := R5.wipe vs
          rw [wipe_agree ag hown, wipe_wipe] at R8
          exact R8
        · exact (ext_nos g5 _ vs).reps (((Ext.same sm).trans e35).reps ra)
        · exact okD_ext (okT_ret h5) (ext_nos _ _ vs)
    · have e : i = xs.length := by omega
      subst e
      rw [List.drop_length] at h2
      exact .inl ⟨wk.stop _ _ _ kp (Nat.le_refl _), okD_ret h2 ws hw R2 ra⟩
  · have q' : okT (gc X ct) β Ex g H (if xs.length < big then _ else _) _ := q
    rw [if_neg hbig] at q'
    exact (show False from q').elim
theorem jn_lc (hc : X.calm = true) (hN : X.N.Nodup) (ok : BlkOk X.N X.env.scope scope own) (hown : ∀ i ∈ is, i ∈ own.map (·.2)) (hi : JI X ct β Ex tg iter f)
    (hg : ∀ (s : Shared) (H : Hp) (C : Addr) (cl : List (Str × Addr)) (fp : List Addr), JG (X.blk s H scope (compEnvC scope cl C X.env) fp) ct β E0 tg is k) (ht : ∀ (s : Shared) (H : Hp) (C : Addr) (cl : List (Str × Addr)) (fp : List Addr), JTs (X.blk s H scope (compEnvC scope cl C X.env) fp) ct β E0 ifs tt)
    (he : ∀ (s : Shared) (H : Hp) (C : Addr) (cl : List (Str × Addr)) (fp : List Addr), JE (X.blk s H scope (compEnvC scope cl C X.env) fp) ct β E0 elt el) (hs : ∀ x, foldedSetIterable iter X.env x = pure x := by intro _; rfl) :
    JN X ct β Ex (.ListComp elt [⟨tg, iter, ifs, 0⟩] scope pos) (nLc (own.map (·.2)) f k tt el) := by
  exact PE.imp (pe_lc (g := rdG (gc X ct) β E0 is k) (tt := rdB (gc X ct) β E0 tt) (te := rdE (gc X ct) β E0 el) hc hN hi ok hg ht he hs) fun σ H Q h => lc_ok hown h
end
end Dn

set_option Elab.async false
set_option linter.all false
set_option maxRecDepth 100000
namespace PySem
namespace TrS
open PySem PySem.Spec PyProof.Rows SrtO
section
variable {prog : Program} {w : World} {A : Around} {E : Value → Shared → Prop} {s : Shared}
/-- what sorted first makes of a tuple: its things in a new list -/
theorem collect_tup {t : Addr} {us : List Value} {Q : List Value → Shared → Prop} (ht : s.heap.IsTuple t us.toArray) (hz : us.length ≤ sizeLine)
    (hQ : Q us { s with heap := (s.heap.push (seqObj "list" #[] 0)).update s.heap.objs.size (Obj.mapSeq (· ++ us.toArray)) }) : wpAny (model prog w) A (collect (.ref t)) Q E s := by
  obtain ⟨o, ho, hc, n, hd⟩ := ht
  have ho2 : (s.heap.push (seqObj "list" #[] 0)).get? t = some o := Heap.get?_push_of_some _ ho
  have hn : (s.heap.push (seqObj "list" #[] 0)).get? s.heap.objs.size = some (seqObj "list" #[] 0) := Heap.get?_push_size _ rfl
  have two : (Value.type "tuple" == Value.type "list") = false := by decide +kernel
  have one : (Value.type "tuple" == Value.type "tuple") = true := by rfl
  have room : (#[] ++ us.toArray).size ≤ sizeLine + 1 := by
    simp only [Array.size_append, List.size_toArray, List.length_nil]
    omega
  unfold collect
  apply wpAny_bind
  apply wpAny_runValue
  apply codeAny_builtin entry_proto_collect'
  show wpAny _ _ (do again (.builtin "list.__iadd__" ⟨[← newList [], .ref t], []⟩)) _ _ s
  apply wpAny_bind
  refine wpAny_newList ?_ (Nat.zero_le _)
  refine wpAny_pure ⟨Code.quiet_builtin _ (by decide +kernel), codeAny_builtin entry_list_iadd' ?_⟩
  show wpAny _ _ (Builtin.List.listExtendWith (.ref s.heap.objs.size) (.ref t) (.ref s.heap.objs.size)) _ _ { s with heap := s.heap.push (seqObj "list" #[] 0) }
  unfold Builtin.List.listExtendWith
  apply wpAny_bind
  refine wpAny_typeOf (T := "tuple") ⟨o, ho2, hc⟩ ?_
  rw [if_pos (by rw [two, one]; simp)]
  apply wpAny_bind
  apply listItems_at ho2 hd
  apply wpAny_bind
  apply listItems_at (xs := #[]) (n := 0) hn rfl
  rw [if_neg (by simp)]
  apply wpAny_bind
  refine listUpdate_at (xs := #[]) (n := 0) hn rfl ?_ (Nat.zero_le _) room
  apply wpAny_pure
  show wpAny (model prog w) A (do
      match (← load s.heap.objs.size).data with
      | .seq xs _ => pure xs.toList
      | _ => unsupported "internal:collect") Q E { s with heap := (s.heap.push (seqObj "list" #[] 0)).update s.heap.objs.size (Obj.mapSeq (· ++ us.toArray)) }
  apply wpAny_bind
  apply wpAny_load (get?_update_seq hn _)
  show wpAny _ _ (pure ((#[] : Array Value) ++ us.toArray).toList) Q E _
  rw [show ((#[] : Array Value) ++ us.toArray).toList = us by simp]
  exact wpAny_pure hQ
theorem sorted_tup {t : Addr} {us : List Value} {lt : Value → Value → Bool} {Q : Value → Shared → Prop} (O : Swo lt) (ht : s.heap.IsTuple t us.toArray) (hz : us.length ≤ sizeLine)
    (hS : 2 ≤ us.length → ∀ (h₁ : Heap) (a : Addr), SortableO prog w A.in1.in1 { s with heap := h₁ } a us lt)
    (hQ : ∀ out : List Value, Srtd lt out → Stb lt out us → Q (.ref (s.heap.objs.size + 1)) { s with heap := sortedAll s.heap us out.toArray }) : wpAny (model prog w) A (call (.builtin "sorted") [.ref t]) Q E s := by
  apply Calls.call_function_entry kind_sorted plain_sorted entry_sorted (args_sorted1 _)
  unfold Builtin.«sorted»
  apply wpAny_bind (m := checkCount "sorted" 1 1 _)
  apply wpAny_pure
  apply wpAny_bind
  apply collect_tup ht hz
  apply wpAny_bind
  refine wpAny_newList ?_ hz
  have n1 : ((s.heap.push (seqObj "list" #[] 0)).update s.heap.objs.size (Obj.mapSeq (· ++ us.toArray))).objs.size = s.heap.objs.size + 1 := by rw [Heap.size_update, size_push']
  have at1 : (((s.heap.push (seqObj "list" #[] 0)).update s.heap.objs.size (Obj.mapSeq (· ++ us.toArray))).push (seqObj "list" us.toArray 0)).get? (s.heap.objs.size + 1) = some (seqObj "list" us.toArray 0) := by
    rw [← n1]
    exact Heap.get?_push_size _ rfl
  show wpAny _ _ _ _ _ { s with heap := ((s.heap.push (seqObj "list" #[] 0)).update s.heap.objs.size (Obj.mapSeq (· ++ us.toArray))).push (seqObj "list" us.toArray 0) }
  rw [n1]
  apply wpAny_bind
  apply wpAny_holding
  refine wpAny_call_entry slot_list_sort ⟨_, at1, rfl⟩ entry_list_sort (list_sort_ord O at1 hz (fun h2 => hS h2 _ _) fun out hs hb => ⟨_, rfl, ?_⟩) (args_list_sort _)
  exact wpAny_pure ⟨_, rfl, hQ out hs hb⟩
end
end TrS
end PySem
namespace Dn
open PySem PySem.Spec PyProof.Rows L2
/-! ### sorting -/
def ins (x : Int) : List Int → List Int
  | [] => [x]
  | y :: r => if x ≤ y then x :: y :: r else y :: ins x r
def isort : List Int → List Int
  | [] => []
  | x :: r => ins x (isort r)
theorem ins_perm (x : Int) : ∀ l : List Int, (ins x l).Perm (x :: l)
  | [] => List.Perm.refl _
  | y :: r => by
    unfold ins
    split
    · exact List.Perm.refl _
    · exact (List.Perm.cons y (ins_perm x r)).trans (List.Perm.swap x y r)
theorem isort_perm : ∀ l : List Int, (isort l).Perm l
  | [] => List.Perm.refl _
  | x :: r => (ins_perm x (isort r)).trans (List.Perm.cons x (isort_perm r))
theorem ins_sorted (x : Int) : ∀ {l : List Int}, l.Pairwise (· ≤ ·) → (ins x l).Pairwise (· ≤ ·)
  | [], _ => List.pairwise_singleton _ _
  | y :: r, h => by
    have h1 := List.pairwise_cons.mp h
    unfold ins
    split
    · rename_i hx
      refine List.pairwise_cons.mpr ⟨fun z hz => ?_, h⟩
      rcases List.mem_cons.mp hz with e | e
      · rw [e]
        exact hx
      · exact Int.le_trans hx (h1.1 z e)
    · rename_i hx
      refine List.pairwise_cons.mpr ⟨fun z hz => ?_, ins_sorted x h1.2⟩
      rcases List.mem_cons.mp ((ins_perm x r).mem_iff.mp hz) with e | e
      · rw [e]
        omega
      · exact h1.1 z e
theorem isort_sorted : ∀ l : List Int, (isort l).Pairwise (· ≤ ·)
  | [] => List.Pairwise.nil
  | x :: r => ins_sorted x (isort_sorted r)
theorem isort_uniq : ∀ {l m : List Int}, l.Perm m → l.Pairwise (· ≤ ·) → m.Pairwise (· ≤ ·) → l = m
  | [], m, p, _, _ => by rw [List.nil_perm] at p; exact p.symm
  | x :: l, [], p, _, _ => by rw [List.perm_nil] at p; exact p
  | x :: l, y :: m, p, h1, h2 => by
    have a := List.pairwise_cons.mp h1
    have b := List.pairwise_cons.mp h2
    have e : x = y := by
      have hx := p.mem_iff.mp (List.mem_cons_self (a := x) (l := l))
      have hy := p.mem_iff.mpr (List.mem_cons_self (a := y) (l := m))
      rcases List.mem_cons.mp hx with e | e
      · exact e
      · rcases List.mem_cons.mp hy with e' | e'
        · exact e'.symm
        · have := a.1 y e'
          have := b.1 x e
          omega
    subst e
    rw [isort_uniq p.cons_inv a.2 b.2]
theorem cr_sortedT {X : Cx} : CallR X (.builtin "sorted") (fun vs H Q => ∃ (a : Addr) (ns : List Int), vs = [V.ref a] ∧ SqT X.K H a (ns.map V.int) ∧ ∀ (ns' : List Int) (p : Addr), ns'.Perm ns → ns'.Pairwise (· ≤ ·) → H p = none → Q (.ref p) (upd H p (.lst (ns'.map V.int)))) := by
  intro pins s σ H vs us Q I r h
  obtain ⟨a, ns, rfl, hs, q⟩ := h
  obtain ⟨its, rv, ht, hz⟩ := I.tuple hs
  rw [Vals.ref1 r]
  have hi := rv.ints
  have hlz : its.length ≤ sizeLine := by
    rw [← rv.length]
    exact hz
  refine PySem.TrS.sorted_tup SrtO.swo_int (show s.heap.IsTuple a its.toArray from ht) hlz (fun h2 h₁ a' => SrtO.ints_sortable hi h2) fun out h1 h2 => ?_
  obtain ⟨k1, k2, k3⟩ := SrtO.ints_out hi h1 h2
  obtain ⟨ep, at1⟩ := PyProof.Rows.sortedAll_at s.heap its out.toArray
  have hl : ((out.map SrtO.iv).map V.int).length ≤ sizeLine := by
    have z := hz
    rw [List.length_map] at z ⊢
    rw [k2.length_eq]
    exact z
  have J : L2.Inv X pins σ (upd H (s.heap.objs.size + 1) (.lst ((out.map SrtO.iv).map V.int))) { s with heap := sortedAll s.heap its out.toArray } := I.laid (t' := s.toks) (fun _ _ => PyProof.Rows.sortedAll_old (vs := its) (out := out.toArray)) (Nat.le_succ _) ⟨hl, out, ep, vals_of_ints k1, at1⟩
  exact ⟨.ref _, upd H (s.heap.objs.size + 1) (.lst ((out.map SrtO.iv).map V.int)), J, rfl, q _ _ k2 k3 (I.hok.fresh (Nat.le_succ _))⟩
/-! len(set(t)), t a tuple of unlike ints -/
def tLenSetT (K : PySem.W.Frag) (ta : TE) : TE := fun σ H Q => ta σ H fun x H1 => ∃ (l : Addr) (ns : List Int), x = .ref l ∧ SqT K H1 l (ns.map V.int) ∧ ns.Nodup ∧ ns.length ≤ 1000 ∧ Q (.int (ns.length : Nat)) H1
theorem pe_lenSetT {X : Cx} {a : Expr} {ta : TE} {p p2 q pos : Pos} (hg : Gl X "len") (hm : X.mg "len" = none) (hg2 : Gl X "set") (hm2 : X.mg "set" = none) (ha : PE X a ta) (hc : X.calm = true := by rfl)
    (na : starEach [a] X.env = (false, eval a X.env) :: starEach [] X.env := by rfl) : PE X (.Call (.Name "len" p) [.Call (.Name "set" p2) [a] [] q] [] pos) (tLenSetT X.K ta) := by
  constructor
  intro pins s σ H Q I h
  apply Call_ (ld_blt I hg hm boot_len ?_)
  apply PyProof.Rows.callWith_builtin1 (PyProof.Rows.args_cons ?_ rfl) rfl rfl
  apply Call_ (ld_blt I hg2 hm2 boot_set ?_)
  apply PyProof.Rows.callWith_type1 (PyProof.Rows.args_cons (thn (ha.run pins s σ H _ I h) ?_) na) na rfl
  rintro v s1 ⟨x, H1, I1, r1, l, ns, rfl, hq, hnd, hl, q1⟩
  apply PyProof.Rows.args_nil
  cases r1
  obtain ⟨its, rv, pt, hz⟩ := I1.tuple hq
  have hb : ns.length + 1 < scanBound := by
    unfold scanBound
    omega
  apply call_set_tupI ns (I1.ok.hd hc) (show s1.heap.IsTuple l its.toArray from pt) (ints_of_vals rv) hb
  intro h' tk c R1 hcn k
  apply PyProof.Rows.args_nil
  obtain ⟨o, es, ep, t, ho, hex, hdt, g, nd, hm3, hb3, hf, hn, hr, hl2⟩ := R1
  have hp : (es.toList.map keyOf).Perm ns := (List.perm_ext_iff_of_nodup nd hnd).mpr fun k => by
    rw [← hm3 k, decide_eq_true_eq]
  have hsz : es.size = ns.length := by
    have z := hp.length_eq
    rw [List.length_map, Array.length_toList] at z
    exact z
  have I2 : Inv X pins σ H1 { s1 with heap := h', toks := tk } := I1.kept fun b o e => k b o e
  exact call_len_set ho hex hdt hf (by omega) ⟨.int ns.length, H1, I2.tok _, ⟨_, by rw [hsz]⟩, q1⟩
/-! len(x), x an instance of a class of the text with a __len__ -/
def rLenOwn (C : Addr) (sp : Sp) (E : XK) : List V → Hp → VK → Prop := fun xs H Q => ∃ a dx fs, xs = [V.ref a] ∧ H a = some (.ins C dx fs) ∧ sp [.ref a] H (fun z H' => ∃ i, z = .int i ∧ (0 ≤ i ∧ i < 2 ^ 63) ∧ Q (.int i) H') E
theorem call_lenOwn {X : Cx} {C g : Addr} {n : Nat} {fd : FuncData} {ps : List Str} {sp : Sp} {CX : CXT} {E : XK} (hm : Meth X.K C "__len__" g) (F : FnOk X.prog X.w X.K X.mg X.base CX n g fd ps sp) (hr : Room (n + 1) X.A) (hb : Binds X.K fd ps []) (hx : Passes CX X E) : CallR X (.builtin "len") (rLenOwn C sp E) := by
  intro pins s σ H xs us Q I r h
  obtain ⟨a, dx, fs, rfl, ha, q⟩ := h
  obtain ⟨u, rfl, ru⟩ := vals1 r
  cases (show u = Value.ref a from ru)
  obtain ⟨mA, O, _⟩ := ins_get I.hok ha
  obtain ⟨od, J, _⟩ := O.look
  obtain ⟨m, hF⟩ := I.fr
  have hr1 : Room n X.A.in1 := Room.in1 hr
  refine PySem.W.len_K hF I.ok.mod.kin J hm.at_ hm.fn (wpAny_call (codeAny_mono (F.run X.A.in1 X.stack s H ⟨[.ref a], []⟩ [.ref a] [.ref a] _ E hr1 I.env0.in1 (hb s [.ref a] I.kIn (F.len _ _ _ _ q)) (.cons rfl .nil) q) fun r s' hq => ?_))
  cases r with
  | error e => exact hx pins σ H s e s' I hq
  | ok fl =>
    cases fl with
    | ret v =>
      obtain ⟨z, H', I', rz, i, ez, hi, qi⟩ := I.after hq
      subst ez
      obtain ⟨t, e⟩ := (show ∃ t, v = Value.int i t from rz)
      subst e
      exact ⟨hi, .int i, H', I'.tok _, ⟨_, rfl⟩, qi⟩
    | next => exact False.elim hq
    | brk => exact False.elim hq
    | cont => exact False.elim hq


/-! ### isinstance -/
def tyName : AV → Option String
  | .non => some "NoneType"
  | .bl _ => some "bool"
  | .int _ => some "int"
  | .str _ => some "str"
  | .tup _ => some "tuple"
  | .lst _ => some "list"
  | _ => none
def subTy (t u : String) : Bool := t == u || (t == "bool" && u == "int")
def pIsi (u : String) (a : AV) : Option AV := (tyName a).map fun t => .bl (subTy t u)
def pIsi2 (u v : String) (a : AV) : Option AV := (tyName a).map fun t => .bl (subTy t u || subTy t v)
section
variable {X : Cx} {ct : CT} {β : BInv} {Ex : XK} {a b c e : Expr} {f k : Sem} {pos p p2 p3 p4 : Pos} {x : Str} {u v : String}
theorem tyX_of {c0 : Gc} {g : G} {H : Hp} {t : AV} {w : V} {n : String} (h : RepR c0 g H t w) (e : tyName t = some n) : TyX c0.K H w (.type n) := by
  cases t with
  | non => cases e; rw [h.non]; exact .base .non
  | bl b => cases e; rw [h.bl]; exact .base (.bl b)
  | int i => cases e; rw [h.int]; exact .base (.int i)
  | str s => cases e; rw [h.str]; exact .base (.str s)
  | tup xs =>
    cases e
    obtain ⟨q, vs, rfl, hs, _⟩ := h.tup
    rcases hs with (hs | ⟨o, hs⟩) | ⟨o, its, n, hs, hc, _⟩
    · exact .base (.tup hs)
    · exact .fTuple hs
    · exact .kTuple hs hc
  | lst xs =>
    cases e
    obtain ⟨q, vs, rfl, hs, _⟩ := h.lst'
    exact .base (.lst hs)
  | _ => cases e
/-- what the library's table says of the six kinds -/
def Kinds (u : String) : Prop := ∀ t ∈ ["NoneType", "bool", "int", "str", "tuple", "list"], kitB t u = some (subTy t u)
instance : Decidable (Kinds u) := by unfold Kinds; infer_instance
theorem kinds_int : Kinds "int" := by decide +kernel
theorem kinds_bool : Kinds "bool" := by decide +kernel
theorem kinds_str : Kinds "str" := by decide +kernel
theorem kinds_list : Kinds "list" := by decide +kernel
theorem kinds_tuple : Kinds "tuple" := by decide +kernel
theorem tyName_in {t : AV} {n : String} (e : tyName t = some n) : n ∈ ["NoneType", "bool", "int", "str", "tuple", "list"] := by
  cases t <;> cases e <;> simp
theorem j_isi (K : Kinds u) (hg : Gl X "isinstance") (hm : X.mg "isinstance" = none) (hg2 : Gl X u) (hm2 : X.mg u = none) (hv : bootBuiltins (u : Str) = some (.type u)) (ha : JE X ct β Ex a f) (hn : (u : Str) ≠ "__name__" := by decide +kernel) (hdb : ((u : Str) == ("__debug__" : Str)) = false := by decide +kernel)
    (he : starEach [a, .Name u p2] X.env = (false, eval a X.env) :: starEach [.Name u p2] X.env := by rfl) (hpl : (backTo pos (starEach [.Name u p2] X.env)).any (·.1) = false := by rfl) : JE X ct β Ex (.Call (.Name "isinstance" p) [a, .Name u p2] [] pos) (fUn (pIsi u) f) := by
  refine PE.imp (pe_callB call_isi hg hm (by decide +kernel) (pa_cons ha (pa_cons (pe_bltn (v := .ty u) hg2 hm2 hv rfl hn hdb) pa_nil) he) (by decide +kernel) (by decide +kernel) he hpl) fun σ H Q h => ?_
  refine fUn_ok' (r := fun x H Q => rIsi X.K [x, .ty u] H Q) (fun g H a z x Q _ ra e q => ?_) h
  obtain ⟨n, en, rfl⟩ := map_some (o := tyName a) e
  exact ⟨x, .ty u, _, _, _, rfl, .ty u, tyX_of ra en, kit_ty (K n (tyName_in en)), q _ H (Same.refl H) rep_bl⟩
theorem j_isi2 (Ku : Kinds u) (Kv : Kinds v) (hg : Gl X "isinstance") (hm : X.mg "isinstance" = none) (hg2 : Gl X u) (hm2 : X.mg u = none) (hv2 : bootBuiltins (u : Str) = some (.type u)) (hg3 : Gl X v) (hm3 : X.mg v = none) (hv3 : bootBuiltins (v : Str) = some (.type v)) (ha : JE X ct β Ex a f) {kk : Nat}
    (hn : (u : Str) ≠ "__name__" := by decide +kernel) (hdb : ((u : Str) == ("__debug__" : Str)) = false := by decide +kernel) (hn3 : (v : Str) ≠ "__name__" := by decide +kernel) (hdb3 : ((v : Str) == ("__debug__" : Str)) = false := by decide +kernel)
    (he : starEach [a, .Tuple [.Name u p2, .Name v p3] kk p4] X.env = (false, eval a X.env) :: starEach [.Tuple [.Name u p2, .Name v p3] kk p4] X.env := by rfl) (hpl : (backTo pos (starEach [.Tuple [.Name u p2, .Name v p3] kk p4] X.env)).any (·.1) = false := by rfl) :
    JE X ct β Ex (.Call (.Name "isinstance" p) [a, .Tuple [.Name u p2, .Name v p3] kk p4] [] pos) (fUn (pIsi2 u v) f) := by
  refine PE.imp (pe_callB call_isiT hg hm (by decide +kernel) (pa_cons ha (pa_cons (pe_tup (pa_cons (pe_bltn (v := .ty u) hg2 hm2 hv2 rfl hn hdb) (pa_cons (pe_bltn (v := .ty v) hg3 hm3 hv3 rfl hn3 hdb3) pa_nil))) pa_nil) he) (by decide +kernel) (by decide +kernel) he hpl) fun σ H Q h => ?_
  obtain ⟨g, ρ, R, h⟩ := h
  refine ⟨g, ρ, R, okT_mono (okT_bind h) fun g1 H1 q e1 h1 x R1 rx => ?_⟩
  obtain ⟨t, et, h3⟩ := okT_lift h1
  obtain ⟨z, ez, h5⟩ := okT_lift h3
  obtain ⟨n, en, rfl⟩ := map_some (o := tyName t) ez
  refine ⟨by show 2 ≤ sizeLine; decide, fun l hl => ?_⟩
  have s := same_upd (o := .tup [V.ty u, V.ty v]) hl
  have rt : RepR (gc X ct) g1 (upd H1 l (.tup [V.ty u, V.ty v])) t x := by
    rcases rx.rs R1 et with r | ⟨xs, p, vs, e1, e2, e3, e4, e5⟩
    · exact .inl ((Ext.same s).rep r)
    · exact .inr ⟨xs, p, vs, e1, e2, e3, s _ _ e4, (Ext.same s).reps e5⟩
  refine ⟨x, l, [.ty u, .ty v], .type n, [.type u, .type v], _, rfl, upd_same, .cons (.ty u) (.cons (.ty v) .nil), tyX_of rt en, ?_, okT_ret' h5 (Ext.same s) _ (R1.same s) (rh_val (rep_bl (b := subTy n u || subTy n v)))⟩
  have k1 := kit_ty (K := X.K) (Ku n (tyName_in en))
  have k2 := kit_ty (K := X.K) (Kv n (tyName_in en))
  cases hu : subTy n u with
  | true => rw [hu] at k1; exact kitAny_cons (b := true) k1 (fun z => nomatch z) fun _ => rfl
  | false =>
    rw [hu] at k1
    refine kitAny_cons (b := false) k1 (fun _ => ?_) fun z => nomatch z
    cases hv : subTy n v with
    | true => rw [hv] at k2; exact kitAny_cons (b := true) k2 (fun z => nomatch z) fun _ => rfl
    | false => rw [hv] at k2; exact kitAny_cons (b := false) k2 (fun _ => rfl) fun z => nomatch z
/-! ### len(set(ints)), sorted(ints) -/
def pLenSet (a : AV) : Option AV := (seqOf a).bind fun xs => (intsOf xs).bind fun ns => if ns.Nodup ∧ ns.length ≤ 1000 then some (.int ns.length) else none
def pSorted (a : AV) : Option AV := (seqOf a).bind fun xs => (intsOf xs).bind fun ns => if ns.length ≤ big then some (.lst ((isort ns).map AV.int)) else none
/-- len(set(..)) of a list or a tuple: which one is seen when it is there -/
def tLenSetA (K : PySem.W.Frag) (ta : TE) : TE := fun σ H Q => ta σ H fun x H1 => ∃ (l : Addr) (ns : List Int), x = .ref l ∧ (SqL K H1 l (ns.map V.int) ∨ SqT K H1 l (ns.map V.int)) ∧ ns.Nodup ∧ ns.length ≤ 1000 ∧ Q (.int (ns.length : Nat)) H1
theorem pe_lenSetA {q : Pos} {ta : TE} (hg : Gl X "len") (hm : X.mg "len" = none) (hg2 : Gl X "set") (hm2 : X.mg "set" = none) (ha : PE X a ta) (hc : X.calm = true := by rfl) (na : starEach [a] X.env = (false, eval a X.env) :: starEach [] X.env := by rfl) :
    PE X (.Call (.Name "len" p) [.Call (.Name "set" p2) [a] [] q] [] pos) (tLenSetA X.K ta) := by
  constructor
  intro pins s σ H Q I h
  apply Call_ (ld_blt I hg hm boot_len ?_)
  apply PyProof.Rows.callWith_builtin1 (PyProof.Rows.args_cons ?_ rfl) rfl rfl
  apply Call_ (ld_blt I hg2 hm2 boot_set ?_)
  apply PyProof.Rows.callWith_type1 (PyProof.Rows.args_cons (thn (ha.run pins s σ H _ I h) ?_) na) na rfl
  rintro v s1 ⟨x, H1, I1, r1, l, ns, rfl, hq, hnd, hl, q1⟩
  apply PyProof.Rows.args_nil
  cases r1
  have hb : ns.length + 1 < scanBound := by
    unfold scanBound
    omega
  rcases hq with hq | hq
  · obtain ⟨its, rv, pl, hz⟩ := I1.list hq
    have hlen : its.toArray.size = ns.length := by rw [List.size_toArray, ← rv.length, List.length_map]
    refine call_set_list (I1.ok.hd hc) pl.isList (ints_of_vals rv) (by rw [hlen]; exact hb) fun h' tk hS hk => ?_
    apply PyProof.Rows.args_nil
    rw [hlen, RZ.firstMet_nodup hnd ns.length (Nat.le_refl _), List.take_length] at hS
    obtain ⟨ob, es, ep, tz, g1, g2, g3, _, _, _, g7, g8⟩ := hS
    have J2 : L2.Inv X pins σ H1 { s1 with heap := h', toks := tk } := I1.kept fun b u w => hk b u (Heap.lt_size w) w
    exact call_len_set g1 g2 g3 g7 (by omega) ⟨V.int ns.length, H1, J2.tok _, ⟨_, by rw [g8]⟩, q1⟩
  · obtain ⟨its, rv, pt, hz⟩ := I1.tuple hq
    apply call_set_tupI ns (I1.ok.hd hc) (show s1.heap.IsTuple l its.toArray from pt) (ints_of_vals rv) hb
    intro h' tk c R1 hcn k
    apply PyProof.Rows.args_nil
    obtain ⟨o, es, ep, t, ho, hex, hdt, g, nd, hm3, hb3, hf, hn, hr, hl2⟩ := R1
    have hp : (es.toList.map keyOf).Perm ns := (List.perm_ext_iff_of_nodup nd hnd).mpr fun k => by
      rw [← hm3 k, decide_eq_true_eq]
    have hsz : es.size = ns.length := by
      have z := hp.length_eq
      rw [List.length_map, Array.length_toList] at z
      exact z
    have I2 : L2.Inv X pins σ H1 { s1 with heap := h', toks := tk } := I1.kept fun b o e => k b o e
    exact call_len_set ho hex hdt hf (by omega) ⟨.int ns.length, H1, I2.tok _, ⟨_, by rw [hsz]⟩, q1⟩
theorem j_lenSet {q : Pos} (hg : Gl X "len") (hm : X.mg "len" = none) (hg2 : Gl X "set") (hm2 : X.mg "set" = none) (ha : JE X ct β Ex a f) (hc : X.calm = true := by rfl) (na : starEach [a] X.env = (false, eval a X.env) :: starEach [] X.env := by rfl) :
    JE X ct β Ex (.Call (.Name "len" p) [.Call (.Name "set" p2) [a] [] q] [] pos) (fUn pLenSet f) := by
  refine PE.imp (pe_lenSetA hg hm hg2 hm2 ha hc na) fun σ H Q h => ?_
  refine fUn_ok' (r := fun x H Q => ∃ (l : Addr) (ns : List Int), x = .ref l ∧ (SqL X.K H l (ns.map V.int) ∨ SqT X.K H l (ns.map V.int)) ∧ ns.Nodup ∧ ns.length ≤ 1000 ∧ Q (.int (ns.length : Nat)) H) (fun g H a z x Q _ ra e q => ?_) h
  unfold pLenSet at e
  cases e1 : seqOf a with
  | none => rw [e1] at e; cases e
  | some xs =>
    rw [e1] at e
    cases e2 : intsOf xs with
    | none => simp [e2] at e
    | some ns =>
      have e3 : (if ns.Nodup ∧ ns.length ≤ 1000 then some (AV.int ns.length) else none) = some z := by simpa [e2] using e
      obtain ⟨h, rfl⟩ := ifp_some e3
      obtain ⟨l, vs, rfl, hs, r⟩ := seq_sq ra e1
      rw [intsOf_eq e2] at r
      have ev := reps_ints r
      subst ev
      exact ⟨l, ns, rfl, hs, h.1, h.2, q _ H (Same.refl H) rep_int⟩
theorem cr_sortedA {X : Cx} : CallR X (.builtin "sorted") (fun vs H Q => ∃ (a : Addr) (ns : List Int), vs = [V.ref a] ∧ (SqL X.K H a (ns.map V.int) ∨ SqT X.K H a (ns.map V.int)) ∧ ∀ (ns' : List Int) (p : Addr), ns'.Perm ns → ns'.Pairwise (· ≤ ·) → H p = none → Q (.ref p) (upd H p (.lst (ns'.map V.int)))) := by
  intro pins s σ H vs us Q I r h
  obtain ⟨a, ns, e, hs | hs, q⟩ := h
  · exact cr_sortedI pins s σ H vs us Q I r ⟨a, ns, e, hs, q⟩
  · exact cr_sortedT pins s σ H vs us Q I r ⟨a, ns, e, hs, q⟩
theorem o_sorted : Op1' X ct (fun x H Q => ∃ (a : Addr) (ns : List Int), [x] = [V.ref a] ∧ (SqL X.K H a (ns.map V.int) ∨ SqT X.K H a (ns.map V.int)) ∧ ∀ (ns' : List Int) (p : Addr), ns'.Perm ns → ns'.Pairwise (· ≤ ·) → H p = none → Q (.ref p) (upd H p (.lst (ns'.map V.int)))) pSorted := by
  intro g H a z x Q live ra e q
  unfold pSorted at e
  cases e1 : seqOf a with
  | none => rw [e1] at e; cases e
  | some xs =>
    rw [e1] at e
    cases e2 : intsOf xs with
    | none => simp [e2] at e
    | some ns =>
      have e3 : (if ns.length ≤ big then some (AV.lst ((isort ns).map AV.int)) else none) = some z := by simpa [e2] using e
      obtain ⟨h, rfl⟩ := ifp_some e3
      obtain ⟨l, vs, rfl, hs, r⟩ := seq_sq ra e1
      rw [intsOf_eq e2] at r
      have ev := reps_ints r
      subst ev
      refine ⟨l, ns, rfl, hs, fun ns' p hp hq hn => ?_⟩
      have e4 : ns' = isort ns := isort_uniq (hp.trans (isort_perm ns).symm) hq (isort_sorted ns)
      subst e4
      have s := same_upd (o := .lst ((isort ns).map V.int)) hn
      exact q _ _ s (rep_lst_new (fun z => live p z hn) upd_same (.ints' _))
/-! ### list(range(..)) -/
def nListRange (f : Sem) : SemN := fun ρ => (f ρ).bind fun p => (lift (rs p.1 p.2)).bind fun a => (lift (intOf a)).bind fun j => if 0 ≤ j ∧ below j 24 = true then .ret (rangeL 0 j.toNat, p.2) else .bad
theorem rep_range {c0 : Gc} {A D : Addr → Prop} {H : Hp} {j : Int} : RepL c0 A D H (rangeL 0 j.toNat) (rgV 0 j) := by
  refine .of (by rw [rgV_length]; unfold rangeL; rw [List.length_map, List.length_range]; simp) fun i x v e1 e2 => ?_
  unfold rangeL at e1
  unfold rgV at e2
  rw [List.getElem?_map] at e1 e2
  have e3 : (j - 0).toNat = j.toNat := by rw [Int.sub_zero]
  rw [e3] at e2
  cases q : (List.range j.toNat)[i]? with
  | none => rw [q] at e1; cases e1
  | some m => rw [q] at e1 e2; cases e1; cases e2; rw [Rep]
theorem jn_listRange (hc : X.calm = true) (hg : Gl X "list") (hm : X.mg "list" = none) (hg2 : Gl X "range") (hm2 : X.mg "range" = none) (ha : JE X ct β Ex a f) (na : starEach [a] X.env = (false, eval a X.env) :: starEach [] X.env := by rfl)
    (nb : starEach [.Call (.Name "range" p2) [a] [] p3] X.env = (false, eval (.Call (.Name "range" p2) [a] [] p3) X.env) :: starEach [] X.env := by rfl) : JN X ct β Ex (.Call (.Name "list" p) [.Call (.Name "range" p2) [a] [] p3] [] pos) (nListRange f) := by
  refine PE.imp (pe_listRg hc hg hm (prg_1 hg2 hm2 ha na) nb) fun σ H Q h => ?_
  obtain ⟨g, ρ, R, h⟩ := h
  refine ⟨g, ρ, R, okT_bind0 h fun p q g1 H1 e v R1 rv => ?_⟩
  obtain ⟨u, eu, h2⟩ := okT_lift q
  obtain ⟨j, ej, h3⟩ := okT_lift h2
  have := intOf_eq ej
  subst this
  have ev := (rv.rs R1 eu).int
  subst ev
  by_cases hb : 0 ≤ j ∧ below j 24 = true
  · rw [if_pos hb] at h3
    have hb2 : j ≤ 16777216 := by have := below_iff.mp hb.2; omega
    refine ⟨j, rfl, RgOk.of_le (a := 0) (b := j) (Int.le_refl 0) hb2 (by decide) hb.1, fun l hl => ?_⟩
    have s := same_upd (o := .lst (rgV 0 j)) hl
    exact okT_ret' h3 (e.trans (Ext.same s)) l _ (none_back e hl) (R1.freshAv hl) upd_same (R1.plus s hl (by rw [upd_same]; exact fun z => by cases z)) rep_range
  · rw [if_neg hb] at h3
    exact (show False from h3).elim
/-! ### xs.index(i), xs a list of ints -/
def idxOf (i : Int) : List Int → Option Nat
  | [] => none
  | x :: xs => if x = i then some 0 else (idxOf i xs).map (· + 1)
def fIndex (f k : Sem) : Sem := fun ρ => (f ρ).bind fun p => (lift (rs p.1 p.2)).bind fun a0 => (lift (lstOf a0)).bind fun _ => (k p.2).bind fun q => (lift (rs p.1 q.2)).bind fun a => (lift (lstOf a)).bind fun xs => (lift (rs q.1 q.2)).bind fun b => (lift (intOf b)).bind fun i =>
  (lift (intsOf xs)).bind fun ns => (lift (idxOf i ns)).bind fun j => .ret (.val (.int j), q.2)
theorem idxOf_spec {i : Int} : ∀ {ns : List Int} {j : Nat}, idxOf i ns = some j → ns[j]? = some i ∧ ∀ m, m < j → ns[m]? ≠ some i
  | [], j, h => by cases h
  | x :: xs, j, h => by
    unfold idxOf at h
    by_cases e : x = i
    · rw [if_pos e] at h
      cases h
      exact ⟨by rw [e]; rfl, fun m hm => by omega⟩
    · rw [if_neg e] at h
      cases q : idxOf i xs with
      | none => rw [q] at h; cases h
      | some k =>
        rw [q] at h
        cases h
        obtain ⟨h1, h2⟩ := idxOf_spec q
        refine ⟨by simpa using h1, fun m hm => ?_⟩
        cases m with
        | zero => simpa using e
        | succ m =>
          have hm' : m + 1 < k + 1 := hm
          simpa using h2 m (by omega)
theorem flat_ints (ns : List Int) : (ns.map V.int).all flatV = true := by
  rw [List.all_eq_true]
  intro v hv
  obtain ⟨n, _, rfl⟩ := List.mem_map.mp hv
  rfl
theorem j_index {apos : Pos} (ha : JE X ct β Ex a f) (hb : JE X ct β Ex b k) (hpe : ∀ te tk : TE, PE X a te → PE X b tk → PE X (.Call (.Attribute a "index" apos) [b] [] pos) (tBM X.K "list" (rIndex X.K) te (tCons tk tNil)) := by intro te tk h1 h2; exact pe_bm PySem.F.plainAttrs_list PySem.F.slot_list_index PySem.F.type_list_index mt_index h1 (pa_cons h2 pa_nil)) :
    JE X ct β Ex (.Call (.Attribute a "index" apos) [b] [] pos) (fIndex f k) := by
  refine PE.imp (hpe _ _ ha hb) fun σ H Q h => ?_
  obtain ⟨g, ρ, R, h⟩ := h
  refine ⟨g, ρ, R, okT_mono (okT_bind h) fun g1 H1 p e1 h1 x R1 rx => ?_⟩
  obtain ⟨t0, et0, h2⟩ := okT_lift h1
  obtain ⟨xs0, ex0, h2⟩ := okT_lift h2
  have ty : tyV X.K "list" x H1 := by
    cases t0 with
    | lst ys =>
      obtain ⟨q, vs, rfl, hq, _⟩ := (rx.rs R1 et0).lst
      exact .inl ⟨rfl, vs, hq⟩
    | _ => cases ex0
  refine ⟨ty, g1, p.2, R1, okT_mono (okT_bind h2) fun g2 H2 q e2 h3 y R2 ry => ?_⟩
  obtain ⟨t, et, h4⟩ := okT_lift h3
  obtain ⟨xs, ex, h5⟩ := okT_lift h4
  obtain ⟨w, ew, h6⟩ := okT_lift h5
  obtain ⟨i, ei, h7⟩ := okT_lift h6
  obtain ⟨ns, en, h8⟩ := okT_lift h7
  obtain ⟨j, ej, h9⟩ := okT_lift h8
  have := intOf_eq ei
  subst this
  have ey := (ry.rs R2 ew).int
  subst ey
  cases t with
  | lst ys =>
    cases ex
    have rt := (rx.ext e2).rs R2 et
    rw [intsOf_eq en] at rt
    obtain ⟨l, vs, rfl, hl, r⟩ := rt.lst
    have ev := reps_ints r
    subst ev
    obtain ⟨k1, k2⟩ := idxOf_spec ej
    refine ⟨l, ns.map V.int, .int i, j, .int i, rfl, rfl, hl, rfl, flat_ints ns, by rw [List.getElem?_map, k1]; rfl, by simp [eqV], fun m z hm hz => ?_, okT_ret h9 _ R2 (rh_val rep_int)⟩
    rw [List.getElem?_map] at hz
    cases q0 : ns[m]? with
    | none => rw [q0] at hz; cases hz
    | some n =>
      rw [q0] at hz
      cases hz
      show (n == i) = false
      exact beq_eq_false_iff_ne.mpr fun e => k2 m hm (by rw [q0, e])
  | _ => cases ex
/-! ### x, y = e, [] ; x, y, z = e, [], [] ; x, y = e, e2 -/
/-- a statement that is not come to -/
def sBad : SSem := fun _ => .bad
theorem js_bad {st : Stmt} : JS X ct β Ex st sBad := PS.imp ps_never fun D σ H h => by
  obtain ⟨g, ρ, _, h⟩ := h
  exact (show False from h).elim
end
end Dn

set_option Elab.async false
set_option linter.all false
set_option maxRecDepth 100000
namespace Dn
open PySem PySem.Spec PyProof.Rows L2

/-! ### x, y = e, e2 and the like -/
section
variable {c0 : Gc} {β : BInv} {g : G} {H : Hp} {ρ : Env'} {σ : L2.St}
theorem plus_swap (g : G) (a b : Addr) : (g.plus a).plus b = (g.plus b).plus a := by
  unfold G.plus
  congr 1
  funext x
  exact propext ⟨fun h => h.elim (fun h => h.elim (fun h => .inl (.inl h)) .inr) fun h => .inl (.inr h), fun h => h.elim (fun h => h.elim (fun h => .inl (.inl h)) .inr) fun h => .inl (.inr h)⟩
theorem set_over {j : Nat} {v : Option V} (h : ¬ j < ρ.length) (R : Rel c0 β g ρ σ H) : σ.set j v = σ := List.set_eq_of_length_le (by rw [R.len]; omega)
/-- a new empty list into slot j -/
theorem Rel.nil {j : Nat} {p : Addr} (R : Rel c0 β (g.plus p) ρ σ H) (hp : H p = some (.lst [])) (na : ¬ g.Av p) (hj : j < ρ.length) : Rel c0 β (g.own1 j p) (ρ.set j (.ml [])) (σ.set j (some (.ref p))) H := R.take hj hp na .nil
theorem no_plus {p : Addr} {i : Nat} : (g.plus p).no i = (g.no i).plus p := rfl
theorem own1_plus {p a : Addr} {i : Nat} : (g.plus p).own1 i a = (g.own1 i a).plus p := rfl
end
def sPar (i j : Nat) (m : SemL) : SSem := fun ρ => (m ρ).bind fun p => match p.1 with
  | [t, u] => .ret (.nx ((p.2.set i (.fro t)).set j (.fro u)))
  | _ => .bad
def sPar3 (i j l : Nat) (m : SemL) : SSem := fun ρ => (m ρ).bind fun p => match p.1 with
  | [t, u, w] => .ret (.nx (((p.2.set i (.fro t)).set j (.fro u)).set l (.fro w)))
  | _ => .bad
def sParE (i j : Nat) (f : Sem) : SSem := fun ρ => (f ρ).bind fun p => (frz p).bind fun q => if i < q.2.length ∧ j < q.2.length then .ret (.nx ((q.2.set i (.fro q.1)).set j (.ml []))) else .bad
def sParN (i j : Nat) (f : SemN) : SSem := fun ρ => (f ρ).bind fun q => if i < q.2.length ∧ j < q.2.length then .ret (.nx ((q.2.set i (.ml q.1)).set j (.ml []))) else .bad
def sParNN (i j l : Nat) (f : SemN) : SSem := fun ρ => (f ρ).bind fun q => if i < q.2.length ∧ j < q.2.length ∧ l < q.2.length then .ret (.nx (((q.2.set i (.ml q.1)).set j (.ml [])).set l (.ml []))) else .bad
section
variable {X : Cx} {ct : CT} {β : BInv} {Ex : XK} {a b c : Expr} {f k : Sem} {fn : SemN} {m : SemL} {pos px py pz pt pt2 pl pl2 : Pos} {kt k2 : Nat} {x y z : Str} {i j l : Nat}
theorem Rel.setFro' {c0 : Gc} {g : G} {ρ : Env'} {σ : L2.St} {H : Hp} {j : Nat} {t : AV} {v : V} (R : Rel c0 β g ρ σ H) (r : RepG c0 g H t v) : ∃ g', Ext g g' H H ∧ Rel c0 β g' (ρ.set j (.fro t)) (σ.set j (some v)) H := by
  by_cases hj : j < ρ.length
  · exact ⟨_, ext_no g j H, R.setFro r hj⟩
  · rw [set_ge hj, set_over hj R]
    exact ⟨g, .refl g H, R⟩
/-- two frozen values, plain local names -/
theorem js_par (i j : Nat) (hc : X.calm = true) (hN : X.N.Nodup) (ha : JL X ct β Ex [a, b] m) (hi : X.N[i]? = some x := by rfl) (hj : X.N[j]? = some y := by rfl) (hij : i ≠ j := by decide) (hx : X.env.scope.names.lookup x = some .local := by rfl) (hy : X.env.scope.names.lookup y = some .local := by rfl)
    (hw : swappedStores [.Tuple [.Name x px, .Name y py] kt pt] (.Tuple [a, b] k2 pt2) X.env = pure (some [x, y]) := by rfl) (hs : swapsWithSole [.Tuple [.Name x px, .Name y py] kt pt] (.Tuple [a, b] k2 pt2) pos.line X.env = pure false := by rfl) :
    JS X ct β Ex (.Assign [.Tuple [.Name x px, .Name y py] kt pt] (.Tuple [a, b] k2 pt2) pos) (sPar i j m) := by
  refine PS.imp (ps_par hc hN hi hj hij hx hy ha hw hs) fun D σ H h => ?_
  obtain ⟨g, ρ, R, h⟩ := h
  refine ⟨g, ρ, R, okT_mono (okT_bind h) fun g1 H1 p e1 h1 vs R1 rv => ?_⟩
  obtain ⟨ts, ρ1⟩ := p
  match ts, rv, h1 with
  | [t, u], rv, h1 =>
    rw [RepsG, RepL] at rv
    obtain ⟨v, r1, rfl, rt, rv⟩ := rv
    rw [RepL] at rv
    obtain ⟨w, r2, rfl, ru, rv⟩ := rv
    rw [RepL] at rv
    subst rv
    refine ⟨v, w, rfl, ?_⟩
    obtain ⟨g2, e2, R2⟩ := R1.setFro' (j := i) rt
    obtain ⟨g3, e3, R3⟩ := R2.setFro' (j := j) (e2.rep ru)
    exact okT_ret' h1 (e2.trans e3) _ R3
  | [], _, h1 => exact (show False from h1).elim
  | [_], _, h1 => exact (show False from h1).elim
  | _ :: _ :: _ :: _, _, h1 => exact (show False from h1).elim
/-- what e, [] are, and where they go -/
def Wants2 (X : Cx) (ct : CT) (β : BInv) (Ex : XK) (i j : Nat) (t : TA) (s : SSem) : Prop := ∀ (D : Ends) (σ : L2.St) (H : Hp), rdS (gc X ct) β Ex s D σ H → t σ H fun vs H1 => ∃ v w, vs = [v, w] ∧ ∀ H2, Same H1 H2 → D.nx ((σ.set i (some v)).set j (some w)) H2
theorem js_par2 {ta : TA} {s : SSem} (hc : X.calm = true) (hN : X.N.Nodup) (ha : PA X [a, b] ta) (hW : Wants2 X ct β Ex i j ta s) (hi : X.N[i]? = some x) (hj : X.N[j]? = some y) (hij : i ≠ j) (hx : X.env.scope.names.lookup x = some .local) (hy : X.env.scope.names.lookup y = some .local)
    (mono : ∀ σ H (Q Q' : List V → Hp → Prop), (∀ vs H, Q vs H → Q' vs H) → ta σ H Q → ta σ H Q')
    (hw : swappedStores [.Tuple [.Name x px, .Name y py] kt pt] (.Tuple [a, b] k2 pt2) X.env = pure (some [x, y])) (hs : swapsWithSole [.Tuple [.Name x px, .Name y py] kt pt] (.Tuple [a, b] k2 pt2) pos.line X.env = pure false) :
    JS X ct β Ex (.Assign [.Tuple [.Name x px, .Name y py] kt pt] (.Tuple [a, b] k2 pt2) pos) s := by
  refine PS.imp (ps_par hc hN hi hj hij hx hy ha hw hs) fun D σ H h => ?_
  exact mono σ H _ _ (fun vs H1 ⟨v, w, e, q⟩ => ⟨v, w, e, q H1 (Same.refl H1)⟩) (hW D σ H h)
/-- .. where a name is captured by a comprehension: the pair is made and taken apart -/
theorem js_par2C {ta : TA} {s : SSem} (hc : X.calm = true) (hN : X.N.Nodup) (ha : PA X [a, b] ta) (hW : Wants2 X ct β Ex i j ta s) (hi : X.N[i]? = some x) (hj : X.N[j]? = some y) (hx : Loc X.env.scope x) (hy : Loc X.env.scope y) (hfx : X.fn x = true ∨ X.env.scope.names.lookup x = some .local) (hfy : X.fn y = true ∨ X.env.scope.names.lookup y = some .local)
    (mono : ∀ σ H (Q Q' : List V → Hp → Prop), (∀ vs H, Q vs H → Q' vs H) → ta σ H Q → ta σ H Q')
    (hw : swappedStores [.Tuple [.Name x px, .Name y py] kt pt] (.Tuple [a, b] k2 pt2) X.env = pure none) (hs : swapsWithSole [.Tuple [.Name x px, .Name y py] kt pt] (.Tuple [a, b] k2 pt2) pos.line X.env = pure false)
    (h1 : (assignEach [.Tuple [.Name x px, .Name y py] kt pt] X.env).map (·.2) = [assign (.Tuple [.Name x px, .Name y py] kt pt) X.env])
    (h2 : (assignEach [.Name x px, .Name y py] X.env).map (·.2) = assign (.Name x px) X.env :: (assignEach [.Name y py] X.env).map (·.2)) (h3 : (assignEach [.Name y py] X.env).map (·.2) = assign (.Name y py) X.env :: (assignEach [] X.env).map (·.2))
    (h4 : (assignEach [.Name x px, .Name y py] X.env).length = 2) (h5 : (assignEach [.Name x px, .Name y py] X.env).findIdx? (·.1) = none) :
    JS X ct β Ex (.Assign [.Tuple [.Name x px, .Name y py] kt pt] (.Tuple [a, b] k2 pt2) pos) s := by
  refine PS.imp (ps_asg (pe_tup ha) (pg_tup hc (pgs_cons (pg_name hN hi hx hfx) (pgs_cons (pg_name hN hj hy hfy) pgs_nil h3) h2) h4 h5) hs hw h1) fun D σ H h => ?_
  refine mono σ H _ _ (fun vs H1 ⟨v, w, e, q⟩ => ?_) (hW D σ H h)
  subst e
  refine ⟨by show 2 ≤ sizeLine; decide, fun p hp => ⟨p, [v, w], rfl, .of upd_same, rfl, v, [w], rfl, w, [], rfl, rfl, q _ (same_upd hp)⟩⟩
theorem mono_E {t : TE} {es : List Expr} (ht : ∀ σ H (Q Q' : VK), (∀ v H, Q v H → Q' v H) → t σ H Q → t σ H Q') : ∀ σ H (Q Q' : List V → Hp → Prop), (∀ vs H, Q vs H → Q' vs H) → tCons t (tCons (tLst tNil) tNil) σ H Q → tCons t (tCons (tLst tNil) tNil) σ H Q' :=
  fun σ H Q Q' h q => ht σ H _ _ (fun v H1 ⟨z, q⟩ => ⟨z, fun p hp => h _ _ (q p hp)⟩) q
theorem okT_wk {c0 : Gc} {α : Type} {g : G} {H : Hp} {mm : T α} {Q Q' : G → Hp → α → Prop} (h : okT c0 β Ex g H mm Q) (hQ : ∀ g' H' a, Q g' H' a → Q' g' H' a) : okT c0 β Ex g H mm Q' := okT_mono h fun g' H' a _ => hQ g' H' a
theorem mono_rdE : ∀ σ H (Q Q' : VK), (∀ v H, Q v H → Q' v H) → rdE (gc X ct) β Ex f σ H Q → rdE (gc X ct) β Ex f σ H Q' := fun σ H Q Q' h q => by
  obtain ⟨g, ρ, R, q⟩ := q
  exact ⟨g, ρ, R, okT_wk q fun g' H' p q v R' rv => h _ _ (q v R' rv)⟩
theorem mono_rdN : ∀ σ H (Q Q' : VK), (∀ v H, Q v H → Q' v H) → rdN (gc X ct) β Ex fn σ H Q → rdN (gc X ct) β Ex fn σ H Q' := fun σ H Q Q' h q => by
  obtain ⟨g, ρ, R, q⟩ := q
  exact ⟨g, ρ, R, okT_wk q fun g' H' p q a vs h1 h2 h3 R' r => h _ _ (q a vs h1 h2 h3 R' r)⟩
theorem wants_E : Wants2 X ct β Ex i j (tCons (rdE (gc X ct) β Ex f) (tCons (tLst tNil) tNil)) (sParE i j f) := by
  intro D σ H h
  obtain ⟨g, ρ, R, h⟩ := h
  refine ⟨g, ρ, R, okT_bind0 h fun p q g1 H1 e v R1 rv => ⟨Nat.zero_le _, fun l hl => ⟨v, .ref l, rfl, fun H2 s2 => ?_⟩⟩⟩
  -- from the start: the value frozen, then the new list
  obtain ⟨hd, ρ1⟩ := p
  have q' : okT (gc X ct) β Ex g H ((frz (hd, ρ1)).bind fun q => if i < q.2.length ∧ j < q.2.length then .ret (.nx ((q.2.set i (.fro q.1)).set j (.ml []))) else .bad) (endOk (gc X ct) β D) := q
  have q2 : okT (gc X ct) β Ex g1 H1 ((frz (hd, ρ1)).bind fun q => if i < q.2.length ∧ j < q.2.length then .ret (.nx ((q.2.set i (.fro q.1)).set j (.ml []))) else .bad) (fun g' H' o => ∀ g2 H2, Ext g g2 H H2 → endOk (gc X ct) β D g2 H2 o) :=
    T.all_mono q' (fun o r g' H' _ g2 H2 e2 => r g2 H2 e2) fun c xs r g' H' C d vs e2 => r g' H' C d vs (e.trans e2)
  obtain ⟨g2, s, e2, Rz, rz, h2⟩ := frz_ok R1 rv q2
  obtain ⟨t, ρ2⟩ := s
  by_cases hb : i < ρ2.length ∧ j < ρ2.length
  · have h2' : okT (gc X ct) β Ex g2 H1 (if i < ρ2.length ∧ j < ρ2.length then .ret (.nx ((ρ2.set i (.fro t)).set j (.ml []))) else .bad) (fun g' H' o => ∀ g2 H2, Ext g g2 H H2 → endOk (gc X ct) β D g2 H2 o) := h2
    rw [if_pos hb] at h2'
    have s3 := same_upd (o := .lst []) hl
    have hln : H l = none := none_back e hl
    have Ra := (Rz.plus s3 hl (by rw [upd_same]; exact fun z => by cases z)).same s2
    have Rb := Ra.setFro (j := i) ((Ext.same s2).rep (rep_plus rz s3 hl)) hb.1
    have Rc := Rel.nil (g := g2.no i) (j := j) Rb (s2 _ _ upd_same) (fun z => Rz.freshAv hl (by
      rcases z with z | ⟨k, z⟩ | z
      · exact .inl z
      · by_cases hk : k = i
        · subst hk; rw [own_no] at z; cases z
        · rw [own_no_ne hk] at z; exact .inr (.inl ⟨k, z⟩)
      · exact .inr (.inr z))) (by rw [List.length_set]; exact hb.2)
    exact okT_ret h2' _ _ (ext_own1 (((e.trans e2).trans (ext_no g2 i H1)).trans (Ext.same (s3.trans s2))) hln) _ Rc
  · have h2' : okT (gc X ct) β Ex g2 H1 (if i < ρ2.length ∧ j < ρ2.length then .ret (.nx ((ρ2.set i (.fro t)).set j (.ml []))) else .bad) (fun g' H' o => ∀ g2 H2, Ext g g2 H H2 → endOk (gc X ct) β D g2 H2 o) := h2
    rw [if_neg hb] at h2'
    exact (show False from h2').elim
theorem wants_N : Wants2 X ct β Ex i j (tCons (rdN (gc X ct) β Ex fn) (tCons (tLst tNil) tNil)) (sParN i j fn) := by
  intro D σ H h
  obtain ⟨g, ρ, R, h⟩ := h
  refine ⟨g, ρ, R, okT_bind0 h fun p q g1 H1 e a ws hn na ho R1 r => ⟨Nat.zero_le _, fun l hl => ⟨.ref a, .ref l, rfl, fun H2 s2 => ?_⟩⟩⟩
  obtain ⟨xs, ρ2⟩ := p
  by_cases hb : i < ρ2.length ∧ j < ρ2.length
  · have q' : okT (gc X ct) β Ex g H (if i < ρ2.length ∧ j < ρ2.length then .ret (.nx ((ρ2.set i (.ml xs)).set j (.ml []))) else .bad) (endOk (gc X ct) β D) := q
    rw [if_pos hb] at q'
    have s3 := same_upd (o := .lst []) hl
    have hln : H l = none := none_back e hl
    have hal : a ≠ l := fun z => by rw [z, hl] at ho; cases ho
    have Ra := (R1.plus s3 hl (by rw [upd_same]; exact fun z => by cases z)).same s2
    rw [plus_swap] at Ra
    have na2 : ¬ (g1.plus l).Av a := fun z => (plus_av.mp z).elim na hal
    have rr := (Ext.same s2).reps (reps_plus r s3 hl)
    rw [plus_swap] at rr
    have Rb := Ra.take (j := i) hb.1 (s2 _ _ (s3 _ _ ho)) na2 rr
    have Rc := Rel.nil (g := g1.own1 i a) (j := j) Rb (s2 _ _ upd_same) (fun z => R1.freshAv hl (own1_av z)) (by rw [List.length_set]; exact hb.2)
    exact okT_ret' q' (ext_own1 (ext_own1 (e.trans (Ext.same (s3.trans s2))) hn) hln) _ Rc
  · have q' : okT (gc X ct) β Ex g H (if i < ρ2.length ∧ j < ρ2.length then .ret (.nx ((ρ2.set i (.ml xs)).set j (.ml []))) else .bad) (endOk (gc X ct) β D) := q
    rw [if_neg hb] at q'
    exact (show False from q').elim
end
end Dn

set_option Elab.async false
set_option linter.all false
set_option maxRecDepth 100000
namespace Dn
open PySem PySem.Spec PyProof.Rows L2

/-! ### an __init__ -/
/-- self.f = e: the i-th field of the class c, self in slot j -/
def sFldSet (j c i : Nat) (f : Sem) : SSem := fun ρ => (f ρ).bind fun p => (frz p).bind fun q => match q.2[j]? with
  | some (.slf c' fs) => if c' = c ∧ fs.length = i then .ret (.nx (q.2.set j (.slf c (fs ++ [q.1])))) else .bad
  | _ => .bad
theorem putF_zip : ∀ {fl : List Str} {vs : List V} {f : Str} {y : V}, fl.Nodup → fl[vs.length]? = some f → putF f y (fl.zip vs) = fl.zip (vs ++ [y])
  | [], vs, _, _, _, h => by simp at h
  | g :: fl, [], f, y, _, h => by
    simp at h
    subst h
    simp [putF]
  | g :: fl, v :: vs, f, y, nd, h => by
    have h1 : fl[vs.length]? = some f := by simpa using h
    have ne : g ≠ f := fun e => (List.nodup_cons.mp nd).1 (e ▸ List.mem_of_getElem? h1)
    show putF f y ((g, v) :: fl.zip vs) = (g, v) :: fl.zip (vs ++ [y])
    unfold putF
    rw [if_neg ne, putF_zip (List.nodup_cons.mp nd).2 h1]
section
variable {c0 : Gc} {β : BInv} {g : G} {H : Hp} {ρ : Env'} {σ : L2.St}
theorem Rel.updS {j c : Nat} {p C dx : Addr} {fs : List AV} {ws : List V} (R : Rel c0 β g ρ σ H) (hj : j < ρ.length) (ho : g.own j = some p) (hσ : σ[j]? = some (some (.ref p))) (hm : c0.mg (c0.ct c).1 = some (.ref C)) (hl : ws.length ≤ (c0.ct c).2.length) (r : RepsG c0 g H fs ws) (hS : g.S = some p) :
    Rel c0 β g (ρ.set j (.slf c fs)) σ (L2.upd H p (.ins C dx ((c0.ct c).2.zip ws))) := by
  have e : Ext g g H (L2.upd H p (.ins C dx ((c0.ct c).2.zip ws))) := ext_upd ho
  refine R.put e rfl (fun _ _ => rfl) hj (fun _ _ => rfl) (fun i a o hi h1 h2 => ?_) ?_ ?_ fun a h => ?_
  · rw [upd_ne (fun z => hi (R.inj i j a h1 (by rw [z]; exact ho)))]
    exact h2
  · refine β.frame R.box fun a h => ?_
    rw [upd_ne (fun z => (R.sep j p ho).2 (by rw [← z]; exact h))]
  · exact ⟨p, C, dx, ws, ho, hσ, hm, upd_same, hl, e.reps r, hS⟩
  · rw [ho] at h
    cases h
    exact ⟨(R.sep j p ho).1, (R.sep j p ho).2, fun i hi h => hi (R.inj i j p h ho)⟩
end
section
variable {X : Cx} {ct : CT} {β : BInv} {Ex : XK} {a b e : Expr} {es : List Expr} {f k : Sem} {m : SemL} {pos p p2 : Pos} {x n : Str} {j c i : Nat}
theorem js_fld (j : Nat) (F : FldOk X ct c i n) (ha : JE X ct β Ex a f) (hfew : (ct c).2.length < 1000) (hN : X.N[j]? = some x := by rfl) (hv : Vis X.env.scope x := by first | exact Or.inl rfl | exact Or.inr (Or.inl rfl) | exact Or.inr (Or.inr rfl)) (hd : (x == ("__debug__" : Str)) = false := by decide +kernel) (hcd : (x == ("__classdict__" : Str)) = false := by decide +kernel)
    (hs : swapsWith a (some (.Attribute (.Name x p) n p2)) pos.line X.env = pure false := by rfl) : JS X ct β Ex (.Assign [.Attribute (.Name x p) n p2] a pos) (sFldSet j c i f) := by
  refine PS.imp (ps_fld (pe_var (i := j) hN hv hd hcd) ha hs) fun D σ H h => ?_
  obtain ⟨g, ρ, R, h⟩ := h
  refine ⟨g, ρ, R, okT_mono (okT_bind h) fun g1 H1 p e1 h1 y R1 ry => ?_⟩
  obtain ⟨g2, s, e2, R2, rs, h2⟩ := frz_ok R1 ry h1
  obtain ⟨t, ρ2⟩ := s
  have R2 : Rel (gc X ct) β g2 ρ2 σ H1 := R2
  cases hs : ρ2[j]? with
  | none => simp only [hs] at h2; exact (show False from h2).elim
  | some sl =>
    simp only [hs] at h2
    cases sl with
    | slf c' fs =>
      by_cases hc : c' = c ∧ fs.length = i
      · have h3 : okT (gc X ct) β Ex g2 H1 (if c' = c ∧ fs.length = i then .ret (.nx (ρ2.set j (.slf c (fs ++ [t])))) else .bad) (endOk (gc X ct) β D) := h2
        rw [if_pos hc] at h3
        obtain ⟨rfl, rfl⟩ := hc
        obtain ⟨q, C, dx, vs, ho, hσ, hm, hq, hl, r, hS⟩ := R2.sl j _ hs
        obtain ⟨k1, k2⟩ := F.cls C hm
        have hlen := r.length
        have hlt : fs.length < (ct c').2.length := (List.getElem?_eq_some_iff.mp F.at_).1
        refine ⟨.ref q, hσ, q, C, dx, _, rfl, hq, k1, k2, ?_, ?_⟩
        · rw [List.length_zip, hlen]
          have : min (ct c').2.length fs.length ≤ (ct c').2.length := Nat.min_le_left _ _
          show min (ct c').2.length fs.length < 1000
          omega
        · rw [show putF n y ((ct c').2.zip vs) = (ct c').2.zip (vs ++ [y]) from putF_zip F.nd (by rw [hlen]; exact F.at_)]
          exact okT_ret' h3 (ext_upd ho) _ (R2.updS (List.getElem?_eq_some_iff.mp hs).1 ho hσ hm (by rw [List.length_append, hlen]; simp; show fs.length + 1 ≤ (ct c').2.length; omega) (r.append (.one rs)) hS)
      · have h3 : okT (gc X ct) β Ex g2 H1 (if c' = c ∧ fs.length = i then .ret (.nx (ρ2.set j (.slf c (fs ++ [t])))) else .bad) (endOk (gc X ct) β D) := h2
        rw [if_neg hc] at h3
        exact (show False from h3).elim
    | _ => exact (show False from h2).elim
end
/-- what self is worth in the end -/
def outI (c nf : Nat) : Out → T AV
  | .nx ρ => match (ρ[0]? : Option Slot) with
    | some (Slot.slf c' fs) => if c' = c ∧ fs.length = nf then .ret (.ins c fs) else .bad
    | _ => .bad
  | _ => .bad
/-- np: how many parameters but self -/
def fnInit (np n c nf : Nat) (body : SSem) : List AV → T AV := fun ts => if ts.length = np then (body (.slf c [] :: (ts.map Slot.fro ++ List.replicate (n - (np + 1)) .un))).bind (outI c nf) else .bad
theorem fnInit_len {np n c nf : Nat} {body : SSem} (ts : List AV) (h : T.all (fun _ => True) (fun _ _ => True) (fnInit np n c nf body ts)) : ts.length = np := by
  unfold fnInit at h
  by_cases hl : ts.length = np
  · exact hl
  · rw [if_neg hl] at h; exact h.elim
/-- the ghosts of a body whose self is new -/
def G.self (g : G) (a : Addr) : G := { g with own := fun i => if i = 0 then some a else none, S := some a }
def spI (c0 : Gc) (β : BInv) (n c : Nat) (fn : List AV → T AV) : Sp := fun vs H Q E => ∃ (g : G) (ts : List AV) (a C dx : Addr) (ws : List V), vs = .ref a :: ws ∧ H a = some (.ins C dx []) ∧ c0.mg (c0.ct c).1 = some (.ref C) ∧ (∀ i, g.own i = none) ∧ (∀ b, g.M b → H b ≠ none ∧ ∀ ws, H b ≠ some (.tup ws)) ∧ (∀ b, g.M b → ¬ g.B b) ∧ β.I g.B g.D H ∧ ¬ g.Av a ∧ RepsG c0 (g.plus a) H ts ws ∧ ts.length = n ∧
  okT c0 β E (g.self a) H (fn ts) fun g' H' t => ∀ g2 : G, g2 = { g' with own := fun i => if i = 0 then none else g'.own i } → β.I g'.B g'.D H' → RepG c0 g2 H' t (.ref a) → Q .non H'
section
variable {P : Program} {w : World} {K : PySem.W.Frag} {mg : Str → Option Value} {base : Heap} {ct : CT} {β : BInv}
theorem rel_startI {c0 : Gc} {g : G} {H : Hp} {ts : List AV} {vs : List V} {N : List Str} {np c : Nat} {a C dx : Addr} (hcl : H a = some (.ins C dx [])) (hcm : c0.mg (c0.ct c).1 = some (.ref C)) (ho : ∀ i, g.own i = none) (hm : ∀ b, g.M b → H b ≠ none ∧ ∀ ws, H b ≠ some (.tup ws)) (hmb : ∀ b, g.M b → ¬ g.B b) (hb : β.I g.B g.D H) (na : ¬ g.Av a)
    (r : RepsG c0 (g.plus a) H ts vs) (hl : ts.length = np) (hN : np + 1 ≤ N.length) : Rel c0 β (g.self a) (.slf c [] :: (ts.map Slot.fro ++ List.replicate (N.length - (np + 1)) .un)) (L2.start N (.ref a :: vs)) H := by
  have hav : ∀ b, (g.self a).Av b → (g.plus a).Av b := fun b h => plus_av.mpr (by
    rcases h with h | ⟨i, h⟩ | h
    · exact .inl (.inl h)
    · unfold G.self at h
      simp only at h
      split at h
      · cases h; exact .inr rfl
      · cases h
    · exact .inl (.inr (.inr h)))
  have st : L2.start N (.ref a :: vs) = some (V.ref a) :: (vs.map some ++ List.replicate (N.length - (np + 1)) none) := by
    unfold L2.start
    rw [List.map_cons, List.length_cons, r.length, hl]
    rfl
  rw [st]
  refine ⟨?_, fun i s hi => ?_, fun i hi => ?_, fun i j b h1 h2 => ?_, fun b h => (hm b h).1, fun b h => (hm b h).2, fun i b h => ?_, hmb, hb⟩
  · simp [r.length]
  · cases i with
    | zero =>
      cases hi
      exact ⟨a, C, dx, [], rfl, rfl, hcm, by rw [List.zip_nil_right]; exact hcl, Nat.zero_le _, .nil, rfl⟩
    | succ i =>
      have hi : (ts.map Slot.fro ++ List.replicate (N.length - (np + 1)) .un)[i]? = some s := by simpa using hi
      have ow : (g.self a).own (i + 1) = none := rfl
      rw [ow]
      by_cases h : i < ts.length
      · rw [List.getElem?_append_left (by rw [List.length_map]; exact h), List.getElem?_map] at hi
        cases e : ts[i]? with
        | none => rw [e] at hi; cases hi
        | some t =>
          rw [e] at hi
          cases hi
          obtain ⟨v, ev, rv⟩ := r.get' e
          refine ⟨rfl, v, ?_, rv.imp (fun b o q nb => ⟨q, fun z => nb (hav b z)⟩) fun _ h => h⟩
          rw [List.getElem?_cons_succ, List.getElem?_append_left (by rw [List.length_map, r.length]; exact h), List.getElem?_map, ev]
          rfl
      · rw [List.getElem?_append_right (by rw [List.length_map]; omega), List.getElem?_replicate] at hi
        split at hi
        · cases hi; rfl
        · cases hi
  · cases i with
    | zero => simp at hi
    | succ i => rfl
  · have own1 : ∀ k, (g.self a).own k = some b → k = 0 := fun k h => by
      unfold G.self at h
      simp only at h
      split at h
      · assumption
      · cases h
    rw [own1 i h1, own1 j h2]
  · unfold G.self at h
    simp only at h
    split at h
    · cases h
      exact ⟨fun z => na (.inl z), fun z => na (.inr (.inr z))⟩
    · cases h
theorem init_def {x qual : Str} {st : Stmt} {f : Addr} {fd : FuncData} {N ps : List Str} {k c : Nat} {body : SSem} (F : Fun K x qual st f fd) (S : FnScope N ps (defScope st)) (hl : ps.length ≤ N.length) (hp : 0 < ps.length)
    (hb : ∀ (cdv : Value) (A : Around) (outer : List Env) (s : Shared) (H : Hp) (E : XK), Room k (A.deeper (envOfC qual (defScope st) s.heap.objs.size f cdv)) → JSs (cxOf (L2.CX P w) P w K mg base N qual (defScope st) f cdv A outer s H E) ct β E (defBody st) body) :
    FnOk P w K mg base (L2.CX P w) (k + 1) f fd ps (spI ⟨K, mg, ct⟩ β (ps.length - 1) c (fnInit (ps.length - 1) N.length c (ct c).2.length body)) := by
  refine F.okX S (fun vs H Q E h => ?_) fun cdv A outer s H vs Q E hr h => ?_
  · obtain ⟨g, ts, a, C, dx, ws, rfl, _, _, _, _, _, _, _, r, e, _⟩ := h
    rw [List.length_cons, r.length, e]
    omega
  · obtain ⟨g, ts, a, C, dx, ws, rfl, hcl, hcm, ho, hm, hmb, hbx, na, r, e, h⟩ := h
    refine ⟨_, hb cdv A outer s H E hr, g.self a, _, rel_startI hcl hcm ho hm hmb hbx na r e (by omega), ?_⟩
    unfold fnInit at h
    rw [if_pos e] at h
    refine okT_mono (okT_bind h) fun g' H' o e q => ?_
    cases o with
    | nx ρ =>
      intro σ R
      cases h0 : ρ[0]? with
      | none => simp only [outI, h0] at q; exact (show False from q).elim
      | some sl =>
        cases sl with
        | slf c' fs =>
          by_cases hc : c' = c ∧ fs.length = (ct c).2.length
          · simp only [outI, h0] at q
            rw [if_pos hc] at q
            obtain ⟨rfl, hn⟩ := hc
            obtain ⟨p, C', dx', vs, h1, h2, h3, h4, h5, h6, h7⟩ := R.sl 0 _ h0
            have hpa : p = a := by
              have z : g'.S = some a := e.s
              rw [h7] at z
              cases z
              rfl
            subst hpa
            have nx := okT_ret q
            refine nx _ rfl R.box ?_
            rw [RepG, Rep]
            refine ⟨p, C', dx', vs, rfl, fun z => ?_, h3, h4, by rw [h6.length]; exact hn, h6.imp (fun b o q nb => ⟨q, fun z => nb ?_⟩) fun _ h => h⟩
            · rcases z with z | ⟨i, z⟩ | z
              · exact (R.sep 0 p h1).1 z
              · simp only at z
                split at z
                · cases z
                · rename_i hi
                  exact hi (R.inj i 0 p z h1)
              · exact (R.sep 0 p h1).2 z
            · rcases z with z | ⟨i, z⟩ | z
              · exact .inl z
              · simp only at z
                split at z
                · cases z
                · exact .inr (.inl ⟨i, z⟩)
              · exact .inr (.inr z)
          · simp only [outI, h0] at q
            rw [if_neg hc] at q
            exact (show False from q).elim
        | _ => simp only [outI, h0] at q; exact (show False from q).elim
    | rt t => exact (show False from q).elim
    | bk ρ => exact (show False from q).elim
    | ct ρ => exact (show False from q).elim
end
end Dn

set_option Elab.async false
set_option linter.all false
set_option maxRecDepth 100000
namespace Dn
open PySem PySem.Spec PyProof.Rows L2

/-! ### defs as they are called -/
theorem passE0 {P : Program} {w : World} {X : Cx} : Passes (L2.CX P w) X E0 := fun _ _ _ _ _ _ _ h => by
  obtain ⟨_, _, _, _, _, _, _, _, _, _, _, _, z⟩ := h
  exact z.elim
/-- a def of the text and its function -/
structure Df (P : Program) (w : World) (K : PySem.W.Frag) (mg : Str → Option Value) (base : Heap) (ct : CT) (β : BInv) (lv : Nat) (x : Str) (n : Nat) (ps : List Str) (fn : List AV → T AV) : Prop where
  ex : ∃ fa fd, FnOk P w K mg base (L2.CX P w) lv fa fd ps (spM ⟨K, mg, ct⟩ β n fn) ∧ mg x = some (.ref fa) ∧ PySem.W.keepIn K (.ref fa) = true ∧ Binds K fd ps []
  len : ∀ ts : List AV, T.all (fun _ => True) (fun _ _ => True) (fn ts) → ts.length = n
section
variable {P : Program} {w : World} {K : PySem.W.Frag} {mg : Str → Option Value} {base : Heap} {ct : CT} {β : BInv} {lv n : Nat} {x : Str} {ps : List Str} {fn : List AV → T AV}
theorem imp0 {fa : Addr} {fd : FuncData} {sp sp' : Sp} (F : FnOk P w K mg base CX0 lv fa fd ps sp) (h : ∀ vs H Q E, sp' vs H Q E → sp vs H Q E0) : FnOk P w K mg base (L2.CX P w) lv fa fd ps sp' :=
  ⟨fun vs H Q E q => F.len vs H Q E0 (h _ _ _ _ q), fun A outer s H args us vs Q E hr e b v q => codeAny_mono (F.run A outer s H args us vs Q E0 hr e b v (h _ _ _ _ q)) fun r s' z => by
    cases r with
    | error e => exact (show False from z).elim
    | ok f => cases f <;> exact z⟩
theorem deft0 {c0 : Gc} : Deft c0 [] [] := fun _ _ => .nil
end
section
variable {X : Cx} {ct : CT} {β : BInv} {Ex : XK} {e : Expr} {es : List Expr} {m : SemL} {pos p : Pos} {x : Str} {lv n c : Nat} {ps : List Str} {fn : List AV → T AV}
theorem j_callD (D : Df X.prog X.w X.K X.mg X.base ct β lv x n ps fn) (hr : Room lv X.A) (hx : Passes (L2.CX X.prog X.w) X Ex) (ha : JL X ct β Ex (e :: es) m) (hg : Gl X x := by rfl) (hdb : (x == ("__debug__" : Str)) = false := by decide +kernel)
    (he : starEach (e :: es) X.env = (false, eval e X.env) :: starEach es X.env := by rfl) (hpl : (backTo pos (starEach es X.env)).any (·.1) = false := by rfl) : JE X ct β Ex (.Call (.Name x p) (e :: es) [] pos) (fCall fn [] m) := by
  obtain ⟨fa, fd, F, h1, h2, h3⟩ := D.ex
  exact j_call F D.len hr h1 h2 h3 .nil deft0 hx ha hg hdb he hpl
/-! ### C(e, ..) -/
def fMake (fn : List AV → T AV) (k : SemL) : Sem := fun ρ => (k ρ).bind fun p => (fn p.1).bind fun t => .ret (.val t, p.2)
/-- a class of the text with an __init__ -/
structure Cf (P : Program) (w : World) (K : PySem.W.Frag) (mg : Str → Option Value) (base : Heap) (ct : CT) (β : BInv) (lv : Nat) (x : Str) (c n : Nat) (ps : List Str) (fn : List AV → T AV) : Prop where
  ex : ∃ C fa fd, Mk K C fa ∧ FnOk P w K mg base (L2.CX P w) lv fa fd ps (spI ⟨K, mg, ct⟩ β n c fn) ∧ mg x = some (.ref C) ∧ Binds K fd ps []
  nm : (ct c).1 = x
  len : ∀ ts : List AV, T.all (fun _ => True) (fun _ _ => True) (fn ts) → ts.length = n
theorem j_make (D : Cf X.prog X.w X.K X.mg X.base ct β lv x c n ps fn) (hr : Room (lv + 1) X.A) (hx : Passes (L2.CX X.prog X.w) X Ex) (ha : JL X ct β Ex (e :: es) m) (hg : Gl X x := by rfl) (hdb : (x == ("__debug__" : Str)) = false := by decide +kernel)
    (he : starEach (e :: es) X.env = (false, eval e X.env) :: starEach es X.env := by rfl) (hpl : (backTo pos (starEach es X.env)).any (·.1) = false := by rfl) : JE X ct β Ex (.Call (.Name x p) (e :: es) [] pos) (fMake fn m) := by
  obtain ⟨C, fa, fd, M, F, hm, hb⟩ := D.ex
  refine PE.imp (pe_make M F hr hg hm hb .nil hx ha hdb he hpl) fun σ H Q h => ?_
  obtain ⟨g, ρ, R, h⟩ := h
  refine ⟨g, ρ, R, okT_mono (okT_bind h) fun g1 H1 q e1 h1 vs R1 rv a dx na nd hne => ?_⟩
  have h2 := okT_bind h1
  have s1 : Same H1 (upd H1 dx (.own a)) := same_upd nd
  have s2 : Same (upd H1 dx (.own a)) (upd (upd H1 dx (.own a)) a (.ins C dx [])) := same_upd (by rw [upd_ne (Ne.symm hne)]; exact na)
  have s := s1.trans s2
  have hcl : (upd (upd H1 dx (.own a)) a (.ins C dx [])) a = some (.ins C dx []) := upd_same
  generalize upd (upd H1 dx (.own a)) a (.ins C dx []) = H2 at s hcl ⊢
  have back : ∀ {b : Addr}, H2 b = none → H1 b = none := fun {b} z => none_back (Ext.same (g := g1) s) z
  have lv2 : ∀ {b : Addr}, H1 b ≠ none → H2 b ≠ none := fun {b} z y => z (back y)
  have ex : ∀ {g' : G} {H' : Hp}, Ext (g1.down.self a) g' H2 H' → Ext g1.down { g' with own := fun _ => none, S := g1.down.S } H1 H' := fun {g' H'} e => {
    keep := fun b o h hn hb => e.keep b o (s b o h) (fun i z => by
      unfold G.self at z
      simp only at z
      split at z
      · cases z; rw [na] at h; cases h
      · cases z) hb
    live := fun b h => e.live b (lv2 h)
    m := e.m
    bsub := e.bsub
    bnew := fun b h => (e.bnew b h).elim .inl fun z => .inr (back z)
    dsub := e.dsub
    own := fun i b h => by cases h
    s := rfl }
  refine ⟨g1.down, q.1, a, C, dx, vs ++ [], rfl, hcl, ?_, fun _ => rfl, fun b h => ?_, fun b h => ?_, β.frame R1.box fun b h => ?_, fun z => R1.freshAv na (down_av.mp z), ?_, D.len _ (T.all_mono h2 (fun _ _ => trivial) fun _ _ _ => trivial), ?_⟩
  · show X.mg (ct c).1 = _
    rw [D.nm]
    exact hm
  · have h : g1.Av b := h.elim .inl fun h => .inr (.inl h)
    refine ⟨lv2 (R1.avLive h), fun ws z => ?_⟩
    cases y : H1 b with
    | none => exact R1.avLive h y
    | some o => rw [s b o y] at z; cases z; exact R1.avNt h ws y
  · rcases h with h | ⟨i, h⟩
    · exact R1.mb b h
    · exact (R1.sep i b h).2
  · cases y : H1 b with
    | none => exact absurd y (β.live R1.box h)
    | some o => exact s b o y
  · rw [List.append_nil]
    exact reps_plus (reps_down rv) s na
  · refine T.all_mono h2 (fun t z g' H' e g2 hg2 hb2 rt => ⟨rfl, ?_⟩) fun cc xs z g' H' C' d ws e hb2 hm2 hd2 hl2 rw2 => ?_
    · refine okT_ret (z _ _ (down_ext R1 (ex e))) (.ref a) (down_rel R1 (ex e) hb2) ?_
      subst hg2
      refine rt.imp (fun b o y nb => ⟨y, fun v => nb ?_⟩) fun _ h => h
      rcases v with v | ⟨i, v⟩ | v
      · exact .inl (by show g'.M b; rw [e.m]; exact .inl v)
      · exact .inl (by show g'.M b; rw [e.m]; exact .inr ⟨i, v⟩)
      · exact .inr (.inr v)
    · refine z _ _ C' d ws (down_ext R1 (ex e)) hb2 hm2 hd2 hl2 (rw2.imp (fun b o y nb => ⟨y, fun v => nb ?_⟩) fun _ h => h)
      rcases v with v | ⟨i, v⟩ | v
      · exact .inl (by rw [e.m]; exact .inl v)
      · exact .inl (by rw [e.m]; exact .inr ⟨i, v⟩)
      · exact .inr (.inr v)
end
/-! ### x, y, z = e, [], [] -/
def sParE3 (i j l : Nat) (f : Sem) : SSem := fun ρ => (f ρ).bind fun p => (frz p).bind fun q => if i < q.2.length ∧ j < q.2.length ∧ l < q.2.length ∧ j ≠ l then .ret (.nx (((q.2.set i (.fro q.1)).set j (.ml [])).set l (.ml []))) else .bad
def Wants3 (X : Cx) (ct : CT) (β : BInv) (Ex : XK) (i j l : Nat) (t : TA) (s : SSem) : Prop := ∀ (D : Ends) (σ : L2.St) (H : Hp), rdS (gc X ct) β Ex s D σ H → t σ H fun vs H1 => ∃ u v w, vs = [u, v, w] ∧ ∀ H2, Same H1 H2 → D.nx (((σ.set i (some u)).set j (some v)).set l (some w)) H2
section
variable {X : Cx} {ct : CT} {β : BInv} {Ex : XK} {a b c : Expr} {f : Sem} {pos px py pz pt pt2 pl pl2 : Pos} {kt k2 : Nat} {x y z : Str} {i j l : Nat}
theorem mono_E3 {t : TE} (ht : ∀ σ H (Q Q' : VK), (∀ v H, Q v H → Q' v H) → t σ H Q → t σ H Q') : ∀ σ H (Q Q' : List V → Hp → Prop), (∀ vs H, Q vs H → Q' vs H) → tCons t (tCons (tLst tNil) (tCons (tLst tNil) tNil)) σ H Q → tCons t (tCons (tLst tNil) (tCons (tLst tNil) tNil)) σ H Q' :=
  fun σ H Q Q' h q => ht σ H _ _ (fun v H1 ⟨z, q⟩ => ⟨z, fun p hp => ⟨(q p hp).1, fun p2 hp2 => h _ _ ((q p hp).2 p2 hp2)⟩⟩) q
theorem js_par3C {ta : TA} {s : SSem} (hc : X.calm = true) (hN : X.N.Nodup) (ha : PA X [a, b, c] ta) (hW : Wants3 X ct β Ex i j l ta s) (hi : X.N[i]? = some x) (hj : X.N[j]? = some y) (hl : X.N[l]? = some z) (hx : Loc X.env.scope x) (hy : Loc X.env.scope y) (hz : Loc X.env.scope z) (hfx : X.fn x = true ∨ X.env.scope.names.lookup x = some .local) (hfy : X.fn y = true ∨ X.env.scope.names.lookup y = some .local) (hfz : X.fn z = true ∨ X.env.scope.names.lookup z = some .local)
    (mono : ∀ σ H (Q Q' : List V → Hp → Prop), (∀ vs H, Q vs H → Q' vs H) → ta σ H Q → ta σ H Q')
    (hw : swappedStores [.Tuple [.Name x px, .Name y py, .Name z pz] kt pt] (.Tuple [a, b, c] k2 pt2) X.env = pure none) (hs : swapsWithSole [.Tuple [.Name x px, .Name y py, .Name z pz] kt pt] (.Tuple [a, b, c] k2 pt2) pos.line X.env = pure false)
    (h1 : (assignEach [.Tuple [.Name x px, .Name y py, .Name z pz] kt pt] X.env).map (·.2) = [assign (.Tuple [.Name x px, .Name y py, .Name z pz] kt pt) X.env])
    (h2 : (assignEach [.Name x px, .Name y py, .Name z pz] X.env).map (·.2) = assign (.Name x px) X.env :: (assignEach [.Name y py, .Name z pz] X.env).map (·.2)) (h3 : (assignEach [.Name y py, .Name z pz] X.env).map (·.2) = assign (.Name y py) X.env :: (assignEach [.Name z pz] X.env).map (·.2)) (h3' : (assignEach [.Name z pz] X.env).map (·.2) = assign (.Name z pz) X.env :: (assignEach [] X.env).map (·.2))
    (h4 : (assignEach [.Name x px, .Name y py, .Name z pz] X.env).length = 3) (h5 : (assignEach [.Name x px, .Name y py, .Name z pz] X.env).findIdx? (·.1) = none) :
    JS X ct β Ex (.Assign [.Tuple [.Name x px, .Name y py, .Name z pz] kt pt] (.Tuple [a, b, c] k2 pt2) pos) s := by
  refine PS.imp (ps_asg (pe_tup ha) (pg_tup hc (pgs_cons (pg_name hN hi hx hfx) (pgs_cons (pg_name hN hj hy hfy) (pgs_cons (pg_name hN hl hz hfz) pgs_nil h3') h3) h2) h4 h5) hs hw h1) fun D σ H h => ?_
  refine mono σ H _ _ (fun vs H1 ⟨u, v, w, e, q⟩ => ?_) (hW D σ H h)
  subst e
  refine ⟨by show 3 ≤ sizeLine; decide, fun p hp => ⟨p, [u, v, w], rfl, .of upd_same, rfl, u, [v, w], rfl, v, [w], rfl, w, [], rfl, rfl, q _ (same_upd hp)⟩⟩
theorem wants_E3 : Wants3 X ct β Ex i j l (tCons (rdE (gc X ct) β Ex f) (tCons (tLst tNil) (tCons (tLst tNil) tNil))) (sParE3 i j l f) := by
  intro D σ H h
  obtain ⟨g, ρ, R, h⟩ := h
  refine ⟨g, ρ, R, okT_bind0 h fun p q g1 H1 e v R1 rv => ⟨Nat.zero_le _, fun a1 hl => ⟨Nat.zero_le _, fun a2 hl2 => ⟨v, .ref a1, .ref a2, rfl, fun H2 s2 => ?_⟩⟩⟩⟩
  obtain ⟨hd, ρ1⟩ := p
  have q' : okT (gc X ct) β Ex g H ((frz (hd, ρ1)).bind fun q => if i < q.2.length ∧ j < q.2.length ∧ l < q.2.length ∧ j ≠ l then .ret (.nx (((q.2.set i (.fro q.1)).set j (.ml [])).set l (.ml []))) else .bad) (endOk (gc X ct) β D) := q
  have q2 : okT (gc X ct) β Ex g1 H1 ((frz (hd, ρ1)).bind fun q => if i < q.2.length ∧ j < q.2.length ∧ l < q.2.length ∧ j ≠ l then .ret (.nx (((q.2.set i (.fro q.1)).set j (.ml [])).set l (.ml []))) else .bad) (fun g' H' o => ∀ g2 H2, Ext g g2 H H2 → endOk (gc X ct) β D g2 H2 o) :=
    T.all_mono q' (fun o r g' H' _ g2 H2 e2 => r g2 H2 e2) fun c xs r g' H' C d vs e2 => r g' H' C d vs (e.trans e2)
  obtain ⟨g2, s, e2, Rz, rz, h2⟩ := frz_ok R1 rv q2
  obtain ⟨t, ρ2⟩ := s
  by_cases hb : i < ρ2.length ∧ j < ρ2.length ∧ l < ρ2.length ∧ j ≠ l
  · have h2' : okT (gc X ct) β Ex g2 H1 (if i < ρ2.length ∧ j < ρ2.length ∧ l < ρ2.length ∧ j ≠ l then .ret (.nx (((ρ2.set i (.fro t)).set j (.ml [])).set l (.ml []))) else .bad) (fun g' H' o => ∀ g2 H2, Ext g g2 H H2 → endOk (gc X ct) β D g2 H2 o) := h2
    rw [if_pos hb] at h2'
    have s3 := same_upd (o := .lst []) hl
    have s4 := same_upd (o := .lst []) hl2
    have hln : H a1 = none := none_back e hl
    have hln2 : H1 a2 = none := none_back (Ext.same (g := g2) s3) hl2
    have hln3 : H a2 = none := none_back e hln2
    have h12 : a1 ≠ a2 := fun z => by rw [z, upd_same] at hl2; cases hl2
    have f1 := Rz.plus s3 hl (by rw [upd_same]; exact fun z => by cases z)
    have Ra := (f1.plus s4 hl2 (by rw [upd_same]; exact fun z => by cases z)).same s2
    have Rb := Ra.setFro (j := i) ((Ext.same s2).rep (rep_plus (rep_plus rz s3 hl) s4 hl2)) hb.1
    have nf : ∀ {b : Addr}, (g2.no i).Av b → g2.Av b := fun {b} z => by
      rcases z with z | ⟨k, z⟩ | z
      · exact .inl z
      · by_cases hk : k = i
        · subst hk; rw [own_no] at z; cases z
        · rw [own_no_ne hk] at z; exact .inr (.inl ⟨k, z⟩)
      · exact .inr (.inr z)
    have Rb' : Rel (gc X ct) β (((g2.no i).plus a2).plus a1) (ρ2.set i (.fro t)) (σ.set i (some v)) H2 := by
      have z : ((g2.plus a1).plus a2).no i = ((g2.no i).plus a2).plus a1 := (plus_swap (g2.no i) a1 a2)
      rw [← z]
      exact Rb
    have Rc := Rel.nil (g := (g2.no i).plus a2) (j := j) Rb' (s2 _ _ (s4 _ _ upd_same)) (fun z => (plus_av.mp z).elim (fun z => Rz.freshAv hl (nf z)) h12) (by rw [List.length_set]; exact hb.2.1)
    have Rc' : Rel (gc X ct) β (((g2.no i).own1 j a1).plus a2) ((ρ2.set i (.fro t)).set j (.ml [])) ((σ.set i (some v)).set j (some (.ref a1))) H2 := Rc
    have Rd := Rel.nil (g := (g2.no i).own1 j a1) (j := l) Rc' (s2 _ _ upd_same) (fun z => (plus_av.mp (own1_av z)).elim (fun z => Rz.freshAv hln2 (nf z)) (Ne.symm h12)) (by rw [List.length_set, List.length_set]; exact hb.2.2.1)
    exact okT_ret h2' _ _ (ext_own1 (ext_own1 (((e.trans e2).trans (ext_no g2 i H1)).trans (Ext.same ((s3.trans s4).trans s2))) hln) hln3) _ Rd
  · have h2' : okT (gc X ct) β Ex g2 H1 (if i < ρ2.length ∧ j < ρ2.length ∧ l < ρ2.length ∧ j ≠ l then .ret (.nx (((ρ2.set i (.fro t)).set j (.ml [])).set l (.ml []))) else .bad) (fun g' H' o => ∀ g2 H2, Ext g g2 H H2 → endOk (gc X ct) β D g2 H2 o) := h2
    rw [if_neg hb] at h2'
    exact (show False from h2').elim
end
/-! ### x = [e for ..], x a local name that is no cell -/
section
variable {X : Cx} {ct : CT} {β : BInv} {Ex : XK} {elt tg iter : Expr} {ifs : List Expr} {f : SemI} {k : GSem} {tt : SemB} {el : Sem} {pos spos py : Pos} {scope : Scope} {own : List (Str × Nat)} {is : List Nat} {i : Nat} {y : Str}
theorem js_setLc (i : Nat) (hc : X.calm = true) (hN : X.N.Nodup) (ok : BlkOk X.N X.env.scope scope own) (hown : ∀ i ∈ is, i ∈ own.map (·.2)) (hi : JI X ct β Ex tg iter f)
    (hg : ∀ (s : Shared) (H : Hp) (C : Addr) (cl : List (Str × Addr)) (fp : List Addr), JG (X.blk s H scope (compEnvC scope cl C X.env) fp) ct β E0 tg is k) (ht : ∀ (s : Shared) (H : Hp) (C : Addr) (cl : List (Str × Addr)) (fp : List Addr), JTs (X.blk s H scope (compEnvC scope cl C X.env) fp) ct β E0 ifs tt)
    (he : ∀ (s : Shared) (H : Hp) (C : Addr) (cl : List (Str × Addr)) (fp : List Addr), JE (X.blk s H scope (compEnvC scope cl C X.env) fp) ct β E0 elt el)
    (hy : X.N[i]? = some y := by rfl) (hyl : X.env.scope.names.lookup y = some .local := by rfl) (hsw : swapsWith (.ListComp elt [⟨tg, iter, ifs, 0⟩] scope pos) (some (.Name y py)) spos.line X.env = pure true := by rfl) (hs : ∀ x, foldedSetIterable iter X.env x = pure x := by intro _; rfl) :
    JS X ct β Ex (.Assign [.Name y py] (.ListComp elt [⟨tg, iter, ifs, 0⟩] scope pos) spos) (sSet i (fNew (nLc (own.map (·.2)) f k tt el))) := by
  refine PS.imp (ps_setLc (g := rdG (gc X ct) β E0 is k) (tt := rdB (gc X ct) β E0 tt) (te := rdE (gc X ct) β E0 el) hc hN hy hyl hsw hi ok hg ht he hs) fun D σ H h => lc_ok (Ex := Ex) (Q := fun x H1 => gName i x σ H1 D.nx) hown ?_
  obtain ⟨g, ρ, R, h⟩ := h
  refine ⟨g, ρ, R, okT_bind0 (show okT (gc X ct) β Ex g H ((nLc (own.map (·.2)) f k tt el ρ).bind fun p => .ret (.nx (p.2.set i (.fro (.lst p.1))))) (endOk (gc X ct) β D) from ?_) fun p q g' H' e a vs hn na ho R' r => ?_⟩
  · have e : sSet i (fNew (nLc (own.map (·.2)) f k tt el)) ρ = (nLc (own.map (·.2)) f k tt el ρ).bind fun p => .ret (.nx (p.2.set i (.fro (.lst p.1)))) := by
      show ((nLc (own.map (·.2)) f k tt el ρ).bind _).bind _ = _
      rw [T.bind_assoc]
      rfl
    rw [← e]
    exact h
  · show D.nx (σ.set i (some (.ref a))) H'
    have R0 := R'.minus
    have rp : RepG (gc X ct) g' H' (.lst p.1) (.ref a) := rep_lst_new na ho (plus_reps r)
    by_cases hj : i < p.2.length
    · exact okT_ret' q (e.trans (ext_no g' i H')) _ (R0.setFro rp hj)
    · have q2 := okT_ret' q e
      rw [set_ge hj] at q2
      have : σ.set i (some (V.ref a)) = σ := List.set_eq_of_length_le (by rw [R0.len]; omega)
      rw [this]
      exact q2 σ R0
theorem js_setLcN (i : Nat) (hc : X.calm = true) (hN : X.N.Nodup) (ok : BlkOk X.N X.env.scope scope own) (hown : ∀ i ∈ is, i ∈ own.map (·.2)) (hi : JI X ct β Ex tg iter f)
    (hg : ∀ (s : Shared) (H : Hp) (C : Addr) (cl : List (Str × Addr)) (fp : List Addr), JG (X.blk s H scope (compEnvC scope cl C X.env) fp) ct β E0 tg is k) (ht : ∀ (s : Shared) (H : Hp) (C : Addr) (cl : List (Str × Addr)) (fp : List Addr), JTs (X.blk s H scope (compEnvC scope cl C X.env) fp) ct β E0 ifs tt)
    (he : ∀ (s : Shared) (H : Hp) (C : Addr) (cl : List (Str × Addr)) (fp : List Addr), JE (X.blk s H scope (compEnvC scope cl C X.env) fp) ct β E0 elt el)
    (hy : X.N[i]? = some y := by rfl) (hyl : X.env.scope.names.lookup y = some .local := by rfl) (hsw : swapsWith (.ListComp elt [⟨tg, iter, ifs, 0⟩] scope pos) (some (.Name y py)) spos.line X.env = pure true := by rfl) (hs : ∀ x, foldedSetIterable iter X.env x = pure x := by intro _; rfl) :
    JS X ct β Ex (.Assign [.Name y py] (.ListComp elt [⟨tg, iter, ifs, 0⟩] scope pos) spos) (sSetN i (nLc (own.map (·.2)) f k tt el)) := by
  refine PS.imp (ps_setLc (g := rdG (gc X ct) β E0 is k) (tt := rdB (gc X ct) β E0 tt) (te := rdE (gc X ct) β E0 el) hc hN hy hyl hsw hi ok hg ht he hs) fun D σ H h => lc_ok (Ex := Ex) (Q := fun x H1 => gName i x σ H1 D.nx) hown ?_
  obtain ⟨g, ρ, R, h⟩ := h
  refine ⟨g, ρ, R, okT_bind0 h fun p q g' H' e a vs hn na ho R' r => ?_⟩
  show D.nx (σ.set i (some (.ref a))) H'
  by_cases hj : i < p.2.length
  · exact okT_ret' q (ext_own1 e hn) _ (R'.take hj ho na r)
  · have q2 := okT_ret' q e
    rw [set_ge hj] at q2
    have : σ.set i (some (V.ref a)) = σ := List.set_eq_of_length_le (by rw [R'.len]; omega)
    rw [this]
    exact q2 σ R'.minus
end
end Dn

set_option Elab.async false
set_option linter.all false
set_option maxRecDepth 100000
namespace Dn
open PySem PySem.Spec PyProof.Rows L2

/-! ### reckoning with the functions -/
abbrev NoX : Nat → List AV → Prop := fun _ _ => False
theorem bind_ret' {α γ : Type} {a : α} {f : α → T γ} : (T.ret a).bind f = f a := rfl
theorem all_ret' {α : Type} {a : α} {Q : α → Prop} {E : Nat → List AV → Prop} : (T.ret a).all Q E ↔ Q a := Iff.rfl
theorem all_draw' {α : Type} {n : Nat} {k : Nat → T α} {Q : α → Prop} {E : Nat → List AV → Prop} : (T.draw n k).all Q E ↔ ∀ r, r < n → (k r).all Q E := Iff.rfl
theorem lift_some {α : Type} {a : α} : lift (some a) = T.ret a := rfl
theorem all_noExc {α : Type} {Q : α → Prop} {E : Nat → List AV → Prop} {m : T α} (h : m.all Q NoX) : (noExc m).all Q E := by
  induction m with
  | ret a => exact h
  | bad => exact h
  | exc c xs => exact h
  | draw n k ih => exact fun r hr => ih r (h r hr)
/-- a for loop -/
theorem forL_all {k : GSem} {body : SSem} {Q : Out → Prop} {E : Nat → List AV → Prop} (I : Nat → Env' → Prop) {xs : List AV} {ρ : Env'} (h0 : I 0 ρ)
    (step : ∀ (i : Nat) (x : AV) (ρ : Env'), xs[i]? = some x → I i ρ → (k x ρ).all (fun ρ1 => (body ρ1).all (fun o => match o with | .nx ρ' => I (i + 1) ρ' | .ct ρ' => I (i + 1) ρ' | .bk ρ' => Q (.nx ρ') | .rt t => Q (.rt t)) E) E)
    (hend : ∀ ρ, I xs.length ρ → Q (.nx ρ)) : (forL k body xs ρ).all Q E := by
  have key : ∀ (n i : Nat) (ρ : Env'), xs.length - i = n → i ≤ xs.length → I i ρ → (forL k body (xs.drop i) ρ).all Q E := by
    intro n
    induction n with
    | zero =>
      intro i ρ hn hi h
      have e : i = xs.length := by omega
      subst e
      rw [List.drop_length]
      exact hend ρ h
    | succ n ih =>
      intro i ρ hn hi h
      have hlt : i < xs.length := by omega
      rw [List.drop_eq_getElem_cons hlt]
      show ((k xs[i] ρ).bind _).all Q E
      refine T.all_bind.mpr (T.all_mono (step i xs[i] ρ (List.getElem?_eq_getElem hlt) h) (fun ρ1 h1 => ?_) fun _ _ z => z)
      refine T.all_bind.mpr (T.all_mono h1 (fun o h2 => ?_) fun _ _ z => z)
      cases o with
      | nx ρ' => exact ih (i + 1) ρ' (by omega) (by omega) h2
      | ct ρ' => exact ih (i + 1) ρ' (by omega) (by omega) h2
      | bk ρ' => exact h2
      | rt t => exact h2
  have := key xs.length 0 ρ rfl (Nat.zero_le _) h0
  rwa [List.drop_zero] at this
/-- a comprehension -/
theorem lcL_all {vs : List Nat} {k : GSem} {tt : SemB} {el : Sem} {E : Nat → List AV → Prop} (w : Env') (I : Nat → List AV → Prop) {xs : List AV} {ρ : Env'} (h0 : I 0 []) (hw : wipeE ρ vs = w)
    (step : ∀ (i : Nat) (x : AV) (acc : List AV), xs[i]? = some x → I i acc → (k x w).all (fun ρ1 => (tt ρ1).all (fun p => if p.1 = true then (el p.2).all (fun q => (frz q).all (fun z => wipeE z.2 vs = w ∧ I (i + 1) (acc ++ [z.1])) NoX) NoX else wipeE p.2 vs = w ∧ I (i + 1) acc) NoX) NoX) :
    (lcL vs k tt el xs [] ρ).all (fun r => wipeE r.2 vs = w ∧ I xs.length r.1) E := by
  have key : ∀ (n i : Nat) (acc : List AV) (ρ : Env'), xs.length - i = n → i ≤ xs.length → I i acc → wipeE ρ vs = w → (lcL vs k tt el (xs.drop i) acc ρ).all (fun r => wipeE r.2 vs = w ∧ I xs.length r.1) E := by
    intro n
    induction n with
    | zero =>
      intro i acc ρ hn hi h hw
      have e : i = xs.length := by omega
      subst e
      rw [List.drop_length]
      exact ⟨hw, h⟩
    | succ n ih =>
      intro i acc ρ hn hi h hw
      have hlt : i < xs.length := by omega
      rw [List.drop_eq_getElem_cons hlt]
      refine T.all_bind.mpr (all_noExc (T.all_bind.mpr ?_))
      rw [hw]
      refine T.all_mono (step i xs[i] acc (List.getElem?_eq_getElem hlt) h) (fun ρ1 h1 => ?_) fun _ _ z => z
      refine T.all_bind.mpr (T.all_mono h1 (fun p h2 => ?_) fun _ _ z => z)
      by_cases hp : p.1 = true
      · rw [if_pos hp] at h2 ⊢
        refine T.all_bind.mpr (T.all_mono h2 (fun q h3 => ?_) fun _ _ z => z)
        refine T.all_bind.mpr (T.all_mono h3 (fun z h4 => ?_) fun _ _ z => z)
        exact T.all_mono (ih (i + 1) _ _ (by omega) (by omega) h4.2 h4.1) (fun _ z => z) fun _ _ z => z
      · rw [if_neg hp] at h2 ⊢
        exact T.all_mono (ih (i + 1) _ _ (by omega) (by omega) h2.2 h2.1) (fun _ z => z) fun _ _ z => z
  have := key xs.length 0 [] ρ rfl (Nat.zero_le _) h0 hw
  rwa [List.drop_zero] at this
theorem backE_eq {ρ0 r : Env'} (vs : List Nat) (h : wipeE r vs = wipeE ρ0 vs) : backE ρ0 r vs = backE ρ0 ρ0 vs := by
  rw [← backE_wipe vs r, h, backE_wipe]
/-- .. as a new list -/
theorem nLc_all {vs : List Nat} {it : SemI} {k : GSem} {tt : SemB} {el : Sem} {Q : List AV × Env' → Prop} {E : Nat → List AV → Prop} {xs : List AV} {ρ ρ' : Env'} (I : Nat → List AV → Prop) (hit : it ρ = .ret (xs, ρ')) (hb : xs.length < big) (hback : backE ρ' ρ' vs = ρ') (h0 : I 0 [])
    (step : ∀ (i : Nat) (x : AV) (acc : List AV), xs[i]? = some x → I i acc → (k x (wipeE ρ' vs)).all (fun ρ1 => (tt ρ1).all (fun p => if p.1 = true then (el p.2).all (fun q => (frz q).all (fun z => wipeE z.2 vs = wipeE ρ' vs ∧ I (i + 1) (acc ++ [z.1])) NoX) NoX else wipeE p.2 vs = wipeE ρ' vs ∧ I (i + 1) acc) NoX) NoX)
    (hQ : ∀ ys, I xs.length ys → Q (ys, ρ')) : (nLc vs it k tt el ρ).all Q E := by
  unfold nLc
  rw [hit, bind_ret', if_pos hb]
  refine T.all_bind.mpr (T.all_mono (lcL_all (wipeE ρ' vs) I h0 rfl step) (fun r h => ?_) fun _ _ z => z)
  show Q (r.1, backE ρ' r.2 vs)
  rw [backE_eq vs h.1, hback]
  exact hQ _ h.2
/-- a comprehension that draws nothing -/
theorem lcL_map {vs : List Nat} {k : GSem} {el : Sem} (w : Env') (h : AV → AV) : ∀ {xs acc : List AV} {ρ : Env'}, wipeE ρ vs = w →
    (∀ x ∈ xs, ∃ ρ2, ((k x w).bind fun ρ1 => (el ρ1).bind fun q => frz q) = .ret (h x, ρ2) ∧ wipeE ρ2 vs = w) → ∃ ρ2, lcL vs k fYes el xs acc ρ = .ret (acc ++ xs.map h, ρ2) ∧ wipeE ρ2 vs = w
  | [], acc, ρ, hw, _ => ⟨ρ, by rw [List.map_nil, List.append_nil]; rfl, hw⟩
  | x :: xs, acc, ρ, hw, hs => by
    obtain ⟨ρ2, e, hw2⟩ := hs x List.mem_cons_self
    obtain ⟨ρ3, e3, hw3⟩ := lcL_map (acc := acc ++ [h x]) w h hw2 fun y hy => hs y (List.mem_cons_of_mem _ hy)
    refine ⟨ρ3, ?_, hw3⟩
    have z : ((k x (wipeE ρ vs)).bind fun ρ1 => (fYes ρ1).bind fun p => if p.1 = true then (el p.2).bind fun q => (frz q).bind fun s => .ret (acc ++ [s.1], s.2) else .ret (acc, p.2)) = .ret (acc ++ [h x], ρ2) := by
      rw [hw]
      have := congrArg (fun m : T (AV × Env') => m.bind fun s => T.ret (acc ++ [s.1], s.2)) e
      simp only [T.bind_assoc] at this
      exact this
    show (noExc _).bind _ = _
    rw [z]
    show lcL vs k fYes el xs (acc ++ [h x]) ρ2 = _
    rw [e3, List.append_assoc]
    rfl
theorem nLc_map {vs : List Nat} {it : SemI} {k : GSem} {el : Sem} {xs : List AV} {ρ ρ' : Env'} (h : AV → AV) (hit : it ρ = .ret (xs, ρ')) (hb : xs.length < big) (hback : backE ρ' ρ' vs = ρ')
    (hs : ∀ x ∈ xs, ∃ ρ2, ((k x (wipeE ρ' vs)).bind fun ρ1 => (el ρ1).bind fun q => frz q) = .ret (h x, ρ2) ∧ wipeE ρ2 vs = wipeE ρ' vs) : nLc vs it k fYes el ρ = .ret (xs.map h, ρ') := by
  unfold nLc
  rw [hit, bind_ret', if_pos hb]
  obtain ⟨ρ2, e, hw⟩ := lcL_map (acc := []) (wipeE ρ' vs) h rfl hs
  rw [e, bind_ret', backE_eq vs hw, hback, List.nil_append]
end Dn

set_option Elab.async false
set_option linter.all false
set_option maxRecDepth 100000
namespace Dn
open PySem PySem.Spec PyProof.Rows L2

/-! ### max, min of a list of ints -/
def maxL (x : Int) (r : List Int) : Int := r.foldl max x
def minL (x : Int) (r : List Int) : Int := r.foldl min x
theorem maxL_spec : ∀ (r : List Int) (x : Int), maxL x r ∈ x :: r ∧ ∀ y ∈ x :: r, y ≤ maxL x r
  | [], x => by simp [maxL]
  | z :: r, x => by
    have h := maxL_spec r (max x z)
    have e : maxL x (z :: r) = maxL (max x z) r := rfl
    rw [e]
    refine ⟨?_, fun y hy => ?_⟩
    · rcases List.mem_cons.mp h.1 with q | q
      · rw [q]
        rcases Int.le_total x z with c | c
        · rw [Int.max_eq_right c]; simp
        · rw [Int.max_eq_left c]; simp
      · simp [q]
    · have h0 := h.2 (max x z) (by simp)
      rcases List.mem_cons.mp hy with q | q
      · subst q; omega
      · rcases List.mem_cons.mp q with q | q
        · subst q; omega
        · exact h.2 y (by simp [q])
theorem minL_spec : ∀ (r : List Int) (x : Int), minL x r ∈ x :: r ∧ ∀ y ∈ x :: r, minL x r ≤ y
  | [], x => by simp [minL]
  | z :: r, x => by
    have h := minL_spec r (min x z)
    have e : minL x (z :: r) = minL (min x z) r := rfl
    rw [e]
    refine ⟨?_, fun y hy => ?_⟩
    · rcases List.mem_cons.mp h.1 with q | q
      · rw [q]
        rcases Int.le_total x z with c | c
        · rw [Int.min_eq_left c]; simp
        · rw [Int.min_eq_right c]; simp
      · simp [q]
    · have h0 := h.2 (min x z) (by simp)
      rcases List.mem_cons.mp hy with q | q
      · subst q; omega
      · rcases List.mem_cons.mp q with q | q
        · subst q; omega
        · exact h.2 y (by simp [q])
def pMax1 (a : AV) : Option AV := match a with
  | .lst xs => match intsOf xs with
    | some (x :: r) => some (.int (maxL x r))
    | _ => none
  | _ => none
def pMin1 (a : AV) : Option AV := match a with
  | .lst xs => match intsOf xs with
    | some (x :: r) => some (.int (minL x r))
    | _ => none
  | _ => none
def pLcm (a b : AV) : Option AV := match a, b with
  | .int i, .int j => if 0 ≤ i ∧ below i 63 = true ∧ 0 ≤ j ∧ below j 63 = true then some (.int ((Nat.lcm i.natAbs j.natAbs : Nat) : Int)) else none
  | _, _ => none
section
variable {X : Cx} {ct : CT} {β : BInv} {Ex : XK} {a b e tg : Expr} {f k : Sem} {pos p p2 apos tpos : Pos} {x : Str} {id : String}
theorem o_max1 : Op1' X ct (fun x H Q => rMax X.K [x] H Q) pMax1 := by
  intro g H a z x Q live ra e q
  cases a with
  | lst xs =>
    cases e1 : intsOf xs with
    | none => simp [pMax1, e1] at e
    | some ns =>
      cases ns with
      | nil => simp [pMax1, e1] at e
      | cons n r =>
        simp [pMax1, e1] at e
        subst e
        rw [intsOf_eq e1] at ra
        obtain ⟨p, vs, rfl, h1, r1⟩ := ra.lst
        rw [reps_ints r1] at h1
        refine ⟨p, n :: r, rfl, h1, by simp, fun m hm hy => ?_⟩
        have s := maxL_spec r n
        have e2 : m = maxL n r := Int.le_antisymm (s.2 m hm) (hy _ s.1)
        rw [e2]
        exact q _ H (Same.refl H) rep_int
  | _ => cases e
theorem o_min1 : Op1' X ct (fun x H Q => rMin X.K [x] H Q) pMin1 := by
  intro g H a z x Q live ra e q
  cases a with
  | lst xs =>
    cases e1 : intsOf xs with
    | none => simp [pMin1, e1] at e
    | some ns =>
      cases ns with
      | nil => simp [pMin1, e1] at e
      | cons n r =>
        simp [pMin1, e1] at e
        subst e
        rw [intsOf_eq e1] at ra
        obtain ⟨p, vs, rfl, h1, r1⟩ := ra.lst
        rw [reps_ints r1] at h1
        refine ⟨p, n :: r, rfl, h1, by simp, fun m hm hy => ?_⟩
        have s := minL_spec r n
        have e2 : m = minL n r := Int.le_antisymm (hy _ s.1) (s.2 m hm)
        rw [e2]
        exact q _ H (Same.refl H) rep_int
  | _ => cases e
end

/-! ### * -/
theorem reps_flat {c0 : Gc} {A D : Addr → Prop} {H : Hp} {xs : List AV} {vs : List V} (r : RepL c0 A D H xs vs) : ∀ k : Nat, RepL c0 A D H (List.replicate k xs).flatten (List.replicate k vs).flatten
  | 0 => .nil
  | k + 1 => by
    rw [List.replicate_succ, List.replicate_succ, List.flatten_cons, List.flatten_cons]
    exact r.append (reps_flat r k)
abbrev rMulA (K : PySem.W.Frag) : R2 := fun x y H Q => ((rI CMulX fun i j => .int (i * j)) x y H Q ∨ rRep x y H Q) ∨ rRepT K x y H Q
section
variable {X : Cx} {ct : CT} {β : BInv} {Ex : XK}
theorem op_mulA : OpR X (binaryOp .Mult) (rMulA X.K) := (op_mulX.or op_rep).or op_repT
theorem o_mul : Op2' X ct (rMulA X.K) pMul := by
  intro g H a b z x y Q live ra rb e q
  cases a <;> cases b <;> first | (simp [pMul] at e; done) | skip
  · obtain ⟨h, rfl⟩ := ifp_some e
    refine .inl (.inl ⟨_, _, ra.int, rb.int, mulx_ok Nat.lt_log2_self Nat.lt_log2_self (by omega), q _ H (Same.refl H) rep_int⟩)
  · rename_i xs i
    obtain ⟨h, rfl⟩ := ifp_some e
    obtain ⟨a', vs, rfl, h1, r1⟩ := ra.tup
    refine .inr ⟨a', _, vs, rfl, rb.int, h1, fun z => ?_, h.2.1, h.2.2.1, by rw [r1.length]; exact h.2.2.2, fun p hp => ?_⟩
    · have := reps_nil r1 z
      rw [this] at h
      exact absurd h.1 (by simp)
    · have s := same_upd (o := .tup (List.replicate i.toNat vs).flatten) hp
      exact q _ _ s (rep_tup_new (fun z => live p z hp) upd_same ((Ext.same s).reps (reps_flat r1 _)))
  · rename_i xs i
    obtain ⟨h, rfl⟩ := ifp_some e
    obtain ⟨a', vs, rfl, h1, r1⟩ := ra.lst'
    refine .inl (.inr ⟨a', _, vs, rfl, rb.int, h1, by omega, by omega, by rw [r1.length]; exact Nat.le_trans h.2.1 big_line, fun p hp => ?_⟩)
    have s := same_upd (o := .lst (List.replicate i.toNat vs).flatten) hp
    exact q _ _ s (rep_lst_new (fun z => live p z hp) upd_same ((Ext.same s).reps (reps_flat r1 _)))
end
/-! ### a dict that a slot owns (keys ints, texts) -/
def DR (c0 : Gc) (A D : Addr → Prop) (H : Hp) : List (AV × AV) → List (Key × V) → Prop := Paired fun a u => keyOf1 a.1 = some u.1 ∧ Rep c0 A D H a.2 u.2
def dFind (kvs : List (AV × AV)) (k : Key) : Option AV := (kvs.find? fun q => decide (keyOf1 q.1 = some k)).map (·.2)
def dPut (kvs : List (AV × AV)) (ka : AV) (k : Key) (v : AV) : List (AV × AV) :=
  if (kvs.any fun q => decide (keyOf1 q.1 = some k)) = true then kvs.map (fun q => if keyOf1 q.1 = some k then (q.1, v) else q) else kvs ++ [(ka, v)]
def dDrop (kvs : List (AV × AV)) (k : Key) : List (AV × AV) := kvs.filter fun q => decide (keyOf1 q.1 ≠ some k)
section
variable {c0 : Gc} {A D A' D' : Addr → Prop} {H H' : Hp}
theorem dr_of : ∀ {kvs : List (AV × AV)} {ws : List (AV × V)} {us : List (Key × V)}, KVs c0 A D H kvs ws → DicK ws us → DR c0 A D H kvs us
  | [], ws, us, h, h' => by
    have e : ws = [] := h
    subst e
    cases h'
    exact .nil
  | (ka, xa) :: r, ws, us, h, h' => by
    obtain ⟨v, ws', e, h1, h2⟩ := h
    subst e
    cases h' with
    | cons q t =>
      refine .cons ⟨q.1, ?_⟩ (dr_of h2 t)
      have e2 := q.2
      rw [← e2]
      exact h1
theorem of_dr : ∀ {kvs : List (AV × AV)} {us : List (Key × V)}, DR c0 A D H kvs us → ∃ ws, KVs c0 A D H kvs ws ∧ DicK ws us
  | [], us, h => by
    cases h
    exact ⟨[], rfl, .nil⟩
  | (ka, xa) :: r, us, h => by
    cases h with
    | @cons _ u _ us' q t =>
      obtain ⟨ws, h1, h2⟩ := of_dr t
      exact ⟨(ka, u.2) :: ws, ⟨u.2, ws, rfl, q.2, h1⟩, .cons ⟨q.1, rfl⟩ h2⟩
theorem DR.length {kvs : List (AV × AV)} {us : List (Key × V)} (h : DR c0 A D H kvs us) : kvs.length = us.length := Paired.length h
theorem DR.val {kvs : List (AV × AV)} {us : List (Key × V)} (r : DR c0 A D H kvs us) (k : Key) : (dFind kvs k = none ∧ valV us k = none) ∨ ∃ t v, dFind kvs k = some t ∧ valV us k = some v ∧ Rep c0 A D H t v := by
  unfold DR at r
  induction r with
  | nil => exact .inl ⟨rfl, rfl⟩
  | @cons q u ps us h t ih =>
    by_cases e : u.1 = k
    · refine .inr ⟨q.2, u.2, ?_, valV_pos e, h.2⟩
      unfold dFind
      rw [List.find?_cons, show decide (keyOf1 q.1 = some k) = true from decide_eq_true (by rw [h.1, e])]
      rfl
    · have e2 : dFind (q :: ps) k = dFind ps k := by
        unfold dFind
        rw [List.find?_cons, show decide (keyOf1 q.1 = some k) = false from decide_eq_false (by rw [h.1]; exact fun z => e (Option.some.inj z))]
      rw [e2, valV_neg e]
      exact ih
theorem dAny (k : Key) : ∀ kvs : List (AV × AV), (kvs.any fun q => decide (keyOf1 q.1 = some k)) = (dFind kvs k).isSome
  | [] => rfl
  | q :: r => by
    unfold dFind
    rw [List.any_cons, List.find?_cons]
    by_cases e : keyOf1 q.1 = some k
    · rw [show decide (keyOf1 q.1 = some k) = true from decide_eq_true e]; rfl
    · rw [show decide (keyOf1 q.1 = some k) = false from decide_eq_false e, Bool.false_or]; exact dAny k r
theorem DR.put {kvs : List (AV × AV)} {us : List (Key × V)} {ka va : AV} {k : Key} {v : V} (r : DR c0 A D H kvs us) (hk : keyOf1 ka = some k) (rv : Rep c0 A D H va v) : DR c0 A D H (dPut kvs ka k va) (putK us k v) := by
  have e : (kvs.any fun q => decide (keyOf1 q.1 = some k)) = (us.any fun u => decide (u.1 = k)) := by
    rw [dAny, valV_any]
    rcases r.val k with ⟨h1, h2⟩ | ⟨t, w, h1, h2, _⟩
    · rw [h1, h2]; rfl
    · rw [h1, h2]; rfl
  unfold dPut putK
  rw [e]
  by_cases q : (us.any fun u => decide (u.1 = k)) = true
  · rw [if_pos q, if_pos q]
    clear q e
    unfold DR at r ⊢
    induction r with
    | nil => exact .nil
    | @cons q u ps us h t ih =>
      rw [List.map_cons, List.map_cons]
      refine .cons ?_ ih
      by_cases e : u.1 = k
      · rw [if_pos e, if_pos (by rw [h.1, e])]; exact ⟨h.1, rv⟩
      · rw [if_neg e, if_neg (by rw [h.1]; exact fun z => e (Option.some.inj z))]; exact h
  · rw [if_neg q, if_neg q]
    exact Paired.snoc r ⟨hk, rv⟩
theorem DR.drop {kvs : List (AV × AV)} {us : List (Key × V)} (k : Key) (r : DR c0 A D H kvs us) : DR c0 A D H (dDrop kvs k) (dropK us k) := by
  unfold DR at r ⊢
  unfold dDrop dropK
  induction r with
  | nil => exact .nil
  | @cons q u ps us h t ih =>
    rw [List.filter_cons, List.filter_cons]
    by_cases e : u.1 = k
    · rw [if_neg (show ¬ decide (keyOf1 q.1 ≠ some k) = true by simp [h.1, e]), if_neg (show ¬ decide (u.1 ≠ k) = true by simp [e])]
      exact ih
    · rw [if_pos (show decide (keyOf1 q.1 ≠ some k) = true by simp [h.1, e]), if_pos (show decide (u.1 ≠ k) = true by simp [e])]
      exact .cons h ih
theorem rep_key {g : G} {t : AV} {k : Key} (h : keyOf1 t = some k) : RepG c0 g H t (kV k) := by
  cases t with
  | int i => cases h; exact rep_int
  | str s => cases h; exact rep_str
  | _ => cases h
theorem key_rep {g : G} {t : AV} {k : Key} {v : V} (h : keyOf1 t = some k) (r : RepR c0 g H t v) : v = kV k := by
  cases t with
  | int i => cases h; exact r.int
  | str s => cases h; exact r.str
  | _ => cases h
theorem DR.keys {g : G} {kvs : List (AV × AV)} {us : List (Key × V)} (r : DR c0 A D H kvs us) : RepsG c0 g H' (kvs.map (·.1)) (us.map fun u => kV u.1) := by
  unfold DR at r
  induction r with
  | nil => exact .nil
  | cons h t ih => exact .cons (rep_key h.1) ih
end
def isMd (ρ : Env') (j : Nat) : Option (List (AV × AV)) := match ρ[j]? with
  | some (.md true kvs) => some kvs
  | _ => none
theorem isMd_eq {ρ : Env'} {j : Nat} {kvs : List (AV × AV)} (h : isMd ρ j = some kvs) : ρ[j]? = some (.md true kvs) := by
  unfold isMd at h
  split at h
  · rename_i q e
    cases h
    exact e
  · cases h
section
variable {c0 : Gc} {β : BInv} {g : G} {H : Hp} {ρ : Env'} {σ : L2.St} {a : Addr}
theorem Rel.md {j : Nat} {kvs : List (AV × AV)} (R : Rel c0 β g ρ σ H) (h : ρ[j]? = some (.md true kvs)) : ∃ p us, g.own j = some p ∧ σ[j]? = some (some (.ref p)) ∧ H p = some (.dK us) ∧ DR c0 g.Av g.D H kvs us := by
  obtain ⟨p, ws, e1, e2, e3, e4⟩ := R.sl j _ h
  rcases e4 with ⟨us, e4, e5, _⟩ | ⟨_, _, _, e⟩
  · exact ⟨p, us, e1, e2, e4, dr_of e3 e5⟩
  · cases e
theorem DR.ext {g' : G} {H' : Hp} {kvs : List (AV × AV)} {us : List (Key × V)} (e : Ext g g' H H') (r : DR c0 g.Av g.D H kvs us) : DR c0 g'.Av g'.D H' kvs us := Paired.mapP r fun _ _ q => ⟨q.1, q.2.imp (fun _ _ q n => e.av q n) e.dsub⟩
theorem Rel.updD {j : Nat} {p : Addr} {kvs : List (AV × AV)} {us : List (Key × V)} (R : Rel c0 β g ρ σ H) (hj : j < ρ.length) (ho : g.own j = some p) (hσ : σ[j]? = some (some (.ref p))) (r : DR c0 g.Av g.D H kvs us) : Rel c0 β g (ρ.set j (.md true kvs)) σ (L2.upd H p (.dK us)) := by
  have e : Ext g g H (L2.upd H p (.dK us)) := ext_upd ho
  refine R.put e rfl (fun _ _ => rfl) hj (fun _ _ => rfl) (fun i a o hi h1 h2 => ?_) ?_ ?_ fun a h => ?_
  · rw [upd_ne (fun z => hi (R.inj i j a h1 (by rw [z]; exact ho)))]
    exact h2
  · refine β.frame R.box fun a h => ?_
    rw [upd_ne (fun z => (R.sep j p ho).2 (by rw [← z]; exact h))]
  · obtain ⟨ws, h1, h2⟩ := of_dr (r.ext e)
    exact ⟨p, ws, ho, hσ, h1, .inl ⟨us, upd_same, h2, rfl⟩⟩
  · rw [ho] at h
    cases h
    exact ⟨(R.sep j p ho).1, (R.sep j p ho).2, fun i hi h => hi (R.inj i j p h ho)⟩
theorem Rel.takeD {j : Nat} (R : Rel c0 β (g.plus a) ρ σ H) (hj : j < ρ.length) (ho : H a = some (.dK [])) (na : ¬ g.Av a) : Rel c0 β (g.own1 j a) (ρ.set j (.md true [])) (σ.set j (some (.ref a))) H where
  len := by rw [List.length_set, List.length_set]; exact R.len
  sl := fun i s hs => by
    by_cases hi : i = j
    · subst hi
      rw [List.getElem?_set_self hj] at hs
      cases hs
      rw [own1_same, List.getElem?_set_self (by rw [R.len]; exact hj)]
      exact ⟨a, [], rfl, rfl, rfl, .inl ⟨[], ho, .nil, rfl⟩⟩
    · rw [List.getElem?_set_ne (Ne.symm hi)] at hs
      rw [own1_ne hi, List.getElem?_set_ne (Ne.symm hi)]
      exact slot_weak (fun b h => own1_av h) rfl rfl (R.sl i s hs)
  out := fun i hi => by
    rw [List.length_set] at hi
    rw [own1_ne (by omega)]
    exact R.out i hi
  inj := fun i k b h1 h2 => by
    have nobody : ∀ i, (g.plus a).own i ≠ some a := fun i h => na (.inr (.inl ⟨i, h⟩))
    by_cases hi : i = j
    · by_cases hk : k = j
      · rw [hi, hk]
      · subst hi
        rw [own1_same] at h1
        cases h1
        rw [own1_ne hk] at h2
        exact absurd h2 (nobody k)
    · by_cases hk : k = j
      · subst hk
        rw [own1_same] at h2
        cases h2
        rw [own1_ne hi] at h1
        exact absurd h1 (nobody i)
      · rw [own1_ne hi] at h1
        rw [own1_ne hk] at h2
        exact R.inj i k b h1 h2
  alive := fun b h => R.alive b (.inl h)
  nt := fun b h => R.nt b (.inl h)
  sep := fun i b h => by
    by_cases hi : i = j
    · subst hi
      rw [own1_same] at h
      cases h
      exact ⟨fun z => na (.inl z), fun z => na (.inr (.inr z))⟩
    · rw [own1_ne hi] at h
      exact ⟨fun z => (R.sep i b h).1 (.inl z), (R.sep i b h).2⟩
  mb := fun b h => R.mb b (.inl h)
  box := R.box
end
theorem okT_ext {c0 : Gc} {β : BInv} {Ex : XK} {α : Type} {g g1 : G} {H H1 : Hp} {m : T α} {Q : G → Hp → α → Prop} (h : okT c0 β Ex g H m Q) (e : Ext g g1 H H1) : okT c0 β Ex g1 H1 m Q :=
  T.all_mono h (fun _ q g' H' e' => q g' H' (e.trans e')) fun c xs q g' H' C d vs e' => q g' H' C d vs (e.trans e')
/-- e + k, both lists: a new list -/
def nAdd (f k : Sem) : SemN := fun ρ => (f ρ).bind fun p => (k p.2).bind fun q => (lift (rs p.1 q.2)).bind fun a => (lift (lstOf a)).bind fun xs => (lift (rs q.1 q.2)).bind fun b => (lift (lstOf b)).bind fun ys => if xs.length + ys.length ≤ big then .ret (xs ++ ys, q.2) else .bad
theorem lst_of {t : AV} {xs : List AV} (h : lstOf t = some xs) : t = .lst xs := by
  cases t with
  | lst ys => cases h; rfl
  | _ => cases h
section
variable {X : Cx} {ct : CT} {β : BInv} {Ex : XK} {a b : Expr} {f k : Sem} {pos : Pos}
theorem jn_add (ha : JE X ct β Ex a f) (hb : JE X ct β Ex b k) : JN X ct β Ex (.BinOp a .Add b pos) (nAdd f k) := by
  refine PE.imp (pe_op op_cat ha hb) fun σ H Q h => ?_
  obtain ⟨g, ρ, R, h⟩ := h
  refine ⟨g, ρ, R, okT_bind0 h fun p q0 g1 H1 e1 x R1 rx => ⟨g1, p.2, R1, okT_mono (okT_bind (okT_ext q0 e1)) fun g2 H2 q e2 h1 y R2 ry => ?_⟩⟩
  obtain ⟨u, eu, h2⟩ := okT_lift h1
  obtain ⟨xs, ex, h3⟩ := okT_lift h2
  obtain ⟨w, ew, h4⟩ := okT_lift h3
  obtain ⟨ys, ey, h5⟩ := okT_lift h4
  have q1 := lst_of ex
  have q2 := lst_of ey
  subst q1 q2
  obtain ⟨d, vs, rfl, hd, rv⟩ := ((rx.ext e2).rs R2 eu).lst'
  obtain ⟨d2, ws, rfl, hd2, rw2⟩ := (ry.rs R2 ew).lst'
  by_cases hl : xs.length + ys.length ≤ big
  · rw [if_pos hl] at h5
    refine ⟨d, d2, vs, ws, rfl, rfl, hd, hd2, by rw [rv.length, rw2.length]; exact Nat.le_trans hl big_line, fun l hn => ?_⟩
    have s := same_upd (o := .lst (vs ++ ws)) hn
    exact okT_ret' h5 (Ext.same s) l (vs ++ ws) (none_back (e1.trans e2) hn) (R2.freshAv hn) upd_same (R2.plus s hn (by rw [upd_same]; exact fun z => by cases z)) (reps_plus (rv.append rw2) s hn)
  · rw [if_neg hl] at h5
    exact (show False from h5).elim
end
/-- x = {} -/
def sDnew (i : Nat) : SSem := fun ρ => .ret (.nx (ρ.set i (.md true [])))
/-- e in x -/
def tDin (j : Nat) (f : Sem) : SemB := fun ρ => (f ρ).bind fun p => (lift (rs p.1 p.2)).bind fun a => (lift (keyOf1 a)).bind fun k => (lift (isMd p.2 j)).bind fun kvs => .ret ((dFind kvs k).isSome, p.2)
def tDnotIn (j : Nat) (f : Sem) : SemB := fun ρ => (f ρ).bind fun p => (lift (rs p.1 p.2)).bind fun a => (lift (keyOf1 a)).bind fun k => (lift (isMd p.2 j)).bind fun kvs => .ret (!(dFind kvs k).isSome, p.2)
/-- x[k] = v -/
def sDput (j : Nat) (fk fv : Sem) : SSem := fun ρ => (fv ρ).bind fun p => (frz p).bind fun q => (lift (isMd q.2 j)).bind fun _ => (fk q.2).bind fun r => (lift (rs r.1 r.2)).bind fun a => (lift (keyOf1 a)).bind fun k => (lift (isMd r.2 j)).bind fun kvs =>
  if kvs.length < big then .ret (.nx (r.2.set j (.md true (dPut kvs a k q.1)))) else .bad
/-- x[k] -/
def fDget (j : Nat) (fk : Sem) : Sem := fun ρ => (lift (isMd ρ j)).bind fun _ => (fk ρ).bind fun r => (lift (rs r.1 r.2)).bind fun a => (lift (keyOf1 a)).bind fun k => (lift (isMd r.2 j)).bind fun kvs => (lift (dFind kvs k)).bind fun v => .ret (.val v, r.2)
/-- del x[k] -/
def sDdel (j : Nat) (fk : Sem) : SSem := fun ρ => (lift (isMd ρ j)).bind fun _ => (fk ρ).bind fun r => (lift (rs r.1 r.2)).bind fun a => (lift (keyOf1 a)).bind fun k => (lift (isMd r.2 j)).bind fun kvs => (lift (dFind kvs k)).bind fun _ => .ret (.nx (r.2.set j (.md true (dDrop kvs k))))
/-- list(x) -/
def fDlist (j : Nat) : Sem := fun ρ => (lift (isMd ρ j)).bind fun kvs => .ret (.val (.lst (kvs.map (·.1))), ρ)
section
variable {X : Cx} {ct : CT} {β : BInv} {Ex : XK} {a b e tg value : Expr} {f k fk fv : Sem} {pos pos' p p2 apos tpos : Pos} {x : Str} {id : String}
theorem js_dnew (i : Nat) (hN : X.N.Nodup) (hi : X.N[i]? = some x := by rfl) (hx : Loc X.env.scope x := by first | exact Or.inl rfl | exact Or.inr rfl) (hs : swapsWith (.Dict [] [] p2) (some (.Name x p)) pos.line X.env = pure false := by rfl)
    (hf : X.fn x = true ∨ X.env.scope.names.lookup x = some .local := by first | exact .inl rfl | exact .inr rfl) : JS X ct β Ex (.Assign [.Name x p] (.Dict [] [] p2) pos) (sDnew i) := by
  refine PS.imp (ps_set hN hi hx pe_dnewK hs hf) fun D σ H h => ?_
  obtain ⟨g, ρ, R, h⟩ := h
  intro l hl
  show D.nx (σ.set i (some (.ref l))) _
  have s := same_upd (o := .dK []) hl
  have R2 : Rel (gc X ct) β (g.plus l) ρ σ (L2.upd H l (.dK [])) := R.plus s hl (by rw [upd_same]; exact fun z => by cases z)
  by_cases hj : i < ρ.length
  · exact okT_ret' h (ext_own1 (Ext.same s) hl) _ (R2.takeD hj upd_same (R.freshAv hl))
  · have q2 := okT_ret' h (Ext.same s)
    rw [set_ge hj] at q2
    have : σ.set i (some (V.ref l)) = σ := List.set_eq_of_length_le (by rw [R.len]; omega)
    rw [this]
    exact q2 σ (R.same s)
theorem dget_of {c0 : Gc} {H : Hp} {p : Addr} {us : List (Key × V)} {k : Key} (h : H p = some (.dK us)) : DGet H p (kV k) (valV us k) := .k h
theorem jt_din (j : Nat) (hu : X.A.units + 1 < cLine) (ha : JE X ct β Ex a f) (hv : PE X (.Name x p) (tVar j)) (h1 : behindInMarks .In (.Name x p) = false := by rfl) : JT X ct β Ex (.Compare a [.In] [.Name x p] pos) (tDin j f) := by
  refine PT.imp (pt_cmp (pc_din hu ha hv) h1) fun σ H Q h => ?_
  obtain ⟨g, ρ, R, h⟩ := h
  refine ⟨g, ρ, R, okT_mono (okT_bind h) fun g1 H1 q e1 h1 v R1 rv => ?_⟩
  obtain ⟨u, eu, h2⟩ := okT_lift h1
  obtain ⟨kk, ek, h3⟩ := okT_lift h2
  obtain ⟨kvs, em, h4⟩ := okT_lift h3
  obtain ⟨d, us, _, hσ, hd, r⟩ := R1.md (isMd_eq em)
  have ev := key_rep ek (rv.rs R1 eu)
  subst ev
  refine ⟨_, hσ, d, valV us kk, rfl, .k hd, (valV us kk).isSome, rfl, ?_⟩
  have e3 : (dFind kvs kk).isSome = (valV us kk).isSome := by
    rcases r.val kk with ⟨h1, h2⟩ | ⟨_, _, h1, h2, _⟩ <;> rw [h1, h2] <;> rfl
  rw [← e3]
  exact okT_ret h4 R1
theorem jt_dnotIn (j : Nat) (hu : X.A.units + 1 < cLine) (ha : JE X ct β Ex a f) (hv : PE X (.Name x p) (tVar j)) (h1 : behindInMarks .NotIn (.Name x p) = false := by rfl) : JT X ct β Ex (.Compare a [.NotIn] [.Name x p] pos) (tDnotIn j f) := by
  refine PT.imp (pt_cmp (pc_dnotin hu ha hv) h1) fun σ H Q h => ?_
  obtain ⟨g, ρ, R, h⟩ := h
  refine ⟨g, ρ, R, okT_mono (okT_bind h) fun g1 H1 q e1 h1 v R1 rv => ?_⟩
  obtain ⟨u, eu, h2⟩ := okT_lift h1
  obtain ⟨kk, ek, h3⟩ := okT_lift h2
  obtain ⟨kvs, em, h4⟩ := okT_lift h3
  obtain ⟨d, us, _, hσ, hd, r⟩ := R1.md (isMd_eq em)
  have ev := key_rep ek (rv.rs R1 eu)
  subst ev
  refine ⟨_, hσ, d, valV us kk, rfl, .k hd, !(valV us kk).isSome, rfl, ?_⟩
  have e3 : (dFind kvs kk).isSome = (valV us kk).isSome := by
    rcases r.val kk with ⟨h1, h2⟩ | ⟨_, _, h1, h2, _⟩ <;> rw [h1, h2] <;> rfl
  rw [← e3]
  exact okT_ret h4 R1
theorem js_dput (j : Nat) (hu : X.A.units + 1 < cLine) (hv : PE X (.Name x p) (tVar j)) (hk : JE X ct β Ex a fk) (he : JE X ct β Ex value fv) (hs : swapsWith value (some (.Subscript (.Name x p) a pos')) pos.line X.env = pure false := by rfl) :
    JS X ct β Ex (.Assign [.Subscript (.Name x p) a pos'] value pos) (sDput j fk fv) := by
  refine PS.imp (ps_dput hu hv hk he hs) fun D σ H h => ?_
  obtain ⟨g, ρ, R, h⟩ := h
  refine ⟨g, ρ, R, okT_mono (okT_bind h) fun g1 H1 q e1 h1 v R1 rv => ?_⟩
  obtain ⟨g2, s, e2, R2, rs, h2⟩ := frz_ok R1 rv h1
  obtain ⟨kvs0, em0, h3⟩ := okT_lift h2
  obtain ⟨d, us0, _, hσ, hd0, _⟩ := R2.md (isMd_eq em0)
  refine ⟨.ref d, hσ, g2, s.2, R2, okT_mono (okT_bind h3) fun g3 H3 r e3 h4 y R3 ry => ?_⟩
  obtain ⟨u, eu, h5⟩ := okT_lift h4
  obtain ⟨kk, ek, h6⟩ := okT_lift h5
  obtain ⟨kvs, em, h7⟩ := okT_lift h6
  obtain ⟨d', us, ho, hσ', hd, rd⟩ := R3.md (isMd_eq em)
  rw [hσ] at hσ'
  cases hσ'
  have ev := key_rep ek (ry.rs R3 eu)
  subst ev
  by_cases hl : kvs.length < big
  · rw [if_pos hl] at h7
    refine ⟨d, _, rfl, .k hd (by rw [← rd.length]; exact Nat.lt_of_lt_of_le hl big_line), ?_⟩
    exact okT_ret' h7 (ext_upd ho) σ (R3.updD (lt_of_ml (isMd_eq em)) ho hσ (rd.put ek (e3.rep rs)))
  · rw [if_neg hl] at h7
    exact (show False from h7).elim
theorem j_dget (j : Nat) (hu : X.A.units + 1 < cLine) (hv : PE X (.Name x p) (tVar j)) (hk : JE X ct β Ex a fk) (hs : NoSl a := by first | exact True.intro | decide | rfl) : JE X ct β Ex (.Subscript (.Name x p) a pos) (fDget j fk) := by
  refine PE.imp (pe_dget hu hv hk hs) fun σ H Q h => ?_
  obtain ⟨g, ρ, R, h⟩ := h
  obtain ⟨kvs0, em0, h3⟩ := okT_lift h
  obtain ⟨d, us0, _, hσ, hd0, _⟩ := R.md (isMd_eq em0)
  refine ⟨.ref d, hσ, g, ρ, R, okT_mono (okT_bind h3) fun g3 H3 r e3 h4 y R3 ry => ?_⟩
  obtain ⟨u, eu, h5⟩ := okT_lift h4
  obtain ⟨kk, ek, h6⟩ := okT_lift h5
  obtain ⟨kvs, em, h7⟩ := okT_lift h6
  obtain ⟨t, et, h8⟩ := okT_lift h7
  obtain ⟨d', us, ho, hσ', hd, rd⟩ := R3.md (isMd_eq em)
  rw [hσ] at hσ'
  cases hσ'
  have ev := key_rep ek (ry.rs R3 eu)
  subst ev
  rcases rd.val kk with ⟨h1, _⟩ | ⟨t', w, h1, h2, rw'⟩
  · rw [h1] at et; cases et
  · rw [h1] at et
    cases et
    refine ⟨d, w, rfl, ?_, okT_ret h8 w R3 rw'⟩
    rw [← h2]
    exact .k hd
theorem js_ddel (j : Nat) (hv : PE X (.Name x p) (tVar j)) (hk : JE X ct β Ex a fk) : JS X ct β Ex (.Delete [.Subscript (.Name x p) a tpos] pos) (sDdel j fk) := by
  refine PS.imp (ps_ddel hv hk) fun D σ H h => ?_
  obtain ⟨g, ρ, R, h⟩ := h
  obtain ⟨kvs0, em0, h3⟩ := okT_lift h
  obtain ⟨d, us0, _, hσ, hd0, _⟩ := R.md (isMd_eq em0)
  refine ⟨.ref d, hσ, g, ρ, R, okT_mono (okT_bind h3) fun g3 H3 r e3 h4 y R3 ry => ?_⟩
  obtain ⟨u, eu, h5⟩ := okT_lift h4
  obtain ⟨kk, ek, h6⟩ := okT_lift h5
  obtain ⟨kvs, em, h7⟩ := okT_lift h6
  obtain ⟨t, et, h8⟩ := okT_lift h7
  obtain ⟨d', us, ho, hσ', hd, rd⟩ := R3.md (isMd_eq em)
  rw [hσ] at hσ'
  cases hσ'
  have ev := key_rep ek (ry.rs R3 eu)
  subst ev
  refine ⟨d, us, kk, rfl, hd, rfl, ?_, ?_⟩
  · rcases rd.val kk with ⟨h1, _⟩ | ⟨t', w, h1, h2, rw'⟩
    · rw [h1] at et; cases et
    · rw [h2]; rfl
  · exact okT_ret' h8 (ext_upd ho) σ (R3.updD (lt_of_ml (isMd_eq em)) ho hσ (rd.drop kk))
theorem j_dlist (j : Nat) (hc : X.calm = true) (hg : Gl X "list") (hm : X.mg "list" = none) (hv : PE X (.Name x p) (tVar j)) (he : starEach [.Name x p] X.env = (false, eval (.Name x p) X.env) :: starEach [] X.env := by rfl) : JE X ct β Ex (.Call (.Name "list" p2) [.Name x p] [] pos) (fDlist j) := by
  refine PE.imp (pe_callTy (call_list_dK hc) hg hm (by decide +kernel) (pa_cons hv pa_nil he) (by decide +kernel) (by decide +kernel) he) fun σ H Q h => ?_
  obtain ⟨g, ρ, R, h⟩ := h
  obtain ⟨kvs, em, h3⟩ := okT_lift h
  obtain ⟨d, us, _, hσ, hd, r⟩ := R.md (isMd_eq em)
  refine ⟨.ref d, hσ, d, us, rfl, hd, fun l hl => ?_⟩
  have s := same_upd (o := .lst (us.map fun kv => kV kv.1)) hl
  exact okT_ret' h3 (Ext.same s) _ (R.same s) (show RepG (gc X ct) g _ _ (.ref l) from rep_lst_new (R.freshAv hl) upd_same r.keys)
end

/-! ### math.lcm -/
section
variable {X : Cx} {ct : CT} {β : BInv} {Ex : XK} {a b e tg value : Expr} {f k fk fv : Sem} {pos pos' p p2 apos tpos : Pos} {x : Str} {id : String}
def rLcm : List V → Hp → VK → Prop := fun vs H Q => ∃ a b : Int, vs = [.int a, .int b] ∧ (0 ≤ a ∧ a < 2 ^ 63) ∧ (0 ≤ b ∧ b < 2 ^ 63) ∧ Q (.int ((Nat.lcm a.natAbs b.natAbs : Nat) : Int)) H
theorem lcm_small {a b : Nat} (ha : a < 2 ^ 63) (hb : b < 2 ^ 63) : (Nat.lcm a b).log2 < bitsLine := by
  have h1 : Nat.lcm a b ≤ a * b := by
    rcases Nat.eq_zero_or_pos a with e | e
    · subst e; simp
    · rcases Nat.eq_zero_or_pos b with e2 | e2
      · subst e2; simp
      · exact Nat.le_of_dvd (Nat.mul_pos e e2) (Nat.lcm_dvd (Nat.dvd_mul_right a b) (Nat.dvd_mul_left b a))
  have h2 : a * b < 2 ^ 126 := by
    have : a * b < 2 ^ 63 * 2 ^ 63 := Nat.mul_lt_mul'' ha hb
    have e : (2 : Nat) ^ 63 * 2 ^ 63 = 2 ^ 126 := by decide
    omega
  have h3 : (126 : Nat) ≤ bitsLine := by decide +kernel
  by_cases hz : Nat.lcm a b = 0
  · rw [hz]
    have : Nat.log2 0 = 0 := by decide
    omega
  · have := (Nat.log2_lt hz (k := 126)).mpr (by omega)
    omega
theorem cr_lcm : CallR X (.builtin "math.lcm") rLcm := by
  intro pins s σ H vs us Q I r h
  obtain ⟨a, b, rfl, ⟨a0, a1⟩, ⟨b0, b1⟩, q⟩ := h
  obtain ⟨t, u, rfl⟩ := Vals.int2 r
  have e : ((Nat.lcm 1 a.natAbs).lcm b.natAbs : Nat) = Nat.lcm a.natAbs b.natAbs := by simp
  refine PySem.W.mg_lcm_v (c := ((Nat.lcm a.natAbs b.natAbs : Nat) : Int)) (by omega) (by omega) (by rw [e]) ?_ ⟨.int _, H, I.tok _, ⟨_, rfl⟩, q⟩
  rw [Int.natAbs_natCast]
  exact lcm_small (by omega) (by omega)
theorem o_lcm : Op2' X ct (fun x y H Q => rLcm [x, y] H Q) pLcm := by
  intro g H a b z x y Q live ra rb e q
  cases a with
  | int i =>
    cases b with
    | int j =>
      obtain ⟨h, rfl⟩ := ifp_some (show (if 0 ≤ i ∧ below i 63 = true ∧ 0 ≤ j ∧ below j 63 = true then some (AV.int ((Nat.lcm i.natAbs j.natAbs : Nat) : Int)) else none) = some z from e)
      exact ⟨i, j, by rw [ra.int, rb.int], ⟨h.1, by have := below_iff.mp h.2.1; omega⟩, ⟨h.2.2.1, by have := below_iff.mp h.2.2.2; omega⟩, q _ H (Same.refl H) rep_int⟩
    | _ => cases e
  | _ => cases e
theorem j_callFun2 {r : List V → Hp → VK → Prop} {o : AV → AV → Option AV} (hc : CallR X (.builtin id) r) (hop : Op2' X ct (fun x y H Q => r [x, y] H Q) o) (hg : Gl X x) (hm : X.mg x = some (.builtin id)) (ha : JE X ct β Ex a f) (hb : JE X ct β Ex b k)
    (hdb : (x == ("__debug__" : Str)) = false := by decide +kernel) (he : starEach [a, b] X.env = (false, eval a X.env) :: starEach [b] X.env := by rfl) (he2 : starEach [b] X.env = (false, eval b X.env) :: starEach [] X.env := by rfl)
    (hpl : (backTo pos (starEach [b] X.env)).any (·.1) = false := by rfl) : JE X ct β Ex (.Call (.Name x p) [a, b] [] pos) (fBin o f k) := by
  refine PE.imp (pe_callBfun hc hg hm (pa_cons ha (pa_cons hb pa_nil he2) he) hdb he hpl) fun σ H Q h => ?_
  exact fBin_ok' hop h
end

/-! ### enumerate(list) -/
def enumL : Nat → List AV → List AV
  | _, [] => []
  | i, x :: xs => .tup [.int (i : Nat), x] :: enumL (i + 1) xs
theorem enumL_length : ∀ (i : Nat) (xs : List AV), (enumL i xs).length = xs.length
  | _, [] => rfl
  | i, _ :: xs => by rw [enumL, List.length_cons, List.length_cons, enumL_length]
theorem enumL_get : ∀ (xs : List AV) (i j : Nat) (t : AV), (enumL i xs)[j]? = some t → ∃ x, xs[j]? = some x ∧ t = .tup [.int ((i + j : Nat) : Int), x]
  | [], i, j, t, h => by simp [enumL] at h
  | x :: xs, i, 0, t, h => by
    rw [enumL, List.getElem?_cons_zero] at h
    cases h
    exact ⟨x, rfl, rfl⟩
  | x :: xs, i, j + 1, t, h => by
    rw [enumL, List.getElem?_cons_succ] at h
    obtain ⟨y, e1, e2⟩ := enumL_get xs (i + 1) j t h
    exact ⟨y, by simpa using e1, by rw [e2, show i + 1 + j = i + (j + 1) by omega]⟩
theorem wk_enum {c0 : Gc} {g : G} {H : Hp} {a : Addr} {xs : List AV} (h : RepG c0 g H (.lst xs) (.ref a)) : Wk c0 g H (Ite c0.K a) (enumL 0 xs) := by
  have at_ : ∀ (g' : G) (H' : Hp), Keeps c0 g g' H H' → ∃ vs, H' a = some (.lst vs) ∧ RepsG c0 g' H' xs vs := fun g' H' k => by
    have q := k _ _ h
    rw [RepG, Rep] at q
    obtain ⟨a', vs, e, ⟨na, ho⟩, r⟩ := q
    cases e
    exact ⟨vs, ho, r⟩
  refine ⟨fun g' H' i e hi => ?_, fun g' H' H2 i x v e lv hx hy => ?_, fun g' H' i e hi => ?_⟩
  · obtain ⟨vs, ho, r⟩ := at_ g' H' e
    rw [enumL_length] at hi
    exact ⟨vs, vs[i]'(by rw [r.length]; exact hi), .of ho, List.getElem?_eq_getElem _⟩
  · obtain ⟨T, y, rfl, hT, e1, hy⟩ := hy
    subst e1
    obtain ⟨vs, ho, r⟩ := at_ g' _ e
    obtain ⟨z, ez, rfl⟩ := enumL_get xs 0 i x hx
    obtain ⟨w, ew, rw'⟩ := r.get (hy vs (.of ho))
    rw [ez] at ew
    cases ew
    have s : Same H' (upd H' T (.tup [.int (i : Nat), y])) := same_upd hT
    refine ⟨s, rep_tup_new (fun z => lv T z hT) upd_same (.cons ?_ (.one ((Ext.same s).rep rw')))⟩
    rw [Nat.zero_add]
    exact rep_int
  · obtain ⟨vs, ho, r⟩ := at_ g' H' e
    rw [enumL_length] at hi
    exact ⟨vs, .of ho, by rw [r.length]; exact hi⟩
def iEnumL (f : Sem) : SemI := fun ρ => (f ρ).bind fun p => (frz p).bind fun q => (lift (lstOf q.1)).bind fun xs => .ret (enumL 0 xs, q.2)
section
variable {X : Cx} {ct : CT} {β : BInv} {Ex : XK} {e : Expr} {f : Sem} {p pos tpos : Pos} {elts : List Expr} {kk : Nat}
theorem ji_enum (hg : Gl X "enumerate") (hm : X.mg "enumerate" = none) (ha : JE X ct β Ex e f) (hs : starEach [e] X.env = [(false, eval e X.env)] := by rfl) (he : starEach [e] X.env = (false, eval e X.env) :: starEach [] X.env := by rfl) :
    JI X ct β Ex (.Tuple elts kk tpos) (.Call (.Name "enumerate" p) [e] [] pos) (iEnumL f) := by
  refine PI.imp (pi_enum hg hm (pa_cons ha pa_nil he) hs) fun σ H R h => ?_
  obtain ⟨g, ρ, Rl, h⟩ := h
  refine ⟨g, ρ, Rl, okT_mono (okT_bind h) fun g1 H1 p e1 h1 x R1 rx => ?_⟩
  obtain ⟨g2, s, e2, R2, rs, h2⟩ := frz_ok R1 rx h1
  obtain ⟨xs, ex, h3⟩ := okT_lift h2
  obtain ⟨t, ρ2⟩ := s
  cases t with
  | lst ys =>
    cases ex
    have rs0 := rs
    rw [RepG, Rep] at rs
    obtain ⟨q, vs, rfl, hq, _⟩ := rs
    exact ⟨q, vs, rfl, hq.sq, okT_ret h3 _ R2 (wk_enum rs0)⟩
  | _ => cases ex
end
end Dn
namespace Dn
open PySem PySem.Spec PyProof.Rows L2
section
variable {X : Cx} {ct : CT} {β : BInv} {Ex : XK} {e : Expr} {es : List Expr} {m : SemL} {pos p : Pos} {x : Str} {lv n c : Nat} {ps : List Str} {fn : List AV → T AV}
theorem j_callD0 (D : Df X.prog X.w X.K X.mg X.base ct β lv x n ps fn) (hr : Room lv X.A) (hx : Passes (L2.CX X.prog X.w) X Ex) (hg : Gl X x := by rfl) (hdb : (x == ("__debug__" : Str)) = false := by decide +kernel) : JE X ct β Ex (.Call (.Name x p) [] [] pos) (fCall fn [] lNil) := by
  obtain ⟨fa, fd, F, h1, h2, h3⟩ := D.ex
  exact j_call0 F D.len hr h1 h2 h3 .nil deft0 hx hg hdb
end
/-! ### the law's own call -/
def g0 : G := ⟨fun _ => False, fun _ => none, fun _ => False, fun _ => False, none⟩
def spLaw (K : PySem.W.Frag) : Sp := fun vs H Q _ => ∃ (a : Addr) (ns : List Int), vs = [.ref a] ∧ SqL K H a (ns.map V.int) ∧ ns.length ≤ 63 ∧ ∀ H', Q (.bl true) H'
theorem law_end {P : Program} {w : World} {K : PySem.W.Frag} {mg : Str → Option Value} {base : Heap} {ct : CT} {β : BInv} {lv : Nat} {fa : Addr} {fd : FuncData} {x : Str} {fn : List AV → T AV} (F : FnOk P w K mg base (L2.CX P w) lv fa fd [x] (spM ⟨K, mg, ct⟩ β 1 fn))
    (hb : ∀ H, β.I (fun _ => False) (fun _ => False) H) (h : ∀ ns : List Int, ns.length ≤ 63 → (fn [.scr ns]).all (fun t => t = .bl true) NoX) : FnOk P w K mg base (L2.CX P w) lv fa fd [x] (spLaw K) := by
  refine F.imp fun vs H Q E hs => ?_
  obtain ⟨a, ns, rfl, hS, hl, q⟩ := hs
  refine ⟨g0, [.scr ns], fun _ => rfl, fun _ z => z.elim, fun _ z => z.elim, hb H, .one ?_, rfl, ?_⟩
  · rw [Rep]
    refine ⟨a, rfl, ?_⟩
    rcases hS with z | z
    · exact .inl ⟨fun z => z.elim (fun z => z) fun z => z.elim (fun ⟨_, z⟩ => by cases z) fun z => z, z⟩
    · exact .inr fun H' => .inr z
  · refine T.all_mono (h ns hl) (fun t et g' H' _ v _ rv => ?_) fun _ _ z => z.elim
    subst et
    rw [RepG, Rep] at rv
    subst rv
    exact q H'
end Dn

namespace Dn
open PySem PySem.Spec PyProof.Rows L2
/-- .. of a law that does not read its script -/
theorem law_end0 {P : Program} {w : World} {K : PySem.W.Frag} {mg : Str → Option Value} {base : Heap} {ct : CT} {β : BInv} {lv : Nat} {fa : Addr} {fd : FuncData} {x : Str} {fn : List AV → T AV} (F : FnOk P w K mg base (L2.CX P w) lv fa fd [x] (spM ⟨K, mg, ct⟩ β 1 fn))
    (hb : ∀ H, β.I (fun _ => False) (fun _ => False) H) (h : (fn [.any]).all (fun t => t = .bl true) NoX) : FnOk P w K mg base (L2.CX P w) lv fa fd [x] (spLaw K) := by
  refine F.imp fun vs H Q E hs => ?_
  obtain ⟨a, ns, rfl, hS, hl, q⟩ := hs
  refine ⟨g0, [.any], fun _ => rfl, fun _ z => z.elim, fun _ z => z.elim, hb H, .one (by rw [Rep]; exact True.intro), rfl, ?_⟩
  refine T.all_mono h (fun t et g' H' _ v _ rv => ?_) fun _ _ z => z.elim
  subst et
  rw [RepG, Rep] at rv
  subst rv
  exact q H'
def isTrue : T AV → Bool
  | .ret (.bl b) => b
  | _ => false
theorem of_isTrue {m : T AV} (h : isTrue m = true) : m.all (fun t => t = .bl true) NoX := by
  cases m with
  | ret a =>
    cases a with
    | bl b => cases (show b = true from h); rfl
    | _ => cases h
  | _ => cases h
end Dn
namespace Dn
open PySem PySem.Spec PyProof.Rows L2
theorem cx_none {P : Program} (w : World) (H : Hp) (s : Shared) (e : Value) (s' : Shared) (h : L2.CX P w [] H s (fun _ _ _ => False) e s') : False := by
  obtain ⟨_, _, _, _, _, _, _, _, _, _, _, _, z⟩ := h
  exact z
end Dn

set_option Elab.async false
set_option linter.all false
set_option maxRecDepth 100000
namespace Dn
open PySem PySem.Spec PyProof.Rows L2
/-! ### sources of draws that are lists -/
def BoxI (ok : List V → Prop) : BInv where
  I := fun B D H => (∀ a, B a → ∃ vs, H a = some (.lst vs) ∧ ok vs) ∧ ∀ a, D a → B a
  live := fun h b => by
    obtain ⟨vs, e, _⟩ := h.1 _ b
    rw [e]
    exact fun z => by cases z
  nt := fun h b ws z => by
    obtain ⟨vs, e, _⟩ := h.1 _ b
    rw [e] at z
    cases z
  top := fun h d => h.2 _ d
  frame := fun h k => ⟨fun a b => by
    obtain ⟨vs, e, q⟩ := h.1 a b
    exact ⟨vs, by rw [k a b]; exact e, q⟩, h.2⟩
/-- return [..], a new source -/
def sRetBox (test : List AV → Bool) (f : SemN) : SSem := fun ρ => (f ρ).bind fun p => if test p.1 then .ret (.rt .box) else .bad
section
variable {X : Cx} {ct : CT} {ok : List V → Prop} {Ex : XK} {a : Expr} {f : SemN} {pos : Pos} {test : List AV → Bool}
theorem js_retBox (ht : ∀ {c0 : Gc} {A D : Addr → Prop} {H : Hp} {xs : List AV} {vs : List V}, test xs = true → RepL c0 A D H xs vs → ok vs) (ha : JN X ct (BoxI ok) Ex a f) : JS X ct (BoxI ok) Ex (.Return (some a) pos) (sRetBox test f) := by
  refine PS.imp (ps_ret ha) fun D σ H h => ?_
  obtain ⟨g, ρ, R, h⟩ := h
  refine ⟨g, ρ, R, okT_bind0 h fun p q g' H' e d vs hn na ho R' r => ?_⟩
  by_cases hp : test p.1 = true
  · rw [if_pos hp] at q
    have e2 : Ext g { g' with B := fun b => g'.B b ∨ b = d, D := fun b => g'.D b ∨ b = d } H H' :=
      { keep := e.keep, live := e.live, m := e.m, bsub := fun b z => .inl (e.bsub b z), dsub := fun b z => .inl (e.dsub b z), own := e.own, s := e.s,
        bnew := fun b z => z.elim (e.bnew b) fun z => .inr (by rw [z]; exact hn) }
    refine okT_ret' q e2 (.ref d) ⟨fun b z => ?_, fun b z => z.elim (fun z => .inl (R'.box.2 b z)) .inr⟩ ?_
    · rcases z with z | z
      · exact R'.box.1 b z
      · rw [z]
        exact ⟨vs, ho, ht hp r⟩
    · rw [RepG, Rep]
      exact ⟨d, rfl, .inr rfl⟩
  · rw [if_neg hp] at q
    exact (show False from q).elim
end
/-- a draw below b -/
def spDraw (ok : List V → Prop) : Sp := fun vs H Q _ => ∃ (D : Addr) (b : Int) (l : List V), vs = [.ref D, .int b] ∧ H D = some (.lst l) ∧ ok l ∧ 1 ≤ b ∧ b < 2 ^ 64 ∧ ∀ (digit : Int) (l' : List V), 0 ≤ digit → digit < b → ok l' → Q (.int digit) (upd H D (.lst l'))
def fDraw : List AV → T AV
  | [.box, .int b] => if 1 ≤ b ∧ below b 64 = true then .draw b.toNat fun r => .ret (.int r) else .bad
  | _ => .bad
theorem fDraw_len (ts : List AV) (h : T.all (fun _ => True) (fun _ _ => True) (fDraw ts)) : ts.length = 2 := by
  unfold fDraw at h
  split at h
  · rfl
  · exact h.elim
theorem draw_of {P : Program} {w : World} {K : PySem.W.Frag} {mg : Str → Option Value} {base : Heap} {ct : CT} {ok : List V → Prop} {lv : Nat} {fa : Addr} {fd : FuncData} {ps : List Str} (F : FnOk P w K mg base CX0 lv fa fd ps (spDraw ok)) :
    FnOk P w K mg base (L2.CX P w) lv fa fd ps (spM ⟨K, mg, ct⟩ (BoxI ok) 2 fDraw) := by
  refine imp0 F fun vs H Q E h => ?_
  obtain ⟨g, ts, ho, hm, hmb, hb, r, hl, h⟩ := h
  have done : ∀ {ts : List AV}, okT ⟨K, mg, ct⟩ (BoxI ok) E g H (fDraw ts) (fun g' H' t => ∀ v, (BoxI ok).I g'.B g'.D H' → RepG ⟨K, mg, ct⟩ g' H' t v → Q v H') → ∃ b, ts = [.box, .int b] ∧ 1 ≤ b ∧ b < 2 ^ 64 ∧ ∀ r, r < b.toNat → ∀ g' H', Ext g g' H H' → ∀ v, (BoxI ok).I g'.B g'.D H' → RepG ⟨K, mg, ct⟩ g' H' (.int r) v → Q v H' := fun {ts} h => by
    unfold fDraw at h
    split at h
    · rename_i b
      by_cases hb : 1 ≤ b ∧ below b 64 = true
      · rw [if_pos hb] at h
        exact ⟨b, rfl, hb.1, by have := below_iff.mp hb.2; omega, h⟩
      · rw [if_neg hb] at h
        exact (show False from h).elim
    · exact (show False from h).elim
  obtain ⟨b, rfl, h1, h2, h3⟩ := done h
  rw [RepsG, RepL] at r
  obtain ⟨v, r1, rfl, hv, r⟩ := r
  rw [RepL] at r
  obtain ⟨v2, r2, rfl, hv2, r⟩ := r
  rw [RepL] at r
  subst r
  have hv : ∃ a, v = .ref a ∧ g.D a := by
    rw [Rep] at hv
    exact hv
  have hv2 : v2 = .int b := by
    rw [Rep] at hv2
    exact hv2
  obtain ⟨D, rfl, hD⟩ := hv
  subst hv2
  have hB := (BoxI ok).top hb hD
  obtain ⟨l, el, ol⟩ := hb.1 D hB
  refine ⟨D, b, l, rfl, el, ol, h1, h2, fun digit l' d0 d1 o' => ?_⟩
  have lD : H D ≠ none := by rw [el]; exact fun z => by cases z
  have e : Ext g g H (upd H D (.lst l')) := ⟨fun a o q _ nb => by rw [upd_ne (fun z => nb (by rw [z]; exact hB))]; exact q, fun a q => by
    by_cases z : a = D
    · rw [z, upd_same]; exact fun z => by cases z
    · rw [upd_ne z]; exact q, rfl, fun _ h => h, fun _ h => .inl h, fun _ h => h, fun i a h => .inl ⟨i, h⟩, rfl⟩
  have ed : ((digit.toNat : Nat) : Int) = digit := by omega
  have := h3 digit.toNat (by omega) g _ e (.int digit) ⟨fun a ha => ?_, hb.2⟩ (by rw [ed]; exact rep_int)
  · exact this
  · by_cases z : a = D
    · exact ⟨l', by rw [z, upd_same], o'⟩
    · rw [upd_ne z]
      exact hb.1 a ha
/-! ### the second kind: [cell, seed] -/
def okB (vs : List V) : Prop := ∃ c s : Int, vs = [.int c, .int s] ∧ 0 ≤ c ∧ 0 ≤ s ∧ s ≤ 2147483647
def testB : List AV → Bool
  | [.int c, .int s] => decide (0 ≤ c ∧ 0 ≤ s ∧ s ≤ 2147483647)
  | _ => false
theorem testB_ok {c0 : Gc} {A D : Addr → Prop} {H : Hp} {xs : List AV} {vs : List V} (h : testB xs = true) (r : RepL c0 A D H xs vs) : okB vs := by
  unfold testB at h
  split at h
  · rename_i c s
    have h := of_decide_eq_true h
    rw [RepL] at r
    obtain ⟨v, r1, rfl, hv, r⟩ := r
    rw [RepL] at r
    obtain ⟨v2, r2, rfl, hv2, r⟩ := r
    rw [RepL] at r
    subst r
    have hv : v = .int c := by
      rw [Rep] at hv
      exact hv
    have hv2 : v2 = .int s := by
      rw [Rep] at hv2
      exact hv2
    subst hv hv2
    exact ⟨c, s, rfl, h⟩
  · cases h
end Dn
namespace Dn
open PySem PySem.Spec PyProof.Rows L2
/-! ### repr of an int -/
def pRepr (a : AV) : Option AV := match a with
  | .int i => if i.natAbs.log2 < 1920 then some (.str (toString i)) else none
  | _ => none
theorem o_repr {X : Cx} {ct : CT} : Op1' X ct (fun x H Q => ∃ i, [x] = [V.int i] ∧ i.natAbs.log2 < 1920 ∧ Q (.str (toString i)) H) pRepr := by
  intro g H a z x Q live ra e q
  cases a with
  | int i =>
    obtain ⟨h, rfl⟩ := ifp_some (show (if i.natAbs.log2 < 1920 then some (AV.str (toString i)) else none) = some z from e)
    exact ⟨i, by rw [ra.int], h, q _ H (Same.refl H) rep_str⟩
  | _ => cases e
end Dn

set_option Elab.async false
set_option linter.all false
set_option maxRecDepth 100000
/-! ### enumerate(a tuple) -/
namespace PySem
namespace TrE
open Sem (wp)
open AutoSeq1 (wpAny_loadPart')
theorem enum_tup_new (tp : Addr) (us : Array Value) (m : Nat) (dx : Option Addr) (ss : Array (Option Value)) :
    Meets (Builtin.«enumerate.__new__» ⟨[.type "enumerate", .ref tp], []⟩) (fun _ R st => st.heap.get? tp = some { cls := .type "tuple", dict := dx, data := .seq us m, slots := ss } ∧
      R (.ok (.ret (.ref (st.heap.push { cls := .type "tuple_iterator", data := .fields #[.ref tp, .int 0 0] }).objs.size)))
        { st with heap := (st.heap.push { cls := .type "tuple_iterator", data := .fields #[.ref tp, .int 0 0] }).push { cls := .type "enumerate", data := .fields #[.none, .bool false, .ref st.heap.objs.size, rawInt 0, .none, .none] } }) :=
  .of_wp fun pg wd Ar R st hh => by
    obtain ⟨hp, gg, dd, tt, oo⟩ := st
    obtain ⟨hl, hr⟩ := hh
    have hsub := sub_enumerate
    have hT : Heap.IsTuple (Shared.heap ⟨hp, gg, dd, tt, oo⟩) tp us := ⟨_, hl, rfl, m, rfl⟩
    wp_walk using wpAny_loadPart' hl
    refine wpAny_stack_any fun _ => wpAny_pure ?_
    split
    · rename_i kk _ _ _ _ _
      cases (kk == Value.type "enumerate") <;> (wp_walk using wpAny_loadPart' hl, wpAny_pyIter_tuple hT; exact ⟨_, rfl, hr⟩)
    · wp_walk using wpAny_loadPart' hl, wpAny_pyIter_tuple hT; exact ⟨_, rfl, hr⟩
theorem call_enum_tup {pg : Program} {wd : World} {Ar : Around} {Er : Value → Shared → Prop} {st : Shared} {tp : Addr} {us : Array Value} {Q : Value → Shared → Prop} (hT : st.heap.IsTuple tp us)
    (hq : ∀ h2, IsEnum h2 (st.heap.objs.size + 1) st.heap.objs.size 0 .none → h2.IsTupleIter st.heap.objs.size tp 0 → (∀ b o, st.heap.get? b = some o → h2.get? b = some o) → Q (.ref (st.heap.objs.size + 1)) { st with heap := h2 }) :
    wpAny (model pg wd) Ar (call (.type "enumerate") [.ref tp]) Q Er st := by
  obtain ⟨⟨cc, dx, dt, ss⟩, hl, hc, m, hd⟩ := hT
  have hc2 : cc = .type "tuple" := hc
  have hd2 : dt = .seq us m := hd
  subst hc2 hd2
  refine callType_new F.called_enumerate (by decide) (F.typeCall_enumerate_1 _) (F.newCall_enumerate_1 _) (fun _ => F.args_object_init_2 _ _) F.entry_enumerate_new (enum_tup_new tp us m dx ss) ⟨hl, ?_⟩
  generalize hn : ({ cls := .type "tuple_iterator", data := .fields #[.ref tp, .int 0 0] } : Obj) = n1
  have z1 : (st.heap.push n1).objs.size = st.heap.objs.size + 1 := Heap.size_push ..
  show _ ∧ _
  rw [z1]
  generalize hm2 : ({ cls := .type "enumerate", data := .fields #[.none, .bool false, .ref st.heap.objs.size, rawInt 0, .none, .none] } : Obj) = n2
  have e2 : ((st.heap.push n1).push n2).get? (st.heap.objs.size + 1) = some n2 := by
    have q := Heap.get?_push_size (st.heap.push n1) (o := n2) (by rw [← hm2]; rfl)
    rwa [z1] at q
  have e1 : ((st.heap.push n1).push n2).get? st.heap.objs.size = some n1 := Heap.get?_push_of_some _ (Heap.get?_push_size _ (by rw [← hn]; rfl))
  refine ⟨⟨_, e2, by rw [← hm2]⟩, hq _ (by rw [← hm2] at e2 ⊢; exact e2) ⟨n1, e1, by rw [← hn], by rw [← hn]; rfl⟩ fun b o x => Heap.get?_push_of_some _ (Heap.get?_push_of_some _ x)⟩
end TrE
end PySem
namespace Dn
open PySem PySem.Spec PyProof.Rows L2
/-- the tuple at a, each item in a new pair -/
def IteT (K : PySem.W.Frag) (a : Addr) (n : Nat) : It :=
  ⟨fun i H => ∃ (xs : List V) (x : V), SqT K H a xs ∧ xs.length = n ∧ xs[i]? = some x, fun i H v H' => ∃ p x, v = .ref p ∧ H p = none ∧ H' = upd H p (.tup [.int (i : Nat), x]) ∧ ∀ xs, SqT K H a xs → xs[i]? = some x, fun i H => (∃ xs : List V, SqT K H a xs ∧ xs.length = n) ∧ n ≤ i⟩
theorem turn_enumT {P : Program} {w : World} {K : PySem.W.Frag} {elts : List Expr} {kk : Nat} {tpos : Pos} (a e it : Addr) (n : Nat) :
    Turn P w K (.Tuple elts kk tpos) (IteT K a n) [e, it] e (fun i h => i ≤ n ∧ (∃ old, IsEnum h e it ((i : Nat) : Int) old) ∧ h.IsTupleIter it a i ∧ e ≠ it) where
  mem := by simp
  obj := fun i h st b hb => by
    obtain ⟨_, ⟨old, he⟩, ⟨o, ho, hc, hd⟩, _⟩ := st
    rcases (show b = e ∨ b = it by simpa using hb) with z | z
    · subst z; exact ⟨_, he, fun v q => nomatch q⟩
    · subst z; exact ⟨o, ho, fun v q => by rw [hd] at q; cases q⟩
  keep := fun i h h' st k => ⟨st.1, ⟨st.2.1.choose, k e (by simp) _ st.2.1.choose_spec⟩, st.2.2.1.at fun o q => k it (by simp) o q, st.2.2.2⟩
  item := by
    intro X hP hw hK hc i pins s σ H E I hf st hg
    subst hP hw hK
    obtain ⟨hin, ⟨old, he⟩, hit, hne⟩ := st
    obtain ⟨xs, x, hq, hxl, hx⟩ := hg
    obtain ⟨us, rv, p, hz⟩ := I.tuple hq
    obtain ⟨u, hu, ru⟩ := rv.get hx
    have hel : e < s.heap.objs.size := Heap.lt_size he
    have hil : it < s.heap.objs.size := by
      obtain ⟨_, q, _⟩ := hit
      exact Heap.lt_size q
    have hae : a ≠ e := fun z => by
      obtain ⟨o, q, hcl, _⟩ := p
      rw [z] at q
      have q2 := he
      unfold IsEnum at q2
      rw [q] at q2
      have q3 := Option.some.inj q2
      rw [q3] at hcl
      exact absurd (Value.type.inj hcl) (by decide)
    have hai : a ≠ it := fun z => by
      obtain ⟨o, q, hcl, _⟩ := p
      obtain ⟨o', q', hcl', _⟩ := hit
      rw [z, q'] at q
      cases q
      rw [hcl'] at hcl
      exact absurd (Value.type.inj hcl) (by decide)
    have hlt : i < us.toArray.size := by
      rw [List.size_toArray]
      exact (List.getElem?_eq_some_iff.mp hu).1
    refine wpAny_pyNext_enum_itemD (Draws.tuple (A := X.A.in1) (I.ok.hd hc) it a hai us.toArray) he ⟨hit, p⟩ hlt hne (by simp [hne, Ne.symm hae]) fun y h' tk hy ho hst hT hsz hk => ?_
    have ey : y = u := by
      have q1 : us[i]? = some y := by simpa using hy
      rw [hu] at q1
      exact (Option.some.inj q1).symm
    subst ey
    refine ⟨_, rfl, wpAny_letOwnedTupleGo_enum (s := { s with heap := h', toks := tk + 1 }) ho fun h2 he' sb => ?_⟩
    have hT2 : h2.get? s.heap.objs.size = some { cls := .type "tuple", data := .seq #[.int i tk, y] } := (sb.2 _ (Nat.ne_of_gt hel)).trans hT
    have I1 : Inv X pins σ (upd H s.heap.objs.size (.tup [.int (i : Nat), x])) { s with heap := h2, toks := tk + 1 } :=
      I.turnedNew (ch := [e, it]) (fun b ob hb q => (sb.2 b (fun z => hb (by simp [z]))).trans (hk b ob (fun z => hb (by simp [z])) (fun z => hb (by simp [z])) q)) hf (Nat.le_refl _)
        ⟨by show 2 ≤ sizeLine; decide, [.int i tk, y], .cons ⟨_, rfl⟩ (.cons ru .nil), ⟨_, hT2, rfl, _, rfl⟩⟩
    refine ⟨.ref s.heap.objs.size, _, I1, rfl, ⟨_, x, rfl, I.hok.fresh (Nat.le_refl _), rfl, fun ys hy => by rw [I.tuple_inj hy hq]; exact hx⟩, ⟨(by rw [← hxl]; exact (List.getElem?_eq_some_iff.mp hx).1), ⟨y, ?_⟩, hst.1.at fun o q => (sb.2 it (Ne.symm hne)).trans q, hne⟩, fun b hb => ?_⟩
    · rw [show ((i + 1 : Nat) : Int) = (i : Int) + 1 by omega]
      exact he'
    · have hb' : b < s.heap.objs.size := by
        rcases (show b = e ∨ b = it by simpa using hb) with z | z
        · rw [z]; exact hel
        · rw [z]; exact hil
      rw [upd_ne (Nat.ne_of_lt hb')]
      exact (hf b hb).1
  done := by
    intro X hP hw hK hc i pins s σ H E I hf st hg
    subst hP hw hK
    obtain ⟨hin, ⟨old, he⟩, hit, hne⟩ := st
    obtain ⟨⟨xs, hq, hxl⟩, hni⟩ := hg
    have ei : i = n := by omega
    subst ei
    obtain ⟨us, rv, p, hz⟩ := I.tuple hq
    obtain ⟨f0, f1, f2, f3, f4, f5⟩ := hf it (by simp)
    have hai : a ≠ it := fun z => by
      obtain ⟨o, q, hcl, _⟩ := p
      obtain ⟨o', q', hcl', _⟩ := hit
      rw [z, q'] at q
      cases q
      rw [hcl'] at hcl
      exact absurd (Value.type.inj hcl) (by decide)
    have ez : us.toArray.size = i := by rw [List.size_toArray, ← rv.length, hxl]
    refine wpAny_pyNext_enum_endD (Draws.tuple (A := X.A.in1) (I.ok.hd hc) it a hai us.toArray) he (by rw [ez]; exact ⟨hit, p⟩) fun h' eb => ?_
    exact ⟨rfl, I.turned (t' := s.toks) (fun b o hb q => eb b o hb q) f0 f1 f3 f4 f5⟩
  self := fun A i s Q E st h => let ⟨_, ⟨_, he⟩, _⟩ := st; wpAny_pyIter_enum he h
/-- enumerate of a list or of a tuple -/
def iEnA (K : PySem.W.Frag) (ta : TA) : TI := fun σ H R => ta σ H fun vs H1 => ∃ a xs, vs = [.ref a] ∧ ((SqL K H1 a xs ∧ R (Ite K a) H1) ∨ (SqT K H1 a xs ∧ R (IteT K a xs.length) H1))
theorem pi_enumA {X : Cx} {e : Expr} {ta : TA} {p pos tpos : Pos} {elts : List Expr} {kk : Nat} (hg : Gl X "enumerate") (hm : X.mg "enumerate" = none) (ha : PA X [e] ta) (hs : starEach [e] X.env = [(false, eval e X.env)] := by rfl) :
    PI X (.Tuple elts kk tpos) (.Call (.Name "enumerate" p) [e] [] pos) (iEnA X.K ta) := by
  constructor
  intro pins s σ H R I h
  refine Call_ (ld_blt I hg hm boot_enumerate (PyProof.Rows.callWith_type1 (thn (ha.run pos pins s σ H _ I h) fun us s1 ⟨vs, H1, I1, r1, q1⟩ => ?_) hs rfl))
  obtain ⟨a, xs, ex, q⟩ := q1
  subst ex
  obtain ⟨u, rfl, ru⟩ := vals1 r1
  cases (show u = Value.ref a from ru)
  have two : ∀ b : Addr, b ∈ [s1.heap.objs.size + 1, s1.heap.objs.size] → FpOk X pins H1 b := fun b hb => by
    have hle : s1.heap.objs.size ≤ b := by
      rcases (show b = s1.heap.objs.size + 1 ∨ b = s1.heap.objs.size by simpa using hb) with z | z
      · rw [z]; exact Nat.le_add_right _ _
      · rw [z]; exact Nat.le_refl _
    exact I1.fpOk hle (I1.hok.fresh hle)
  rcases q with ⟨hq, q⟩ | ⟨hq, q⟩
  · obtain ⟨its, rv, pl, _⟩ := I1.list hq
    refine call_enumerate_list pl.isList fun h' he hit hsz hk => wpAny_pyIter_enum he ?_
    exact ⟨s1.heap.objs.size + 1, [s1.heap.objs.size + 1, s1.heap.objs.size], _, _, H1, rfl, I1.kept (t' := s1.toks) hk, turn_enum a _ _, ⟨⟨.none, he⟩, hit, Nat.succ_ne_self _⟩, two, q⟩
  · obtain ⟨its, rv, pt, _⟩ := I1.tuple hq
    refine PySem.TrE.call_enum_tup (show s1.heap.IsTuple a its.toArray from pt) fun h' he hit hk => wpAny_pyIter_enum he ?_
    exact ⟨s1.heap.objs.size + 1, [s1.heap.objs.size + 1, s1.heap.objs.size], _, _, H1, rfl, I1.kept (t' := s1.toks) hk, turn_enumT a _ _ xs.length, ⟨Nat.zero_le _, ⟨.none, he⟩, hit, Nat.succ_ne_self _⟩, two, q⟩
theorem wk_enumT {c0 : Gc} {g : G} {H : Hp} {a : Addr} {xs : List AV} (h : RepG c0 g H (.tup xs) (.ref a)) : Wk c0 g H (IteT c0.K a xs.length) (enumL 0 xs) := by
  have at_ : ∀ (g' : G) (H' : Hp), Keeps c0 g g' H H' → ∃ vs, SqT c0.K H' a vs ∧ RepsG c0 g' H' xs vs := fun g' H' k => by
    have q := k _ _ h
    rw [RepG, Rep] at q
    obtain ⟨a', vs, e, ho, r⟩ := q
    cases e
    exact ⟨vs, ho.sq, r⟩
  refine ⟨fun g' H' i e hi => ?_, fun g' H' H2 i x v e lv hx hy => ?_, fun g' H' i e hi => ?_⟩
  · obtain ⟨vs, ho, r⟩ := at_ g' H' e
    rw [enumL_length] at hi
    exact ⟨vs, vs[i]'(by rw [r.length]; exact hi), ho, r.length, List.getElem?_eq_getElem _⟩
  · obtain ⟨T, y, rfl, hT, e1, hy⟩ := hy
    subst e1
    obtain ⟨vs, ho, r⟩ := at_ g' _ e
    obtain ⟨z, ez, rfl⟩ := enumL_get xs 0 i x hx
    obtain ⟨w, ew, rw'⟩ := r.get (hy vs ho)
    rw [ez] at ew
    cases ew
    have s : Same H' (upd H' T (.tup [.int (i : Nat), y])) := same_upd hT
    refine ⟨s, rep_tup_new (fun z => lv T z hT) upd_same (.cons ?_ (.one ((Ext.same s).rep rw')))⟩
    rw [Nat.zero_add]
    exact rep_int
  · obtain ⟨vs, ho, r⟩ := at_ g' H' e
    rw [enumL_length] at hi
    exact ⟨⟨vs, ho, r.length⟩, hi⟩
def iEnum (f : Sem) : SemI := fun ρ => (f ρ).bind fun p => (frz p).bind fun q => (lift (seqOf q.1)).bind fun xs => .ret (enumL 0 xs, q.2)
theorem ji_enumA {X : Cx} {ct : CT} {β : BInv} {Ex : XK} {e : Expr} {f : Sem} {p pos tpos : Pos} {elts : List Expr} {kk : Nat} (hg : Gl X "enumerate") (hm : X.mg "enumerate" = none) (ha : JE X ct β Ex e f) (hs : starEach [e] X.env = [(false, eval e X.env)] := by rfl) (he : starEach [e] X.env = (false, eval e X.env) :: starEach [] X.env := by rfl) :
    JI X ct β Ex (.Tuple elts kk tpos) (.Call (.Name "enumerate" p) [e] [] pos) (iEnum f) := by
  refine PI.imp (pi_enumA hg hm (pa_cons ha pa_nil he) hs) fun σ H R h => ?_
  obtain ⟨g, ρ, Rl, h⟩ := h
  refine ⟨g, ρ, Rl, okT_mono (okT_bind h) fun g1 H1 p e1 h1 x R1 rx => ?_⟩
  obtain ⟨g2, s, e2, R2, rs, h2⟩ := frz_ok R1 rx h1
  obtain ⟨xs, ex, h3⟩ := okT_lift h2
  obtain ⟨t, ρ2⟩ := s
  cases t with
  | lst ys =>
    cases ex
    have rs0 := rs
    rw [RepG, Rep] at rs
    obtain ⟨q, vs, rfl, hq, _⟩ := rs
    exact ⟨q, vs, rfl, .inl ⟨hq.sq, okT_ret h3 _ R2 (wk_enum rs0)⟩⟩
  | tup ys =>
    cases ex
    have rs0 := rs
    rw [RepG, Rep] at rs
    obtain ⟨q, vs, rfl, hq, r⟩ := rs
    refine ⟨q, vs, rfl, .inr ⟨hq.sq, okT_ret h3 _ R2 ?_⟩⟩
    rw [r.length]
    exact wk_enumT rs0
  | _ => cases ex
end Dn

set_option Elab.async false
set_option linter.all false
set_option maxRecDepth 100000
namespace Dn
open PySem PySem.Spec PyProof.Rows L2
/-! ### what all ends of a run have: piece by piece -/
section
variable {Q : Out → Prop} {E : Nat → List AV → Prop} {ρ : Env'} {f k : SSem} {fe : Sem} {fn : SemN} {fb : SemB} {i : Nat}
def Nx (R : Env' → Prop) (Q : Out → Prop) : Out → Prop
  | .nx ρ => R ρ
  | o => Q o
theorem sSeq_all (h : (f ρ).all (Nx (fun ρ' => (k ρ').all Q E) Q) E) : (sSeq f k ρ).all Q E := by
  unfold sSeq
  refine T.all_bind.mpr (T.all_mono h (fun o q => ?_) fun _ _ z => z)
  cases o <;> exact q
theorem sNil_all (h : Q (.nx ρ)) : (sNil ρ).all Q E := h
theorem sSet_all (h : (fe ρ).all (fun p => (frz p).all (fun q => Q (.nx (q.2.set i (.fro q.1)))) E) E) : (sSet i fe ρ).all Q E := by
  unfold sSet
  exact T.all_bind.mpr (T.all_mono h (fun p q => T.all_bind.mpr q) fun _ _ z => z)
theorem sSetN_all (h : (fn ρ).all (fun p => Q (.nx (p.2.set i (.ml p.1)))) E) : (sSetN i fn ρ).all Q E := T.all_bind.mpr h
theorem sExpr_all (h : (fe ρ).all (fun p => Q (.nx p.2)) E) : (sExpr fe ρ).all Q E := T.all_bind.mpr h
theorem sRet_all (h : (fe ρ).all (fun p => (frz p).all (fun q => Q (.rt q.1)) E) E) : (sRet fe ρ).all Q E := by
  unfold sRet
  exact T.all_bind.mpr (T.all_mono h (fun p q => T.all_bind.mpr q) fun _ _ z => z)
theorem sIf_all (h : (fb ρ).all (fun p => if p.1 = true then (f p.2).all Q E else (k p.2).all Q E) E) : (sIf fb f k ρ).all Q E := by
  unfold sIf
  refine T.all_bind.mpr (T.all_mono h (fun p q => ?_) fun _ _ z => z)
  by_cases hp : p.1 = true
  · rw [if_pos hp] at q ⊢; exact q
  · rw [if_neg hp] at q ⊢; exact q
theorem sFor_all {it : SemI} {g : GSem} (h : (it ρ).all (fun p => (forL g f p.1 p.2).all Q E) E) : (sFor it g f ρ).all Q E := T.all_bind.mpr h
theorem fCall_all {fnc : List AV → T AV} {dts : List AV} {m : SemL} {R : Hd × Env' → Prop} (h : (m ρ).all (fun p => (fnc (p.1 ++ dts)).all (fun t => R (.val t, p.2)) E) E) : (fCall fnc dts m ρ).all R E := by
  unfold fCall
  exact T.all_bind.mpr (T.all_mono h (fun p q => T.all_bind.mpr q) fun _ _ z => z)
theorem iRange1_all {R : List AV × Env' → Prop} (h : (fe ρ).all (fun p => ∃ n : Nat, rs p.1 p.2 = some (.int (n : Int)) ∧ n < 2 ^ 40 ∧ R (rangeL 0 n, p.2)) E) : (iRange1 fe ρ).all R E := by
  unfold iRange1
  refine T.all_bind.mpr (T.all_mono h (fun p q => ?_) fun _ _ z => z)
  obtain ⟨n, e, hn, q⟩ := q
  rw [e, lift_some, bind_ret', show intOf (.int (n : Int)) = some (n : Int) from rfl, lift_some, bind_ret']
  have b1 : below (n : Int) 62 = true := below_of (by rw [Int.natAbs_natCast]; exact Nat.lt_of_lt_of_le hn (by decide))
  rw [if_pos b1, Int.toNat_natCast]
  exact q
theorem range_len (lo : Int) (n : Nat) : (rangeL lo n).length = n := by
  unfold rangeL
  rw [List.length_map, List.length_range]
theorem range_get {lo : Int} {n i : Nat} {x : AV} (h : (rangeL lo n)[i]? = some x) : i < n ∧ x = .int (lo + (i : Int)) := by
  unfold rangeL at h
  rw [List.getElem?_map] at h
  by_cases hi : i < n
  · rw [List.getElem?_range hi] at h
    cases h
    exact ⟨hi, rfl⟩
  · rw [List.getElem?_eq_none (by rw [List.length_range]; omega)] at h
    cases h
theorem fnOf_all {np n : Nat} {body : SSem} {ts : List AV} {R : AV → Prop} (hl : ts.length = np) (h : (body (ts.map Slot.fro ++ List.replicate (n - np) .un)).all (fun o => match o with | .rt t => R t | .nx _ => R .non | _ => False) E) : (fnOf np n body ts).all R E := by
  unfold fnOf
  rw [if_pos hl]
  refine T.all_bind.mpr (T.all_mono h (fun o q => ?_) fun _ _ z => z)
  cases o <;> exact q
/-- nothing but the next statement -/
def NxI (I : Env' → Prop) : Out → Prop
  | .nx ρ => I ρ
  | _ => False
theorem nxI {I : Env' → Prop} (h : I ρ) : NxI I (.nx ρ) := h
theorem sSeq_ret {ρ1 : Env'} (h : f ρ = .ret (.nx ρ1)) (h2 : (k ρ1).all Q E) : (sSeq f k ρ).all Q E := by
  unfold sSeq
  rw [h]
  exact h2
theorem sSeq_draw {n : Nat} {g : Nat → Env'} (h : f ρ = .draw n fun r => .ret (.nx (g r))) (h2 : ∀ r, r < n → (k (g r)).all Q E) : (sSeq f k ρ).all Q E := by
  unfold sSeq
  rw [h]
  exact h2
theorem sSeq_nx {I : Env' → Prop} (h : (f ρ).all (NxI I) E) (h2 : ∀ ρ1, I ρ1 → (k ρ1).all Q E) : (sSeq f k ρ).all Q E := by
  unfold sSeq
  refine T.all_bind.mpr (T.all_mono h (fun o q => ?_) fun _ _ z => z)
  cases o with
  | nx ρ1 => exact h2 ρ1 q
  | _ => exact (show False from q).elim
/-- x = g(..), what the call gives being known by a property alone -/
theorem sSeq_call {fnc : List AV → T AV} {m : SemL} {ts : List AV} {ρ1 : Env'} {R : AV → Prop} (ha : m ρ = .ret (ts, ρ1)) (hf : (fnc ts).all R E) (h2 : ∀ t, R t → (k (ρ1.set i (.fro t))).all Q E) : (sSeq (sSet i (fCall fnc [] m)) k ρ).all Q E := by
  unfold sSeq sSet fCall
  rw [ha, bind_ret', List.append_nil]
  refine T.all_bind.mpr (T.all_bind.mpr (T.all_bind.mpr (T.all_mono hf (fun t q => ?_) fun _ _ z => z)))
  exact h2 t q
theorem forL_inv {g : GSem} {body : SSem} (I : Nat → Env' → Prop) {xs : List AV} (h0 : I 0 ρ) (step : ∀ (i : Nat) (x : AV) (ρ : Env'), xs[i]? = some x → I i ρ → (g x ρ).all (fun ρ1 => (body ρ1).all (NxI (I (i + 1))) E) E) : (forL g body xs ρ).all (NxI (I xs.length)) E := by
  refine forL_all I h0 (fun i x ρ hx hI => T.all_mono (step i x ρ hx hI) (fun ρ1 q => T.all_mono q (fun o q => ?_) fun _ _ z => z) fun _ _ z => z) fun ρ h => h
  cases o with
  | nx ρ' => exact q
  | _ => exact (show False from q).elim
/-- a for loop as a statement -/
theorem sFor_inv {it : SemI} {g : GSem} {body : SSem} {xs : List AV} {ρ1 : Env'} (I : Nat → Env' → Prop) (hit : it ρ = .ret (xs, ρ1)) (h0 : I 0 ρ1) (step : ∀ (i : Nat) (x : AV) (ρ : Env'), xs[i]? = some x → I i ρ → (g x ρ).all (fun ρ1 => (body ρ1).all (NxI (I (i + 1))) E) E) : (sFor it g body ρ).all (NxI (I xs.length)) E := by
  unfold sFor
  rw [hit]
  exact forL_inv I h0 step
theorem sNil_nx {I : Env' → Prop} (h : I ρ) : (sNil ρ).all (NxI I) E := h
theorem tg_name {j : Nat} {x : AV} {R : Env' → Prop} (h : R (ρ.set j (.fro x))) : (tgName j x ρ).all R E := h
theorem range1_ok {fe : Sem} {ρ' : Env'} {h : Hd} {n : Nat} (hf : fe ρ = .ret (h, ρ')) (hr : rs h ρ' = some (.int (n : Int))) (hn : n < 2 ^ 40) : iRange1 fe ρ = .ret (rangeL 0 n, ρ') := by
  unfold iRange1
  rw [hf, bind_ret']
  dsimp only
  rw [hr, lift_some, bind_ret', show intOf (.int (n : Int)) = some (n : Int) from rfl, lift_some, bind_ret']
  have b1 : below (n : Int) 62 = true := below_of (by rw [Int.natAbs_natCast]; exact Nat.lt_of_lt_of_le hn (by decide))
  rw [if_pos b1, Int.toNat_natCast]
end
end Dn

set_option Elab.async false
set_option linter.all false
set_option maxRecDepth 100000
namespace Dn
open PySem PySem.Spec PyProof.Rows L2
/-! ### T.all, not looked into when terms are compared -/
@[irreducible] def T.Al {α : Type} (m : T α) (Q : α → Prop) (E : Nat → List AV → Prop) : Prop := m.all Q E
theorem al_iff {α : Type} {m : T α} {Q : α → Prop} {E : Nat → List AV → Prop} : m.Al Q E ↔ m.all Q E := by
  unfold T.Al
  exact Iff.rfl
section
variable {α γ : Type} {Q : Out → Prop} {E : Nat → List AV → Prop} {ρ : Env'} {f k : SSem} {fe : Sem} {fn : SemN} {fb : SemB} {i : Nat}
theorem al_mono {m : T α} {P P' : α → Prop} (h : m.Al P E) (hp : ∀ a, P a → P' a) : m.Al P' E := al_iff.mpr (T.all_mono (al_iff.mp h) hp fun _ _ z => z)
theorem al_bind {m : T α} {g : α → T γ} {P : α → Prop} {R : γ → Prop} (h : m.Al P E) (h2 : ∀ a, P a → (g a).Al R E) : (m.bind g).Al R E := al_iff.mpr (T.all_bind.mpr (T.all_mono (al_iff.mp h) (fun a z => al_iff.mp (h2 a z)) fun _ _ z => z))
theorem al_ret {a : α} {P : α → Prop} (h : P a) : (T.ret a).Al P E := al_iff.mpr h
theorem al_eq {m : T α} {a : α} {P : α → Prop} (h : m = .ret a) (hp : P a) : m.Al P E := by rw [h]; exact al_ret hp
theorem al_draw {m : T α} {n : Nat} {g : Nat → T α} {P : α → Prop} (h : m = .draw n g) (hp : ∀ r, r < n → (g r).Al P E) : m.Al P E := by
  rw [h]
  exact al_iff.mpr fun r hr => al_iff.mp (hp r hr)
theorem aSeq_ret (ρ1 : Env') (h : f ρ = .ret (.nx ρ1)) (h2 : (k ρ1).Al Q E) : (sSeq f k ρ).Al Q E := al_iff.mpr (sSeq_ret h (al_iff.mp h2))
theorem aSeq_draw (n : Nat) (g : Nat → Env') (h : f ρ = .draw n fun r => .ret (.nx (g r))) (h2 : ∀ r, r < n → (k (g r)).Al Q E) : (sSeq f k ρ).Al Q E := al_iff.mpr (sSeq_draw h fun r hr => al_iff.mp (h2 r hr))
theorem aSeq_nx (I : Env' → Prop) (h : (f ρ).Al (NxI I) E) (h2 : ∀ ρ1, I ρ1 → (k ρ1).Al Q E) : (sSeq f k ρ).Al Q E := al_iff.mpr (sSeq_nx (al_iff.mp h) fun ρ1 z => al_iff.mp (h2 ρ1 z))
theorem aSeq_call {fnc : List AV → T AV} {m : SemL} {R : AV → Prop} (ts : List AV) (ρ1 : Env') (ha : m ρ = .ret (ts, ρ1)) (hf : (fnc ts).Al R E) (h2 : ∀ t, R t → (k (ρ1.set i (.fro t))).Al Q E) : (sSeq (sSet i (fCall fnc [] m)) k ρ).Al Q E :=
  al_iff.mpr (sSeq_call ha (al_iff.mp hf) fun t z => al_iff.mp (h2 t z))
/-- a test whose value hangs on a call that is known by a property alone; the branch that is taken is empty -/
theorem aIf_skip {fnc : List AV → T AV} {ts : List AV} {R : AV → Prop} {g : AV → T (Bool × Env')} (ht : fb ρ = (fnc ts).bind g) (hf : (fnc ts).Al R E) (h2 : ∀ t, R t → g t = .ret (false, ρ)) : (sIf fb f sNil ρ).Al (NxI (fun ρ' => ρ' = ρ)) E := by
  unfold sIf
  rw [ht]
  refine al_iff.mpr (T.all_bind.mpr (T.all_bind.mpr (T.all_mono (al_iff.mp hf) (fun t z => ?_) fun _ _ z => z)))
  rw [h2 t z]
  exact (rfl : ρ = ρ)
theorem aNil {I : Env' → Prop} (h : I ρ) : (sNil ρ).Al (NxI I) E := al_iff.mpr h
theorem aRet (v : AV) (ρ1 : Env') (h : (fe ρ).bind frz = .ret (v, ρ1)) {P : Out → Prop} (hp : P (.rt v)) : (sSeq (sRet fe) k ρ).Al P E := by
  have q : ((fe ρ).bind frz).all (fun q => q = (v, ρ1)) E := by
    rw [h]
    exact (rfl : (v, ρ1) = (v, ρ1))
  refine al_iff.mpr (sSeq_all (sRet_all (T.all_mono (T.all_bind.mp q) (fun p z => T.all_mono z (fun q e => ?_) fun _ _ z => z) fun _ _ z => z)))
  rw [e]
  exact hp
theorem aFor_inv {it : SemI} {g : GSem} {body : SSem} (I : Nat → Env' → Prop) (xs : List AV) (ρ1 : Env') (hit : it ρ = .ret (xs, ρ1)) (h0 : I 0 ρ1) (step : ∀ (i : Nat) (x : AV) (ρ : Env'), xs[i]? = some x → I i ρ → (g x ρ).Al (fun ρ1 => (body ρ1).Al (NxI (I (i + 1))) E) E) : (sFor it g body ρ).Al (NxI (I xs.length)) E :=
  al_iff.mpr (sFor_inv I hit h0 fun i x ρ hx hI => T.all_mono (al_iff.mp (step i x ρ hx hI)) (fun _ z => al_iff.mp z) fun _ _ z => z)
theorem aTg_name {j : Nat} {x : AV} {R : Env' → Prop} (h : R (ρ.set j (.fro x))) : (tgName j x ρ).Al R E := al_iff.mpr h
theorem aFn {np n : Nat} {body : SSem} {ts : List AV} {R : AV → Prop} (hl : ts.length = np) (h : (body (ts.map Slot.fro ++ List.replicate (n - np) .un)).Al (fun o => match o with | .rt t => R t | .nx _ => R .non | _ => False) E) : (fnOf np n body ts).Al R E := al_iff.mpr (fnOf_all hl (al_iff.mp h))
end
end Dn
namespace Dn
open PySem PySem.Spec PyProof.Rows L2
/-! ### is; repr of an int, a bool, None -/
def pIs (a b : AV) : Option AV := match b with
  | .non => pIsN a .non
  | .bl k => match a with
    | .bl j => some (.bl (decide (j = k)))
    | _ => none
  | _ => none
def pNotIs (a b : AV) : Option AV := match b with
  | .non => pNotN a .non
  | .bl k => match a with
    | .bl j => some (.bl (!decide (j = k)))
    | _ => none
  | _ => none
section
variable {X : Cx} {ct : CT}
theorem op_isA : OpR X (compareOp .Is) (fun x y H Q => (y = .non ∧ Q (.bl (decide (x = .non))) H) ∨ (∃ a b, x = .bl a ∧ y = .bl b ∧ Q (.bl (decide (a = b))) H)) := op_isN.or op_is_bl
theorem op_isnotA : OpR X (compareOp .IsNot) (fun x y H Q => (y = .non ∧ Q (.bl (!decide (x = .non))) H) ∨ (∃ a b, x = .bl a ∧ y = .bl b ∧ Q (.bl (!decide (a = b))) H)) := op_notN.or op_isnot_bl
theorem o_isA : Op2p X ct (fun x y H Q => (y = .non ∧ Q (.bl (decide (x = .non))) H) ∨ (∃ a b, x = .bl a ∧ y = .bl b ∧ Q (.bl (decide (a = b))) H)) pIs := by
  intro g H a b z x y Q ra rb e q
  cases b with
  | non => exact .inl (o_isN g H a .non z x y Q ra rb e q)
  | bl k =>
    cases a with
    | bl j =>
      cases e
      exact .inr ⟨j, k, ra.bl, rb.bl, q _ rep_bl⟩
    | _ => cases e
  | _ => cases e
theorem o_isnotA : Op2p X ct (fun x y H Q => (y = .non ∧ Q (.bl (!decide (x = .non))) H) ∨ (∃ a b, x = .bl a ∧ y = .bl b ∧ Q (.bl (!decide (a = b))) H)) pNotIs := by
  intro g H a b z x y Q ra rb e q
  cases b with
  | non => exact .inl (o_notN g H a .non z x y Q ra rb e q)
  | bl k =>
    cases a with
    | bl j =>
      cases e
      exact .inr ⟨j, k, ra.bl, rb.bl, q _ rep_bl⟩
    | _ => cases e
  | _ => cases e
def rRepS : List V → Hp → VK → Prop := fun xs H Q => (∃ i, xs = [.int i] ∧ i.natAbs.log2 < 1920 ∧ Q (.str (toString i)) H) ∨ (∃ b, xs = [.bl b] ∧ Q (.str (if b then "True" else "False")) H) ∨ (xs = [.non] ∧ Q (.str "None") H)
theorem call_reprS : CallR X (.builtin "repr") rRepS := by
  intro pins s σ H xs us Q I r h
  rcases h with ⟨i, rfl, hz, q⟩ | ⟨b, rfl, q⟩ | ⟨rfl, q⟩
  · exact SkE.call_repr_int pins s σ H _ us Q I r ⟨i, rfl, hz, q⟩
  · obtain ⟨u, rfl, ru⟩ := vals1 r
    cases (show u = Value.bool b from ru)
    exact PySem.P.repr_of_bool ⟨.str _, H, I.tok _, ⟨_, rfl⟩, q⟩
  · obtain ⟨u, rfl, ru⟩ := vals1 r
    cases (show u = Value.none from ru)
    exact PySem.P.repr_of_none ⟨.str _, H, I.tok _, ⟨_, rfl⟩, q⟩
def pReprS (a : AV) : Option AV := match a with
  | .int i => if i.natAbs.log2 < 1920 then some (.str (toString i)) else none
  | .bl b => some (.str (if b then "True" else "False"))
  | .non => some (.str "None")
  | _ => none
theorem o_reprS : Op1' X ct (fun x H Q => rRepS [x] H Q) pReprS := by
  intro g H a z x Q live ra e q
  cases a with
  | int i =>
    obtain ⟨h, rfl⟩ := ifp_some (show (if i.natAbs.log2 < 1920 then some (AV.str (toString i)) else none) = some z from e)
    exact .inl ⟨i, by rw [ra.int], h, q _ H (Same.refl H) rep_str⟩
  | bl b =>
    cases e
    exact .inr (.inl ⟨b, by rw [ra.bl], q _ H (Same.refl H) rep_str⟩)
  | non =>
    cases e
    exact .inr (.inr ⟨by rw [ra.non], q _ H (Same.refl H) rep_str⟩)
  | _ => cases e
end
end Dn

set_option Elab.async false
set_option linter.all false
set_option maxRecDepth 100000
namespace Dn
open PySem PySem.Spec PyProof.Rows L2
/-! ### defs that are called where no repr is under way -/
/-- as the library's FnOk, asked only where nothing is being shown -/
structure FnG (P : Program) (w : World) (K : PySem.W.Frag) (mg : Str → Option Value) (base : Heap) (cx : CXT) (lv : Nat) (fa : Addr) (fd : FuncData) (ps : List Str) (sp : Sp) : Prop where
  len : ∀ vs H Q E, sp vs H Q E → vs.length = ps.length
  go : ∀ (A : Around), A.guards = some [] → Room lv A → ∀ (out : List Env) (s : Shared) (H : Hp) (ar : Args) (us : List Value) (vs : List V) (Q : VK) (E : XK), Env0 P w K mg base A out s H → BindsTo s fd ar (ps.zip us) → Vals vs us → sp vs H Q E → codeAny (model P w) A (.call (.ref fa) ar) (CR cx out P w H s Q E) s
section
variable {P : Program} {w : World} {K : PySem.W.Frag} {mg : Str → Option Value} {base : Heap} {cx : CXT} {lv : Nat} {fa : Addr} {fd : FuncData} {ps : List Str} {sp sp' : Sp}
theorem FnG.of (F : FnOk P w K mg base cx lv fa fd ps sp) : FnG P w K mg base cx lv fa fd ps sp := ⟨F.len, fun A _ r out s H ar us vs Q E e b v q => F.run A out s H ar us vs Q E r e b v q⟩
theorem FnG.imp (F : FnG P w K mg base cx lv fa fd ps sp) (h : ∀ vs H Q E, sp' vs H Q E → sp vs H Q E) : FnG P w K mg base cx lv fa fd ps sp' := ⟨fun vs H Q E q => F.len vs H Q E (h _ _ _ _ q), fun A g r out s H ar us vs Q E e b v q => F.go A g r out s H ar us vs Q E e b v (h _ _ _ _ q)⟩
/-- from its body -/
theorem fn_body {nm qual : Str} {params : Arguments} {body : List Stmt} {sc : Scope} {dV kV dc pm cd ct oc : Value} {an od : Option Addr} {sl : Array (Option Value)} {N : List Str}
    (lk : K.lookup fa = some ⟨oc, od, .func (PySem.W.fnOf nm qual params body sc dV kV dc pm an cd ct), sl⟩) (hc : PySem.W.codeIn K cd qual = true) (S : FnScope N ps sc) (hl : ∀ vs H Q E, sp vs H Q E → vs.length = ps.length)
    (hb : ∀ (A : Around) (out : List Env) (s : Shared) (H : Hp) (vs : List V) (Q : VK) (E : XK), (A.deeper (envOfC qual sc s.heap.objs.size fa cd)).guards = some [] → Room lv (A.deeper (envOfC qual sc s.heap.objs.size fa cd)) → sp vs H Q E →
      ∃ t, PSs (cxOf cx P w K mg base N qual sc fa cd A out s H E) body t ∧ t { nx := fun _ H' => Q .non H', rt := Q } (L2.start N vs) H) : FnG P w K mg base cx (lv + 1) fa (PySem.W.fnOf nm qual params body sc dV kV dc pm an cd ct) ps sp := by
  refine ⟨hl, fun A hgd hrm out s H ar us vs Q E en bd rv q => ?_⟩
  have len0 := hl _ _ _ _ q
  have keepB : ∀ b o, base.get? b = some o → s.heap.get? b = some o := fun b o z => (en.bs b o z).1
  have kIn : K.In s.heap := en.mod.kin.keeps keepB
  have noL : s.heap.NoLimit := en.mod.nolimit.keeps keepB
  have kinds : ∀ z ∈ ps.zip us, sc.names.lookup z.1 = some .local ∨ (sc.names.lookup z.1 = some .cell ∧ ((cellsFrom (s.heap.objs.size + 1) sc.names []).lookup z.1).isSome = true) := by
    rintro ⟨a, b⟩ hz
    exact (S.par a (List.of_mem_zip hz).1).imp id fun c => ⟨c, PySem.W.cellsFrom_some _ _ _ (.inl c)⟩
  refine codeAny_call_function hrm.depth (kIn _ _ lk) rfl S.co S.gen rfl (PySem.W.codeRec_of kIn hc) (bd _ _ _ _ ?_)
  refine wpAny_newFunctionEnv_cells S.kind kinds fun ev hev s1 ic => ?_
  cases hev
  refine ⟨noL.keeps ic.toInCall.keep, codeAny_func ?_⟩
  obtain ⟨t, pt, qt⟩ := hb A out s H vs Q E hgd (hrm.deeper _) q
  have inv1 : Inv (cxOf cx P w K mg base N qual sc fa cd A out s H E) [] (L2.start N vs) H s1 := inv_start S hrm.hd en len0 rv ic
  refine wpAny_mono (pt.run [] s1 (L2.start N vs) H _ inv1 qt) (fun fl s' z => ?_) fun _ _ z => z
  cases fl with
  | ret u => obtain ⟨v, σ', H', J, rv', q'⟩ := z; exact ⟨v, H', J.os, J.bare, J.base, J.hok, rv', q'⟩
  | next => obtain ⟨σ', H', J, q'⟩ := z; exact ⟨V.non, H', J.os, J.bare, J.base, J.hok, rfl, q'⟩
  | brk => exact z.elim fun _ z => z.elim fun _ z => z.2.elim
  | cont => exact z.elim fun _ z => z.elim fun _ z => z.2.elim
end
section
variable {X : Cx} {cx : CXT} {lv : Nat} {fa : Addr} {fd : FuncData} {ps : List Str} {sp : Sp} {dvs : List V} {ds : List Value} {E : XK} {x : Str} {p pos : Pos} {e : Expr} {es : List Expr} {t : TA}
theorem go_fn {pins : List (Addr × Obj)} {σ : L2.St} {H : Hp} {s : Shared} {Q : VK} {us : List Value} {vs : List V} (F : FnG X.prog X.w X.K X.mg X.base cx lv fa fd ps sp) (gd : X.A.guards = some []) (hr : Room lv X.A) (hb : Binds X.K fd ps ds) (hd : Vals dvs ds) (hx : Passes cx X E)
    (I : Inv X pins σ H s) (r : Vals vs us) (q : sp (vs ++ dvs) H Q E) : wpAny (model X.prog X.w) X.A (call (.ref fa) us) (EP X pins σ Q) X.xe s := by
  have all := r.append hd
  have el : (us ++ ds).length = ps.length := all.length.symm.trans (F.len _ _ _ _ q)
  refine wpAny_call (codeAny_mono (F.go X.A gd hr X.stack s H ⟨us, []⟩ (us ++ ds) (vs ++ dvs) Q E I.env0 (hb s us I.kIn el) all q) fun o s' z => ?_)
  rcases o with er | fl
  · exact hx pins σ H s er s' I z
  · cases fl with
    | ret u => exact Inv.after I z
    | _ => exact (show False from z).elim
theorem pe_goFn (F : FnG X.prog X.w X.K X.mg X.base cx lv fa fd ps sp) (gd : X.A.guards = some []) (hr : Room lv X.A) (hg : Gl X x) (hm : X.mg x = some (.ref fa)) (hk : PySem.W.keepIn X.K (.ref fa) = true) (hb : Binds X.K fd ps ds) (hd : Vals dvs ds) (hx : Passes cx X E)
    (ha : PA X (e :: es) t) (hdb : (x == ("__debug__" : Str)) = false := by decide +kernel) (he : starEach (e :: es) X.env = (false, eval e X.env) :: starEach es X.env := by rfl) (hpl : (backTo pos (starEach es X.env)).any (·.1) = false := by rfl) : PE X (.Call (.Name x p) (e :: es) [] pos) (tCall sp dvs E t) := by
  constructor
  intro pins s σ H Q I h
  refine wpAny_Call_Name_kw (ld_glob I hg hm (PySem.W.callWith_K (h₀ := X.base) I.ok.mod.kin hk (thn (ha.run pos pins s σ H _ I h) fun us s1 z => ?_) he hpl) hdb)
  obtain ⟨vs, H1, I1, r, q⟩ := z
  exact ⟨I1.kIn, go_fn F gd hr hb hd hx I1 r q⟩
theorem pe_goFn0 (F : FnG X.prog X.w X.K X.mg X.base cx lv fa fd ps sp) (gd : X.A.guards = some []) (hr : Room lv X.A) (hg : Gl X x) (hm : X.mg x = some (.ref fa)) (hk : PySem.W.keepIn X.K (.ref fa) = true) (hb : Binds X.K fd ps ds) (hd : Vals dvs ds) (hx : Passes cx X E)
    (hdb : (x == ("__debug__" : Str)) = false := by decide +kernel) : PE X (.Call (.Name x p) [] [] pos) (tCall sp dvs E tNil) := by
  constructor
  intro pins s σ H Q I h
  exact wpAny_Call_Name_kw (ld_glob I hg hm (PySem.W.callWith_K0 I.kIn hk (go_fn (us := []) F gd hr hb hd hx I .nil h)) hdb)
end
theorem deeper_guards (A : Around) (ev : Env) : (A.deeper ev).guards = A.guards := rfl
end Dn

set_option Elab.async false
set_option linter.all false
set_option maxRecDepth 100000
namespace Dn
open PySem PySem.Spec PyProof.Rows L2
/-! ### the law's call, nothing being shown -/
section
variable {P : Program} {w : World} {K : PySem.W.Frag} {mg mb : Str → Option Value} {cx : CXT} {lv : Nat} {fa a : Addr} {fd : FuncData} {x : Str} {sp : Sp} {s1 : Shared} {us : List Value} {ns : List Int}
theorem law_go1 (kin : K.In s1.heap) (hns : s1.heap.Ns mainGlobals mg) (hb : s1.heap.Ns builtinsNs mb) (hbb : ∀ y : Str, y ≠ "__name__" → mb y = bootBuiltins y) (hlim : s1.heap.NoLimit) (hg : s1.gens = #[])
    (ha : s1.heap.get? a = some { cls := .type "list", data := .seq us.toArray }) (hr : Room lv callerA)
    (F : ∀ base : Heap, K.In base → base.Ns mainGlobals mg → FnG P w K mg base cx lv fa fd [x] sp) (bd : ∀ (s : Shared) (u : Value), BindsTo s fd ⟨[u], []⟩ [(x, u)])
    (hx : ∀ H e s', cx [] H s1 (fun _ _ _ => False) e s' → False)
    {H : Hp} (only : Only H) (hq : sp [.ref a] H (fun v _ => v = .bl true) fun _ _ _ => False) (hok : HOk P w H s1.heap) (one : ∀ b, H b ≠ none → b = a) (nk : H a ≠ none → K.lookup a = none) :
    codeAny (model P w) callerA (.call (.ref fa) ⟨[.ref a], []⟩) (fun r s' => r = .ok (.ret (.bool true)) ∧ OldK s1.heap s'.heap ∧ s'.os = s1.os ∧ AllBare s'.gens) s1 := by
  -- a namespace is no list: it is not hidden
  have free : ∀ {b : Addr} {o : Obj} {en : Array DictEntry} {n : Nat}, s1.heap.get? b = some o → o.data = .dict en n → H b = none := fun {b o en n} e d => Classical.byContradiction fun z => by
    have eb := one b z
    rw [eb, ha] at e
    have d2 : (Data.seq us.toArray : Data) = .dict en n := (congrArg Obj.data (Option.some.inj e)).trans d
    cases d2
  have ns2 : ∀ {b : Addr} {m : Str → Option Value}, s1.heap.Ns b m → (hidT s1.heap H).Ns b m := fun {b m} h => by
    obtain ⟨o, en, n, e, d, q⟩ := h
    exact ⟨o, en, n, hidT_get e (free e d), d, q⟩
  have kin2 : K.In (hidT s1.heap H) := fun b o e => hidT_get (kin b o e) (Classical.byContradiction fun z => by
    have eb := one b z
    subst eb
    have := nk z
    rw [this] at e
    cases e)
  obtain ⟨ml, l1, l2⟩ := hlim
  have mod : Mod K mg (hidT s1.heap H) := ⟨kin2, ns2 hns, ⟨mb, ns2 hb, hbb⟩, ⟨ml, ns2 l1, l2⟩⟩
  have env : Env0 P w K mg (hidT s1.heap H) callerA [] s1 H := ⟨rfl, mod, fun _ _ e => of_hidT e, Nat.le_of_eq (hidT_size _ _), trivial, fun b hb => by simp [frs] at hb, hok, .of_eq hg⟩
  refine codeAny_mono ((F _ kin2 (ns2 hns)).go callerA rfl hr [] s1 H ⟨[.ref a], []⟩ [.ref a] [.ref a] _ _ env (bd s1 (.ref a)) (.cons rfl .nil) hq) fun r s' z => ?_
  rcases r with e | fl
  · exact (hx H e s' z).elim
  · cases fl with
    | ret u =>
      obtain ⟨v, H', os, bare, un, hok', rv, ev⟩ := z
      have ev : v = .bl true := ev
      subst ev
      cases (show u = Value.bool true from rv)
      refine ⟨rfl, OldK.of_keep fun b o e => ?_, os, bare⟩
      rcases only b with n | ⟨ob, xs, fz⟩
      · exact un.keep b o e n (by simp [frs]) (by simp)
      · have h1 := (hok b _ fz).1
        have h2 := (hok' b _ (un.frzs b ob _ fz)).1
        rw [e] at h1
        cases h1
        exact h2
    | _ => exact (show False from z).elim
theorem law_go (kin : K.In s1.heap) (hns : s1.heap.Ns mainGlobals mg) (hb : s1.heap.Ns builtinsNs mb) (hbb : ∀ y : Str, y ≠ "__name__" → mb y = bootBuiltins y) (hlim : s1.heap.NoLimit) (hg : s1.gens = #[])
    (ha : s1.heap.get? a = some { cls := .type "list", data := .seq us.toArray }) (hi : IntsAre us ns) (hl : ns.length ≤ sizeLine) (hr : Room lv callerA)
    (F : ∀ base : Heap, K.In base → base.Ns mainGlobals mg → FnG P w K mg base cx lv fa fd [x] sp) (bd : ∀ (s : Shared) (u : Value), BindsTo s fd ⟨[u], []⟩ [(x, u)])
    (hsp : ∀ H : Hp, Only H → SqL K H a (ns.map V.int) → sp [.ref a] H (fun v _ => v = .bl true) fun _ _ _ => False) (hx : ∀ H e s', cx [] H s1 (fun _ _ _ => False) e s' → False) :
    codeAny (model P w) callerA (.call (.ref fa) ⟨[.ref a], []⟩) (fun r s' => r = .ok (.ret (.bool true)) ∧ OldK s1.heap s'.heap ∧ s'.os = s1.os ∧ AllBare s'.gens) s1 := by
  have rv := vals_ints hi
  cases hk : K.lookup a with
  | some o =>
    have e := kin a o hk
    rw [ha] at e
    cases e
    have o0 : Only (fun _ => none) := fun _ => .inl rfl
    exact law_go1 kin hns hb hbb hlim hg ha hr F bd hx o0 (hsp _ o0 (.inr ⟨_, us.toArray, _, hk, rfl, rfl, rfl, by rw [List.size_toArray, hi.length]; exact hl, by simpa using rv⟩)) (fun b u z => nomatch z) (fun b z => absurd rfl z) fun z => absurd rfl z
  | none =>
    let H0 : Hp := fun b => if b = a then some (.frz { cls := .type "list", data := .seq us.toArray } (.lst (ns.map V.int))) else none
    have ea : H0 a = some (.frz { cls := .type "list", data := .seq us.toArray } (.lst (ns.map V.int))) := if_pos rfl
    have en : ∀ b, b ≠ a → H0 b = none := fun b h => if_neg h
    have o1 : Only H0 := fun b => by
      by_cases h : b = a
      · subst h; exact .inr ⟨_, _, ea⟩
      · exact .inl (en b h)
    refine law_go1 kin hns hb hbb hlim hg ha hr F bd hx o1 (hsp _ o1 (.inl (.inr ⟨_, ea⟩))) (fun b u z => ?_) (fun b z => Classical.byContradiction fun h => z (en b h)) fun _ => hk
    by_cases h : b = a
    · subst h
      rw [ea] at z
      cases z
      exact ⟨ha, by rw [List.length_map]; exact hl, us, _, rv, ha⟩
    · rw [en b h] at z
      cases z
end
/-- the goal that the head leaves, from a promise of FnG's kind -/
theorem walk_go {l : PySem.W.OpenLaw} {n lv : Nat} {q : Program} {loose : List Str} {XP : (Str → Option Value) → Heap → Prop} {YP : World → Heap → Prop} {d : DefRec} {K : Params → PySem.W.Frag} {cx : World → CXT} {sp : World → Sp} {x : Str}
    (hn : l.most = some n) (hn2 : n ≤ sizeLine) (hdf : d.params.defaults = []) (hr : Room lv callerA) (hY : ∀ (w : World) (h : Heap), YP w h → (K w.params).In h)
    (F : ∀ (w : World) (mg : Str → Option Value) (fa : Addr) (h : Heap), (K w.params).In h → h.Ns mainGlobals mg → mg d.name = some (.ref fa) → ∃ fd : FuncData, (∀ (s : Shared) (u : Value), BindsTo s fd ⟨[u], []⟩ [(x, u)]) ∧ ∀ base : Heap, (K w.params).In base → base.Ns mainGlobals mg → FnG l.prog w (K w.params) mg base (cx w) lv fa fd [x] (sp w))
    (hsp : ∀ (w : World) (H : Hp) (a : Addr) (ns : List Int), ns.length ≤ n → Only H → SqL (K w.params) H a (ns.map V.int) → sp w [.ref a] H (fun v _ => v = .bl true) fun _ _ _ => False)
    (hx : ∀ (w : World) (H : Hp) (s : Shared) (e : Value) (s' : Shared), cx w [] H s (fun _ _ _ => False) e s' → False) : PySem.W.WalkO q loose XP YP l.row.toRowW d [] (fun f vs => PySem.call f vs) := by
  refine Att.attach_call hn hdf fun w s0 s1 mg mb fa o pm cd doc a us ns gr yp ho hd hcd hmg hobj hints hlen hgens => ?_
  have kin := hY w _ yp
  obtain ⟨fd, bd, hF⟩ := F w mg fa _ kin gr.T.g hmg
  exact law_go kin gr.T.g gr.T.b gr.T.builtins gr.T.nolimit hgens hobj hints (Nat.le_trans hlen hn2) hr hF bd (fun H h1 h2 => hsp w H a ns hlen h1 h2) fun H e s' => hx w H s1 e s'
end Dn

set_option Elab.async false
set_option linter.all false
set_option maxRecDepth 100000
namespace Dn
open PySem PySem.Spec PyProof.Rows L2
/-! ### a def of the text and its function, nothing being shown -/
structure DfG (P : Program) (w : World) (K : PySem.W.Frag) (mg : Str → Option Value) (base : Heap) (ct : CT) (β : BInv) (lv : Nat) (x : Str) (n : Nat) (ps : List Str) (fn : List AV → T AV) : Prop where
  ex : ∃ fa fd, FnG P w K mg base (L2.CX P w) lv fa fd ps (spM ⟨K, mg, ct⟩ β n fn) ∧ mg x = some (.ref fa) ∧ PySem.W.keepIn K (.ref fa) = true ∧ Binds K fd ps []
  len : ∀ ts : List AV, T.all (fun _ => True) (fun _ _ => True) (fn ts) → ts.length = n
section
variable {P : Program} {w : World} {K : PySem.W.Frag} {mg : Str → Option Value} {base : Heap} {ct : CT} {β : BInv}
theorem Df.g {lv n : Nat} {x : Str} {ps : List Str} {fn : List AV → T AV} (D : Df P w K mg base ct β lv x n ps fn) : DfG P w K mg base ct β lv x n ps fn := by
  obtain ⟨fa, fd, F, h1, h2, h3⟩ := D.ex
  exact ⟨⟨fa, fd, FnG.of F, h1, h2, h3⟩, D.len⟩
theorem fn_defG {x qual : Str} {st : Stmt} {f : Addr} {fd : FuncData} {N ps : List Str} {k : Nat} {body : SSem} (F : Fun K x qual st f fd) (S : FnScope N ps (defScope st)) (hl : ps.length ≤ N.length)
    (hb : ∀ (cdv : Value) (A : Around) (outer : List Env) (s : Shared) (H : Hp) (E : XK), (A.deeper (envOfC qual (defScope st) s.heap.objs.size f cdv)).guards = some [] → Room k (A.deeper (envOfC qual (defScope st) s.heap.objs.size f cdv)) → JSs (cxOf (L2.CX P w) P w K mg base N qual (defScope st) f cdv A outer s H E) ct β E (defBody st) body) :
    FnG P w K mg base (L2.CX P w) (k + 1) f fd ps (spM ⟨K, mg, ct⟩ β ps.length (fnOf ps.length N.length body)) := by
  obtain ⟨oc, od, kV, doc, pm, an, cdv, ct', osl, rfl, lk, hcd⟩ := F.ex
  refine fn_body lk hcd S (fun vs H Q E h => ?_) fun A outer s H vs Q E gd hr h => ?_
  · obtain ⟨g, ts, _, _, _, _, r, e, _⟩ := h
    rw [r.length, e]
  · obtain ⟨g, ts, ho, hm, hmb, hbx, r, e, h⟩ := h
    refine ⟨_, hb cdv A outer s H E gd hr, g, _, rel_start ho hm hmb hbx r e hl, ?_⟩
    have h' : okT ⟨K, mg, ct⟩ β E g H ((body (ts.map Slot.fro ++ List.replicate (N.length - ps.length) .un)).bind outV) fun g' H' t => ∀ v, β.I g'.B g'.D H' → RepG ⟨K, mg, ct⟩ g' H' t v → Q v H' := by
      unfold fnOf at h
      rw [if_pos e] at h
      exact h
    refine okT_mono (okT_bind h') fun g' H' o e q => ?_
    cases o with
    | nx ρ => exact fun σ R => okT_ret q .non R.box rep_non
    | rt t => exact okT_ret (c0 := ⟨K, mg, ct⟩) (β := β) (Ex := E) (Q := fun g' H' t => ∀ v, β.I g'.B g'.D H' → RepG ⟨K, mg, ct⟩ g' H' t v → Q v H') q
    | bk ρ => exact (show False from q).elim
    | ct ρ => exact (show False from q).elim
end
section
variable {X : Cx} {ct : CT} {β : BInv} {Ex : XK} {e : Expr} {es : List Expr} {m : SemL} {pos p : Pos} {x : Str} {lv n c : Nat} {ps : List Str} {fn : List AV → T AV}
theorem j_callG (D : DfG X.prog X.w X.K X.mg X.base ct β lv x n ps fn) (gd : X.A.guards = some []) (hr : Room lv X.A) (hx : Passes (L2.CX X.prog X.w) X Ex) (ha : JL X ct β Ex (e :: es) m) (hg : Gl X x := by rfl) (hdb : (x == ("__debug__" : Str)) = false := by decide +kernel)
    (he : starEach (e :: es) X.env = (false, eval e X.env) :: starEach es X.env := by rfl) (hpl : (backTo pos (starEach es X.env)).any (·.1) = false := by rfl) : JE X ct β Ex (.Call (.Name x p) (e :: es) [] pos) (fCall fn [] m) := by
  obtain ⟨fa, fd, F, h1, h2, h3⟩ := D.ex
  exact PE.imp (pe_goFn F gd hr hg h1 h2 h3 .nil hx ha hdb he hpl) fun σ H Q h => fCall_ok deft0 D.len h
theorem j_callG0 (D : DfG X.prog X.w X.K X.mg X.base ct β lv x n ps fn) (gd : X.A.guards = some []) (hr : Room lv X.A) (hx : Passes (L2.CX X.prog X.w) X Ex) (hg : Gl X x := by rfl) (hdb : (x == ("__debug__" : Str)) = false := by decide +kernel) : JE X ct β Ex (.Call (.Name x p) [] [] pos) (fCall fn [] lNil) := by
  obtain ⟨fa, fd, F, h1, h2, h3⟩ := D.ex
  refine PE.imp (pe_goFn0 F gd hr hg h1 h2 h3 .nil hx hdb) fun σ H Q h => ?_
  have h := fCall_ok deft0 D.len h
  obtain ⟨g, ρ, R, h⟩ := h
  exact okT_ret h [] R .nil
end
/-! ### repr of data -/
def rReprD (K : PySem.W.Frag) : List V → Hp → VK → Prop := fun xs H Q => ∃ x d, xs = [x] ∧ Dp K H x d ∧ d.canLay0 = true ∧ d.depth ≤ 12 ∧ d.showable = true ∧ d.shown.length ≤ sizeLine ∧ Q (.str d.shown) H
theorem call_reprD {X : Cx} (gd : X.A.guards = some []) (hu : X.A.units + 64 < cLine) : CallR X (.builtin "repr") (rReprD X.K) := by
  intro pins s σ H xs us Q I r h
  obtain ⟨x, d, rfl, hd, hc, hdp, hs, hz, q⟩ := h
  obtain ⟨u, rfl, ru⟩ := vals1 r
  cases hd with
  | non => cases (show u = Value.none from ru); exact PySem.P.repr_of_none ⟨.str _, H, I.tok _, ⟨_, rfl⟩, q⟩
  | bl b => cases (show u = Value.bool b from ru); exact PySem.P.repr_of_bool ⟨.str _, H, I.tok _, ⟨_, rfl⟩, q⟩
  | int i =>
    obtain ⟨t, rfl⟩ := (show ∃ t, u = Value.int i t from ru)
    exact PySem.P.repr_of_int (by simpa [PyData.showable] using hs) ⟨.str _, H, I.tok _, ⟨_, rfl⟩, q⟩
  | str y =>
    obtain ⟨t, rfl⟩ := (show ∃ t, u = Value.str y t from ru)
    exact PySem.P.repr_of_str ⟨.str _, H, I.tok _, ⟨_, rfl⟩, q⟩ (by simpa [PyData.shown] using hz)
  | lst hq hall =>
    rename_i a xs ds
    cases (show u = Value.ref a from ru)
    obtain ⟨as, rd⟩ := Dp.reads I (.list ds) (.ref a) (.ref a) (.lst hq hall) rfl
    exact repr_of_reads' rd hs (PyData.noDict_hsm (PyData.hasDict_of_canLay _ hc)) gd (by omega) (fun _ _ e => e) (fun h' u tk hk => ⟨.str _, H, I.kept hk, ⟨_, rfl⟩, q⟩) hz
  | tup hq hall =>
    rename_i a xs ds
    cases (show u = Value.ref a from ru)
    obtain ⟨as, rd⟩ := Dp.reads I (.tuple ds) (.ref a) (.ref a) (.tup hq hall) rfl
    exact repr_of_reads' rd hs (PyData.noDict_hsm (PyData.hasDict_of_canLay _ hc)) gd (by omega) (fun _ _ e => e) (fun h' u tk hk => ⟨.str _, H, I.kept hk, ⟨_, rfl⟩, q⟩) hz
/-- repr(a) -/
def pReprD (a : AV) : Option AV := if dat DEP a && (toD DEP a).showable && decide ((toD DEP a).shown.length ≤ big) then some (.str (toD DEP a).shown) else none
theorem o_reprD {X : Cx} {ct : CT} : Op1' X ct (fun x H Q => rReprD X.K [x] H Q) pReprD := by
  intro g H a z x Q live ra e q
  obtain ⟨h, rfl⟩ := if_some e
  rw [Bool.and_eq_true, Bool.and_eq_true, decide_eq_true_eq] at h
  obtain ⟨h1, h2⟩ := toD_lay DEP a h.1.1
  exact ⟨x, _, rfl, dp_ofR ra h.1.1, h1, h2, h.1.2, Nat.le_trans h.2 big_line, q _ H (Same.refl H) rep_str⟩
end Dn

set_option Elab.async false
set_option linter.all false
set_option maxRecDepth 100000
namespace Dn
open PySem PySem.Spec PyProof.Rows L2
/-! ### a slot is forgotten behind a statement -/
def sDrop (j : Nat) (s : SSem) : SSem := fun ρ => (s ρ).bind fun o => match o with
  | .nx ρ' => .ret (.nx (ρ'.set j .un))
  | o => .ret o
theorem js_drop (j : Nat) {X : Cx} {ct : CT} {β : BInv} {Ex : XK} {st : Stmt} {s : SSem} (h : JS X ct β Ex st s) : JS X ct β Ex st (sDrop j s) := by
  refine PS.imp h fun D σ H q => ?_
  obtain ⟨g, ρ, R, q⟩ := q
  refine ⟨g, ρ, R, okT_mono (okT_bind q) fun g1 H1 o e r => ?_⟩
  cases o with
  | nx ρ1 => exact fun σ1 R1 => okT_ret' r (ext_no g1 j H1) σ1 (R1.drop1 rfl fun _ _ => rfl)
  | rt t => exact okT_ret r
  | bk ρ1 => exact okT_ret r
  | ct ρ1 => exact okT_ret r
/-! ### the first kind of source: [cell, seed, turns] -/
theorem same_new {H : Hp} {p : Addr} {o : HO} (h : H p = none) : Same H (upd H p o) := same_upd h
theorem at_int {α : Type} {xs : List α} {z : Int} {v : α} (h0 : 0 ≤ z) (h : xs[z.toNat]? = some v) : atI xs z = some v := by
  obtain ⟨k, rfl⟩ := Int.eq_ofNat_of_zero_le h0
  exact atI_nat h
def boxV (c s t : Int) : List V := [.int c, .int s, .int t]
structure BoxIs (c s t : Int) : Prop where
  c0 : 0 ≤ c
  s1 : 1 ≤ s
  s2 : s ≤ 2147483629
def okA (vs : List V) : Prop := ∃ c s t : Int, vs = boxV c s t ∧ BoxIs c s t
def spBoxS (K : PySem.W.Frag) (ok : List V → Prop) : Sp := fun vs H Q _ => ∃ (a : Addr) (k o : Int) (ns : List Int), vs = [.ref a, .int k, .int o] ∧ SqL K H a (ns.map V.int) ∧ 0 ≤ k ∧ 0 ≤ o ∧ ∀ (D : Addr) (H' : Hp), H D = none → Same H H' → (∃ l, H' D = some (.lst l) ∧ ok l) → Q (.ref D) H'
def fBox : List AV → T AV
  | [.scr _, .int k, .int o] => if 0 ≤ k ∧ 0 ≤ o then .ret .box else .bad
  | _ => .bad
theorem fBox_len (ts : List AV) (h : T.all (fun _ => True) (fun _ _ => True) (fBox ts)) : ts.length = 3 := by
  unfold fBox at h
  split at h
  · rfl
  · exact h.elim
theorem box_of {P : Program} {w : World} {K : PySem.W.Frag} {mg : Str → Option Value} {base : Heap} {ct : CT} {ok : List V → Prop} {lv : Nat} {fa : Addr} {fd : FuncData} {ps : List Str} (F : FnOk P w K mg base CX0 lv fa fd ps (spBoxS K ok)) :
    FnOk P w K mg base (L2.CX P w) lv fa fd ps (spM ⟨K, mg, ct⟩ (BoxI ok) 3 fBox) := by
  refine imp0 F fun vs H Q E h => ?_
  obtain ⟨g, ts, ho, hm, hmb, hb, r, hl, h⟩ := h
  have done : ∀ {ts : List AV}, okT ⟨K, mg, ct⟩ (BoxI ok) E g H (fBox ts) (fun g' H' t => ∀ v, (BoxI ok).I g'.B g'.D H' → RepG ⟨K, mg, ct⟩ g' H' t v → Q v H') → ∃ ns k o, ts = [.scr ns, .int k, .int o] ∧ 0 ≤ k ∧ 0 ≤ o ∧ ∀ g' H', Ext g g' H H' → ∀ v, (BoxI ok).I g'.B g'.D H' → RepG ⟨K, mg, ct⟩ g' H' .box v → Q v H' := fun {ts} h => by
    unfold fBox at h
    split at h
    · rename_i ns k o
      by_cases hb : 0 ≤ k ∧ 0 ≤ o
      · rw [if_pos hb] at h
        exact ⟨ns, k, o, rfl, hb.1, hb.2, h⟩
      · rw [if_neg hb] at h
        exact (show False from h).elim
    · exact (show False from h).elim
  obtain ⟨ns, k, o, rfl, h1, h2, h3⟩ := done h
  rw [RepsG, RepL] at r
  obtain ⟨v, r1, rfl, hv, r⟩ := r
  rw [RepL] at r
  obtain ⟨v2, r2, rfl, hv2, r⟩ := r
  rw [RepL] at r
  obtain ⟨v3, r3, rfl, hv3, r⟩ := r
  rw [RepL] at r
  subst r
  obtain ⟨a, rfl, q⟩ := RepR.scr (.inl hv)
  have hv2 : v2 = .int k := by
    rw [Rep] at hv2
    exact hv2
  have hv3 : v3 = .int o := by
    rw [Rep] at hv3
    exact hv3
  subst hv2 hv3
  refine ⟨a, k, o, ns, rfl, q, h1, h2, fun D H' nD s ⟨l, e, ol⟩ => ?_⟩
  refine h3 { g with B := fun b => g.B b ∨ b = D, D := fun b => g.D b ∨ b = D } H' ?_ (.ref D) ⟨fun b z => ?_, fun b z => z.elim (fun z => .inl (hb.2 b z)) .inr⟩ ?_
  · exact { keep := fun a o q _ _ => s a o q, live := fun a q => by
              cases e : H a with
              | none => exact absurd e q
              | some o => rw [s a o e]; exact fun z => by cases z
            m := rfl, bsub := fun b z => .inl z, dsub := fun b z => .inl z, own := fun i a h => .inl ⟨i, h⟩, s := rfl, bnew := fun b z => z.elim .inl fun z => .inr (by rw [z]; exact nD) }
  · rcases z with z | z
    · obtain ⟨l', e', o'⟩ := hb.1 b z
      exact ⟨l', s _ _ e', o'⟩
    · rw [z]
      exact ⟨l, e, ol⟩
  · rw [RepG, Rep]
    exact ⟨D, rfl, .inr rfl⟩
/-! ### methods of the text -/
structure Mf (P : Program) (w : World) (K : PySem.W.Frag) (mg : Str → Option Value) (base : Heap) (ct : CT) (β : BInv) (lv : Nat) (c : Nat) (x : Str) (n : Nat) (ps : List Str) (fn : List AV → T AV) : Prop where
  ex : ∃ C fa fd, FnOk P w K mg base (L2.CX P w) lv fa fd ps (spM ⟨K, mg, ct⟩ β n fn) ∧ Binds K fd ps [] ∧ Cls K C ∧ Meth K C x fa ∧ mg (ct c).1 = some (.ref C)
  no : x ∉ (ct c).2
  len : ∀ ts : List AV, T.all (fun _ => True) (fun _ _ => True) (fn ts) → ts.length = n
section
variable {X : Cx} {ct : CT} {β : BInv} {Ex : XK} {a e : Expr} {es : List Expr} {f : Sem} {m : SemL} {pos p apos : Pos} {mt : Str} {lv n c : Nat} {ps : List Str} {fn : List AV → T AV}
theorem methOk_of {C fa : Addr} (cl : Cls X.K C) (me : Meth X.K C mt fa) (hC : X.mg (ct c).1 = some (.ref C)) (no : mt ∉ (ct c).2) : MethOk X ct c mt fa :=
  ⟨fun C' e => by
    have e2 : some (Value.ref C) = some (Value.ref C') := hC.symm.trans e
    cases e2
    exact ⟨cl, me⟩, no⟩
theorem j_methD {pl : PySem.Sem Bool} (D : Mf X.prog X.w X.K X.mg X.base ct β lv c mt n ps fn) (hr : Room lv X.A) (hx : Passes (L2.CX X.prog X.w) X Ex) (ha0 : JE X ct β Ex a f) (ha : JL X ct β Ex (e :: es) m)
    (hst : starEach (e :: es) X.env = (false, eval e X.env) :: starEach es X.env := by rfl) (hpl : (backTo pos (starEach es X.env)).any (·.1) = false := by rfl)
    (ht : eval (.Call (.Attribute a mt apos) (e :: es) [] pos) X.env = (do
      let ov ← eval a X.env
      standAt apos.atName
      let (f, first) ← holding [ov] (getMethod ov mt pl)
      callWith pos f first (backTo pos (starEach (e :: es) X.env)) (backToKw pos (keywordEach [] X.env))) := by rfl) : JE X ct β Ex (.Call (.Attribute a mt apos) (e :: es) [] pos) (fMeth c fn [] f m) := by
  obtain ⟨C, fa, fd, F, b, cl, me, hC⟩ := D.ex
  exact j_meth ha0 (methOk_of cl me hC D.no) hC F D.len hr b .nil deft0 hx ha hst hpl ht
theorem j_methD0 {pl : PySem.Sem Bool} (D : Mf X.prog X.w X.K X.mg X.base ct β lv c mt n ps fn) (hr : Room lv X.A) (hx : Passes (L2.CX X.prog X.w) X Ex) (ha0 : JE X ct β Ex a f)
    (ht : eval (.Call (.Attribute a mt apos) [] [] pos) X.env = (do
      let ov ← eval a X.env
      standAt apos.atName
      let (f, first) ← holding [ov] (getMethod ov mt pl)
      callWith pos f first (backTo pos (starEach [] X.env)) (backToKw pos (keywordEach [] X.env))) := by rfl) : JE X ct β Ex (.Call (.Attribute a mt apos) [] [] pos) (fMeth c fn [] f lNil) := by
  obtain ⟨C, fa, fd, F, b, cl, me, hC⟩ := D.ex
  exact j_meth0 ha0 (methOk_of cl me hC D.no) hC F D.len hr b .nil deft0 hx ht
/-- len(x), x an instance of a class of the text that has a __len__ -/
def rLenO (C : Addr) (sp : Sp) (E : XK) : List V → Hp → VK → Prop := fun xs H Q => ∃ a dx fs, xs = [V.ref a] ∧ H a = some (.ins C dx fs) ∧ sp [.ref a] H (fun z H' => ∃ i, z = .int i ∧ (0 ≤ i ∧ i < 2 ^ 63) ∧ Q (.int i) H') E
theorem call_lenO {X : Cx} {C g : Addr} {n : Nat} {fd : FuncData} {ps : List Str} {sp : Sp} {CX : CXT} {E : XK} (hm : Meth X.K C "__len__" g) (F : FnOk X.prog X.w X.K X.mg X.base CX n g fd ps sp) (hr : Room (n + 1) X.A) (hb : Binds X.K fd ps []) (hx : Passes CX X E) : CallR X (.builtin "len") (rLenO C sp E) := by
  intro pins s σ H xs us Q I r h
  obtain ⟨a, dx, fs, rfl, ha, q⟩ := h
  obtain ⟨u, rfl, ru⟩ := vals1 r
  cases (show u = Value.ref a from ru)
  obtain ⟨mA, O, _⟩ := ins_get I.hok ha
  obtain ⟨od, J, _⟩ := O.look
  obtain ⟨m, hF⟩ := I.fr
  have hr1 : Room n X.A.in1 := Room.in1 hr
  refine PySem.W.len_K hF I.ok.mod.kin J hm.at_ hm.fn (wpAny_call (codeAny_mono (F.run X.A.in1 X.stack s H ⟨[.ref a], []⟩ [.ref a] [.ref a] _ E hr1 I.env0.in1 (hb s [.ref a] I.kIn (F.len _ _ _ _ q)) (.cons rfl .nil) q) fun r s' hq => ?_))
  cases r with
  | error e => exact hx pins σ H s e s' I hq
  | ok fl =>
    cases fl with
    | ret v =>
      obtain ⟨z, H', I', rz, i, ez, hi, qi⟩ := I.after hq
      subst ez
      obtain ⟨t, e⟩ := (show ∃ t, v = Value.int i t from rz)
      subst e
      exact ⟨hi, .int i, H', I'.tok _, ⟨_, rfl⟩, qi⟩
    | next => exact False.elim hq
    | brk => exact False.elim hq
    | cont => exact False.elim hq
def intU : AV → Option Int
  | .int i => if 0 ≤ i ∧ below i 62 = true then some i else none
  | _ => none
theorem intU_eq {t : AV} {i : Int} (h : intU t = some i) : t = .int i ∧ 0 ≤ i ∧ i < 2 ^ 63 := by
  unfold intU at h
  split at h
  · rename_i j
    by_cases hb : 0 ≤ j ∧ below j 62 = true
    · rw [if_pos hb] at h
      cases h
      have := below62 hb.2
      exact ⟨rfl, hb.1, by omega⟩
    · rw [if_neg hb] at h
      cases h
  · cases h
def fLenOwn (c : Nat) (fn : List AV → T AV) (f : Sem) : Sem := fun ρ => (f ρ).bind fun q => (frz q).bind fun s => match s.1 with
  | .ins c' xs => if c' = c then (fn [.ins c' xs]).bind fun t => (lift (intU t)).bind fun i => .ret (.val (.int i), s.2) else .bad
  | _ => .bad
theorem j_lenOwn (D : Mf X.prog X.w X.K X.mg X.base ct β lv c "__len__" n ps fn) (hr : Room (lv + 1) X.A) (hx : Passes (L2.CX X.prog X.w) X Ex) (hm : X.mg "len" = none) (ha : JE X ct β Ex a f) (hg : Gl X "len" := by rfl)
    (he : starEach [a] X.env = (false, eval a X.env) :: starEach [] X.env := by rfl) : JE X ct β Ex (.Call (.Name "len" p) [a] [] pos) (fLenOwn c fn f) := by
  obtain ⟨C, fa, fd, F, b, cl, me, hC⟩ := D.ex
  refine PE.imp (pe_callB (call_lenO me F hr b hx) hg hm (by decide +kernel) (pa_cons ha pa_nil he) (by decide +kernel) (by decide +kernel) he) fun σ H Q h => ?_
  show rdE (gc X ct) β Ex f σ H fun x H1 => rLenO C (spM (gc X ct) β n fn) Ex [x] H1 Q
  obtain ⟨g, ρ, R, h⟩ := h
  refine ⟨g, ρ, R, okT_mono (okT_bind h) fun g1 H1 q e1 h1 v R1 rv => ?_⟩
  obtain ⟨g2, s, e2, R2, rs, h2⟩ := frz_ok R1 rv h1
  obtain ⟨t, ρ2⟩ := s
  cases t with
  | ins c' xs =>
    by_cases hc : c' = c
    · subst hc
      have h3 : okT (gc X ct) β Ex g2 H1 ((fn [.ins c' xs]).bind fun t => (lift (intU t)).bind fun i => .ret (Hd.val (.int i), ρ2)) fun g' H' p => ∀ v, Rel (gc X ct) β g' p.2 σ H' → RepH (gc X ct) g' σ H' p.1 v → Q v H' := by
        have h2' : okT (gc X ct) β Ex g2 H1 (if c' = c' then _ else _) _ := h2
        rw [if_pos rfl] at h2'
        exact h2'
      have rs0 := rs
      rw [RepG, Rep] at rs
      obtain ⟨a, C', dx, vs, rfl, na, hm, ho, hl, r⟩ := rs
      have hC' : C' = C := by
        have e : some (Value.ref C') = some (Value.ref C) := hm.symm.trans hC
        cases e
        rfl
      subst hC'
      have h5 := okT_bind h3
      refine ⟨a, dx, _, rfl, ho, sp_call R2 (.one rs0) (D.len _ (T.all_mono h5 (fun _ _ => trivial) fun _ _ _ => trivial)) (okT_mono h5 fun g' H' t e' q v R' rt => ?_)⟩
      obtain ⟨i, ei, q2⟩ := okT_lift q
      obtain ⟨rfl, i0, i1⟩ := intU_eq ei
      have hv : v = .int i := by
        rw [RepG, Rep] at rt
        exact rt
      subst hv
      exact ⟨i, rfl, ⟨i0, i1⟩, okT_ret q2 (.int i) R' (show RepG (gc X ct) g' H' (.int i) (.int i) from rep_int)⟩
    · have h2' : okT (gc X ct) β Ex g2 H1 (if c' = c then _ else _) _ := h2
      rw [if_neg hc] at h2'
      exact (show False from h2').elim
  | _ => exact (show False from h2).elim
end
/-! ### a law whose ends can be reckoned -/
noncomputable def isTrueD (t : T AV) : Bool := T.rec (motive := fun _ => Bool) (fun a => match a with | .bl b => b | _ => false) false (fun _ _ => false) (fun n _ ih => (List.range n).all ih) t
theorem of_isTrueD {m : T AV} (h : isTrueD m = true) : m.all (fun t => t = .bl true) NoX := by
  induction m with
  | ret a =>
    cases a with
    | bl b => cases (show b = true from h); rfl
    | _ => cases h
  | bad => cases h
  | exc c xs => cases h
  | draw n k ih => exact fun r hr => ih r (List.all_eq_true.mp (show (List.range n).all (fun r => isTrueD (k r)) = true from h) r (List.mem_range.mpr hr))
theorem closed_law {s1 r : SSem} {n : Nat} {ns : List Int} {ρ1 : Env'} (h1 : s1 (.fro (.scr ns) :: List.replicate n .un) = .ret (.nx ρ1)) (h : isTrueD ((r ρ1).bind outV) = true) : (fnOf 1 (n + 1) (sSeq s1 r) [.scr ns]).all (fun t => t = .bl true) NoX := by
  have e : fnOf 1 (n + 1) (sSeq s1 r) [.scr ns] = (r ρ1).bind outV := by
    unfold fnOf
    rw [if_pos (show [AV.scr ns].length = 1 from rfl)]
    show ((s1 (.fro (.scr ns) :: List.replicate n .un)).bind _).bind outV = _
    rw [h1]
    rfl
  rw [e]
  exact of_isTrueD h
end Dn

set_option Elab.async false
set_option linter.all false
set_option maxRecDepth 100000
namespace Dn
open PySem PySem.Spec PyProof.Rows L2
/-! ### comprehensions of two clauses -/
def lcL2 (vs vs1 : List Nat) (k : GSem) (tt : SemB) (it1 : SemI) (k1 : GSem) (tt1 : SemB) (el : Sem) : List AV → List AV → Env' → T (List AV × Env')
  | [], acc, ρ => .ret (acc, ρ)
  | x :: xs, acc, ρ => (noExc ((k x (wipeE ρ vs)).bind fun ρ1 => (tt ρ1).bind fun p => if p.1 then (it1 p.2).bind fun q => if acc.length + q.1.length < big then lcL vs1 k1 tt1 el q.1 acc q.2 else .bad else .ret (acc, p.2))).bind fun r => lcL2 vs vs1 k tt it1 k1 tt1 el xs r.1 r.2
def nLc2 (vs vs1 : List Nat) (it : SemI) (k : GSem) (tt : SemB) (it1 : SemI) (k1 : GSem) (tt1 : SemB) (el : Sem) : SemN := fun ρ => (it ρ).bind fun p => (lcL2 vs vs1 k tt it1 k1 tt1 el p.1 [] p.2).bind fun r => .ret (r.1, backE p.2 r.2 vs)
theorem lcL2_noExc (vs vs1 : List Nat) (k : GSem) (tt : SemB) (it1 : SemI) (k1 : GSem) (tt1 : SemB) (el : Sem) : ∀ (xs acc : List AV) (ρ : Env'), NoE (lcL2 vs vs1 k tt it1 k1 tt1 el xs acc ρ)
  | [], _, _ => noE_ret _
  | _ :: xs, _, _ => (noE_noExc _).bind fun r => lcL2_noExc vs vs1 k tt it1 k1 tt1 el xs r.1 r.2
theorem wipeE_get {ρ : Env'} : ∀ {vs : List Nat} {i : Nat}, i ∉ vs → (wipeE ρ vs)[i]? = ρ[i]?
  | [], _, _ => rfl
  | v :: vs, i, h => by
    unfold wipeE
    rw [List.getElem?_set_ne (fun e => h (by simp [e]))]
    exact wipeE_get fun z => h (List.mem_cons_of_mem _ z)
theorem wipeE_un {ρ : Env'} : ∀ {vs : List Nat} {i : Nat}, i ∈ vs → i < ρ.length → (wipeE ρ vs)[i]? = some .un
  | [], _, h, _ => by simp at h
  | v :: vs, i, h, hl => by
    unfold wipeE
    by_cases e : v = i
    · subst e
      rw [List.getElem?_set_self (by rw [wipeE_length]; exact hl)]
    · rw [List.getElem?_set_ne e]
      exact wipeE_un ((List.mem_cons.mp h).resolve_left fun z => e z.symm) hl
theorem wipeE_sub {ρ : Env'} {vs1 vs : List Nat} (hs : ∀ i ∈ vs1, i ∈ vs) : wipeE (wipeE ρ vs1) vs = wipeE ρ vs := by
  refine List.ext_getElem? fun i => ?_
  by_cases hi : i ∈ vs
  · by_cases hl : i < ρ.length
    · rw [wipeE_un hi (by rw [wipeE_length]; exact hl), wipeE_un hi hl]
    · rw [List.getElem?_eq_none (by rw [wipeE_length, wipeE_length]; omega), List.getElem?_eq_none (by rw [wipeE_length]; omega)]
  · rw [wipeE_get hi, wipeE_get hi, wipeE_get fun z => hi (hs i z)]
theorem wipe_sub {σ : L2.St} {vs1 vs : List Nat} (hs : ∀ i ∈ vs1, i ∈ vs) : L2.wipe (L2.wipe σ vs1) vs = L2.wipe σ vs :=
  wipe_agree (is := vs1) ⟨wipe_length σ vs1, fun i h => wipe_get h⟩ hs
section
variable {X : Cx} {ct : CT} {β : BInv} {Ex : XK} {a c elt tg iter tg1 iter1 : Expr} {ifs ifs1 : List Expr} {f it1 : SemI} {k k1 : GSem} {tt tt1 : SemB} {el : Sem} {pos : Pos} {scope : Scope} {own : List (Str × Nat)} {is is1 : List Nat}
theorem okD_okT {c0 : Gc} {α γ : Type} {g : G} {H : Hp} {D : Addr} {m : T α} {kk : α → T γ} {R : G → Hp → γ → Prop} (hn : NoE m) (h : okT c0 β E0 g H m fun g' H' a => okD D g' H' (kk a) R) : okD D g H m fun g' H' a => okD D g' H' (kk a) R :=
  T.all_mono (hn _ _ h) (fun a q g' H' e => okD_ext (q g H (Ext.refl g H)) e) fun _ _ z => z
theorem rep_updM {c0 : Gc} {g : G} {H : Hp} {D : Addr} {o : HO} {t : AV} {v : V} (hM : g.M D) (h : RepG c0 g H t v) : RepG c0 g (upd H D o) t v := h.imp (upd_av hM) fun _ h => h
theorem lc2_ok {σ : L2.St} {H : Hp} {Q : VK} {vs vs1 : List Nat} (hown : ∀ i ∈ is, i ∈ vs) (hown1 : ∀ i ∈ is1, i ∈ vs1) (hsub : ∀ i ∈ vs1, i ∈ vs) (h : rdN (gc X ct) β Ex (nLc2 vs vs1 f k tt it1 k1 tt1 el) σ H Q) :
    tLc2 (rdI (gc X ct) β Ex f) (rdG (gc X ct) β E0 is k) (rdB (gc X ct) β E0 tt) (rdI (gc X ct) β E0 it1) (rdG (gc X ct) β E0 is1 k1) (rdB (gc X ct) β E0 tt1) (rdE (gc X ct) β E0 el) vs vs1 σ H Q := by
  obtain ⟨g, ρ, R, h⟩ := h
  refine ⟨g, ρ, R, okT_bind0 h fun p q g1 H1 e1 J R1 wk D nD => ?_⟩
  obtain ⟨xs, ρ1⟩ := p
  have sD := same_upd (o := .lst []) nD
  have lD : (upd H1 D (.lst [])) D ≠ none := by rw [upd_same]; exact fun z => by cases z
  have q : okT (gc X ct) β Ex g H ((lcL2 vs vs1 k tt it1 k1 tt1 el xs [] ρ1).bind fun r => .ret (r.1, backE ρ1 r.2 vs)) fun g' H' p => ∀ a vs, H a = none → ¬ g'.Av a → H' a = some (.lst vs) → Rel (gc X ct) β (g'.plus a) p.2 σ H' → RepsG (gc X ct) (g'.plus a) H' p.1 vs → Q (.ref a) H' := q
  have RD : Rel (gc X ct) β (g1.plus D) ρ1 σ (upd H1 D (.lst [])) := R1.plus sD nD lD
  -- what is asked at the very end
  generalize hEnd : (fun (g' : G) (H' : Hp) (r : List AV × Env') => ∀ ws', H' D = some (.lst ws') → Rel (gc X ct) β g' (wipeE r.2 vs) (wipe σ vs) H' → RepsG (gc X ct) g' H' r.1 ws' → Q (.ref D) H') = End
  have start : okD D (g1.plus D) (upd H1 D (.lst [])) (lcL2 vs vs1 k tt it1 k1 tt1 el xs [] ρ1) End := by
    rw [← hEnd]
    refine okD_of (lcL2_noExc vs vs1 k tt it1 k1 tt1 el xs [] ρ1) q fun r hr g' H' e ws' hw R' r' => ?_
    have e := (show Ext (g1.plus D) g' (upd H1 D (.lst [])) (upd H' D (.lst [])) by rw [upd_upd] at e; exact e)
    have hl' : H' D ≠ none := by rw [hw]; exact fun z => by cases z
    have M' : g'.M D := by rw [e.m]; exact .inr rfl
    have e' : Ext g1 (g'.setM g1.M) H1 H' := ext_of_plusD e hl' nD
    have e2 : Ext g ((g'.setM g1.M).nos vs) H H' := (e1.trans e').trans (ext_nos _ _ vs)
    have gp : ((g'.setM g1.M).nos vs).plus D = g'.nos vs := nos_plus (H1 := H1) e.m vs
    refine okT_ret' hr e2 D ws' (none_back e1 nD) (fun z => ?_) hw ?_ ?_
    · rcases nos_av z with z | ⟨i, z⟩ | z
      · exact R1.alive D z nD
      · rcases e.own i D z with ⟨j, hj⟩ | hj
        · exact R1.ownLive (i := j) hj nD
        · exact lD hj
      · rcases e.bnew D z with z | z
        · exact β.live R1.box z nD
        · exact lD z
    · rw [gp]
      have hb := RD.backD e R' (wipe_length σ vs) vs M' hl'
      rw [restore_eq, backE_wipe] at hb
      exact hb
    · rw [gp]
      exact (ext_nos g' H' vs).reps r'
  refine ⟨fun i m H2 => m = xs.length - i ∧ i ≤ xs.length ∧ ∃ g2 ρ2 acc ws, Ext (g1.plus D) g2 (upd H1 D (.lst [])) (upd H2 D (.lst [])) ∧ Rel (gc X ct) β g2 (wipeE ρ2 vs) (wipe σ vs) H2 ∧ H2 D = some (.lst ws) ∧ RepsG (gc X ct) g2 H2 acc ws ∧
    okD D g2 H2 (lcL2 vs vs1 k tt it1 k1 tt1 el (xs.drop i) acc ρ2) End,
    ⟨xs.length, by simp, Nat.zero_le _, (g1.plus D).nos vs, ρ1, [], [], by rw [upd_upd]; exact ext_nos _ _ vs, RD.wipe vs, upd_same, .nil, okD_ext start (by rw [upd_upd]; exact ext_nos _ _ vs)⟩, ?_⟩
  rintro i m H2 ⟨rfl, hi, g2, ρ2, acc, ws, e2, R2, hw, ra, h2⟩
  have M2 : g2.M D := by rw [e2.m]; exact .inr rfl
  have kp : Keeps (gc X ct) g1 g2 H1 H2 := fun t v r => rep_updD M2 (e2.rep (rep_plus r sD nD))
  by_cases hlt : i < xs.length
  · refine .inr ⟨wk.go _ _ _ kp hlt, _, fun H' n => ⟨xs.length - (i + 1), by omega, n⟩, fun x H3 hy => ?_⟩
    have ex : xs[i]? = some xs[i] := List.getElem?_eq_getElem hlt
    obtain ⟨sm, rx⟩ := wk.yld _ _ _ _ _ _ kp (fun _ h => R2.avLive h) ex hy
    rw [List.drop_eq_getElem_cons hlt] at h2
    have hD2 : H2 D ≠ none := by rw [hw]; exact fun z => by cases z
    have hD3 : H3 D = some (.lst ws) := sm D _ hw
    have hD3' : H3 D ≠ none := by rw [hD3]; exact fun z => by cases z
    have h3 := okD_turn (c0 := gc X ct) (β := β) (Ex := E0) (okD_ext h2 (ext_updB (Ext.same sm) hD2)) hD3'
    refine ⟨g2, wipeE ρ2 vs, xs[i], R2.same sm, rx, okT_mono (okT_bind h3) fun g4 H4 ρ4 e4 h4 σ4 ag R4 => ⟨(wipe_agree ag hown).trans wipe_wipe, g4, ρ4, R4, okT_mono (okT_bind h4) fun g5 H5 p e5 h5 R5 => ?_⟩⟩
    have e35 : Ext g2 g5 H3 H5 := e4.trans e5
    have eD : ∀ {g6 : G} {H6 : Hp}, Ext g2 g6 H3 H6 → H6 D = some (.lst ws) := fun e => e.keep D _ hD3 (fun i z => (R2.sep i D z).1 M2) (R2.mb D M2)
    have eT : ∀ {g6 : G} {H6 : Hp} (o : HO), Ext g2 g6 H3 H6 → Ext (g1.plus D) g6 (upd H1 D (.lst [])) (upd (upd H6 D o) D (.lst [])) := fun {g6 H6} o e => by
      rw [upd_upd]
      exact e2.trans ((ext_updB (Ext.same sm) hD2).trans (ext_updB e hD3'))
    have w4 : wipe σ4 vs = wipe σ vs := (wipe_agree ag hown).trans wipe_wipe
    by_cases hp : p.1 = true
    · dsimp only
      rw [if_pos hp] at h5 ⊢
      refine ⟨g5, p.2, R5, okT_mono (okT_bind h5) fun g6 H6 s e6 h6 J1 R6 wk1 => ?_⟩
      obtain ⟨ys, ρ6⟩ := s
      have e36 : Ext g2 g6 H3 H6 := e35.trans e6
      have M6 : g6.M D := by rw [e36.m]; exact M2
      have hD6 : H6 D = some (.lst ws) := eD e36
      have hD6' : H6 D ≠ none := by rw [hD6]; exact fun z => by cases z
      by_cases hbig : acc.length + ys.length < big
      · have h6' : okT (gc X ct) β E0 g6 H6 (lcL vs1 k1 tt1 el ys acc ρ6) fun g' H' r => okD D g' H' (lcL2 vs vs1 k tt it1 k1 tt1 el (xs.drop (i + 1)) r.1 r.2) End := by
          have h6' : okT (gc X ct) β E0 g6 H6 (if acc.length + ys.length < big then _ else _) _ := h6
          rw [if_pos hbig] at h6'
          exact h6'
        have h7 := okD_okT (lcL_noExc vs1 k1 tt1 el ys acc ρ6) h6'
        refine ⟨fun j m H7 => m = ys.length - j ∧ j ≤ ys.length ∧ ∃ g7 ρ7 acc7 ws7, Ext g6 g7 (upd H6 D (.lst [])) (upd H7 D (.lst [])) ∧ Rel (gc X ct) β g7 (wipeE ρ7 vs1) (wipe σ4 vs1) H7 ∧ H7 D = some (.lst ws7) ∧ RepsG (gc X ct) g7 H7 acc7 ws7 ∧ acc7.length ≤ acc.length + j ∧
          okD D g7 H7 (lcL vs1 k1 tt1 el (ys.drop j) acc7 ρ7) fun g' H' r => okD D g' H' (lcL2 vs vs1 k tt it1 k1 tt1 el (xs.drop (i + 1)) r.1 r.2) End,
          ⟨ys.length, by simp, Nat.zero_le _, g6.nos vs1, ρ6, acc, ws, ext_nos _ _ vs1, R6.wipe vs1, hD6, (ext_nos g6 H6 vs1).reps (((Ext.same sm).trans e36).reps ra), by omega, okD_ext h7 (ext_nos _ _ vs1)⟩, ?_⟩
        rintro j m H7 ⟨rfl, hj, g7, ρ7, acc7, ws7, e7, R7, hw7, ra7, hlen7, h7⟩
        have M7 : g7.M D := by rw [e7.m]; exact M6
        have kp1 : Keeps (gc X ct) g6 g7 H6 H7 := fun t v r => rep_updD M7 (e7.rep (rep_updM M6 r))
        by_cases hjt : j < ys.length
        · refine .inr ⟨wk1.go _ _ _ kp1 hjt, _, fun H' n => ⟨ys.length - (j + 1), by omega, n⟩, fun y H8 hy => ?_⟩
          have ey : ys[j]? = some ys[j] := List.getElem?_eq_getElem hjt
          obtain ⟨sm7, ry⟩ := wk1.yld _ _ _ _ _ _ kp1 (fun _ h => R7.avLive h) ey hy
          rw [List.drop_eq_getElem_cons hjt] at h7
          have hD7 : H7 D ≠ none := by rw [hw7]; exact fun z => by cases z
          have hD8 : H8 D = some (.lst ws7) := sm7 D _ hw7
          have hD8' : H8 D ≠ none := by rw [hD8]; exact fun z => by cases z
          have h8 := okD_turn (c0 := gc X ct) (β := β) (Ex := E0) (okD_ext h7 (ext_updB (Ext.same sm7) hD7)) hD8'
          refine ⟨g7, wipeE ρ7 vs1, ys[j], R7.same sm7, ry, okT_mono (okT_bind h8) fun g9 H9 ρ9 e9 h9 σ9 ag9 R9 => ⟨(wipe_agree ag9 hown1).trans wipe_wipe, g9, ρ9, R9, okT_mono (okT_bind h9) fun g10 H10 p10 e10 h10 R10 => ?_⟩⟩
          have e810 : Ext g7 g10 H8 H10 := e9.trans e10
          have eD8 : ∀ {g6 : G} {H6 : Hp}, Ext g7 g6 H8 H6 → H6 D = some (.lst ws7) := fun e => e.keep D _ hD8 (fun i z => (R7.sep i D z).1 M7) (R7.mb D M7)
          have eT8 : ∀ {g11 : G} {H11 : Hp} (o : HO), Ext g7 g11 H8 H11 → Ext g6 g11 (upd H6 D (.lst [])) (upd (upd H11 D o) D (.lst [])) := fun {g11 H11} o e => by
            rw [upd_upd]
            exact e7.trans ((ext_updB (Ext.same sm7) hD7).trans (ext_updB e hD8'))
          by_cases hp10 : p10.1 = true
          · dsimp only
            rw [if_pos hp10] at h10 ⊢
            refine ⟨g10, p10.2, R10, okT_mono (okT_bind h10) fun g11 H11 s e11 h11 y R11 ry => ?_⟩
            obtain ⟨g12, z, e12, R12, rz, h12⟩ := frz_ok R11 ry h11
            have e812 : Ext g7 g12 H8 H11 := (e810.trans e11).trans e12
            have M12 : g12.M D := by rw [e812.m]; exact M7
            refine ⟨ws7, eD8 e812, ?_, rfl, hjt, g12.nos vs1, z.2, acc7 ++ [z.1], ws7 ++ [y], (eT8 _ e812).trans (ext_nos _ _ vs1), ?_, upd_same, ?_, by rw [List.length_append]; simp; omega, ?_⟩
            · have := ra7.length
              have := big_line
              omega
            · have R13 := (R12.updM (o := .lst (ws7 ++ [y])) M12).wipe vs1
              rw [wipe_agree ag9 hown1, wipe_wipe] at R13
              exact R13
            · exact (ext_nos g12 _ vs1).reps (rep_updL M12 ((((Ext.same sm7).trans e812).reps ra7).append (.one rz)))
            · exact okD_ext (okT_ret h12) (by rw [upd_upd]; exact ext_nos _ _ vs1)
          · dsimp only
            rw [if_neg hp10] at h10 ⊢
            refine ⟨rfl, hjt, g10.nos vs1, p10.2, acc7, ws7, ?_, ?_, eD8 e810, ?_, by omega, ?_⟩
            · have := eT8 (.lst ws7) e810
              rw [upd_upd] at this
              exact this.trans (ext_nos _ _ vs1)
            · have R13 := R10.wipe vs1
              rw [wipe_agree ag9 hown1, wipe_wipe] at R13
              exact R13
            · exact (ext_nos g10 _ vs1).reps (((Ext.same sm7).trans e810).reps ra7)
            · exact okD_ext (okT_ret h10) (ext_nos _ _ vs1)
        · have e : j = ys.length := by omega
          subst e
          rw [List.drop_length] at h7
          refine .inl ⟨wk1.stop _ _ _ kp1 (Nat.le_refl _), rfl, hlt, g7.nos vs, ρ7, acc7, ws7, ?_, ?_, hw7, (ext_nos g7 _ vs).reps ra7, ?_⟩
          · have e27 := eT (.lst ws7) e36
            rw [upd_upd] at e27
            exact (e27.trans e7).trans (ext_nos _ _ vs)
          · have R13 := R7.wipe vs
            rw [wipe_sub hsub, wipeE_sub hsub, w4] at R13
            exact R13
          · exact okD_ext (okD_ret h7) (ext_nos _ _ vs)
      · have h6' : okT (gc X ct) β E0 g6 H6 (if acc.length + ys.length < big then _ else _) _ := h6
        rw [if_neg hbig] at h6'
        exact (show False from h6').elim
    · dsimp only
      rw [if_neg hp] at h5 ⊢
      refine ⟨rfl, hlt, g5.nos vs, p.2, acc, ws, ?_, ?_, eD e35, ?_, ?_⟩
      · have := eT (.lst ws) e35
        rw [upd_upd] at this
        exact this.trans (ext_nos _ _ vs)
      · have R8 := R5.wipe vs
        rw [w4] at R8
        exact R8
      · exact (ext_nos g5 _ vs).reps (((Ext.same sm).trans e35).reps ra)
      · exact okD_ext (okT_ret h5) (ext_nos _ _ vs)
  · have e : i = xs.length := by omega
    subst e
    rw [List.drop_length] at h2
    have h3 := okD_ret h2
    rw [← hEnd] at h3
    exact .inl ⟨wk.stop _ _ _ kp (Nat.le_refl _), h3 ws hw R2 ra⟩
theorem jn_lc2 (hc : X.calm = true) (hN : X.N.Nodup) (ok : BlkOk X.N X.env.scope scope own) (vs1 : List Nat) (hown : ∀ i ∈ is, i ∈ own.map (·.2)) (hown1 : ∀ i ∈ is1, i ∈ vs1) (hsub : ∀ i ∈ vs1, i ∈ own.map (·.2)) (hi : JI X ct β Ex tg iter f)
    (hg : ∀ (s : Shared) (H : Hp) (C : Addr) (cl : List (Str × Addr)) (fp : List Addr), JG (X.blk s H scope (compEnvC scope cl C X.env) fp) ct β E0 tg is k) (ht : ∀ (s : Shared) (H : Hp) (C : Addr) (cl : List (Str × Addr)) (fp : List Addr), JTs (X.blk s H scope (compEnvC scope cl C X.env) fp) ct β E0 ifs tt)
    (hi1 : ∀ (s : Shared) (H : Hp) (C : Addr) (cl : List (Str × Addr)) (fp : List Addr), JI (X.blk s H scope (compEnvC scope cl C X.env) fp) ct β E0 tg1 iter1 it1)
    (hg1 : ∀ (s : Shared) (H : Hp) (C : Addr) (cl : List (Str × Addr)) (fp : List Addr), JG (X.blk s H scope (compEnvC scope cl C X.env) fp) ct β E0 tg1 is1 k1) (ht1 : ∀ (s : Shared) (H : Hp) (C : Addr) (cl : List (Str × Addr)) (fp : List Addr), JTs (X.blk s H scope (compEnvC scope cl C X.env) fp) ct β E0 ifs1 tt1)
    (he : ∀ (s : Shared) (H : Hp) (C : Addr) (cl : List (Str × Addr)) (fp : List Addr), JE (X.blk s H scope (compEnvC scope cl C X.env) fp) ct β E0 elt el) (hs : ∀ x, foldedSetIterable iter X.env x = pure x := by intro _; rfl) (hs1 : ∀ env x, foldedSetIterable iter1 env x = pure x := by intro _ _; rfl) :
    JN X ct β Ex (.ListComp elt [⟨tg, iter, ifs, 0⟩, ⟨tg1, iter1, ifs1, 0⟩] scope pos) (nLc2 (own.map (·.2)) vs1 f k tt it1 k1 tt1 el) := by
  exact PE.imp (pe_lc2 (vs1 := vs1) (g := rdG (gc X ct) β E0 is k) (tt := rdB (gc X ct) β E0 tt) (wi1 := rdI (gc X ct) β E0 it1) (g1 := rdG (gc X ct) β E0 is1 k1) (tt1 := rdB (gc X ct) β E0 tt1) (te := rdE (gc X ct) β E0 el) hc hN hi ok hsub hg ht hi1 hg1 ht1 he hs hs1) fun σ H Q h => lc2_ok hown hown1 hsub h
end
end Dn

set_option Elab.async false
set_option linter.all false
set_option maxRecDepth 100000
namespace Dn
open PySem PySem.Spec PyProof.Rows L2
/-! ### laws whose ends can be reckoned, statement by statement -/
mutual
def eqA : AV → AV → Bool
  | .non, .non => true
  | .bl a, .bl b => a == b
  | .int a, .int b => decide (a = b)
  | .str a, .str b => decide (a = b)
  | .tup a, .tup b => eqAs a b
  | .lst a, .lst b => eqAs a b
  | .ins c a, .ins d b => decide (c = d) && eqAs a b
  | .box, .box => true
  | .any, .any => true
  | _, _ => false
def eqAs : List AV → List AV → Bool
  | [], [] => true
  | a :: as, b :: bs => eqA a b && eqAs as bs
  | _, _ => false
end
mutual
theorem eqA_eq : ∀ (a b : AV), eqA a b = true → a = b
  | .non, b, h => by cases b <;> first | rfl | (unfold eqA at h; cases h)
  | .bl x, b, h => by
    cases b with
    | bl y => rw [eqA] at h; rw [eq_of_beq h]
    | _ => unfold eqA at h; cases h
  | .int x, b, h => by
    cases b with
    | int y => rw [eqA] at h; rw [of_decide_eq_true h]
    | _ => unfold eqA at h; cases h
  | .str x, b, h => by
    cases b with
    | str y => rw [eqA] at h; rw [of_decide_eq_true h]
    | _ => unfold eqA at h; cases h
  | .tup x, b, h => by
    cases b with
    | tup y => rw [eqA] at h; rw [eqAs_eq x y h]
    | _ => unfold eqA at h; cases h
  | .lst x, b, h => by
    cases b with
    | lst y => rw [eqA] at h; rw [eqAs_eq x y h]
    | _ => unfold eqA at h; cases h
  | .ins c x, b, h => by
    cases b with
    | ins d y => rw [eqA, Bool.and_eq_true] at h; rw [of_decide_eq_true h.1, eqAs_eq x y h.2]
    | _ => unfold eqA at h; cases h
  | .box, b, h => by cases b <;> first | rfl | (unfold eqA at h; cases h)
  | .any, b, h => by cases b <;> first | rfl | (unfold eqA at h; cases h)
  | .scr ns, b, h => by cases b <;> (unfold eqA at h; cases h)
theorem eqAs_eq : ∀ (a b : List AV), eqAs a b = true → a = b
  | [], b, h => by cases b with
    | nil => rfl
    | cons _ _ => unfold eqAs at h; cases h
  | x :: xs, b, h => by cases b with
    | nil => unfold eqAs at h; cases h
    | cons y ys => rw [eqAs, Bool.and_eq_true] at h; rw [eqA_eq x y h.1, eqAs_eq xs ys h.2]
end
def eqP : List (AV × AV) → List (AV × AV) → Bool
  | [], [] => true
  | (a, b) :: xs, (c, d) :: ys => eqA a c && (eqA b d && eqP xs ys)
  | _, _ => false
theorem eqP_eq : ∀ (a b : List (AV × AV)), eqP a b = true → a = b
  | [], [], _ => rfl
  | [], _ :: _, h => by unfold eqP at h; cases h
  | _ :: _, [], h => by unfold eqP at h; cases h
  | (a, b) :: xs, (c, d) :: ys, h => by
    rw [eqP, Bool.and_eq_true, Bool.and_eq_true] at h
    rw [eqA_eq a c h.1, eqA_eq b d h.2.1, eqP_eq xs ys h.2.2]
def eqS : Slot → Slot → Bool
  | .un, .un => true
  | .fro a, .fro b => eqA a b
  | .ml a, .ml b => eqAs a b
  | .md a b, .md c d => a == c && eqP b d
  | _, _ => false
theorem eqS_eq (a b : Slot) (h : eqS a b = true) : a = b := by
  cases a <;> cases b <;> first | rfl | (unfold eqS at h; cases h; done) | skip
  · rw [eqS] at h; rw [eqA_eq _ _ h]
  · rw [eqS] at h; rw [eqAs_eq _ _ h]
  · rw [eqS, Bool.and_eq_true] at h; rw [eq_of_beq h.1, eqP_eq _ _ h.2]
def eqE : Env' → Env' → Bool
  | [], [] => true
  | a :: as, b :: bs => eqS a b && eqE as bs
  | _, _ => false
theorem eqE_eq : ∀ (a b : Env'), eqE a b = true → a = b
  | [], [], _ => rfl
  | [], _ :: _, h => by unfold eqE at h; cases h
  | _ :: _, [], h => by unfold eqE at h; cases h
  | a :: as, b :: bs, h => by rw [eqE, Bool.and_eq_true] at h; rw [eqS_eq a b h.1, eqE_eq as bs h.2]
/-- the run goes on with these slots -/
def nxIs (m : T Out) (ρ : Env') : Bool := match m with
  | .ret (.nx ρ') => eqE ρ' ρ
  | _ => false
theorem nxIs_eq {m : T Out} {ρ : Env'} (h : nxIs m ρ = true) : m = .ret (.nx ρ) := by
  unfold nxIs at h
  split at h
  · rw [eqE_eq _ _ h]
  · cases h
def eachB (k : Nat → T Out) : List Env' → Nat → Bool
  | [], _ => true
  | ρ :: ρs, i => nxIs (k i) ρ && eachB k ρs (i + 1)
/-- the run draws, and goes on with one of these -/
def drIs (m : T Out) (ρs : List Env') : Bool := match m with
  | .draw n k => decide (n = ρs.length) && eachB k ρs 0
  | _ => false
theorem eachB_get {k : Nat → T Out} : ∀ (ρs : List Env') (i r : Nat) (h : eachB k ρs i = true) (hr : r < ρs.length), nxIs (k (i + r)) (ρs[r]'hr) = true
  | [], _, _, _, hr => absurd hr (Nat.not_lt_zero _)
  | ρ :: ρs, i, 0, h, _ => by rw [eachB, Bool.and_eq_true] at h; exact h.1
  | ρ :: ρs, i, r + 1, h, hr => by
    rw [eachB, Bool.and_eq_true] at h
    have := eachB_get ρs (i + 1) r h.2 (Nat.lt_of_succ_lt_succ hr)
    rw [show i + (r + 1) = i + 1 + r by omega]
    exact this
def AllT (m : T Out) : Prop := (m.bind outV).Al (fun t => t = .bl true) NoX
theorem allT_nx {f k : SSem} {ρ ρ1 : Env'} (h : nxIs (f ρ) ρ1 = true) (h2 : AllT (k ρ1)) : AllT (sSeq f k ρ) := by
  unfold AllT sSeq
  rw [nxIs_eq h]
  exact h2
theorem allT_dr {f k : SSem} {ρ : Env'} {ρs : List Env'} (h : drIs (f ρ) ρs = true) (h2 : ∀ (r : Nat) (ρ1 : Env'), ρs[r]? = some ρ1 → AllT (k ρ1)) : AllT (sSeq f k ρ) := by
  unfold drIs at h
  split at h
  · rename_i n g e
    rw [Bool.and_eq_true] at h
    have hn := of_decide_eq_true h.1
    subst hn
    unfold AllT sSeq
    rw [e]
    refine al_iff.mpr ?_
    intro r hr
    have q := eachB_get ρs 0 r h.2 hr
    rw [Nat.zero_add] at q
    show ((((g r).bind fun o => match o with | .nx ρ' => k ρ' | o => .ret o)).bind outV).all (fun t => t = .bl true) NoX
    rw [nxIs_eq q]
    exact al_iff.mp (h2 r _ (List.getElem?_eq_getElem hr))
  · cases h
theorem allT_end {f : SSem} {ρ : Env'} (h : isTrueD ((f ρ).bind outV) = true) : AllT (f ρ) := al_iff.mpr (of_isTrueD h)
theorem each_nil {Q : Env' → Prop} : ∀ (r : Nat) (ρ1 : Env'), ([] : List Env')[r]? = some ρ1 → Q ρ1 := fun r ρ1 h => by cases r <;> cases h
theorem each_cons {Q : Env' → Prop} {ρ : Env'} {ρs : List Env'} (h : Q ρ) (h2 : ∀ (r : Nat) (ρ1 : Env'), ρs[r]? = some ρ1 → Q ρ1) : ∀ (r : Nat) (ρ1 : Env'), (ρ :: ρs)[r]? = some ρ1 → Q ρ1
  | 0, ρ1, e => by cases e; exact h
  | r + 1, ρ1, e => h2 r ρ1 e
theorem closed_law2 {s1 r : SSem} {n : Nat} {ns : List Int} {ρ1 : Env'} (h1 : s1 (.fro (.scr ns) :: List.replicate n .un) = .ret (.nx ρ1)) (h : AllT (r ρ1)) : (fnOf 1 (n + 1) (sSeq s1 r) [.scr ns]).Al (fun t => t = .bl true) NoX := by
  have e : fnOf 1 (n + 1) (sSeq s1 r) [.scr ns] = (r ρ1).bind outV := by
    unfold fnOf
    rw [if_pos (show [AV.scr ns].length = 1 from rfl)]
    show ((s1 (.fro (.scr ns) :: List.replicate n .un)).bind _).bind outV = _
    rw [h1]
    rfl
  rw [e]
  exact h
theorem law_endA {P : Program} {w : World} {K : PySem.W.Frag} {mg : Str → Option Value} {base : Heap} {ct : CT} {β : BInv} {lv : Nat} {fa : Addr} {fd : FuncData} {x : Str} {fn : List AV → T AV} (F : FnOk P w K mg base (L2.CX P w) lv fa fd [x] (spM ⟨K, mg, ct⟩ β 1 fn))
    (hb : ∀ H, β.I (fun _ => False) (fun _ => False) H) (h : ∀ ns : List Int, ns.length ≤ 63 → (fn [.scr ns]).Al (fun t => t = .bl true) NoX) : FnOk P w K mg base (L2.CX P w) lv fa fd [x] (spLaw K) := law_end F hb fun ns hl => al_iff.mp (h ns hl)
theorem law_endA0 {P : Program} {w : World} {K : PySem.W.Frag} {mg : Str → Option Value} {base : Heap} {ct : CT} {β : BInv} {lv : Nat} {fa : Addr} {fd : FuncData} {x : Str} {fn : List AV → T AV} (F : FnOk P w K mg base (L2.CX P w) lv fa fd [x] (spM ⟨K, mg, ct⟩ β 1 fn))
    (hb : ∀ H, β.I (fun _ => False) (fun _ => False) H) (h : (fn [.any]).Al (fun t => t = .bl true) NoX) : FnOk P w K mg base (L2.CX P w) lv fa fd [x] (spLaw K) := law_end0 F hb (al_iff.mp h)
end Dn

set_option Elab.async false
set_option linter.all false
set_option maxRecDepth 100000
set_option maxHeartbeats 0
namespace K11
open PySem PySem.Spec PyProof.Rows L2 Dn
/-! the text by places -/
def top (i : Nat) : Stmt := PySem.Challenge.pw_turnrota_k11_ways_known_by_hand.main.body.getD i (.Pass ⟨0, 0, 0, 0⟩)
abbrev s_law_box : Stmt := top 35
abbrev s_is_integer : Stmt := top 6
abbrev s_is_whole : Stmt := top 7
abbrev s_is_sequence : Stmt := top 9
abbrev s_is_below : Stmt := top 8
abbrev s_are_spots : Stmt := top 27
abbrev s_is_row : Stmt := top 26
abbrev s_are_rows : Stmt := top 25
abbrev s_Rota_init : Stmt := inClass (top 24) 0
abbrev s_law_take : Stmt := top 36
abbrev s_law_pick : Stmt := top 37
abbrev s_round_spots : Stmt := top 20
abbrev s_Rota_len : Stmt := inClass (top 24) 2
abbrev s_dues_ahead : Stmt := top 22
abbrev s_round_dues : Stmt := top 21
abbrev s_check_wheel : Stmt := top 18
abbrev s_round_days : Stmt := top 14
abbrev s_due_count : Stmt := top 16
abbrev s_place : Stmt := top 12
abbrev s_is_due : Stmt := top 15
abbrev s_wheel_on : Stmt := top 13
abbrev s_far_item : Stmt := top 19
abbrev s_due_day : Stmt := top 17
abbrev s_law : Stmt := top 38
/-- names of the language that the text does not give anew -/
structure Bl (mg : Str → Option Value) : Prop where
  n_abs : mg "abs" = none
  n_all : mg "all" = none
  n_bool : mg "bool" = none
  n_divmod : mg "divmod" = none
  n_int : mg "int" = none
  n_isinstance : mg "isinstance" = none
  n_len : mg "len" = none
  n_list : mg "list" = none
  n_range : mg "range" = none
  n_set : mg "set" = none
  n_sorted : mg "sorted" = none
  n_tuple : mg "tuple" = none
def CT0 : CT := fun
  | 0 => ("Rota", ["places", "rows"])
  | _ => ("", [])
structure Tx_Rota (K : PySem.W.Frag) (mg : Str → Option Value) (C : Addr) : Prop where
  mgC : mg "Rota" = some (.ref C)
  cl : Cls K C
  n_places : NoAttr K C "places"
  n_rows : NoAttr K C "rows"
theorem fc_Rota {X : Cx} {C : Addr} {f : Str} (Z : Tx_Rota X.K X.mg C) (h : NoAttr X.K C f) : ∀ C', X.mg (CT0 0).1 = some (.ref C') → Cls X.K C' ∧ NoAttr X.K C' f := fun C' e => by
  have e2 : some (Value.ref C) = some (Value.ref C') := Z.mgC.symm.trans e
  cases e2
  exact ⟨Z.cl, h⟩
theorem fld_Rota_places {X : Cx} {C : Addr} (Z : Tx_Rota X.K X.mg C) : FldOk X CT0 0 0 "places" := ⟨rfl, by decide +kernel, fc_Rota Z Z.n_places⟩
theorem fld_Rota_rows {X : Cx} {C : Addr} (Z : Tx_Rota X.K X.mg C) : FldOk X CT0 0 1 "rows" := ⟨rfl, by decide +kernel, fc_Rota Z Z.n_rows⟩
abbrev BB : BInv := BoxI okA
abbrev f_law_box : List AV → T AV := fBox
abbrev f_law_take : List AV → T AV := fDraw
abbrev FUEL : Nat := 1000
section
variable {P : Program} {w : World} {K : PySem.W.Frag} {mg : Str → Option Value} {base : Heap}
theorem scBox : FnScope ["_law_script", "_law_k", "_law_own", "_law_cell", "_law_seed"] ["_law_script", "_law_k", "_law_own"] (defScope s_law_box) := ⟨rfl, rfl, rfl, by decide +kernel, rfl, by decide +kernel, by decide +kernel⟩
theorem ok_box {f : Addr} {fd : FuncData} (F : Fun K "_law_box" "_law_box" s_law_box f fd) (T : Bl mg) : FnOk P w K mg base CX0 1 f fd ["_law_script", "_law_k", "_law_own"] (spBoxS K okA) := by
  refine F.ok scBox (fun vs H Q E h => ?_) (fun cdv A outer s H vs Q E hr h => ?_)
  · obtain ⟨a, k, o, ns, rfl, _⟩ := h
    rfl
  · obtain ⟨a, k, o, ns, rfl, hs, hk, ho, q⟩ := h
    refine ⟨_, pss_cons (ps_set (i := 3) scBox.nd rfl (.inl rfl) (pe_op op_add (pe_op op_add (pe_op op_mul pe_int (pv 1)) (pe_op op_mul pe_int (pv 2))) pe_int))
      (pss_cons (ps_if (pt_cmpR op_lt (pv 1) (pe_callB call_len_seq (by rfl) T.n_len PySem.boot_len (pa_cons (pv 0) pa_nil)) (nomark _))
        (pss_one (ps_set (i := 3) scBox.nd rfl (.inl rfl) (pe_callB call_abs (by rfl) T.n_abs (by decide +kernel) (pa_cons (pe_ix ix_list (pv 0) (pv 1) (fun _ _ => rfl)) pa_nil))))
        (pss_one (ps_if (pt_cmpR op_gt (pe_callB call_len_seq (by rfl) T.n_len PySem.boot_len (pa_cons (pv 0) pa_nil)) pe_int (nomark _))
          (pss_one (ps_set (i := 3) scBox.nd rfl (.inl rfl) (pe_op op_add (pv 3) (pe_op op_mul (pe_op op_mod (pe_callTy call_int1 (by rfl) T.n_int (by decide +kernel) (pa_cons (pe_callB call_abs (by rfl) T.n_abs (by decide +kernel)
            (pa_cons (pe_ix ix_list (pv 0) (pe_op op_mod (pe_callTy call_int1 (by rfl) T.n_int (by decide +kernel) (pa_cons (pv 1) pa_nil)) (pe_callB call_len_seq (by rfl) T.n_len PySem.boot_len (pa_cons (pv 0) pa_nil))) (fun _ _ => rfl)) pa_nil)) pa_nil)) pe_int) pe_int))))
          pss_nil)))
      (pss_cons (ps_set (i := 4) scBox.nd rfl (.inl rfl) (pe_op op_add (pe_op op_mod (pe_callTy call_int1 (by rfl) T.n_int (by decide +kernel) (pa_cons (pe_op op_add (pe_op op_mul (pe_op op_mod (pe_callTy call_int1 (by rfl) T.n_int (by decide +kernel) (pa_cons (pv 3) pa_nil)) pe_int) pe_int)
          (pe_op op_mul pe_int (pe_op op_add (pv 1) (pe_op op_mul pe_int (pv 2))))) pa_nil)) pe_int) pe_int))
      (pss_one (ps_ret (pe_lst (pa_cons (pe_ix ix_list (pe_lst (pa_cons pe_int (pa_cons (pv 3) pa_nil))) (pe_callTy call_int1 (by rfl) T.n_int (by decide +kernel) (pa_cons (pe_cmpR op_ge (pv 3) (pe_op op_pow pe_int pe_int) (nomark _)) pa_nil)) (fun _ _ => rfl)) (pa_cons (pv 4) (pa_cons pe_int pa_nil)))))))), ?_⟩
    -- the end, from any cell that is no negative number
    have fin : ∀ (c : Int), 0 ≤ c → (∀ (D : Ends), D = { nx := fun _ H' => Q .non H', rt := Q } → tSeq (tAsg (tOp (rI0 fun i j => .int (i + j)) (tOp (rI (fun _ j => 0 < j) fun i j => .int (i % j)) (tCB (fun xs H Q => (∃ i, xs = [.int i] ∧ Q (.int i) H) ∨ ∃ k, xs = [.bl k] ∧ Q (.int (if k then 1 else 0)) H) (tCons (tOp (rI0 fun i j => .int (i + j)) (tOp (rI CMul fun i j => .int (i * j)) (tOp (rI (fun _ j => 0 < j) fun i j => .int (i % j)) (tCB (fun xs H Q => (∃ i, xs = [.int i] ∧ Q (.int i) H) ∨ ∃ k, xs = [.bl k] ∧ Q (.int (if k then 1 else 0)) H) (tCons (tVar 3) tNil)) (tC (.int 2147483629))) (tC (.int 48271))) (tOp (rI CMul fun i j => .int (i * j)) (tC (.int 40692)) (tOp (rI0 fun i j => .int (i + j)) (tVar 1) (tOp (rI CMul fun i j => .int (i * j)) (tC (.int 11)) (tVar 2))))) tNil)) (tC (.int 2147483629))) (tC (.int 1))) (gName 4))
        (tRet (tLst (tCons (tOp (rIxL K) (tLst (tCons (tC (.int 0)) (tCons (tVar 3) tNil))) (tCB (fun xs H Q => (∃ i, xs = [.int i] ∧ Q (.int i) H) ∨ ∃ k, xs = [.bl k] ∧ Q (.int (if k then 1 else 0)) H) (tCons (tOp (rI0 fun i j => .bl (decide (j ≤ i))) (tVar 3) (tOp (rI CPow fun i j => .int (i ^ j.toNat)) (tC (.int 10)) (tC (.int 18)))) tNil))) (tCons (tVar 4) (tCons (tC (.int 0)) tNil))))) D [some (.ref a), some (.int k), some (.int o), some (.int c), none] H) := by
      intro c hc D hD
      subst hD
      refine ⟨_, rfl, .inl ⟨_, rfl, _, _, rfl, rfl, (by decide : (0 : Int) < 2147483629), _, _, rfl, rfl, .inr ⟨by decide, by decide⟩, _, rfl, _, rfl, _, _, rfl, rfl, .inl ⟨by decide, by decide⟩, _, _, rfl, rfl, _, _, rfl, rfl, .inl ⟨by decide, by decide⟩, _, _, rfl, rfl, .inl ⟨_, rfl, _, _, rfl, rfl, (by decide : (0 : Int) < 2147483629), _, _, rfl, rfl, ?_⟩⟩⟩
      refine ⟨_, rfl, (by show 2 ≤ sizeLine; decide), fun p np => ⟨_, rfl, _, _, rfl, rfl, ⟨by decide, by decide, by decide⟩, _, _, rfl, rfl, .inr ⟨_, rfl, p, [.int 0, .int c], (if decide ((10 : Int) ^ (18 : Int).toNat ≤ c) = true then 1 else 0), ?_⟩⟩⟩
      have sp : Same H (upd H p (.lst [.int 0, .int c])) := same_new np
      by_cases hb : ((10 : Int) ^ (18 : Int).toNat) ≤ c
      · refine ⟨.int c, rfl, rfl, SqL.of upd_same, ?_, _, rfl, (by show 3 ≤ sizeLine; decide), fun D nD => ?_⟩
        · rw [decide_eq_true hb]
          rfl
        · refine q D _ (sp.free nD) (sp.trans (same_new nD)) ⟨_, upd_same, c, _, 0, rfl, hc, ?_, ?_⟩
          · have := Int.emod_nonneg (c % 2147483629 * 48271 + 40692 * (k + 11 * o)) (by decide : (2147483629 : Int) ≠ 0)
            omega
          · have := Int.emod_lt_of_pos (c % 2147483629 * 48271 + 40692 * (k + 11 * o)) (by decide : (0 : Int) < 2147483629)
            omega
      · refine ⟨.int 0, rfl, rfl, SqL.of upd_same, ?_, _, rfl, (by show 3 ≤ sizeLine; decide), fun D nD => ?_⟩
        · rw [decide_eq_false hb]
          rfl
        · refine q D _ (sp.free nD) (sp.trans (same_new nD)) ⟨_, upd_same, 0, _, 0, rfl, Int.le_refl _, ?_, ?_⟩
          · have := Int.emod_nonneg (c % 2147483629 * 48271 + 40692 * (k + 11 * o)) (by decide : (2147483629 : Int) ≠ 0)
            omega
          · have := Int.emod_lt_of_pos (c % 2147483629 * 48271 + 40692 * (k + 11 * o)) (by decide : (0 : Int) < 2147483629)
            omega
    refine ⟨_, rfl, _, _, rfl, rfl, .inl ⟨by decide, by decide⟩, _, rfl, _, _, rfl, rfl, .inl ⟨by decide, by decide⟩, _, _, rfl, rfl, _, _, rfl, rfl, ?_⟩
    refine ⟨_, rfl, _, rfl, a, _, rfl, .inl hs, _, _, rfl, rfl, _, rfl, ?_⟩
    have habs : ∀ i : Int, 0 ≤ (if i < 0 then -i else i) := fun i => by
      split <;> omega
    rw [List.length_map]
    by_cases hlt : k < (ns.length : Int)
    · rw [decide_eq_true hlt]
      have hg : k.toNat < ns.length := by omega
      refine iteT ⟨_, rfl, _, rfl, a, _, _, .int ns[k.toNat], rfl, rfl, hs, at_int hk ?_, _, rfl, ?_⟩
      · rw [List.getElem?_map, List.getElem?_eq_getElem hg]
        rfl
      · exact fin _ (habs _) _ rfl
    · rw [decide_eq_false hlt]
      refine iteF ⟨_, rfl, a, _, rfl, .inl hs, _, _, rfl, rfl, _, rfl, ?_⟩
      rw [List.length_map]
      by_cases h0 : (0 : Int) < (ns.length : Int)
      · rw [decide_eq_true h0]
        have hm0 := Int.emod_nonneg k (show (ns.length : Int) ≠ 0 by omega)
        have hm1 := Int.emod_lt_of_pos k h0
        have hg : (k % (ns.length : Int)).toNat < ns.length := by omega
        refine iteT ⟨_, rfl, _, rfl, _, rfl, .inl ⟨_, rfl, _, rfl, a, _, rfl, .inl hs, _, _, rfl, rfl, ?_⟩⟩
        rw [List.length_map]
        refine ⟨h0, a, _, _, .int ns[(k % (ns.length : Int)).toNat], rfl, rfl, hs, at_int hm0 ?_, _, rfl, .inl ⟨_, rfl, _, _, rfl, rfl, (by decide : (0 : Int) < 2147483629), _, _, rfl, rfl, .inr ⟨by decide, by decide⟩, _, _, rfl, rfl, ?_⟩⟩
        · rw [List.getElem?_map, List.getElem?_eq_getElem hg]
          rfl
        · refine fin _ ?_ _ rfl
          have := Int.emod_nonneg (if ns[(k % (ns.length : Int)).toNat] < 0 then -ns[(k % (ns.length : Int)).toNat] else ns[(k % (ns.length : Int)).toNat]) (by decide : (2147483629 : Int) ≠ 0)
          omega
      · rw [decide_eq_false h0]
        refine iteF (fin _ ?_ _ rfl)
        omega


abbrev N_is_integer : List Str := ["value"]
def b_is_integer : SSem := (sSeq (sRet (fAnd (fUn (pIsi "int") (fVar 0)) (fNot (fUn (pIsi "bool") (fVar 0)))))
  sNil)
def f_is_integer : List AV → T AV := fnOf 1 1 b_is_integer
theorem S_is_integer : FnScope N_is_integer ["value"] (defScope s_is_integer) := ⟨rfl, rfl, rfl, by decide +kernel, rfl, by decide +kernel, by decide +kernel⟩
theorem l_is_integer {C_Rota : Addr} (T : Bl mg) (Z_Rota : Tx_Rota K mg C_Rota) {f : Addr} {cdv : Value} {A : Around} {outer : List Env} {s : Shared} {H : Hp} {E : XK} (hr : Room 0 (A.deeper (envOfC "is_integer" (defScope s_is_integer) s.heap.objs.size f cdv))) :
  JSs (cxOf (L2.CX P w) P w K mg base N_is_integer "is_integer" (defScope s_is_integer) f cdv A outer s H E) CT0 BB E (defBody s_is_integer) b_is_integer := by
  have S := S_is_integer
  have h64 : (A.deeper (envOfC "is_integer" (defScope s_is_integer) s.heap.objs.size f cdv)).units + 64 < cLine := by
    have := hr.un
    omega
  have h65 : (A.deeper (envOfC "is_integer" (defScope s_is_integer) s.heap.objs.size f cdv)).units + 65 < cLine := by
    have := hr.un
    omega
  have h1 : (A.deeper (envOfC "is_integer" (defScope s_is_integer) s.heap.objs.size f cdv)).units + 1 < cLine := by
    have := hr.un
    omega
  refine js_cons ?_ js_nil
  · exact (js_ret (j_and (j_isi kinds_int (by rfl) T.n_isinstance (by rfl) T.n_int (by decide +kernel) (j_var 0)) (j_one (j_not (j_isi kinds_bool (by rfl) T.n_isinstance (by rfl) T.n_bool (by decide +kernel) (j_var 0))))))
theorem d_is_integer {C_Rota : Addr} {fa : Addr} {fd : FuncData} (F : Fun K "is_integer" "is_integer" s_is_integer fa fd) (h1 : mg "is_integer" = some (.ref fa)) (h2 : PySem.W.keepIn K (.ref fa) = true) (b : Binds K fd ["value"] []) (T : Bl mg) (Z_Rota : Tx_Rota K mg C_Rota) : Df P w K mg base CT0 BB 1 "is_integer" 1 ["value"] f_is_integer :=
  ⟨⟨fa, fd, fn_def (N := N_is_integer) (ps := ["value"]) (k := 0) (body := b_is_integer) F S_is_integer (by decide) fun _ _ _ _ _ _ hr => l_is_integer T Z_Rota  hr, h1, h2, b⟩, fnOf_len⟩

abbrev N_is_whole : List Str := ["value", "least"]
def b_is_whole : SSem := (sSeq (sRet (fAnd (fCall f_is_integer [] (lCons (fVar 0) lNil)) (fBin pGe (fVar 0) (fVar 1))))
  sNil)
def f_is_whole : List AV → T AV := fnOf 2 2 b_is_whole
theorem S_is_whole : FnScope N_is_whole ["value", "least"] (defScope s_is_whole) := ⟨rfl, rfl, rfl, by decide +kernel, rfl, by decide +kernel, by decide +kernel⟩
theorem l_is_whole {C_Rota : Addr} (T : Bl mg) (Z_Rota : Tx_Rota K mg C_Rota) (D_is_integer : Df P w K mg base CT0 BB 1 "is_integer" 1 ["value"] f_is_integer) {f : Addr} {cdv : Value} {A : Around} {outer : List Env} {s : Shared} {H : Hp} {E : XK} (hr : Room 1 (A.deeper (envOfC "is_whole" (defScope s_is_whole) s.heap.objs.size f cdv))) :
  JSs (cxOf (L2.CX P w) P w K mg base N_is_whole "is_whole" (defScope s_is_whole) f cdv A outer s H E) CT0 BB E (defBody s_is_whole) b_is_whole := by
  have S := S_is_whole
  have h64 : (A.deeper (envOfC "is_whole" (defScope s_is_whole) s.heap.objs.size f cdv)).units + 64 < cLine := by
    have := hr.un
    omega
  have h65 : (A.deeper (envOfC "is_whole" (defScope s_is_whole) s.heap.objs.size f cdv)).units + 65 < cLine := by
    have := hr.un
    omega
  have h1 : (A.deeper (envOfC "is_whole" (defScope s_is_whole) s.heap.objs.size f cdv)).units + 1 < cLine := by
    have := hr.un
    omega
  refine js_cons ?_ js_nil
  · exact (js_ret (j_and (j_callD (lv := 1) D_is_integer (hr.mono (by decide)) passB (jl_cons (j_var 0) jl_nil)) (j_one (j_cmp op_ge o_ge.op (j_var 0) (j_var 1) (nomark _)))))
theorem d_is_whole {C_Rota : Addr} {fa : Addr} {fd : FuncData} (F : Fun K "is_whole" "is_whole" s_is_whole fa fd) (h1 : mg "is_whole" = some (.ref fa)) (h2 : PySem.W.keepIn K (.ref fa) = true) (b : Binds K fd ["value", "least"] []) (T : Bl mg) (Z_Rota : Tx_Rota K mg C_Rota) (D_is_integer : Df P w K mg base CT0 BB 1 "is_integer" 1 ["value"] f_is_integer) : Df P w K mg base CT0 BB 2 "is_whole" 2 ["value", "least"] f_is_whole :=
  ⟨⟨fa, fd, fn_def (N := N_is_whole) (ps := ["value", "least"]) (k := 1) (body := b_is_whole) F S_is_whole (by decide) fun _ _ _ _ _ _ hr => l_is_whole T Z_Rota D_is_integer hr, h1, h2, b⟩, fnOf_len⟩

abbrev N_is_sequence : List Str := ["value"]
def b_is_sequence : SSem := (sSeq (sRet (fUn (pIsi2 "list" "tuple") (fVar 0)))
  sNil)
def f_is_sequence : List AV → T AV := fnOf 1 1 b_is_sequence
theorem S_is_sequence : FnScope N_is_sequence ["value"] (defScope s_is_sequence) := ⟨rfl, rfl, rfl, by decide +kernel, rfl, by decide +kernel, by decide +kernel⟩
theorem l_is_sequence {C_Rota : Addr} (T : Bl mg) (Z_Rota : Tx_Rota K mg C_Rota) {f : Addr} {cdv : Value} {A : Around} {outer : List Env} {s : Shared} {H : Hp} {E : XK} (hr : Room 0 (A.deeper (envOfC "is_sequence" (defScope s_is_sequence) s.heap.objs.size f cdv))) :
  JSs (cxOf (L2.CX P w) P w K mg base N_is_sequence "is_sequence" (defScope s_is_sequence) f cdv A outer s H E) CT0 BB E (defBody s_is_sequence) b_is_sequence := by
  have S := S_is_sequence
  have h64 : (A.deeper (envOfC "is_sequence" (defScope s_is_sequence) s.heap.objs.size f cdv)).units + 64 < cLine := by
    have := hr.un
    omega
  have h65 : (A.deeper (envOfC "is_sequence" (defScope s_is_sequence) s.heap.objs.size f cdv)).units + 65 < cLine := by
    have := hr.un
    omega
  have h1 : (A.deeper (envOfC "is_sequence" (defScope s_is_sequence) s.heap.objs.size f cdv)).units + 1 < cLine := by
    have := hr.un
    omega
  refine js_cons ?_ js_nil
  · exact (js_ret (j_isi2 kinds_list kinds_tuple (by rfl) T.n_isinstance (by rfl) T.n_list (by decide +kernel) (by rfl) T.n_tuple (by decide +kernel) (j_var 0)))
theorem d_is_sequence {C_Rota : Addr} {fa : Addr} {fd : FuncData} (F : Fun K "is_sequence" "is_sequence" s_is_sequence fa fd) (h1 : mg "is_sequence" = some (.ref fa)) (h2 : PySem.W.keepIn K (.ref fa) = true) (b : Binds K fd ["value"] []) (T : Bl mg) (Z_Rota : Tx_Rota K mg C_Rota) : Df P w K mg base CT0 BB 1 "is_sequence" 1 ["value"] f_is_sequence :=
  ⟨⟨fa, fd, fn_def (N := N_is_sequence) (ps := ["value"]) (k := 0) (body := b_is_sequence) F S_is_sequence (by decide) fun _ _ _ _ _ _ hr => l_is_sequence T Z_Rota  hr, h1, h2, b⟩, fnOf_len⟩

abbrev N_is_below : List Str := ["value", "many"]
def b_is_below : SSem := (sSeq (sRet (fAnd (fCall f_is_whole [] (lCons (fVar 0) (lCons (fC (.int 0)) lNil))) (fBin pLt (fVar 0) (fVar 1))))
  sNil)
def f_is_below : List AV → T AV := fnOf 2 2 b_is_below
theorem S_is_below : FnScope N_is_below ["value", "many"] (defScope s_is_below) := ⟨rfl, rfl, rfl, by decide +kernel, rfl, by decide +kernel, by decide +kernel⟩
theorem l_is_below {C_Rota : Addr} (T : Bl mg) (Z_Rota : Tx_Rota K mg C_Rota) (D_is_whole : Df P w K mg base CT0 BB 2 "is_whole" 2 ["value", "least"] f_is_whole) {f : Addr} {cdv : Value} {A : Around} {outer : List Env} {s : Shared} {H : Hp} {E : XK} (hr : Room 2 (A.deeper (envOfC "is_below" (defScope s_is_below) s.heap.objs.size f cdv))) :
  JSs (cxOf (L2.CX P w) P w K mg base N_is_below "is_below" (defScope s_is_below) f cdv A outer s H E) CT0 BB E (defBody s_is_below) b_is_below := by
  have S := S_is_below
  have h64 : (A.deeper (envOfC "is_below" (defScope s_is_below) s.heap.objs.size f cdv)).units + 64 < cLine := by
    have := hr.un
    omega
  have h65 : (A.deeper (envOfC "is_below" (defScope s_is_below) s.heap.objs.size f cdv)).units + 65 < cLine := by
    have := hr.un
    omega
  have h1 : (A.deeper (envOfC "is_below" (defScope s_is_below) s.heap.objs.size f cdv)).units + 1 < cLine := by
    have := hr.un
    omega
  refine js_cons ?_ js_nil
  · exact (js_ret (j_and (j_callD (lv := 2) D_is_whole (hr.mono (by decide)) passB (jl_cons (j_var 0) (jl_cons j_int jl_nil))) (j_one (j_cmp op_lt o_lt.op (j_var 0) (j_var 1) (nomark _)))))
theorem d_is_below {C_Rota : Addr} {fa : Addr} {fd : FuncData} (F : Fun K "is_below" "is_below" s_is_below fa fd) (h1 : mg "is_below" = some (.ref fa)) (h2 : PySem.W.keepIn K (.ref fa) = true) (b : Binds K fd ["value", "many"] []) (T : Bl mg) (Z_Rota : Tx_Rota K mg C_Rota) (D_is_whole : Df P w K mg base CT0 BB 2 "is_whole" 2 ["value", "least"] f_is_whole) : Df P w K mg base CT0 BB 3 "is_below" 2 ["value", "many"] f_is_below :=
  ⟨⟨fa, fd, fn_def (N := N_is_below) (ps := ["value", "many"]) (k := 2) (body := b_is_below) F S_is_below (by decide) fun _ _ _ _ _ _ hr => l_is_below T Z_Rota D_is_whole hr, h1, h2, b⟩, fnOf_len⟩

abbrev N_are_spots : List Str := ["spots", "places", "spot"]
def b_are_spots : SSem := (sSeq (sIf (fOrT (fNotT (fTru (fCall f_is_sequence [] (lCons (fVar 0) lNil)))) (fNotT (fTru (fUn pAll (fNew (nLc [2] (iSeq (fVar 0)) (tgName 2) fYes (fCall f_is_below [] (lCons (fVar 2) (lCons (fVar 1) lNil))))))))) (sSeq (sRet (fC (.bl false)))
  sNil) sNil)
  (sSeq (sRet (fBin pEq (fUn pLenSet (fVar 0)) (fUn pLen (fVar 0))))
  sNil))
def f_are_spots : List AV → T AV := fnOf 2 3 b_are_spots
theorem S_are_spots : FnScope N_are_spots ["spots", "places"] (defScope s_are_spots) := ⟨rfl, rfl, rfl, by decide +kernel, rfl, by decide +kernel, by decide +kernel⟩
theorem l_are_spots {C_Rota : Addr} (T : Bl mg) (Z_Rota : Tx_Rota K mg C_Rota) (D_is_sequence : Df P w K mg base CT0 BB 1 "is_sequence" 1 ["value"] f_is_sequence) (D_is_below : Df P w K mg base CT0 BB 3 "is_below" 2 ["value", "many"] f_is_below) {f : Addr} {cdv : Value} {A : Around} {outer : List Env} {s : Shared} {H : Hp} {E : XK} (hr : Room 3 (A.deeper (envOfC "are_spots" (defScope s_are_spots) s.heap.objs.size f cdv))) :
  JSs (cxOf (L2.CX P w) P w K mg base N_are_spots "are_spots" (defScope s_are_spots) f cdv A outer s H E) CT0 BB E (defBody s_are_spots) b_are_spots := by
  have S := S_are_spots
  have h64 : (A.deeper (envOfC "are_spots" (defScope s_are_spots) s.heap.objs.size f cdv)).units + 64 < cLine := by
    have := hr.un
    omega
  have h65 : (A.deeper (envOfC "are_spots" (defScope s_are_spots) s.heap.objs.size f cdv)).units + 65 < cLine := by
    have := hr.un
    omega
  have h1 : (A.deeper (envOfC "are_spots" (defScope s_are_spots) s.heap.objs.size f cdv)).units + 1 < cLine := by
    have := hr.un
    omega
  refine js_cons ?_ (js_cons ?_ js_nil)
  · refine js_if (jw_pt (jw_or (jt_not (jt_truth (j_callD (lv := 1) D_is_sequence (hr.mono (by decide)) passB (jl_cons (j_var 0) jl_nil)))) (jw_or1 (jt_not (jt_truth (j_callB (cr_all rfl) o_all (by rfl) T.n_all (by decide +kernel) (j_new (jn_lc (own := [("spot", 2)]) (by rfl) S.nd (blkOk_by (N := N_are_spots) (sc := defScope s_are_spots) (by decide +kernel)) (by decide) (ji_seq (j_var 0)) (fun _ _ _ _ _ => (jg_name 2 S.nd)) (fun _ _ _ _ _ => jts_nil) (fun _ _ _ _ _ => (j_callD (lv := 3) D_is_below (hr.mono (by decide)) passE0 (jl_cons (j_var 2) (jl_cons (j_var 1) jl_nil)))))))))))) ?_ ?_
    · refine js_cons ?_ js_nil
      · exact (js_ret j_bl)
    · exact js_nil
  · exact (js_ret (j_cmp (op_eqD h64) o_eq.op (j_lenSet (by rfl) T.n_len (by rfl) T.n_set (j_var 0)) (j_callB call_len o_len (by rfl) T.n_len (by decide +kernel) (j_var 0)) (nomark _)))
theorem d_are_spots {C_Rota : Addr} {fa : Addr} {fd : FuncData} (F : Fun K "are_spots" "are_spots" s_are_spots fa fd) (h1 : mg "are_spots" = some (.ref fa)) (h2 : PySem.W.keepIn K (.ref fa) = true) (b : Binds K fd ["spots", "places"] []) (T : Bl mg) (Z_Rota : Tx_Rota K mg C_Rota) (D_is_sequence : Df P w K mg base CT0 BB 1 "is_sequence" 1 ["value"] f_is_sequence) (D_is_below : Df P w K mg base CT0 BB 3 "is_below" 2 ["value", "many"] f_is_below) : Df P w K mg base CT0 BB 4 "are_spots" 2 ["spots", "places"] f_are_spots :=
  ⟨⟨fa, fd, fn_def (N := N_are_spots) (ps := ["spots", "places"]) (k := 3) (body := b_are_spots) F S_are_spots (by decide) fun _ _ _ _ _ _ hr => l_are_spots T Z_Rota D_is_sequence D_is_below hr, h1, h2, b⟩, fnOf_len⟩

abbrev N_is_row : List Str := ["row", "places", "turned", "moves"]
def b_is_row : SSem := (sSeq (sIf (fOrT (fNotT (fTru (fUn (pIsi "tuple") (fVar 0)))) (fBlT (fBin pNe (fUn pLen (fVar 0)) (fC (.int 2))))) (sSeq (sRet (fC (.bl false)))
  sNil) sNil)
  (sSeq (sAsg (fVar 0) (tgTup 2 (tgCons (tgName 2) (tgCons (tgName 3) tgNil))))
  (sSeq (sRet (fAnd (fCall f_are_spots [] (lCons (fVar 2) (lCons (fVar 1) lNil))) (fAnd (fCall f_are_spots [] (lCons (fVar 3) (lCons (fVar 1) lNil))) (fBin pEq (fUn pLen (fVar 3)) (fVar 1)))))
  sNil)))
def f_is_row : List AV → T AV := fnOf 2 4 b_is_row
theorem S_is_row : FnScope N_is_row ["row", "places"] (defScope s_is_row) := ⟨rfl, rfl, rfl, by decide +kernel, rfl, by decide +kernel, by decide +kernel⟩
theorem l_is_row {C_Rota : Addr} (T : Bl mg) (Z_Rota : Tx_Rota K mg C_Rota) (D_are_spots : Df P w K mg base CT0 BB 4 "are_spots" 2 ["spots", "places"] f_are_spots) {f : Addr} {cdv : Value} {A : Around} {outer : List Env} {s : Shared} {H : Hp} {E : XK} (hr : Room 4 (A.deeper (envOfC "is_row" (defScope s_is_row) s.heap.objs.size f cdv))) :
  JSs (cxOf (L2.CX P w) P w K mg base N_is_row "is_row" (defScope s_is_row) f cdv A outer s H E) CT0 BB E (defBody s_is_row) b_is_row := by
  have S := S_is_row
  have h64 : (A.deeper (envOfC "is_row" (defScope s_is_row) s.heap.objs.size f cdv)).units + 64 < cLine := by
    have := hr.un
    omega
  have h65 : (A.deeper (envOfC "is_row" (defScope s_is_row) s.heap.objs.size f cdv)).units + 65 < cLine := by
    have := hr.un
    omega
  have h1 : (A.deeper (envOfC "is_row" (defScope s_is_row) s.heap.objs.size f cdv)).units + 1 < cLine := by
    have := hr.un
    omega
  refine js_cons ?_ (js_cons ?_ (js_cons ?_ js_nil))
  · refine js_if (jw_pt (jw_or (jt_not (jt_truth (j_isi kinds_tuple (by rfl) T.n_isinstance (by rfl) T.n_tuple (by decide +kernel) (j_var 0)))) (jw_or1 (jt_cmp (op_neD h64) o_ne.op (j_callB call_len o_len (by rfl) T.n_len (by decide +kernel) (j_var 0)) j_int (nomark _))))) ?_ ?_
    · refine js_cons ?_ js_nil
      · exact (js_ret j_bl)
    · exact js_nil
  · exact (js_asg (j_var 0) (jg_tup (by rfl) (jg_cons (jg_name 2 S.nd) (jg_cons (jg_name 3 S.nd) jg_nil))))
  · exact (js_ret (j_and (j_callD (lv := 4) D_are_spots (hr.mono (by decide)) passB (jl_cons (j_var 2) (jl_cons (j_var 1) jl_nil))) (j_and (j_callD (lv := 4) D_are_spots (hr.mono (by decide)) passB (jl_cons (j_var 3) (jl_cons (j_var 1) jl_nil))) (j_one (j_cmp (op_eqD h64) o_eq.op (j_callB call_len o_len (by rfl) T.n_len (by decide +kernel) (j_var 3)) (j_var 1) (nomark _))))))
theorem d_is_row {C_Rota : Addr} {fa : Addr} {fd : FuncData} (F : Fun K "is_row" "is_row" s_is_row fa fd) (h1 : mg "is_row" = some (.ref fa)) (h2 : PySem.W.keepIn K (.ref fa) = true) (b : Binds K fd ["row", "places"] []) (T : Bl mg) (Z_Rota : Tx_Rota K mg C_Rota) (D_are_spots : Df P w K mg base CT0 BB 4 "are_spots" 2 ["spots", "places"] f_are_spots) : Df P w K mg base CT0 BB 5 "is_row" 2 ["row", "places"] f_is_row :=
  ⟨⟨fa, fd, fn_def (N := N_is_row) (ps := ["row", "places"]) (k := 4) (body := b_is_row) F S_is_row (by decide) fun _ _ _ _ _ _ hr => l_is_row T Z_Rota D_are_spots hr, h1, h2, b⟩, fnOf_len⟩

abbrev N_are_rows : List Str := ["rows", "places", "row"]
def b_are_rows : SSem := (sSeq (sRet (fAnd (fCall f_is_sequence [] (lCons (fVar 0) lNil)) (fAnd (fBin pGt (fUn pLen (fVar 0)) (fC (.int 0))) (fUn pAll (fNew (nLc [2] (iSeq (fVar 0)) (tgName 2) fYes (fCall f_is_row [] (lCons (fVar 2) (lCons (fVar 1) lNil)))))))))
  sNil)
def f_are_rows : List AV → T AV := fnOf 2 3 b_are_rows
theorem S_are_rows : FnScope N_are_rows ["rows", "places"] (defScope s_are_rows) := ⟨rfl, rfl, rfl, by decide +kernel, rfl, by decide +kernel, by decide +kernel⟩
theorem l_are_rows {C_Rota : Addr} (T : Bl mg) (Z_Rota : Tx_Rota K mg C_Rota) (D_is_sequence : Df P w K mg base CT0 BB 1 "is_sequence" 1 ["value"] f_is_sequence) (D_is_row : Df P w K mg base CT0 BB 5 "is_row" 2 ["row", "places"] f_is_row) {f : Addr} {cdv : Value} {A : Around} {outer : List Env} {s : Shared} {H : Hp} {E : XK} (hr : Room 5 (A.deeper (envOfC "are_rows" (defScope s_are_rows) s.heap.objs.size f cdv))) :
  JSs (cxOf (L2.CX P w) P w K mg base N_are_rows "are_rows" (defScope s_are_rows) f cdv A outer s H E) CT0 BB E (defBody s_are_rows) b_are_rows := by
  have S := S_are_rows
  have h64 : (A.deeper (envOfC "are_rows" (defScope s_are_rows) s.heap.objs.size f cdv)).units + 64 < cLine := by
    have := hr.un
    omega
  have h65 : (A.deeper (envOfC "are_rows" (defScope s_are_rows) s.heap.objs.size f cdv)).units + 65 < cLine := by
    have := hr.un
    omega
  have h1 : (A.deeper (envOfC "are_rows" (defScope s_are_rows) s.heap.objs.size f cdv)).units + 1 < cLine := by
    have := hr.un
    omega
  refine js_cons ?_ js_nil
  · exact (js_ret (j_and (j_callD (lv := 1) D_is_sequence (hr.mono (by decide)) passB (jl_cons (j_var 0) jl_nil)) (j_and (j_cmp op_gt o_gt.op (j_callB call_len o_len (by rfl) T.n_len (by decide +kernel) (j_var 0)) j_int (nomark _)) (j_one (j_callB (cr_all rfl) o_all (by rfl) T.n_all (by decide +kernel) (j_new (jn_lc (own := [("row", 2)]) (by rfl) S.nd (blkOk_by (N := N_are_rows) (sc := defScope s_are_rows) (by decide +kernel)) (by decide) (ji_seq (j_var 0)) (fun _ _ _ _ _ => (jg_name 2 S.nd)) (fun _ _ _ _ _ => jts_nil) (fun _ _ _ _ _ => (j_callD (lv := 5) D_is_row (hr.mono (by decide)) passE0 (jl_cons (j_var 2) (jl_cons (j_var 1) jl_nil)))))))))))
theorem d_are_rows {C_Rota : Addr} {fa : Addr} {fd : FuncData} (F : Fun K "are_rows" "are_rows" s_are_rows fa fd) (h1 : mg "are_rows" = some (.ref fa)) (h2 : PySem.W.keepIn K (.ref fa) = true) (b : Binds K fd ["rows", "places"] []) (T : Bl mg) (Z_Rota : Tx_Rota K mg C_Rota) (D_is_sequence : Df P w K mg base CT0 BB 1 "is_sequence" 1 ["value"] f_is_sequence) (D_is_row : Df P w K mg base CT0 BB 5 "is_row" 2 ["row", "places"] f_is_row) : Df P w K mg base CT0 BB 6 "are_rows" 2 ["rows", "places"] f_are_rows :=
  ⟨⟨fa, fd, fn_def (N := N_are_rows) (ps := ["rows", "places"]) (k := 5) (body := b_are_rows) F S_are_rows (by decide) fun _ _ _ _ _ _ hr => l_are_rows T Z_Rota D_is_sequence D_is_row hr, h1, h2, b⟩, fnOf_len⟩

abbrev N_Rota_init : List Str := ["self", "places", "rows", "turned", "moves"]
def b_Rota : SSem := (sSeq (sIf (fNotT (fTru (fCall f_is_whole [] (lCons (fVar 1) (lCons (fC (.int 1)) lNil))))) (sSeq sBad
  sNil) sNil)
  (sSeq (sIf (fNotT (fTru (fCall f_are_rows [] (lCons (fVar 2) (lCons (fVar 1) lNil))))) (sSeq sBad
  sNil) sNil)
  (sSeq (sFldSet 0 0 0 (fVar 1))
  (sSeq (sFldSet 0 0 1 (fUn pTuple (fNew (nLc [3, 4] (iSeq (fVar 2)) (tgTup 2 (tgCons (tgName 3) (tgCons (tgName 4) tgNil))) fYes (fTup (lCons (fUn pTuple (fUn pSorted (fVar 3))) (lCons (fUn pTuple (fVar 4)) lNil)))))))
  sNil))))
def f_Rota : List AV → T AV := fnInit 2 5 0 2 b_Rota
theorem S_Rota : FnScope N_Rota_init ["self", "places", "rows"] (defScope s_Rota_init) := ⟨rfl, rfl, rfl, by decide +kernel, rfl, by decide +kernel, by decide +kernel⟩
theorem l_Rota {C_Rota : Addr} (T : Bl mg) (Z_Rota : Tx_Rota K mg C_Rota) (D_is_whole : Df P w K mg base CT0 BB 2 "is_whole" 2 ["value", "least"] f_is_whole) (D_are_rows : Df P w K mg base CT0 BB 6 "are_rows" 2 ["rows", "places"] f_are_rows) {f : Addr} {cdv : Value} {A : Around} {outer : List Env} {s : Shared} {H : Hp} {E : XK} (hr : Room 6 (A.deeper (envOfC "Rota.__init__" (defScope s_Rota_init) s.heap.objs.size f cdv))) :
  JSs (cxOf (L2.CX P w) P w K mg base N_Rota_init "Rota.__init__" (defScope s_Rota_init) f cdv A outer s H E) CT0 BB E (defBody s_Rota_init) b_Rota := by
  have S := S_Rota
  have h64 : (A.deeper (envOfC "Rota.__init__" (defScope s_Rota_init) s.heap.objs.size f cdv)).units + 64 < cLine := by
    have := hr.un
    omega
  have h65 : (A.deeper (envOfC "Rota.__init__" (defScope s_Rota_init) s.heap.objs.size f cdv)).units + 65 < cLine := by
    have := hr.un
    omega
  have h1 : (A.deeper (envOfC "Rota.__init__" (defScope s_Rota_init) s.heap.objs.size f cdv)).units + 1 < cLine := by
    have := hr.un
    omega
  refine js_cons ?_ (js_cons ?_ (js_cons ?_ (js_cons ?_ js_nil)))
  · refine js_if (jt_not (jt_truth (j_callD (lv := 2) D_is_whole (hr.mono (by decide)) passB (jl_cons (j_var 1) (jl_cons j_int jl_nil))))) ?_ ?_
    · refine js_cons ?_ js_nil
      · exact js_bad
    · exact js_nil
  · refine js_if (jt_not (jt_truth (j_callD (lv := 6) D_are_rows (hr.mono (by decide)) passB (jl_cons (j_var 2) (jl_cons (j_var 1) jl_nil))))) ?_ ?_
    · refine js_cons ?_ js_nil
      · exact js_bad
    · exact js_nil
  · exact (js_fld 0 (fld_Rota_places Z_Rota) (j_var 1) (by decide))
  · exact (js_fld 0 (fld_Rota_rows Z_Rota) (j_callTy call_tuple_of o_tuple (by rfl) T.n_tuple (by decide +kernel) (j_new (jn_lc (own := [("turned", 3), ("moves", 4)]) (by rfl) S.nd (blkOk_by (N := N_Rota_init) (sc := defScope s_Rota_init) (by decide +kernel)) (by decide) (ji_seq (j_var 2)) (fun _ _ _ _ _ => (jg_tup (by rfl) (jg_cons (jg_name 3 S.nd) (jg_cons (jg_name 4 S.nd) jg_nil)))) (fun _ _ _ _ _ => jts_nil) (fun _ _ _ _ _ => (j_tup (jl_cons (j_callTy call_tuple_of o_tuple (by rfl) T.n_tuple (by decide +kernel) (j_callB cr_sortedA o_sorted (by rfl) T.n_sorted (by decide +kernel) (j_var 3))) (jl_cons (j_callTy call_tuple_of o_tuple (by rfl) T.n_tuple (by decide +kernel) (j_var 4)) jl_nil))))))) (by decide))
theorem d_Rota {C_Rota : Addr} {fa : Addr} {fd : FuncData} (F : Fun K "__init__" "Rota.__init__" s_Rota_init fa fd) (M : Mk K C_Rota fa) (b : Binds K fd ["self", "places", "rows"] []) (T : Bl mg) (Z_Rota : Tx_Rota K mg C_Rota) (D_is_whole : Df P w K mg base CT0 BB 2 "is_whole" 2 ["value", "least"] f_is_whole) (D_are_rows : Df P w K mg base CT0 BB 6 "are_rows" 2 ["rows", "places"] f_are_rows) : Cf P w K mg base CT0 BB 7 "Rota" 0 2 ["self", "places", "rows"] f_Rota :=
  ⟨⟨C_Rota, fa, fd, M, init_def F S_Rota (by decide) (by decide) fun _ _ _ _ _ _ hr => l_Rota T Z_Rota D_is_whole D_are_rows hr, Z_Rota.mgC, b⟩, rfl, fnInit_len⟩

theorem scTake : FnScope ["_law_box_here", "_law_bound", "_law_digit", "_law_raw", "_law_wide"] ["_law_box_here", "_law_bound"] (defScope s_law_take) := ⟨rfl, rfl, rfl, by decide +kernel, rfl, by decide +kernel, by decide +kernel⟩
theorem ok_take {f : Addr} {fd : FuncData} (F : Fun K "_law_take" "_law_take" s_law_take f fd) (T : Bl mg) : FnOk P w K mg base CX0 1 f fd ["_law_box_here", "_law_bound"] (spDraw okA) := by
  refine F.ok scTake (fun vs H Q E h => ?_) (fun cdv A outer s H vs Q E hr h => ?_)
  · obtain ⟨D, b, l, rfl, _⟩ := h
    rfl
  · obtain ⟨D, b, l, rfl, hD, ⟨c, s, t, rfl, hB⟩, hb, hb2, q⟩ := h
    refine ⟨_, pss_cons (ps_if (pt_cmpR op_gt (pe_ix ix_list (pv 0) pe_int (fun _ _ => rfl)) pe_int (nomark _))
        (pss_cons (ps_set (i := 2) scTake.nd rfl (.inl rfl) (pe_op op_mod (pe_callTy call_int1 (by rfl) T.n_int (by decide +kernel) (pa_cons (pe_ix ix_list (pv 0) pe_int (fun _ _ => rfl)) pa_nil)) (pv 1)))
        (pss_cons (ps_asg (pe_op op_fdivW (pe_ix ix_list (pv 0) pe_int (fun _ _ => rfl)) (pv 1)) (pg_sub (pv 0) pe_int set_list))
        (pss_one (ps_ret (pv 2))))) pss_nil)
      (pss_cons (ps_asg (pe_op op_add (pe_ix ix_list (pv 0) pe_int (fun _ _ => rfl)) pe_int) (pg_sub (pv 0) pe_int set_list))
      (pss_cons (ps_set (i := 3) scTake.nd rfl (.inl rfl) (pe_op op_mod (pe_callTy call_int1 (by rfl) T.n_int (by decide +kernel) (pa_cons (pe_op op_mul (pe_op op_add (pe_ix ix_list (pv 0) pe_int (fun _ _ => rfl)) (pe_op op_mul pe_int (pe_ix ix_list (pv 0) pe_int (fun _ _ => rfl)))) pe_int) pa_nil)) pe_int))
      (pss_cons (ps_asg (pe_op op_add (pe_op op_mod (pe_callTy call_int1 (by rfl) T.n_int (by decide +kernel) (pa_cons (pe_op op_add (pe_op op_mul (pv 3) pe_int) pe_int) pa_nil)) pe_int) pe_int) (pg_sub (pv 0) pe_int set_list))
      (pss_cons (ps_if (pt_cmpR op_lt (pv 1) (pe_op op_pow pe_int pe_int) (nomark _))
        (pss_one (ps_ret (pe_op op_mod (pe_callTy call_int1 (by rfl) T.n_int (by decide +kernel) (pa_cons (pe_op op_fdiv (pe_op op_add (pe_op op_mul (pv 3) pe_int) (pe_ix ix_list (pv 0) pe_int (fun _ _ => rfl))) pe_int) pa_nil)) (pv 1)))) pss_nil)
      (pss_cons (ps_set (i := 4) scTake.nd rfl (.inl rfl) (pe_op op_mul (pe_op op_add (pe_op op_mul (pv 3) pe_int) (pe_ix ix_list (pv 0) pe_int (fun _ _ => rfl))) (pe_op op_pow pe_int pe_int)))
      (pss_one (ps_ret (pe_op op_mod (pe_callTy call_int1 (by rfl) T.n_int (by decide +kernel) (pa_cons (pe_op op_add (pe_op op_add (pv 4) (pe_op op_mul (pe_op op_pow (pe_ix ix_list (pv 0) pe_int (fun _ _ => rfl)) pe_int) pe_int)) (pv 3)) pa_nil)) (pv 1))))))))), ?_⟩
    have hbp : (0 : Int) < b := by omega
    refine ⟨_, rfl, D, boxV c s t, 0, .int c, rfl, rfl, SqL.of hD, rfl, _, _, rfl, rfl, _, rfl, ?_⟩
    by_cases hc : 0 < c
    · rw [decide_eq_true hc]
      refine iteT ⟨_, rfl, D, boxV c s t, 0, .int c, rfl, rfl, SqL.of hD, rfl, .inl ⟨_, rfl, _, rfl, _, _, rfl, rfl, hbp, ?_⟩⟩
      refine ⟨_, rfl, D, boxV c s t, 0, .int c, rfl, rfl, SqL.of hD, rfl, _, rfl, _, _, rfl, rfl, wide_div (b := 64) hbp (by omega) (by decide) (by decide), ?_⟩
      refine ⟨_, rfl, D, boxV c s t, 0, 0, rfl, rfl, hD, rfl, _, rfl, ?_⟩
      exact q (c % b) (boxV (c / b) s t) (Int.emod_nonneg _ (by omega)) (Int.emod_lt_of_pos _ hbp) ⟨_, _, _, rfl, Int.ediv_nonneg hB.c0 (by omega), hB.s1, hB.s2⟩
    · rw [decide_eq_false hc]
      refine iteF ?_
      have h1 : (upd H D (.lst ((boxV c s t).set 2 (.int (t + 1))))) D = some (.lst (boxV c s (t + 1))) := upd_same
      refine ⟨_, rfl, D, boxV c s t, 2, .int t, rfl, rfl, SqL.of hD, rfl, _, _, rfl, rfl, _, rfl, D, boxV c s t, 2, 2, rfl, rfl, hD, rfl, ?_⟩
      refine ⟨_, rfl, D, boxV c s (t + 1), 1, .int s, rfl, rfl, SqL.of h1, rfl, _, rfl, D, boxV c s (t + 1), 2, .int (t + 1), rfl, rfl, SqL.of h1, rfl, _, _, rfl, rfl, .inl ⟨by decide, by decide⟩, _, _, rfl, rfl, _, _, rfl, rfl, .inr ⟨by decide, by decide⟩, .inl ⟨_, rfl, _, _, rfl, rfl, (by decide : (0 : Int) < 2147483647), ?_⟩⟩
      have r0 := Int.emod_nonneg ((s + 104729 * (t + 1)) * 69623) (by decide : (2147483647 : Int) ≠ 0)
      have r1 := Int.emod_lt_of_pos ((s + 104729 * (t + 1)) * 69623) (by decide : (0 : Int) < 2147483647)
      refine ⟨_, rfl, _, _, rfl, rfl, .inr ⟨by decide, by decide⟩, _, _, rfl, rfl, .inl ⟨_, rfl, _, _, rfl, rfl, (by decide : (0 : Int) < 2147483629), _, _, rfl, rfl, ?_⟩⟩
      have s0 := Int.emod_nonneg (((s + 104729 * (t + 1)) * 69623 % 2147483647) * 48271 + 30103) (by decide : (2147483629 : Int) ≠ 0)
      have s1 := Int.emod_lt_of_pos (((s + 104729 * (t + 1)) * 69623 % 2147483647) * 48271 + 30103) (by decide : (0 : Int) < 2147483629)
      refine ⟨_, rfl, D, boxV c s (t + 1), 1, 1, rfl, rfl, h1, rfl, ?_⟩
      rw [upd_upd]
      have h2 : (upd H D (.lst ((boxV c s (t + 1)).set 1 (.int ((((s + 104729 * (t + 1)) * 69623 % 2147483647) * 48271 + 30103) % 2147483629 + 1))))) D = some (.lst (boxV c ((((s + 104729 * (t + 1)) * 69623 % 2147483647) * 48271 + 30103) % 2147483629 + 1) (t + 1))) := upd_same
      have hN : BoxIs c ((((s + 104729 * (t + 1)) * 69623 % 2147483647) * 48271 + 30103) % 2147483629 + 1) (t + 1) := ⟨hB.c0, by omega, by omega⟩
      have n1 := hN.s1
      have n2 := hN.s2
      refine ⟨_, rfl, _, _, rfl, rfl, ⟨by decide, by decide, by decide⟩, _, _, rfl, rfl, _, rfl, ?_⟩
      by_cases h40 : b < (2 : Int) ^ (40 : Int).toNat
      · rw [decide_eq_true h40]
        refine iteT ⟨_, rfl, _, _, rfl, rfl, .inr ⟨by decide, by decide⟩, _, rfl, D, boxV c ((((s + 104729 * (t + 1)) * 69623 % 2147483647) * 48271 + 30103) % 2147483629 + 1) (t + 1), 1, .int ((((s + 104729 * (t + 1)) * 69623 % 2147483647) * 48271 + 30103) % 2147483629 + 1), rfl, rfl, SqL.of h2, rfl, _, _, rfl, rfl, _, _, rfl, rfl, ⟨by decide, by decide⟩, .inl ⟨_, rfl, _, rfl, _, _, rfl, rfl, hbp, ?_⟩⟩
        exact q _ (boxV c ((((s + 104729 * (t + 1)) * 69623 % 2147483647) * 48271 + 30103) % 2147483629 + 1) (t + 1)) (Int.emod_nonneg _ (by omega)) (Int.emod_lt_of_pos _ hbp) ⟨_, _, _, rfl, hN⟩
      · rw [decide_eq_false h40]
        refine iteF ⟨_, rfl, _, _, rfl, rfl, .inr ⟨by decide, by decide⟩, _, rfl, D, boxV c ((((s + 104729 * (t + 1)) * 69623 % 2147483647) * 48271 + 30103) % 2147483629 + 1) (t + 1), 1, .int ((((s + 104729 * (t + 1)) * 69623 % 2147483647) * 48271 + 30103) % 2147483629 + 1), rfl, rfl, SqL.of h2, rfl, _, _, rfl, rfl, _, _, rfl, rfl, ⟨by decide, by decide, by decide⟩, _, _, rfl, rfl, .inl ⟨by omega, by omega⟩, ?_⟩
        refine ⟨_, rfl, _, rfl, D, boxV c ((((s + 104729 * (t + 1)) * 69623 % 2147483647) * 48271 + 30103) % 2147483629 + 1) (t + 1), 1, .int ((((s + 104729 * (t + 1)) * 69623 % 2147483647) * 48271 + 30103) % 2147483629 + 1), rfl, rfl, SqL.of h2, rfl, _, _, rfl, rfl, ⟨by decide, by decide, by omega⟩, _, _, rfl, rfl, .inr ⟨by decide, by decide⟩, _, _, rfl, rfl, _, rfl, _, _, rfl, rfl, .inl ⟨_, rfl, _, rfl, _, _, rfl, rfl, hbp, ?_⟩⟩
        exact q _ (boxV c ((((s + 104729 * (t + 1)) * 69623 % 2147483647) * 48271 + 30103) % 2147483629 + 1) (t + 1)) (Int.emod_nonneg _ (by omega)) (Int.emod_lt_of_pos _ hbp) ⟨_, _, _, rfl, hN⟩


abbrev N_law_pick : List Str := ["_law_box_here", "_law_items"]
def b_law_pick : SSem := (sSeq (sRet (fBin pIx (fVar 1) (fCall f_law_take [] (lCons (fVar 0) (lCons (fUn pLen (fVar 1)) lNil)))))
  sNil)
def f_law_pick : List AV → T AV := fnOf 2 2 b_law_pick
theorem S_law_pick : FnScope N_law_pick ["_law_box_here", "_law_items"] (defScope s_law_pick) := ⟨rfl, rfl, rfl, by decide +kernel, rfl, by decide +kernel, by decide +kernel⟩
theorem l_law_pick {C_Rota : Addr} (T : Bl mg) (Z_Rota : Tx_Rota K mg C_Rota) (D_law_take : Df P w K mg base CT0 BB 1 "_law_take" 2 ["_law_box_here", "_law_bound"] f_law_take) {f : Addr} {cdv : Value} {A : Around} {outer : List Env} {s : Shared} {H : Hp} {E : XK} (hr : Room 1 (A.deeper (envOfC "_law_pick" (defScope s_law_pick) s.heap.objs.size f cdv))) :
  JSs (cxOf (L2.CX P w) P w K mg base N_law_pick "_law_pick" (defScope s_law_pick) f cdv A outer s H E) CT0 BB E (defBody s_law_pick) b_law_pick := by
  have S := S_law_pick
  have h64 : (A.deeper (envOfC "_law_pick" (defScope s_law_pick) s.heap.objs.size f cdv)).units + 64 < cLine := by
    have := hr.un
    omega
  have h65 : (A.deeper (envOfC "_law_pick" (defScope s_law_pick) s.heap.objs.size f cdv)).units + 65 < cLine := by
    have := hr.un
    omega
  have h1 : (A.deeper (envOfC "_law_pick" (defScope s_law_pick) s.heap.objs.size f cdv)).units + 1 < cLine := by
    have := hr.un
    omega
  refine js_cons ?_ js_nil
  · exact (js_ret (j_ix (j_var 1) (j_callD (lv := 1) D_law_take (hr.mono (by decide)) passB (jl_cons (j_var 0) (jl_cons (j_callB call_len o_len (by rfl) T.n_len (by decide +kernel) (j_var 1)) jl_nil)))))
theorem d_law_pick {C_Rota : Addr} {fa : Addr} {fd : FuncData} (F : Fun K "_law_pick" "_law_pick" s_law_pick fa fd) (h1 : mg "_law_pick" = some (.ref fa)) (h2 : PySem.W.keepIn K (.ref fa) = true) (b : Binds K fd ["_law_box_here", "_law_items"] []) (T : Bl mg) (Z_Rota : Tx_Rota K mg C_Rota) (D_law_take : Df P w K mg base CT0 BB 1 "_law_take" 2 ["_law_box_here", "_law_bound"] f_law_take) : Df P w K mg base CT0 BB 2 "_law_pick" 2 ["_law_box_here", "_law_items"] f_law_pick :=
  ⟨⟨fa, fd, fn_def (N := N_law_pick) (ps := ["_law_box_here", "_law_items"]) (k := 1) (body := b_law_pick) F S_law_pick (by decide) fun _ _ _ _ _ _ hr => l_law_pick T Z_Rota D_law_take hr, h1, h2, b⟩, fnOf_len⟩

abbrev N_round_spots : List Str := ["rota", "wheel", "spots", "spot", "_", "moves"]
def b_round_spots : SSem := (sSeq (sSetN 2 (nLst lNil))
  (sSeq (sSet 3 (fVar 1))
  (sSeq (whileL (fOrT (fNotT (fTru (fVar 2))) (fBlT (fBin pNe (fVar 3) (fVar 1)))) (sSeq (sFor (iSeq (fUn (pFld 0 1) (fVar 0))) (tgTup 2 (tgCons (tgName 4) (tgCons (tgName 5) tgNil))) (sSeq (sExpr (fAppend 2 (fVar 3)))
  (sSeq (sSet 3 (fBin pIx (fVar 5) (fVar 3)))
  sNil)))
  sNil) FUEL)
  (sSeq (sRet (fVar 2))
  sNil))))
def f_round_spots : List AV → T AV := fnOf 2 6 b_round_spots
theorem S_round_spots : FnScope N_round_spots ["rota", "wheel"] (defScope s_round_spots) := ⟨rfl, rfl, rfl, by decide +kernel, rfl, by decide +kernel, by decide +kernel⟩
theorem l_round_spots {C_Rota : Addr} (T : Bl mg) (Z_Rota : Tx_Rota K mg C_Rota) {f : Addr} {cdv : Value} {A : Around} {outer : List Env} {s : Shared} {H : Hp} {E : XK} (hr : Room 0 (A.deeper (envOfC "round_spots" (defScope s_round_spots) s.heap.objs.size f cdv))) :
  JSs (cxOf (L2.CX P w) P w K mg base N_round_spots "round_spots" (defScope s_round_spots) f cdv A outer s H E) CT0 BB E (defBody s_round_spots) b_round_spots := by
  have S := S_round_spots
  have h64 : (A.deeper (envOfC "round_spots" (defScope s_round_spots) s.heap.objs.size f cdv)).units + 64 < cLine := by
    have := hr.un
    omega
  have h65 : (A.deeper (envOfC "round_spots" (defScope s_round_spots) s.heap.objs.size f cdv)).units + 65 < cLine := by
    have := hr.un
    omega
  have h1 : (A.deeper (envOfC "round_spots" (defScope s_round_spots) s.heap.objs.size f cdv)).units + 1 < cLine := by
    have := hr.un
    omega
  refine js_cons ?_ (js_cons ?_ (js_cons ?_ (js_cons ?_ js_nil)))
  · exact (js_setN 2 (jn_lst jl_nil) S.nd)
  · exact (js_set 3 (j_var 1) S.nd)
  · refine js_while FUEL passOwnB (jw_pt (jw_or (jt_not (jt_truth (j_var 2))) (jw_or1 (jt_cmp (op_neD h64) o_ne.op (j_var 3) (j_var 1) (nomark _))))) ?_
    refine js_cons ?_ js_nil
    · refine js_for passOwnB (by rfl) (ji_seq (j_fld (fld_Rota_rows Z_Rota) (j_var 0))) (jg_tup (by rfl) (jg_cons (jg_name 4 S.nd) (jg_cons (jg_name 5 S.nd) jg_nil))) ?_
      refine js_cons ?_ (js_cons ?_ js_nil)
      · exact (js_expr (j_append 2 (j_var 3) (fun te he => pe_bm PySem.F.plainAttrs_list PySem.F.slot_list_append PySem.F.type_list_append mt_append (pv 2) (pa_cons he pa_nil))))
      · exact (js_set 3 (j_ix (j_var 5) (j_var 3)) S.nd)
  · exact (js_ret (j_var 2))
theorem d_round_spots {C_Rota : Addr} {fa : Addr} {fd : FuncData} (F : Fun K "round_spots" "round_spots" s_round_spots fa fd) (h1 : mg "round_spots" = some (.ref fa)) (h2 : PySem.W.keepIn K (.ref fa) = true) (b : Binds K fd ["rota", "wheel"] []) (T : Bl mg) (Z_Rota : Tx_Rota K mg C_Rota) : Df P w K mg base CT0 BB 1 "round_spots" 2 ["rota", "wheel"] f_round_spots :=
  ⟨⟨fa, fd, fn_def (N := N_round_spots) (ps := ["rota", "wheel"]) (k := 0) (body := b_round_spots) F S_round_spots (by decide) fun _ _ _ _ _ _ hr => l_round_spots T Z_Rota  hr, h1, h2, b⟩, fnOf_len⟩

abbrev N_Rota_len : List Str := ["self"]
def b_Rota_len : SSem := (sSeq (sRet (fUn pLen (fUn (pFld 0 1) (fVar 0))))
  sNil)
def f_Rota_len : List AV → T AV := fnOf 1 1 b_Rota_len
theorem S_Rota_len : FnScope N_Rota_len ["self"] (defScope s_Rota_len) := ⟨rfl, rfl, rfl, by decide +kernel, rfl, by decide +kernel, by decide +kernel⟩
theorem l_Rota_len {C_Rota : Addr} (T : Bl mg) (Z_Rota : Tx_Rota K mg C_Rota) {f : Addr} {cdv : Value} {A : Around} {outer : List Env} {s : Shared} {H : Hp} {E : XK} (hr : Room 0 (A.deeper (envOfC "Rota.__len__" (defScope s_Rota_len) s.heap.objs.size f cdv))) :
  JSs (cxOf (L2.CX P w) P w K mg base N_Rota_len "Rota.__len__" (defScope s_Rota_len) f cdv A outer s H E) CT0 BB E (defBody s_Rota_len) b_Rota_len := by
  have S := S_Rota_len
  have h64 : (A.deeper (envOfC "Rota.__len__" (defScope s_Rota_len) s.heap.objs.size f cdv)).units + 64 < cLine := by
    have := hr.un
    omega
  have h65 : (A.deeper (envOfC "Rota.__len__" (defScope s_Rota_len) s.heap.objs.size f cdv)).units + 65 < cLine := by
    have := hr.un
    omega
  have h1 : (A.deeper (envOfC "Rota.__len__" (defScope s_Rota_len) s.heap.objs.size f cdv)).units + 1 < cLine := by
    have := hr.un
    omega
  refine js_cons ?_ js_nil
  · exact (js_ret (j_callB call_len o_len (by rfl) T.n_len (by decide +kernel) (j_fld (fld_Rota_rows Z_Rota) (j_var 0))))
theorem d_Rota_len {C_Rota : Addr} {fa : Addr} {fd : FuncData} (F : Fun K "__len__" "Rota.__len__" s_Rota_len fa fd) (M : Meth K C_Rota "__len__" fa) (b : Binds K fd ["self"] []) (T : Bl mg) (Z_Rota : Tx_Rota K mg C_Rota) : Mf P w K mg base CT0 BB 1 0 "__len__" 1 ["self"] f_Rota_len :=
  ⟨⟨C_Rota, fa, fd, fn_def (N := N_Rota_len) (ps := ["self"]) (k := 0) (body := b_Rota_len) F S_Rota_len (by decide) fun _ _ _ _ _ _ hr => l_Rota_len T Z_Rota  hr, b, Z_Rota.cl, M, Z_Rota.mgC⟩, by decide +kernel, fnOf_len⟩

abbrev N_dues_ahead : List Str := ["rota", "wheel", "day", "spots", "due"]
def b_dues_ahead : SSem := (sSeq (sSet 3 (fCall f_round_spots [] (lCons (fVar 0) (lCons (fVar 1) lNil))))
  (sSeq (sRet (fNew (nLc [4] (iRange1 (fVar 2)) (tgName 4) (fBlT (fBin pIn (fBin pIx (fVar 3) (fBin pMod (fVar 4) (fUn pLen (fVar 3)))) (fBin pIx (fBin pIx (fUn (pFld 0 1) (fVar 0)) (fBin pMod (fVar 4) (fLenOwn 0 f_Rota_len (fVar 0)))) (fC (.int 0))))) (fVar 4))))
  sNil))
def f_dues_ahead : List AV → T AV := fnOf 3 5 b_dues_ahead
theorem S_dues_ahead : FnScope N_dues_ahead ["rota", "wheel", "day"] (defScope s_dues_ahead) := ⟨rfl, rfl, rfl, by decide +kernel, rfl, by decide +kernel, by decide +kernel⟩
theorem l_dues_ahead {C_Rota : Addr} (T : Bl mg) (Z_Rota : Tx_Rota K mg C_Rota) (D_round_spots : Df P w K mg base CT0 BB 1 "round_spots" 2 ["rota", "wheel"] f_round_spots) (D_Rota_len : Mf P w K mg base CT0 BB 1 0 "__len__" 1 ["self"] f_Rota_len) {f : Addr} {cdv : Value} {A : Around} {outer : List Env} {s : Shared} {H : Hp} {E : XK} (hr : Room 2 (A.deeper (envOfC "dues_ahead" (defScope s_dues_ahead) s.heap.objs.size f cdv))) :
  JSs (cxOf (L2.CX P w) P w K mg base N_dues_ahead "dues_ahead" (defScope s_dues_ahead) f cdv A outer s H E) CT0 BB E (defBody s_dues_ahead) b_dues_ahead := by
  have S := S_dues_ahead
  have h64 : (A.deeper (envOfC "dues_ahead" (defScope s_dues_ahead) s.heap.objs.size f cdv)).units + 64 < cLine := by
    have := hr.un
    omega
  have h65 : (A.deeper (envOfC "dues_ahead" (defScope s_dues_ahead) s.heap.objs.size f cdv)).units + 65 < cLine := by
    have := hr.un
    omega
  have h1 : (A.deeper (envOfC "dues_ahead" (defScope s_dues_ahead) s.heap.objs.size f cdv)).units + 1 < cLine := by
    have := hr.un
    omega
  refine js_cons ?_ (js_cons ?_ js_nil)
  · exact (js_set 3 (j_callD (lv := 1) D_round_spots (hr.mono (by decide)) passB (jl_cons (j_var 0) (jl_cons (j_var 1) jl_nil))) S.nd)
  · exact (js_ret (j_new (jn_lc (own := [("due", 4)]) (by rfl) S.nd (blkOk_by (N := N_dues_ahead) (sc := defScope s_dues_ahead) (by decide +kernel)) (by decide) (ji_range1 (by rfl) T.n_range (j_var 2)) (fun _ _ _ _ _ => (jg_name 4 S.nd)) (fun _ _ _ _ _ => (jts_one (jt_cmp ((op_inD h65).or (op_inT h65)) o_in.op (j_ix (j_var 3) (j_bin op_mod o_mod (j_var 4) (j_callB call_len o_len (by rfl) T.n_len (by decide +kernel) (j_var 3)))) (j_ix (j_ix (j_fld (fld_Rota_rows Z_Rota) (j_var 0)) (j_bin op_mod o_mod (j_var 4) (j_lenOwn (lv := 1) D_Rota_len (hr.mono (by decide)) passE0 T.n_len (j_var 0)))) j_int) rfl))) (fun _ _ _ _ _ => (j_var 4)))))
theorem d_dues_ahead {C_Rota : Addr} {fa : Addr} {fd : FuncData} (F : Fun K "dues_ahead" "dues_ahead" s_dues_ahead fa fd) (h1 : mg "dues_ahead" = some (.ref fa)) (h2 : PySem.W.keepIn K (.ref fa) = true) (b : Binds K fd ["rota", "wheel", "day"] []) (T : Bl mg) (Z_Rota : Tx_Rota K mg C_Rota) (D_round_spots : Df P w K mg base CT0 BB 1 "round_spots" 2 ["rota", "wheel"] f_round_spots) (D_Rota_len : Mf P w K mg base CT0 BB 1 0 "__len__" 1 ["self"] f_Rota_len) : Df P w K mg base CT0 BB 3 "dues_ahead" 3 ["rota", "wheel", "day"] f_dues_ahead :=
  ⟨⟨fa, fd, fn_def (N := N_dues_ahead) (ps := ["rota", "wheel", "day"]) (k := 2) (body := b_dues_ahead) F S_dues_ahead (by decide) fun _ _ _ _ _ _ hr => l_dues_ahead T Z_Rota D_round_spots D_Rota_len hr, h1, h2, b⟩, fnOf_len⟩

abbrev N_round_dues : List Str := ["rota", "wheel"]
def b_round_dues : SSem := (sSeq (sRet (fCall f_dues_ahead [] (lCons (fVar 0) (lCons (fVar 1) (lCons (fUn pLen (fCall f_round_spots [] (lCons (fVar 0) (lCons (fVar 1) lNil)))) lNil)))))
  sNil)
def f_round_dues : List AV → T AV := fnOf 2 2 b_round_dues
theorem S_round_dues : FnScope N_round_dues ["rota", "wheel"] (defScope s_round_dues) := ⟨rfl, rfl, rfl, by decide +kernel, rfl, by decide +kernel, by decide +kernel⟩
theorem l_round_dues {C_Rota : Addr} (T : Bl mg) (Z_Rota : Tx_Rota K mg C_Rota) (D_dues_ahead : Df P w K mg base CT0 BB 3 "dues_ahead" 3 ["rota", "wheel", "day"] f_dues_ahead) (D_round_spots : Df P w K mg base CT0 BB 1 "round_spots" 2 ["rota", "wheel"] f_round_spots) {f : Addr} {cdv : Value} {A : Around} {outer : List Env} {s : Shared} {H : Hp} {E : XK} (hr : Room 3 (A.deeper (envOfC "round_dues" (defScope s_round_dues) s.heap.objs.size f cdv))) :
  JSs (cxOf (L2.CX P w) P w K mg base N_round_dues "round_dues" (defScope s_round_dues) f cdv A outer s H E) CT0 BB E (defBody s_round_dues) b_round_dues := by
  have S := S_round_dues
  have h64 : (A.deeper (envOfC "round_dues" (defScope s_round_dues) s.heap.objs.size f cdv)).units + 64 < cLine := by
    have := hr.un
    omega
  have h65 : (A.deeper (envOfC "round_dues" (defScope s_round_dues) s.heap.objs.size f cdv)).units + 65 < cLine := by
    have := hr.un
    omega
  have h1 : (A.deeper (envOfC "round_dues" (defScope s_round_dues) s.heap.objs.size f cdv)).units + 1 < cLine := by
    have := hr.un
    omega
  refine js_cons ?_ js_nil
  · exact (js_ret (j_callD (lv := 3) D_dues_ahead (hr.mono (by decide)) passB (jl_cons (j_var 0) (jl_cons (j_var 1) (jl_cons (j_callB call_len o_len (by rfl) T.n_len (by decide +kernel) (j_callD (lv := 1) D_round_spots (hr.mono (by decide)) passB (jl_cons (j_var 0) (jl_cons (j_var 1) jl_nil)))) jl_nil)))))
theorem d_round_dues {C_Rota : Addr} {fa : Addr} {fd : FuncData} (F : Fun K "round_dues" "round_dues" s_round_dues fa fd) (h1 : mg "round_dues" = some (.ref fa)) (h2 : PySem.W.keepIn K (.ref fa) = true) (b : Binds K fd ["rota", "wheel"] []) (T : Bl mg) (Z_Rota : Tx_Rota K mg C_Rota) (D_dues_ahead : Df P w K mg base CT0 BB 3 "dues_ahead" 3 ["rota", "wheel", "day"] f_dues_ahead) (D_round_spots : Df P w K mg base CT0 BB 1 "round_spots" 2 ["rota", "wheel"] f_round_spots) : Df P w K mg base CT0 BB 4 "round_dues" 2 ["rota", "wheel"] f_round_dues :=
  ⟨⟨fa, fd, fn_def (N := N_round_dues) (ps := ["rota", "wheel"]) (k := 3) (body := b_round_dues) F S_round_dues (by decide) fun _ _ _ _ _ _ hr => l_round_dues T Z_Rota D_dues_ahead D_round_spots hr, h1, h2, b⟩, fnOf_len⟩

abbrev N_check_wheel : List Str := ["rota", "wheel"]
def b_check_wheel : SSem := (sSeq (sIf (fNotT (fTru (fCall f_is_below [] (lCons (fVar 1) (lCons (fUn (pFld 0 0) (fVar 0)) lNil))))) (sSeq sBad
  sNil) sNil)
  sNil)
def f_check_wheel : List AV → T AV := fnOf 2 2 b_check_wheel
theorem S_check_wheel : FnScope N_check_wheel ["rota", "wheel"] (defScope s_check_wheel) := ⟨rfl, rfl, rfl, by decide +kernel, rfl, by decide +kernel, by decide +kernel⟩
theorem l_check_wheel {C_Rota : Addr} (T : Bl mg) (Z_Rota : Tx_Rota K mg C_Rota) (D_is_below : Df P w K mg base CT0 BB 3 "is_below" 2 ["value", "many"] f_is_below) {f : Addr} {cdv : Value} {A : Around} {outer : List Env} {s : Shared} {H : Hp} {E : XK} (hr : Room 3 (A.deeper (envOfC "check_wheel" (defScope s_check_wheel) s.heap.objs.size f cdv))) :
  JSs (cxOf (L2.CX P w) P w K mg base N_check_wheel "check_wheel" (defScope s_check_wheel) f cdv A outer s H E) CT0 BB E (defBody s_check_wheel) b_check_wheel := by
  have S := S_check_wheel
  have h64 : (A.deeper (envOfC "check_wheel" (defScope s_check_wheel) s.heap.objs.size f cdv)).units + 64 < cLine := by
    have := hr.un
    omega
  have h65 : (A.deeper (envOfC "check_wheel" (defScope s_check_wheel) s.heap.objs.size f cdv)).units + 65 < cLine := by
    have := hr.un
    omega
  have h1 : (A.deeper (envOfC "check_wheel" (defScope s_check_wheel) s.heap.objs.size f cdv)).units + 1 < cLine := by
    have := hr.un
    omega
  refine js_cons ?_ js_nil
  · refine js_if (jt_not (jt_truth (j_callD (lv := 3) D_is_below (hr.mono (by decide)) passB (jl_cons (j_var 1) (jl_cons (j_fld (fld_Rota_places Z_Rota) (j_var 0)) jl_nil))))) ?_ ?_
    · refine js_cons ?_ js_nil
      · exact js_bad
    · exact js_nil
theorem d_check_wheel {C_Rota : Addr} {fa : Addr} {fd : FuncData} (F : Fun K "check_wheel" "check_wheel" s_check_wheel fa fd) (h1 : mg "check_wheel" = some (.ref fa)) (h2 : PySem.W.keepIn K (.ref fa) = true) (b : Binds K fd ["rota", "wheel"] []) (T : Bl mg) (Z_Rota : Tx_Rota K mg C_Rota) (D_is_below : Df P w K mg base CT0 BB 3 "is_below" 2 ["value", "many"] f_is_below) : Df P w K mg base CT0 BB 4 "check_wheel" 2 ["rota", "wheel"] f_check_wheel :=
  ⟨⟨fa, fd, fn_def (N := N_check_wheel) (ps := ["rota", "wheel"]) (k := 3) (body := b_check_wheel) F S_check_wheel (by decide) fun _ _ _ _ _ _ hr => l_check_wheel T Z_Rota D_is_below hr, h1, h2, b⟩, fnOf_len⟩

abbrev N_round_days : List Str := ["rota", "wheel"]
def b_round_days : SSem := (sSeq (sExpr (fCall f_check_wheel [] (lCons (fVar 0) (lCons (fVar 1) lNil))))
  (sSeq (sRet (fUn pLen (fCall f_round_spots [] (lCons (fVar 0) (lCons (fVar 1) lNil)))))
  sNil))
def f_round_days : List AV → T AV := fnOf 2 2 b_round_days
theorem S_round_days : FnScope N_round_days ["rota", "wheel"] (defScope s_round_days) := ⟨rfl, rfl, rfl, by decide +kernel, rfl, by decide +kernel, by decide +kernel⟩
theorem l_round_days {C_Rota : Addr} (T : Bl mg) (Z_Rota : Tx_Rota K mg C_Rota) (D_check_wheel : Df P w K mg base CT0 BB 4 "check_wheel" 2 ["rota", "wheel"] f_check_wheel) (D_round_spots : Df P w K mg base CT0 BB 1 "round_spots" 2 ["rota", "wheel"] f_round_spots) {f : Addr} {cdv : Value} {A : Around} {outer : List Env} {s : Shared} {H : Hp} {E : XK} (hr : Room 4 (A.deeper (envOfC "round_days" (defScope s_round_days) s.heap.objs.size f cdv))) :
  JSs (cxOf (L2.CX P w) P w K mg base N_round_days "round_days" (defScope s_round_days) f cdv A outer s H E) CT0 BB E (defBody s_round_days) b_round_days := by
  have S := S_round_days
  have h64 : (A.deeper (envOfC "round_days" (defScope s_round_days) s.heap.objs.size f cdv)).units + 64 < cLine := by
    have := hr.un
    omega
  have h65 : (A.deeper (envOfC "round_days" (defScope s_round_days) s.heap.objs.size f cdv)).units + 65 < cLine := by
    have := hr.un
    omega
  have h1 : (A.deeper (envOfC "round_days" (defScope s_round_days) s.heap.objs.size f cdv)).units + 1 < cLine := by
    have := hr.un
    omega
  refine js_cons ?_ (js_cons ?_ js_nil)
  · exact (js_expr (j_callD (lv := 4) D_check_wheel (hr.mono (by decide)) passB (jl_cons (j_var 0) (jl_cons (j_var 1) jl_nil))))
  · exact (js_ret (j_callB call_len o_len (by rfl) T.n_len (by decide +kernel) (j_callD (lv := 1) D_round_spots (hr.mono (by decide)) passB (jl_cons (j_var 0) (jl_cons (j_var 1) jl_nil)))))
theorem d_round_days {C_Rota : Addr} {fa : Addr} {fd : FuncData} (F : Fun K "round_days" "round_days" s_round_days fa fd) (h1 : mg "round_days" = some (.ref fa)) (h2 : PySem.W.keepIn K (.ref fa) = true) (b : Binds K fd ["rota", "wheel"] []) (T : Bl mg) (Z_Rota : Tx_Rota K mg C_Rota) (D_check_wheel : Df P w K mg base CT0 BB 4 "check_wheel" 2 ["rota", "wheel"] f_check_wheel) (D_round_spots : Df P w K mg base CT0 BB 1 "round_spots" 2 ["rota", "wheel"] f_round_spots) : Df P w K mg base CT0 BB 5 "round_days" 2 ["rota", "wheel"] f_round_days :=
  ⟨⟨fa, fd, fn_def (N := N_round_days) (ps := ["rota", "wheel"]) (k := 4) (body := b_round_days) F S_round_days (by decide) fun _ _ _ _ _ _ hr => l_round_days T Z_Rota D_check_wheel D_round_spots hr, h1, h2, b⟩, fnOf_len⟩

abbrev N_due_count : List Str := ["rota", "wheel", "day", "rounds", "rest", "days", "due"]
def b_due_count : SSem := (sSeq (sAsg (fBin pDivmod (fVar 2) (fCall f_round_days [] (lCons (fVar 0) (lCons (fVar 1) lNil)))) (tgTup 2 (tgCons (tgName 3) (tgCons (tgName 4) tgNil))))
  (sSeq (sSet 5 (fCall f_round_dues [] (lCons (fVar 0) (lCons (fVar 1) lNil))))
  (sSeq (sRet (fBin pAdd (fBin pMul (fVar 3) (fUn pLen (fVar 5))) (fUn pLen (fNew (nLc [6] (iSeq (fVar 5)) (tgName 6) (fBlT (fBin pLt (fVar 6) (fVar 4))) (fVar 6))))))
  sNil)))
def f_due_count : List AV → T AV := fnOf 3 7 b_due_count
theorem S_due_count : FnScope N_due_count ["rota", "wheel", "day"] (defScope s_due_count) := ⟨rfl, rfl, rfl, by decide +kernel, rfl, by decide +kernel, by decide +kernel⟩
theorem l_due_count {C_Rota : Addr} (T : Bl mg) (Z_Rota : Tx_Rota K mg C_Rota) (D_round_days : Df P w K mg base CT0 BB 5 "round_days" 2 ["rota", "wheel"] f_round_days) (D_round_dues : Df P w K mg base CT0 BB 4 "round_dues" 2 ["rota", "wheel"] f_round_dues) {f : Addr} {cdv : Value} {A : Around} {outer : List Env} {s : Shared} {H : Hp} {E : XK} (hr : Room 5 (A.deeper (envOfC "due_count" (defScope s_due_count) s.heap.objs.size f cdv))) :
  JSs (cxOf (L2.CX P w) P w K mg base N_due_count "due_count" (defScope s_due_count) f cdv A outer s H E) CT0 BB E (defBody s_due_count) b_due_count := by
  have S := S_due_count
  have h64 : (A.deeper (envOfC "due_count" (defScope s_due_count) s.heap.objs.size f cdv)).units + 64 < cLine := by
    have := hr.un
    omega
  have h65 : (A.deeper (envOfC "due_count" (defScope s_due_count) s.heap.objs.size f cdv)).units + 65 < cLine := by
    have := hr.un
    omega
  have h1 : (A.deeper (envOfC "due_count" (defScope s_due_count) s.heap.objs.size f cdv)).units + 1 < cLine := by
    have := hr.un
    omega
  refine js_cons ?_ (js_cons ?_ (js_cons ?_ js_nil))
  · exact (js_asg (j_callB2 call_divmod o_divmod (by rfl) T.n_divmod (by decide +kernel) (j_var 2) (j_callD (lv := 5) D_round_days (hr.mono (by decide)) passB (jl_cons (j_var 0) (jl_cons (j_var 1) jl_nil)))) (jg_tup (by rfl) (jg_cons (jg_name 3 S.nd) (jg_cons (jg_name 4 S.nd) jg_nil))))
  · exact (js_set 5 (j_callD (lv := 4) D_round_dues (hr.mono (by decide)) passB (jl_cons (j_var 0) (jl_cons (j_var 1) jl_nil))) S.nd)
  · exact (js_ret (j_bin' op_addA o_add (j_bin' op_mulA o_mul (j_var 3) (j_callB call_len o_len (by rfl) T.n_len (by decide +kernel) (j_var 5))) (j_callB call_len o_len (by rfl) T.n_len (by decide +kernel) (j_new (jn_lc (own := [("due", 6)]) (by rfl) S.nd (blkOk_by (N := N_due_count) (sc := defScope s_due_count) (by decide +kernel)) (by decide) (ji_seq (j_var 5)) (fun _ _ _ _ _ => (jg_name 6 S.nd)) (fun _ _ _ _ _ => (jts_one (jt_cmp op_lt o_lt.op (j_var 6) (j_var 4) (nomark _)))) (fun _ _ _ _ _ => (j_var 6)))))))
theorem d_due_count {C_Rota : Addr} {fa : Addr} {fd : FuncData} (F : Fun K "due_count" "due_count" s_due_count fa fd) (h1 : mg "due_count" = some (.ref fa)) (h2 : PySem.W.keepIn K (.ref fa) = true) (b : Binds K fd ["rota", "wheel", "day"] []) (T : Bl mg) (Z_Rota : Tx_Rota K mg C_Rota) (D_round_days : Df P w K mg base CT0 BB 5 "round_days" 2 ["rota", "wheel"] f_round_days) (D_round_dues : Df P w K mg base CT0 BB 4 "round_dues" 2 ["rota", "wheel"] f_round_dues) : Df P w K mg base CT0 BB 6 "due_count" 3 ["rota", "wheel", "day"] f_due_count :=
  ⟨⟨fa, fd, fn_def (N := N_due_count) (ps := ["rota", "wheel", "day"]) (k := 5) (body := b_due_count) F S_due_count (by decide) fun _ _ _ _ _ _ hr => l_due_count T Z_Rota D_round_days D_round_dues hr, h1, h2, b⟩, fnOf_len⟩

abbrev N_place : List Str := ["rota", "wheel", "day", "spots"]
def b_place : SSem := (sSeq (sExpr (fCall f_check_wheel [] (lCons (fVar 0) (lCons (fVar 1) lNil))))
  (sSeq (sSet 3 (fCall f_round_spots [] (lCons (fVar 0) (lCons (fVar 1) lNil))))
  (sSeq (sRet (fBin pIx (fVar 3) (fBin pMod (fVar 2) (fUn pLen (fVar 3)))))
  sNil)))
def f_place : List AV → T AV := fnOf 3 4 b_place
theorem S_place : FnScope N_place ["rota", "wheel", "day"] (defScope s_place) := ⟨rfl, rfl, rfl, by decide +kernel, rfl, by decide +kernel, by decide +kernel⟩
theorem l_place {C_Rota : Addr} (T : Bl mg) (Z_Rota : Tx_Rota K mg C_Rota) (D_check_wheel : Df P w K mg base CT0 BB 4 "check_wheel" 2 ["rota", "wheel"] f_check_wheel) (D_round_spots : Df P w K mg base CT0 BB 1 "round_spots" 2 ["rota", "wheel"] f_round_spots) {f : Addr} {cdv : Value} {A : Around} {outer : List Env} {s : Shared} {H : Hp} {E : XK} (hr : Room 4 (A.deeper (envOfC "place" (defScope s_place) s.heap.objs.size f cdv))) :
  JSs (cxOf (L2.CX P w) P w K mg base N_place "place" (defScope s_place) f cdv A outer s H E) CT0 BB E (defBody s_place) b_place := by
  have S := S_place
  have h64 : (A.deeper (envOfC "place" (defScope s_place) s.heap.objs.size f cdv)).units + 64 < cLine := by
    have := hr.un
    omega
  have h65 : (A.deeper (envOfC "place" (defScope s_place) s.heap.objs.size f cdv)).units + 65 < cLine := by
    have := hr.un
    omega
  have h1 : (A.deeper (envOfC "place" (defScope s_place) s.heap.objs.size f cdv)).units + 1 < cLine := by
    have := hr.un
    omega
  refine js_cons ?_ (js_cons ?_ (js_cons ?_ js_nil))
  · exact (js_expr (j_callD (lv := 4) D_check_wheel (hr.mono (by decide)) passB (jl_cons (j_var 0) (jl_cons (j_var 1) jl_nil))))
  · exact (js_set 3 (j_callD (lv := 1) D_round_spots (hr.mono (by decide)) passB (jl_cons (j_var 0) (jl_cons (j_var 1) jl_nil))) S.nd)
  · exact (js_ret (j_ix (j_var 3) (j_bin op_mod o_mod (j_var 2) (j_callB call_len o_len (by rfl) T.n_len (by decide +kernel) (j_var 3)))))
theorem d_place {C_Rota : Addr} {fa : Addr} {fd : FuncData} (F : Fun K "place" "place" s_place fa fd) (h1 : mg "place" = some (.ref fa)) (h2 : PySem.W.keepIn K (.ref fa) = true) (b : Binds K fd ["rota", "wheel", "day"] []) (T : Bl mg) (Z_Rota : Tx_Rota K mg C_Rota) (D_check_wheel : Df P w K mg base CT0 BB 4 "check_wheel" 2 ["rota", "wheel"] f_check_wheel) (D_round_spots : Df P w K mg base CT0 BB 1 "round_spots" 2 ["rota", "wheel"] f_round_spots) : Df P w K mg base CT0 BB 5 "place" 3 ["rota", "wheel", "day"] f_place :=
  ⟨⟨fa, fd, fn_def (N := N_place) (ps := ["rota", "wheel", "day"]) (k := 4) (body := b_place) F S_place (by decide) fun _ _ _ _ _ _ hr => l_place T Z_Rota D_check_wheel D_round_spots hr, h1, h2, b⟩, fnOf_len⟩

abbrev N_is_due : List Str := ["rota", "wheel", "day"]
def b_is_due : SSem := (sSeq (sRet (fBin pIn (fCall f_place [] (lCons (fVar 0) (lCons (fVar 1) (lCons (fVar 2) lNil)))) (fBin pIx (fBin pIx (fUn (pFld 0 1) (fVar 0)) (fBin pMod (fVar 2) (fLenOwn 0 f_Rota_len (fVar 0)))) (fC (.int 0)))))
  sNil)
def f_is_due : List AV → T AV := fnOf 3 3 b_is_due
theorem S_is_due : FnScope N_is_due ["rota", "wheel", "day"] (defScope s_is_due) := ⟨rfl, rfl, rfl, by decide +kernel, rfl, by decide +kernel, by decide +kernel⟩
theorem l_is_due {C_Rota : Addr} (T : Bl mg) (Z_Rota : Tx_Rota K mg C_Rota) (D_place : Df P w K mg base CT0 BB 5 "place" 3 ["rota", "wheel", "day"] f_place) (D_Rota_len : Mf P w K mg base CT0 BB 1 0 "__len__" 1 ["self"] f_Rota_len) {f : Addr} {cdv : Value} {A : Around} {outer : List Env} {s : Shared} {H : Hp} {E : XK} (hr : Room 5 (A.deeper (envOfC "is_due" (defScope s_is_due) s.heap.objs.size f cdv))) :
  JSs (cxOf (L2.CX P w) P w K mg base N_is_due "is_due" (defScope s_is_due) f cdv A outer s H E) CT0 BB E (defBody s_is_due) b_is_due := by
  have S := S_is_due
  have h64 : (A.deeper (envOfC "is_due" (defScope s_is_due) s.heap.objs.size f cdv)).units + 64 < cLine := by
    have := hr.un
    omega
  have h65 : (A.deeper (envOfC "is_due" (defScope s_is_due) s.heap.objs.size f cdv)).units + 65 < cLine := by
    have := hr.un
    omega
  have h1 : (A.deeper (envOfC "is_due" (defScope s_is_due) s.heap.objs.size f cdv)).units + 1 < cLine := by
    have := hr.un
    omega
  refine js_cons ?_ js_nil
  · exact (js_ret (j_cmp ((op_inD h65).or (op_inT h65)) o_in.op (j_callD (lv := 5) D_place (hr.mono (by decide)) passB (jl_cons (j_var 0) (jl_cons (j_var 1) (jl_cons (j_var 2) jl_nil)))) (j_ix (j_ix (j_fld (fld_Rota_rows Z_Rota) (j_var 0)) (j_bin op_mod o_mod (j_var 2) (j_lenOwn (lv := 1) D_Rota_len (hr.mono (by decide)) passB T.n_len (j_var 0)))) j_int) rfl))
theorem d_is_due {C_Rota : Addr} {fa : Addr} {fd : FuncData} (F : Fun K "is_due" "is_due" s_is_due fa fd) (h1 : mg "is_due" = some (.ref fa)) (h2 : PySem.W.keepIn K (.ref fa) = true) (b : Binds K fd ["rota", "wheel", "day"] []) (T : Bl mg) (Z_Rota : Tx_Rota K mg C_Rota) (D_place : Df P w K mg base CT0 BB 5 "place" 3 ["rota", "wheel", "day"] f_place) (D_Rota_len : Mf P w K mg base CT0 BB 1 0 "__len__" 1 ["self"] f_Rota_len) : Df P w K mg base CT0 BB 6 "is_due" 3 ["rota", "wheel", "day"] f_is_due :=
  ⟨⟨fa, fd, fn_def (N := N_is_due) (ps := ["rota", "wheel", "day"]) (k := 5) (body := b_is_due) F S_is_due (by decide) fun _ _ _ _ _ _ hr => l_is_due T Z_Rota D_place D_Rota_len hr, h1, h2, b⟩, fnOf_len⟩

abbrev N_wheel_on : List Str := ["rota", "spot", "day", "wheel"]
def b_wheel_on : SSem := (sSeq (sExpr (fCall f_check_wheel [] (lCons (fVar 0) (lCons (fVar 1) lNil))))
  (sSeq (sRet (fIndex (fNew (nLc [3] (iRange1 (fUn (pFld 0 0) (fVar 0))) (tgName 3) fYes (fCall f_place [] (lCons (fVar 0) (lCons (fVar 3) (lCons (fVar 2) lNil)))))) (fVar 1)))
  sNil))
def f_wheel_on : List AV → T AV := fnOf 3 4 b_wheel_on
theorem S_wheel_on : FnScope N_wheel_on ["rota", "spot", "day"] (defScope s_wheel_on) := ⟨rfl, rfl, rfl, by decide +kernel, rfl, by decide +kernel, by decide +kernel⟩
theorem l_wheel_on {C_Rota : Addr} (T : Bl mg) (Z_Rota : Tx_Rota K mg C_Rota) (D_check_wheel : Df P w K mg base CT0 BB 4 "check_wheel" 2 ["rota", "wheel"] f_check_wheel) (D_place : Df P w K mg base CT0 BB 5 "place" 3 ["rota", "wheel", "day"] f_place) {f : Addr} {cdv : Value} {A : Around} {outer : List Env} {s : Shared} {H : Hp} {E : XK} (hr : Room 5 (A.deeper (envOfC "wheel_on" (defScope s_wheel_on) s.heap.objs.size f cdv))) :
  JSs (cxOf (L2.CX P w) P w K mg base N_wheel_on "wheel_on" (defScope s_wheel_on) f cdv A outer s H E) CT0 BB E (defBody s_wheel_on) b_wheel_on := by
  have S := S_wheel_on
  have h64 : (A.deeper (envOfC "wheel_on" (defScope s_wheel_on) s.heap.objs.size f cdv)).units + 64 < cLine := by
    have := hr.un
    omega
  have h65 : (A.deeper (envOfC "wheel_on" (defScope s_wheel_on) s.heap.objs.size f cdv)).units + 65 < cLine := by
    have := hr.un
    omega
  have h1 : (A.deeper (envOfC "wheel_on" (defScope s_wheel_on) s.heap.objs.size f cdv)).units + 1 < cLine := by
    have := hr.un
    omega
  refine js_cons ?_ (js_cons ?_ js_nil)
  · exact (js_expr (j_callD (lv := 4) D_check_wheel (hr.mono (by decide)) passB (jl_cons (j_var 0) (jl_cons (j_var 1) jl_nil))))
  · exact (js_ret (j_index (j_new (jn_lc (own := [("wheel", 3)]) (by rfl) S.nd (blkOk_by (N := N_wheel_on) (sc := defScope s_wheel_on) (by decide +kernel)) (by decide) (ji_range1 (by rfl) T.n_range (j_fld (fld_Rota_places Z_Rota) (j_var 0))) (fun _ _ _ _ _ => (jg_name 3 S.nd)) (fun _ _ _ _ _ => jts_nil) (fun _ _ _ _ _ => (j_callD (lv := 5) D_place (hr.mono (by decide)) passE0 (jl_cons (j_var 0) (jl_cons (j_var 3) (jl_cons (j_var 2) jl_nil))))))) (j_var 1)))
theorem d_wheel_on {C_Rota : Addr} {fa : Addr} {fd : FuncData} (F : Fun K "wheel_on" "wheel_on" s_wheel_on fa fd) (h1 : mg "wheel_on" = some (.ref fa)) (h2 : PySem.W.keepIn K (.ref fa) = true) (b : Binds K fd ["rota", "spot", "day"] []) (T : Bl mg) (Z_Rota : Tx_Rota K mg C_Rota) (D_check_wheel : Df P w K mg base CT0 BB 4 "check_wheel" 2 ["rota", "wheel"] f_check_wheel) (D_place : Df P w K mg base CT0 BB 5 "place" 3 ["rota", "wheel", "day"] f_place) : Df P w K mg base CT0 BB 6 "wheel_on" 3 ["rota", "spot", "day"] f_wheel_on :=
  ⟨⟨fa, fd, fn_def (N := N_wheel_on) (ps := ["rota", "spot", "day"]) (k := 5) (body := b_wheel_on) F S_wheel_on (by decide) fun _ _ _ _ _ _ hr => l_wheel_on T Z_Rota D_check_wheel D_place hr, h1, h2, b⟩, fnOf_len⟩

abbrev N_far_item : List Str := ["row", "period", "at", "rounds", "rest"]
def b_far_item : SSem := (sSeq (sAsg (fBin pDivmod (fVar 2) (fUn pLen (fVar 0))) (tgTup 2 (tgCons (tgName 3) (tgCons (tgName 4) tgNil))))
  (sSeq (sRet (fBin pAdd (fBin pMul (fVar 3) (fVar 1)) (fBin pIx (fVar 0) (fVar 4))))
  sNil))
def f_far_item : List AV → T AV := fnOf 3 5 b_far_item
theorem S_far_item : FnScope N_far_item ["row", "period", "at"] (defScope s_far_item) := ⟨rfl, rfl, rfl, by decide +kernel, rfl, by decide +kernel, by decide +kernel⟩
theorem l_far_item {C_Rota : Addr} (T : Bl mg) (Z_Rota : Tx_Rota K mg C_Rota) {f : Addr} {cdv : Value} {A : Around} {outer : List Env} {s : Shared} {H : Hp} {E : XK} (hr : Room 0 (A.deeper (envOfC "far_item" (defScope s_far_item) s.heap.objs.size f cdv))) :
  JSs (cxOf (L2.CX P w) P w K mg base N_far_item "far_item" (defScope s_far_item) f cdv A outer s H E) CT0 BB E (defBody s_far_item) b_far_item := by
  have S := S_far_item
  have h64 : (A.deeper (envOfC "far_item" (defScope s_far_item) s.heap.objs.size f cdv)).units + 64 < cLine := by
    have := hr.un
    omega
  have h65 : (A.deeper (envOfC "far_item" (defScope s_far_item) s.heap.objs.size f cdv)).units + 65 < cLine := by
    have := hr.un
    omega
  have h1 : (A.deeper (envOfC "far_item" (defScope s_far_item) s.heap.objs.size f cdv)).units + 1 < cLine := by
    have := hr.un
    omega
  refine js_cons ?_ (js_cons ?_ js_nil)
  · exact (js_asg (j_callB2 call_divmod o_divmod (by rfl) T.n_divmod (by decide +kernel) (j_var 2) (j_callB call_len o_len (by rfl) T.n_len (by decide +kernel) (j_var 0))) (jg_tup (by rfl) (jg_cons (jg_name 3 S.nd) (jg_cons (jg_name 4 S.nd) jg_nil))))
  · exact (js_ret (j_bin' op_addA o_add (j_bin' op_mulA o_mul (j_var 3) (j_var 1)) (j_ix (j_var 0) (j_var 4))))
theorem d_far_item {C_Rota : Addr} {fa : Addr} {fd : FuncData} (F : Fun K "far_item" "far_item" s_far_item fa fd) (h1 : mg "far_item" = some (.ref fa)) (h2 : PySem.W.keepIn K (.ref fa) = true) (b : Binds K fd ["row", "period", "at"] []) (T : Bl mg) (Z_Rota : Tx_Rota K mg C_Rota) : Df P w K mg base CT0 BB 1 "far_item" 3 ["row", "period", "at"] f_far_item :=
  ⟨⟨fa, fd, fn_def (N := N_far_item) (ps := ["row", "period", "at"]) (k := 0) (body := b_far_item) F S_far_item (by decide) fun _ _ _ _ _ _ hr => l_far_item T Z_Rota  hr, h1, h2, b⟩, fnOf_len⟩

abbrev N_due_day : List Str := ["rota", "wheel", "at", "days"]
def b_due_day : SSem := (sSeq (sExpr (fCall f_check_wheel [] (lCons (fVar 0) (lCons (fVar 1) lNil))))
  (sSeq (sSet 3 (fCall f_round_dues [] (lCons (fVar 0) (lCons (fVar 1) lNil))))
  (sSeq (sRet (fIf (fTru (fVar 3)) (fCall f_far_item [] (lCons (fVar 3) (lCons (fCall f_round_days [] (lCons (fVar 0) (lCons (fVar 1) lNil))) (lCons (fVar 2) lNil)))) (fC .non)))
  sNil)))
def f_due_day : List AV → T AV := fnOf 3 4 b_due_day
theorem S_due_day : FnScope N_due_day ["rota", "wheel", "at"] (defScope s_due_day) := ⟨rfl, rfl, rfl, by decide +kernel, rfl, by decide +kernel, by decide +kernel⟩
theorem l_due_day {C_Rota : Addr} (T : Bl mg) (Z_Rota : Tx_Rota K mg C_Rota) (D_check_wheel : Df P w K mg base CT0 BB 4 "check_wheel" 2 ["rota", "wheel"] f_check_wheel) (D_round_dues : Df P w K mg base CT0 BB 4 "round_dues" 2 ["rota", "wheel"] f_round_dues) (D_far_item : Df P w K mg base CT0 BB 1 "far_item" 3 ["row", "period", "at"] f_far_item) (D_round_days : Df P w K mg base CT0 BB 5 "round_days" 2 ["rota", "wheel"] f_round_days) {f : Addr} {cdv : Value} {A : Around} {outer : List Env} {s : Shared} {H : Hp} {E : XK} (hr : Room 5 (A.deeper (envOfC "due_day" (defScope s_due_day) s.heap.objs.size f cdv))) :
  JSs (cxOf (L2.CX P w) P w K mg base N_due_day "due_day" (defScope s_due_day) f cdv A outer s H E) CT0 BB E (defBody s_due_day) b_due_day := by
  have S := S_due_day
  have h64 : (A.deeper (envOfC "due_day" (defScope s_due_day) s.heap.objs.size f cdv)).units + 64 < cLine := by
    have := hr.un
    omega
  have h65 : (A.deeper (envOfC "due_day" (defScope s_due_day) s.heap.objs.size f cdv)).units + 65 < cLine := by
    have := hr.un
    omega
  have h1 : (A.deeper (envOfC "due_day" (defScope s_due_day) s.heap.objs.size f cdv)).units + 1 < cLine := by
    have := hr.un
    omega
  refine js_cons ?_ (js_cons ?_ (js_cons ?_ js_nil))
  · exact (js_expr (j_callD (lv := 4) D_check_wheel (hr.mono (by decide)) passB (jl_cons (j_var 0) (jl_cons (j_var 1) jl_nil))))
  · exact (js_set 3 (j_callD (lv := 4) D_round_dues (hr.mono (by decide)) passB (jl_cons (j_var 0) (jl_cons (j_var 1) jl_nil))) S.nd)
  · exact (js_ret (j_ifExp (jt_truth (j_var 3)) (j_callD (lv := 1) D_far_item (hr.mono (by decide)) passB (jl_cons (j_var 3) (jl_cons (j_callD (lv := 5) D_round_days (hr.mono (by decide)) passB (jl_cons (j_var 0) (jl_cons (j_var 1) jl_nil))) (jl_cons (j_var 2) jl_nil)))) j_non))
theorem d_due_day {C_Rota : Addr} {fa : Addr} {fd : FuncData} (F : Fun K "due_day" "due_day" s_due_day fa fd) (h1 : mg "due_day" = some (.ref fa)) (h2 : PySem.W.keepIn K (.ref fa) = true) (b : Binds K fd ["rota", "wheel", "at"] []) (T : Bl mg) (Z_Rota : Tx_Rota K mg C_Rota) (D_check_wheel : Df P w K mg base CT0 BB 4 "check_wheel" 2 ["rota", "wheel"] f_check_wheel) (D_round_dues : Df P w K mg base CT0 BB 4 "round_dues" 2 ["rota", "wheel"] f_round_dues) (D_far_item : Df P w K mg base CT0 BB 1 "far_item" 3 ["row", "period", "at"] f_far_item) (D_round_days : Df P w K mg base CT0 BB 5 "round_days" 2 ["rota", "wheel"] f_round_days) : Df P w K mg base CT0 BB 6 "due_day" 3 ["rota", "wheel", "at"] f_due_day :=
  ⟨⟨fa, fd, fn_def (N := N_due_day) (ps := ["rota", "wheel", "at"]) (k := 5) (body := b_due_day) F S_due_day (by decide) fun _ _ _ _ _ _ hr => l_due_day T Z_Rota D_check_wheel D_round_dues D_far_item D_round_days hr, h1, h2, b⟩, fnOf_len⟩

abbrev N_law : List Str := ["_law_script", "_law_box_here", "_law_two", "_law_three", "_law_still", "_law_far", "_law_round_of_three", "_law_day", "_law_wheel"]
def st0_law : SSem := (sDrop 0 (sSet 1 (fCall f_law_box [] (lCons (fVar 0) (lCons (fC (.int 0)) (lCons (fC (.int 11)) lNil))))))
def st1_law : SSem := (sSet 2 (fMake f_Rota (lCons (fC (.int 2)) (lCons (fNew (nLst (lCons (fTup (lCons (fNew (nLst (lCons (fC (.int 0)) lNil))) (lCons (fTup (lCons (fC (.int 1)) (lCons (fC (.int 0)) lNil))) lNil))) (lCons (fTup (lCons (fNew (nLst (lCons (fC (.int 0)) (lCons (fC (.int 1)) lNil)))) (lCons (fTup (lCons (fC (.int 0)) (lCons (fC (.int 1)) lNil))) lNil))) lNil)))) lNil))))
def st2_law : SSem := (sSet 3 (fMake f_Rota (lCons (fC (.int 3)) (lCons (fNew (nLst (lCons (fTup (lCons (fNew (nLst (lCons (fC (.int 0)) lNil))) (lCons (fTup (lCons (fC (.int 1)) (lCons (fC (.int 2)) (lCons (fC (.int 0)) lNil)))) lNil))) lNil))) lNil))))
def st3_law : SSem := (sSet 4 (fMake f_Rota (lCons (fC (.int 3)) (lCons (fNew (nLst (lCons (fTup (lCons (fNew (nLst lNil)) (lCons (fTup (lCons (fC (.int 0)) (lCons (fC (.int 2)) (lCons (fC (.int 1)) lNil)))) lNil))) (lCons (fTup (lCons (fNew (nLst (lCons (fC (.int 2)) lNil))) (lCons (fTup (lCons (fC (.int 0)) (lCons (fC (.int 1)) (lCons (fC (.int 2)) lNil)))) lNil))) lNil)))) lNil))))
def st4_law : SSem := (sSet 5 (fCall f_law_pick [] (lCons (fVar 1) (lCons (fNew (nLst (lCons (fC (.int 0)) (lCons (fC (.int 4)) (lCons (fC (.int 4000)) (lCons (fBin pMul (fC (.int 4)) (fBin pPow (fC (.int 10)) (fC (.int 17)))) lNil)))))) lNil))))
def st5_law : SSem := (sIf (fBlT (fBin pNe (fNew (nLc [7] (iRange1 (fC (.int 6))) (tgName 7) fYes (fCall f_place [] (lCons (fVar 2) (lCons (fC (.int 0)) (lCons (fBin pAdd (fVar 5) (fVar 7)) lNil)))))) (fNew (nLst (lCons (fC (.int 0)) (lCons (fC (.int 1)) (lCons (fC (.int 1)) (lCons (fC (.int 0)) (lCons (fC (.int 0)) (lCons (fC (.int 1)) lNil)))))))))) (sSeq (sRet (fC (.bl false)))
  sNil) sNil)
def st6_law : SSem := (sIf (fBlT (fBin pNe (fNew (nLc [7] (iRange1 (fC (.int 5))) (tgName 7) fYes (fCall f_is_due [] (lCons (fVar 2) (lCons (fC (.int 1)) (lCons (fBin pAdd (fVar 5) (fVar 7)) lNil)))))) (fNew (nLst (lCons (fC (.bl false)) (lCons (fC (.bl true)) (lCons (fC (.bl true)) (lCons (fC (.bl true)) (lCons (fC (.bl false)) lNil))))))))) (sSeq (sRet (fC (.bl false)))
  sNil) sNil)
def st7_law : SSem := (sIf (fBlT (fBin pNe (fNew (nLst (lCons (fCall f_round_days [] (lCons (fVar 2) (lCons (fC (.int 0)) lNil))) (lCons (fCall f_round_days [] (lCons (fVar 3) (lCons (fC (.int 2)) lNil))) (lCons (fCall f_round_days [] (lCons (fVar 4) (lCons (fC (.int 0)) lNil))) (lCons (fCall f_round_days [] (lCons (fVar 4) (lCons (fC (.int 1)) lNil))) lNil)))))) (fNew (nLst (lCons (fC (.int 4)) (lCons (fC (.int 3)) (lCons (fC (.int 2)) (lCons (fC (.int 4)) lNil)))))))) (sSeq (sRet (fC (.bl false)))
  sNil) sNil)
def st8_law : SSem := (sSet 6 (fCall f_law_pick [] (lCons (fVar 1) (lCons (fNew (nLst (lCons (fC (.int 0)) (lCons (fC (.int 3)) (lCons (fBin pMul (fC (.int 3)) (fBin pPow (fC (.int 10)) (fC (.int 17)))) lNil))))) lNil))))
def st9_law : SSem := (sIf (fBlT (fBin pNe (fNew (nLc [7] (iRange1 (fC (.int 4))) (tgName 7) fYes (fCall f_wheel_on [] (lCons (fVar 3) (lCons (fC (.int 0)) (lCons (fBin pAdd (fVar 6) (fVar 7)) lNil)))))) (fNew (nLst (lCons (fC (.int 0)) (lCons (fC (.int 2)) (lCons (fC (.int 1)) (lCons (fC (.int 0)) lNil)))))))) (sSeq (sRet (fC (.bl false)))
  sNil) sNil)
def st10_law : SSem := (sIf (fOrT (fBlT (fBin pNe (fNew (nLc [8] (iRange1 (fC (.int 3))) (tgName 8) fYes (fCall f_due_day [] (lCons (fVar 3) (lCons (fVar 8) (lCons (fC (.int 0)) lNil)))))) (fNew (nLst (lCons (fC (.int 0)) (lCons (fC (.int 2)) (lCons (fC (.int 1)) lNil))))))) (fBlT (fBin pNe (fCall f_due_day [] (lCons (fVar 3) (lCons (fC (.int 1)) (lCons (fC (.int 10)) lNil)))) (fC (.int 32))))) (sSeq (sRet (fC (.bl false)))
  sNil) sNil)
def st11_law : SSem := (sIf (fOrT (fBlT (fBin pNe (fNew (nLc [8] (iRange1 (fC (.int 3))) (tgName 8) fYes (fCall f_due_day [] (lCons (fVar 4) (lCons (fVar 8) (lCons (fC (.int 1)) lNil)))))) (fNew (nLst (lCons (fC .non) (lCons (fC (.int 5)) (lCons (fC (.int 7)) lNil))))))) (fBlT (fBin pNe (fCall f_due_count [] (lCons (fVar 4) (lCons (fC (.int 0)) (lCons (fBin pPow (fC (.int 10)) (fC (.int 18))) lNil)))) (fC (.int 0))))) (sSeq (sRet (fC (.bl false)))
  sNil) sNil)
def st12_law : SSem := (sIf (fBlT (fBin pNe (fNew (nLc [7] (iRange1 (fC (.int 6))) (tgName 7) fYes (fCall f_due_count [] (lCons (fVar 2) (lCons (fC (.int 0)) (lCons (fVar 7) lNil)))))) (fNew (nLst (lCons (fC (.int 0)) (lCons (fC (.int 1)) (lCons (fC (.int 2)) (lCons (fC (.int 2)) (lCons (fC (.int 3)) (lCons (fC (.int 4)) lNil)))))))))) (sSeq (sRet (fC (.bl false)))
  sNil) sNil)
def st13_law : SSem := (sRet (fBin pEq (fCall f_due_count [] (lCons (fVar 3) (lCons (fC (.int 2)) (lCons (fBin pPow (fC (.int 10)) (fC (.int 18))) lNil)))) (fC (.int 333333333333333333))))
def k13_law : SSem := sSeq st13_law sNil
def k12_law : SSem := sSeq st12_law k13_law
def k11_law : SSem := sSeq st11_law k12_law
def k10_law : SSem := sSeq st10_law k11_law
def k9_law : SSem := sSeq st9_law k10_law
def k8_law : SSem := sSeq st8_law k9_law
def k7_law : SSem := sSeq st7_law k8_law
def k6_law : SSem := sSeq st6_law k7_law
def k5_law : SSem := sSeq st5_law k6_law
def k4_law : SSem := sSeq st4_law k5_law
def k3_law : SSem := sSeq st3_law k4_law
def k2_law : SSem := sSeq st2_law k3_law
def k1_law : SSem := sSeq st1_law k2_law
def k0_law : SSem := sSeq st0_law k1_law
def b_law : SSem := k0_law
def f_law : List AV → T AV := fnOf 1 9 b_law
theorem S_law : FnScope N_law ["_law_script"] (defScope s_law) := ⟨rfl, rfl, rfl, by decide +kernel, rfl, by decide +kernel, by decide +kernel⟩
theorem l_law {C_Rota : Addr} (T : Bl mg) (Z_Rota : Tx_Rota K mg C_Rota) (D_law_box : Df P w K mg base CT0 BB 1 "_law_box" 3 ["_law_script", "_law_k", "_law_own"] f_law_box) (D_Rota : Cf P w K mg base CT0 BB 7 "Rota" 0 2 ["self", "places", "rows"] f_Rota) (D_law_pick : Df P w K mg base CT0 BB 2 "_law_pick" 2 ["_law_box_here", "_law_items"] f_law_pick) (D_place : Df P w K mg base CT0 BB 5 "place" 3 ["rota", "wheel", "day"] f_place) (D_is_due : Df P w K mg base CT0 BB 6 "is_due" 3 ["rota", "wheel", "day"] f_is_due) (D_round_days : Df P w K mg base CT0 BB 5 "round_days" 2 ["rota", "wheel"] f_round_days) (D_wheel_on : Df P w K mg base CT0 BB 6 "wheel_on" 3 ["rota", "spot", "day"] f_wheel_on) (D_due_day : Df P w K mg base CT0 BB 6 "due_day" 3 ["rota", "wheel", "at"] f_due_day) (D_due_count : Df P w K mg base CT0 BB 6 "due_count" 3 ["rota", "wheel", "day"] f_due_count) {f : Addr} {cdv : Value} {A : Around} {outer : List Env} {s : Shared} {H : Hp} {E : XK} (hr : Room 8 (A.deeper (envOfC "law" (defScope s_law) s.heap.objs.size f cdv))) :
  JSs (cxOf (L2.CX P w) P w K mg base N_law "law" (defScope s_law) f cdv A outer s H E) CT0 BB E (defBody s_law) b_law := by
  have S := S_law
  have h64 : (A.deeper (envOfC "law" (defScope s_law) s.heap.objs.size f cdv)).units + 64 < cLine := by
    have := hr.un
    omega
  have h65 : (A.deeper (envOfC "law" (defScope s_law) s.heap.objs.size f cdv)).units + 65 < cLine := by
    have := hr.un
    omega
  have h1 : (A.deeper (envOfC "law" (defScope s_law) s.heap.objs.size f cdv)).units + 1 < cLine := by
    have := hr.un
    omega
  refine js_cons ?_ (js_cons ?_ (js_cons ?_ (js_cons ?_ (js_cons ?_ (js_cons ?_ (js_cons ?_ (js_cons ?_ (js_cons ?_ (js_cons ?_ (js_cons ?_ (js_cons ?_ (js_cons ?_ (js_cons ?_ js_nil)))))))))))))
  · exact js_drop 0 (js_set 1 (j_callD (lv := 1) D_law_box (hr.mono (by decide)) passB (jl_cons (j_var 0) (jl_cons j_int (jl_cons j_int jl_nil)))) S.nd)
  · exact (js_set 2 (j_make (lv := 7) D_Rota (hr.mono (by decide)) passB (jl_cons j_int (jl_cons (j_new (jn_lst (jl_cons (j_tup (jl_cons (j_new (jn_lst (jl_cons j_int jl_nil))) (jl_cons (j_tup (jl_cons j_int (jl_cons j_int jl_nil))) jl_nil))) (jl_cons (j_tup (jl_cons (j_new (jn_lst (jl_cons j_int (jl_cons j_int jl_nil)))) (jl_cons (j_tup (jl_cons j_int (jl_cons j_int jl_nil))) jl_nil))) jl_nil)))) jl_nil))) S.nd)
  · exact (js_set 3 (j_make (lv := 7) D_Rota (hr.mono (by decide)) passB (jl_cons j_int (jl_cons (j_new (jn_lst (jl_cons (j_tup (jl_cons (j_new (jn_lst (jl_cons j_int jl_nil))) (jl_cons (j_tup (jl_cons j_int (jl_cons j_int (jl_cons j_int jl_nil)))) jl_nil))) jl_nil))) jl_nil))) S.nd)
  · exact (js_set 4 (j_make (lv := 7) D_Rota (hr.mono (by decide)) passB (jl_cons j_int (jl_cons (j_new (jn_lst (jl_cons (j_tup (jl_cons (j_new (jn_lst jl_nil)) (jl_cons (j_tup (jl_cons j_int (jl_cons j_int (jl_cons j_int jl_nil)))) jl_nil))) (jl_cons (j_tup (jl_cons (j_new (jn_lst (jl_cons j_int jl_nil))) (jl_cons (j_tup (jl_cons j_int (jl_cons j_int (jl_cons j_int jl_nil)))) jl_nil))) jl_nil)))) jl_nil))) S.nd)
  · exact (js_set 5 (j_callD (lv := 2) D_law_pick (hr.mono (by decide)) passB (jl_cons (j_var 1) (jl_cons (j_new (jn_lst (jl_cons j_int (jl_cons j_int (jl_cons j_int (jl_cons (j_bin' op_mulA o_mul j_int (j_bin op_pow o_pow j_int j_int)) jl_nil)))))) jl_nil))) S.nd)
  · refine js_if (jt_cmp (op_neD h64) o_ne.op (j_new (jn_lc (own := [("_law_day", 7)]) (by rfl) S.nd (blkOk_by (N := N_law) (sc := defScope s_law) (by decide +kernel)) (by decide) (ji_range1 (by rfl) T.n_range j_int) (fun _ _ _ _ _ => (jg_name 7 S.nd)) (fun _ _ _ _ _ => jts_nil) (fun _ _ _ _ _ => (j_callD (lv := 5) D_place (hr.mono (by decide)) passE0 (jl_cons (j_var 2) (jl_cons j_int (jl_cons (j_bin' op_addA o_add (j_var 5) (j_var 7)) jl_nil))))))) (j_new (jn_lst (jl_cons j_int (jl_cons j_int (jl_cons j_int (jl_cons j_int (jl_cons j_int (jl_cons j_int jl_nil)))))))) (nomark _)) ?_ ?_
    · refine js_cons ?_ js_nil
      · exact (js_ret j_bl)
    · exact js_nil
  · refine js_if (jt_cmp (op_neD h64) o_ne.op (j_new (jn_lc (own := [("_law_day", 7)]) (by rfl) S.nd (blkOk_by (N := N_law) (sc := defScope s_law) (by decide +kernel)) (by decide) (ji_range1 (by rfl) T.n_range j_int) (fun _ _ _ _ _ => (jg_name 7 S.nd)) (fun _ _ _ _ _ => jts_nil) (fun _ _ _ _ _ => (j_callD (lv := 6) D_is_due (hr.mono (by decide)) passE0 (jl_cons (j_var 2) (jl_cons j_int (jl_cons (j_bin' op_addA o_add (j_var 5) (j_var 7)) jl_nil))))))) (j_new (jn_lst (jl_cons j_bl (jl_cons j_bl (jl_cons j_bl (jl_cons j_bl (jl_cons j_bl jl_nil))))))) (nomark _)) ?_ ?_
    · refine js_cons ?_ js_nil
      · exact (js_ret j_bl)
    · exact js_nil
  · refine js_if (jt_cmp (op_neD h64) o_ne.op (j_new (jn_lst (jl_cons (j_callD (lv := 5) D_round_days (hr.mono (by decide)) passB (jl_cons (j_var 2) (jl_cons j_int jl_nil))) (jl_cons (j_callD (lv := 5) D_round_days (hr.mono (by decide)) passB (jl_cons (j_var 3) (jl_cons j_int jl_nil))) (jl_cons (j_callD (lv := 5) D_round_days (hr.mono (by decide)) passB (jl_cons (j_var 4) (jl_cons j_int jl_nil))) (jl_cons (j_callD (lv := 5) D_round_days (hr.mono (by decide)) passB (jl_cons (j_var 4) (jl_cons j_int jl_nil))) jl_nil)))))) (j_new (jn_lst (jl_cons j_int (jl_cons j_int (jl_cons j_int (jl_cons j_int jl_nil)))))) (nomark _)) ?_ ?_
    · refine js_cons ?_ js_nil
      · exact (js_ret j_bl)
    · exact js_nil
  · exact (js_set 6 (j_callD (lv := 2) D_law_pick (hr.mono (by decide)) passB (jl_cons (j_var 1) (jl_cons (j_new (jn_lst (jl_cons j_int (jl_cons j_int (jl_cons (j_bin' op_mulA o_mul j_int (j_bin op_pow o_pow j_int j_int)) jl_nil))))) jl_nil))) S.nd)
  · refine js_if (jt_cmp (op_neD h64) o_ne.op (j_new (jn_lc (own := [("_law_day", 7)]) (by rfl) S.nd (blkOk_by (N := N_law) (sc := defScope s_law) (by decide +kernel)) (by decide) (ji_range1 (by rfl) T.n_range j_int) (fun _ _ _ _ _ => (jg_name 7 S.nd)) (fun _ _ _ _ _ => jts_nil) (fun _ _ _ _ _ => (j_callD (lv := 6) D_wheel_on (hr.mono (by decide)) passE0 (jl_cons (j_var 3) (jl_cons j_int (jl_cons (j_bin' op_addA o_add (j_var 6) (j_var 7)) jl_nil))))))) (j_new (jn_lst (jl_cons j_int (jl_cons j_int (jl_cons j_int (jl_cons j_int jl_nil)))))) (nomark _)) ?_ ?_
    · refine js_cons ?_ js_nil
      · exact (js_ret j_bl)
    · exact js_nil
  · refine js_if (jw_pt (jw_or (jt_cmp (op_neD h64) o_ne.op (j_new (jn_lc (own := [("_law_wheel", 8)]) (by rfl) S.nd (blkOk_by (N := N_law) (sc := defScope s_law) (by decide +kernel)) (by decide) (ji_range1 (by rfl) T.n_range j_int) (fun _ _ _ _ _ => (jg_name 8 S.nd)) (fun _ _ _ _ _ => jts_nil) (fun _ _ _ _ _ => (j_callD (lv := 6) D_due_day (hr.mono (by decide)) passE0 (jl_cons (j_var 3) (jl_cons (j_var 8) (jl_cons j_int jl_nil))))))) (j_new (jn_lst (jl_cons j_int (jl_cons j_int (jl_cons j_int jl_nil))))) (nomark _)) (jw_or1 (jt_cmp (op_neD h64) o_ne.op (j_callD (lv := 6) D_due_day (hr.mono (by decide)) passB (jl_cons (j_var 3) (jl_cons j_int (jl_cons j_int jl_nil)))) j_int (nomark _))))) ?_ ?_
    · refine js_cons ?_ js_nil
      · exact (js_ret j_bl)
    · exact js_nil
  · refine js_if (jw_pt (jw_or (jt_cmp (op_neD h64) o_ne.op (j_new (jn_lc (own := [("_law_wheel", 8)]) (by rfl) S.nd (blkOk_by (N := N_law) (sc := defScope s_law) (by decide +kernel)) (by decide) (ji_range1 (by rfl) T.n_range j_int) (fun _ _ _ _ _ => (jg_name 8 S.nd)) (fun _ _ _ _ _ => jts_nil) (fun _ _ _ _ _ => (j_callD (lv := 6) D_due_day (hr.mono (by decide)) passE0 (jl_cons (j_var 4) (jl_cons (j_var 8) (jl_cons j_int jl_nil))))))) (j_new (jn_lst (jl_cons j_non (jl_cons j_int (jl_cons j_int jl_nil))))) (nomark _)) (jw_or1 (jt_cmp (op_neD h64) o_ne.op (j_callD (lv := 6) D_due_count (hr.mono (by decide)) passB (jl_cons (j_var 4) (jl_cons j_int (jl_cons (j_bin op_pow o_pow j_int j_int) jl_nil)))) j_int (nomark _))))) ?_ ?_
    · refine js_cons ?_ js_nil
      · exact (js_ret j_bl)
    · exact js_nil
  · refine js_if (jt_cmp (op_neD h64) o_ne.op (j_new (jn_lc (own := [("_law_day", 7)]) (by rfl) S.nd (blkOk_by (N := N_law) (sc := defScope s_law) (by decide +kernel)) (by decide) (ji_range1 (by rfl) T.n_range j_int) (fun _ _ _ _ _ => (jg_name 7 S.nd)) (fun _ _ _ _ _ => jts_nil) (fun _ _ _ _ _ => (j_callD (lv := 6) D_due_count (hr.mono (by decide)) passE0 (jl_cons (j_var 2) (jl_cons j_int (jl_cons (j_var 7) jl_nil))))))) (j_new (jn_lst (jl_cons j_int (jl_cons j_int (jl_cons j_int (jl_cons j_int (jl_cons j_int (jl_cons j_int jl_nil)))))))) (nomark _)) ?_ ?_
    · refine js_cons ?_ js_nil
      · exact (js_ret j_bl)
    · exact js_nil
  · exact (js_ret (j_cmp (op_eqD h64) o_eq.op (j_callD (lv := 6) D_due_count (hr.mono (by decide)) passB (jl_cons (j_var 3) (jl_cons j_int (jl_cons (j_bin op_pow o_pow j_int j_int) jl_nil)))) j_int (nomark _)))
theorem d_law {C_Rota : Addr} {fa : Addr} {fd : FuncData} (F : Fun K "law" "law" s_law fa fd) (h1 : mg "law" = some (.ref fa)) (h2 : PySem.W.keepIn K (.ref fa) = true) (b : Binds K fd ["_law_script"] []) (T : Bl mg) (Z_Rota : Tx_Rota K mg C_Rota) (D_law_box : Df P w K mg base CT0 BB 1 "_law_box" 3 ["_law_script", "_law_k", "_law_own"] f_law_box) (D_Rota : Cf P w K mg base CT0 BB 7 "Rota" 0 2 ["self", "places", "rows"] f_Rota) (D_law_pick : Df P w K mg base CT0 BB 2 "_law_pick" 2 ["_law_box_here", "_law_items"] f_law_pick) (D_place : Df P w K mg base CT0 BB 5 "place" 3 ["rota", "wheel", "day"] f_place) (D_is_due : Df P w K mg base CT0 BB 6 "is_due" 3 ["rota", "wheel", "day"] f_is_due) (D_round_days : Df P w K mg base CT0 BB 5 "round_days" 2 ["rota", "wheel"] f_round_days) (D_wheel_on : Df P w K mg base CT0 BB 6 "wheel_on" 3 ["rota", "spot", "day"] f_wheel_on) (D_due_day : Df P w K mg base CT0 BB 6 "due_day" 3 ["rota", "wheel", "at"] f_due_day) (D_due_count : Df P w K mg base CT0 BB 6 "due_count" 3 ["rota", "wheel", "day"] f_due_count) : Df P w K mg base CT0 BB 9 "law" 1 ["_law_script"] f_law :=
  ⟨⟨fa, fd, fn_def (N := N_law) (ps := ["_law_script"]) (k := 8) (body := b_law) F S_law (by decide) fun _ _ _ _ _ _ hr => l_law T Z_Rota D_law_box D_Rota D_law_pick D_place D_is_due D_round_days D_wheel_on D_due_day D_due_count hr, h1, h2, b⟩, fnOf_len⟩
end
end K11

set_option Elab.async false
set_option linter.all false
set_option maxRecDepth 100000
set_option maxHeartbeats 0
namespace K11
open PySem PySem.Spec PyProof.Rows L2 Dn
def E0 : Env' := [.un, .fro (.box), .un, .un, .un, .un, .un, .un, .un]
def E1 : Env' := [.un, .fro (.box), .fro (.ins 0 [.int (2), .tup [.tup [.tup [.int (0)], .tup [.int (1), .int (0)]], .tup [.tup [.int (0), .int (1)], .tup [.int (0), .int (1)]]]]), .un, .un, .un, .un, .un, .un]
def E2 : Env' := [.un, .fro (.box), .fro (.ins 0 [.int (2), .tup [.tup [.tup [.int (0)], .tup [.int (1), .int (0)]], .tup [.tup [.int (0), .int (1)], .tup [.int (0), .int (1)]]]]), .fro (.ins 0 [.int (3), .tup [.tup [.tup [.int (0)], .tup [.int (1), .int (2), .int (0)]]]]), .un, .un, .un, .un, .un]
def E3 : Env' := [.un, .fro (.box), .fro (.ins 0 [.int (2), .tup [.tup [.tup [.int (0)], .tup [.int (1), .int (0)]], .tup [.tup [.int (0), .int (1)], .tup [.int (0), .int (1)]]]]), .fro (.ins 0 [.int (3), .tup [.tup [.tup [.int (0)], .tup [.int (1), .int (2), .int (0)]]]]), .fro (.ins 0 [.int (3), .tup [.tup [.tup [], .tup [.int (0), .int (2), .int (1)]], .tup [.tup [.int (2)], .tup [.int (0), .int (1), .int (2)]]]]), .un, .un, .un, .un]
def E4 : Env' := [.un, .fro (.box), .fro (.ins 0 [.int (2), .tup [.tup [.tup [.int (0)], .tup [.int (1), .int (0)]], .tup [.tup [.int (0), .int (1)], .tup [.int (0), .int (1)]]]]), .fro (.ins 0 [.int (3), .tup [.tup [.tup [.int (0)], .tup [.int (1), .int (2), .int (0)]]]]), .fro (.ins 0 [.int (3), .tup [.tup [.tup [], .tup [.int (0), .int (2), .int (1)]], .tup [.tup [.int (2)], .tup [.int (0), .int (1), .int (2)]]]]), .fro (.int (0)), .un, .un, .un]
def E5 : Env' := [.un, .fro (.box), .fro (.ins 0 [.int (2), .tup [.tup [.tup [.int (0)], .tup [.int (1), .int (0)]], .tup [.tup [.int (0), .int (1)], .tup [.int (0), .int (1)]]]]), .fro (.ins 0 [.int (3), .tup [.tup [.tup [.int (0)], .tup [.int (1), .int (2), .int (0)]]]]), .fro (.ins 0 [.int (3), .tup [.tup [.tup [], .tup [.int (0), .int (2), .int (1)]], .tup [.tup [.int (2)], .tup [.int (0), .int (1), .int (2)]]]]), .fro (.int (4)), .un, .un, .un]
def E6 : Env' := [.un, .fro (.box), .fro (.ins 0 [.int (2), .tup [.tup [.tup [.int (0)], .tup [.int (1), .int (0)]], .tup [.tup [.int (0), .int (1)], .tup [.int (0), .int (1)]]]]), .fro (.ins 0 [.int (3), .tup [.tup [.tup [.int (0)], .tup [.int (1), .int (2), .int (0)]]]]), .fro (.ins 0 [.int (3), .tup [.tup [.tup [], .tup [.int (0), .int (2), .int (1)]], .tup [.tup [.int (2)], .tup [.int (0), .int (1), .int (2)]]]]), .fro (.int (4000)), .un, .un, .un]
def E7 : Env' := [.un, .fro (.box), .fro (.ins 0 [.int (2), .tup [.tup [.tup [.int (0)], .tup [.int (1), .int (0)]], .tup [.tup [.int (0), .int (1)], .tup [.int (0), .int (1)]]]]), .fro (.ins 0 [.int (3), .tup [.tup [.tup [.int (0)], .tup [.int (1), .int (2), .int (0)]]]]), .fro (.ins 0 [.int (3), .tup [.tup [.tup [], .tup [.int (0), .int (2), .int (1)]], .tup [.tup [.int (2)], .tup [.int (0), .int (1), .int (2)]]]]), .fro (.int (400000000000000000)), .un, .un, .un]
def E8 : Env' := [.un, .fro (.box), .fro (.ins 0 [.int (2), .tup [.tup [.tup [.int (0)], .tup [.int (1), .int (0)]], .tup [.tup [.int (0), .int (1)], .tup [.int (0), .int (1)]]]]), .fro (.ins 0 [.int (3), .tup [.tup [.tup [.int (0)], .tup [.int (1), .int (2), .int (0)]]]]), .fro (.ins 0 [.int (3), .tup [.tup [.tup [], .tup [.int (0), .int (2), .int (1)]], .tup [.tup [.int (2)], .tup [.int (0), .int (1), .int (2)]]]]), .fro (.int (0)), .fro (.int (0)), .un, .un]
def E9 : Env' := [.un, .fro (.box), .fro (.ins 0 [.int (2), .tup [.tup [.tup [.int (0)], .tup [.int (1), .int (0)]], .tup [.tup [.int (0), .int (1)], .tup [.int (0), .int (1)]]]]), .fro (.ins 0 [.int (3), .tup [.tup [.tup [.int (0)], .tup [.int (1), .int (2), .int (0)]]]]), .fro (.ins 0 [.int (3), .tup [.tup [.tup [], .tup [.int (0), .int (2), .int (1)]], .tup [.tup [.int (2)], .tup [.int (0), .int (1), .int (2)]]]]), .fro (.int (0)), .fro (.int (3)), .un, .un]
def E10 : Env' := [.un, .fro (.box), .fro (.ins 0 [.int (2), .tup [.tup [.tup [.int (0)], .tup [.int (1), .int (0)]], .tup [.tup [.int (0), .int (1)], .tup [.int (0), .int (1)]]]]), .fro (.ins 0 [.int (3), .tup [.tup [.tup [.int (0)], .tup [.int (1), .int (2), .int (0)]]]]), .fro (.ins 0 [.int (3), .tup [.tup [.tup [], .tup [.int (0), .int (2), .int (1)]], .tup [.tup [.int (2)], .tup [.int (0), .int (1), .int (2)]]]]), .fro (.int (0)), .fro (.int (300000000000000000)), .un, .un]
theorem t13_E8 : AllT (k13_law E8) := allT_end (by decide +kernel)
theorem n12_E8 : nxIs (st12_law E8) E8 = true := by decide +kernel
theorem t12_E8 : AllT (k12_law E8) := by
  unfold k12_law
  exact allT_nx (f := st12_law) (k := k13_law) (ρ := E8) (ρ1 := E8) n12_E8 t13_E8
theorem n11_E8 : nxIs (st11_law E8) E8 = true := by decide +kernel
theorem t11_E8 : AllT (k11_law E8) := by
  unfold k11_law
  exact allT_nx (f := st11_law) (k := k12_law) (ρ := E8) (ρ1 := E8) n11_E8 t12_E8
theorem n10_E8 : nxIs (st10_law E8) E8 = true := by decide +kernel
theorem t10_E8 : AllT (k10_law E8) := by
  unfold k10_law
  exact allT_nx (f := st10_law) (k := k11_law) (ρ := E8) (ρ1 := E8) n10_E8 t11_E8
theorem n9_E8 : nxIs (st9_law E8) E8 = true := by decide +kernel
theorem t9_E8 : AllT (k9_law E8) := by
  unfold k9_law
  exact allT_nx (f := st9_law) (k := k10_law) (ρ := E8) (ρ1 := E8) n9_E8 t10_E8
theorem t13_E9 : AllT (k13_law E9) := allT_end (by decide +kernel)
theorem n12_E9 : nxIs (st12_law E9) E9 = true := by decide +kernel
theorem t12_E9 : AllT (k12_law E9) := by
  unfold k12_law
  exact allT_nx (f := st12_law) (k := k13_law) (ρ := E9) (ρ1 := E9) n12_E9 t13_E9
theorem n11_E9 : nxIs (st11_law E9) E9 = true := by decide +kernel
theorem t11_E9 : AllT (k11_law E9) := by
  unfold k11_law
  exact allT_nx (f := st11_law) (k := k12_law) (ρ := E9) (ρ1 := E9) n11_E9 t12_E9
theorem n10_E9 : nxIs (st10_law E9) E9 = true := by decide +kernel
theorem t10_E9 : AllT (k10_law E9) := by
  unfold k10_law
  exact allT_nx (f := st10_law) (k := k11_law) (ρ := E9) (ρ1 := E9) n10_E9 t11_E9
theorem n9_E9 : nxIs (st9_law E9) E9 = true := by decide +kernel
theorem t9_E9 : AllT (k9_law E9) := by
  unfold k9_law
  exact allT_nx (f := st9_law) (k := k10_law) (ρ := E9) (ρ1 := E9) n9_E9 t10_E9
theorem t13_E10 : AllT (k13_law E10) := allT_end (by decide +kernel)
theorem n12_E10 : nxIs (st12_law E10) E10 = true := by decide +kernel
theorem t12_E10 : AllT (k12_law E10) := by
  unfold k12_law
  exact allT_nx (f := st12_law) (k := k13_law) (ρ := E10) (ρ1 := E10) n12_E10 t13_E10
theorem n11_E10 : nxIs (st11_law E10) E10 = true := by decide +kernel
theorem t11_E10 : AllT (k11_law E10) := by
  unfold k11_law
  exact allT_nx (f := st11_law) (k := k12_law) (ρ := E10) (ρ1 := E10) n11_E10 t12_E10
theorem n10_E10 : nxIs (st10_law E10) E10 = true := by decide +kernel
theorem t10_E10 : AllT (k10_law E10) := by
  unfold k10_law
  exact allT_nx (f := st10_law) (k := k11_law) (ρ := E10) (ρ1 := E10) n10_E10 t11_E10
theorem n9_E10 : nxIs (st9_law E10) E10 = true := by decide +kernel
theorem t9_E10 : AllT (k9_law E10) := by
  unfold k9_law
  exact allT_nx (f := st9_law) (k := k10_law) (ρ := E10) (ρ1 := E10) n9_E10 t10_E10
theorem n8_E4 : drIs (st8_law E4) [E8, E9, E10] = true := by decide +kernel
theorem t8_E4 : AllT (k8_law E4) := by
  unfold k8_law
  exact allT_dr (f := st8_law) (k := k9_law) (ρ := E4) (ρs := [E8, E9, E10]) n8_E4 (each_cons t9_E8 (each_cons t9_E9 (each_cons t9_E10 each_nil)))
theorem n7_E4 : nxIs (st7_law E4) E4 = true := by decide +kernel
theorem t7_E4 : AllT (k7_law E4) := by
  unfold k7_law
  exact allT_nx (f := st7_law) (k := k8_law) (ρ := E4) (ρ1 := E4) n7_E4 t8_E4
theorem n6_E4 : nxIs (st6_law E4) E4 = true := by decide +kernel
theorem t6_E4 : AllT (k6_law E4) := by
  unfold k6_law
  exact allT_nx (f := st6_law) (k := k7_law) (ρ := E4) (ρ1 := E4) n6_E4 t7_E4
theorem n5_E4 : nxIs (st5_law E4) E4 = true := by decide +kernel
theorem t5_E4 : AllT (k5_law E4) := by
  unfold k5_law
  exact allT_nx (f := st5_law) (k := k6_law) (ρ := E4) (ρ1 := E4) n5_E4 t6_E4
def E11 : Env' := [.un, .fro (.box), .fro (.ins 0 [.int (2), .tup [.tup [.tup [.int (0)], .tup [.int (1), .int (0)]], .tup [.tup [.int (0), .int (1)], .tup [.int (0), .int (1)]]]]), .fro (.ins 0 [.int (3), .tup [.tup [.tup [.int (0)], .tup [.int (1), .int (2), .int (0)]]]]), .fro (.ins 0 [.int (3), .tup [.tup [.tup [], .tup [.int (0), .int (2), .int (1)]], .tup [.tup [.int (2)], .tup [.int (0), .int (1), .int (2)]]]]), .fro (.int (4)), .fro (.int (0)), .un, .un]
def E12 : Env' := [.un, .fro (.box), .fro (.ins 0 [.int (2), .tup [.tup [.tup [.int (0)], .tup [.int (1), .int (0)]], .tup [.tup [.int (0), .int (1)], .tup [.int (0), .int (1)]]]]), .fro (.ins 0 [.int (3), .tup [.tup [.tup [.int (0)], .tup [.int (1), .int (2), .int (0)]]]]), .fro (.ins 0 [.int (3), .tup [.tup [.tup [], .tup [.int (0), .int (2), .int (1)]], .tup [.tup [.int (2)], .tup [.int (0), .int (1), .int (2)]]]]), .fro (.int (4)), .fro (.int (3)), .un, .un]
def E13 : Env' := [.un, .fro (.box), .fro (.ins 0 [.int (2), .tup [.tup [.tup [.int (0)], .tup [.int (1), .int (0)]], .tup [.tup [.int (0), .int (1)], .tup [.int (0), .int (1)]]]]), .fro (.ins 0 [.int (3), .tup [.tup [.tup [.int (0)], .tup [.int (1), .int (2), .int (0)]]]]), .fro (.ins 0 [.int (3), .tup [.tup [.tup [], .tup [.int (0), .int (2), .int (1)]], .tup [.tup [.int (2)], .tup [.int (0), .int (1), .int (2)]]]]), .fro (.int (4)), .fro (.int (300000000000000000)), .un, .un]
theorem t13_E11 : AllT (k13_law E11) := allT_end (by decide +kernel)
theorem n12_E11 : nxIs (st12_law E11) E11 = true := by decide +kernel
theorem t12_E11 : AllT (k12_law E11) := by
  unfold k12_law
  exact allT_nx (f := st12_law) (k := k13_law) (ρ := E11) (ρ1 := E11) n12_E11 t13_E11
theorem n11_E11 : nxIs (st11_law E11) E11 = true := by decide +kernel
theorem t11_E11 : AllT (k11_law E11) := by
  unfold k11_law
  exact allT_nx (f := st11_law) (k := k12_law) (ρ := E11) (ρ1 := E11) n11_E11 t12_E11
theorem n10_E11 : nxIs (st10_law E11) E11 = true := by decide +kernel
theorem t10_E11 : AllT (k10_law E11) := by
  unfold k10_law
  exact allT_nx (f := st10_law) (k := k11_law) (ρ := E11) (ρ1 := E11) n10_E11 t11_E11
theorem n9_E11 : nxIs (st9_law E11) E11 = true := by decide +kernel
theorem t9_E11 : AllT (k9_law E11) := by
  unfold k9_law
  exact allT_nx (f := st9_law) (k := k10_law) (ρ := E11) (ρ1 := E11) n9_E11 t10_E11
theorem t13_E12 : AllT (k13_law E12) := allT_end (by decide +kernel)
theorem n12_E12 : nxIs (st12_law E12) E12 = true := by decide +kernel
theorem t12_E12 : AllT (k12_law E12) := by
  unfold k12_law
  exact allT_nx (f := st12_law) (k := k13_law) (ρ := E12) (ρ1 := E12) n12_E12 t13_E12
theorem n11_E12 : nxIs (st11_law E12) E12 = true := by decide +kernel
theorem t11_E12 : AllT (k11_law E12) := by
  unfold k11_law
  exact allT_nx (f := st11_law) (k := k12_law) (ρ := E12) (ρ1 := E12) n11_E12 t12_E12
theorem n10_E12 : nxIs (st10_law E12) E12 = true := by decide +kernel
theorem t10_E12 : AllT (k10_law E12) := by
  unfold k10_law
  exact allT_nx (f := st10_law) (k := k11_law) (ρ := E12) (ρ1 := E12) n10_E12 t11_E12
theorem n9_E12 : nxIs (st9_law E12) E12 = true := by decide +kernel
theorem t9_E12 : AllT (k9_law E12) := by
  unfold k9_law
  exact allT_nx (f := st9_law) (k := k10_law) (ρ := E12) (ρ1 := E12) n9_E12 t10_E12
theorem t13_E13 : AllT (k13_law E13) := allT_end (by decide +kernel)
theorem n12_E13 : nxIs (st12_law E13) E13 = true := by decide +kernel
theorem t12_E13 : AllT (k12_law E13) := by
  unfold k12_law
  exact allT_nx (f := st12_law) (k := k13_law) (ρ := E13) (ρ1 := E13) n12_E13 t13_E13
theorem n11_E13 : nxIs (st11_law E13) E13 = true := by decide +kernel
theorem t11_E13 : AllT (k11_law E13) := by
  unfold k11_law
  exact allT_nx (f := st11_law) (k := k12_law) (ρ := E13) (ρ1 := E13) n11_E13 t12_E13
theorem n10_E13 : nxIs (st10_law E13) E13 = true := by decide +kernel
theorem t10_E13 : AllT (k10_law E13) := by
  unfold k10_law
  exact allT_nx (f := st10_law) (k := k11_law) (ρ := E13) (ρ1 := E13) n10_E13 t11_E13
theorem n9_E13 : nxIs (st9_law E13) E13 = true := by decide +kernel
theorem t9_E13 : AllT (k9_law E13) := by
  unfold k9_law
  exact allT_nx (f := st9_law) (k := k10_law) (ρ := E13) (ρ1 := E13) n9_E13 t10_E13
theorem n8_E5 : drIs (st8_law E5) [E11, E12, E13] = true := by decide +kernel
theorem t8_E5 : AllT (k8_law E5) := by
  unfold k8_law
  exact allT_dr (f := st8_law) (k := k9_law) (ρ := E5) (ρs := [E11, E12, E13]) n8_E5 (each_cons t9_E11 (each_cons t9_E12 (each_cons t9_E13 each_nil)))
theorem n7_E5 : nxIs (st7_law E5) E5 = true := by decide +kernel
theorem t7_E5 : AllT (k7_law E5) := by
  unfold k7_law
  exact allT_nx (f := st7_law) (k := k8_law) (ρ := E5) (ρ1 := E5) n7_E5 t8_E5
theorem n6_E5 : nxIs (st6_law E5) E5 = true := by decide +kernel
theorem t6_E5 : AllT (k6_law E5) := by
  unfold k6_law
  exact allT_nx (f := st6_law) (k := k7_law) (ρ := E5) (ρ1 := E5) n6_E5 t7_E5
theorem n5_E5 : nxIs (st5_law E5) E5 = true := by decide +kernel
theorem t5_E5 : AllT (k5_law E5) := by
  unfold k5_law
  exact allT_nx (f := st5_law) (k := k6_law) (ρ := E5) (ρ1 := E5) n5_E5 t6_E5
def E14 : Env' := [.un, .fro (.box), .fro (.ins 0 [.int (2), .tup [.tup [.tup [.int (0)], .tup [.int (1), .int (0)]], .tup [.tup [.int (0), .int (1)], .tup [.int (0), .int (1)]]]]), .fro (.ins 0 [.int (3), .tup [.tup [.tup [.int (0)], .tup [.int (1), .int (2), .int (0)]]]]), .fro (.ins 0 [.int (3), .tup [.tup [.tup [], .tup [.int (0), .int (2), .int (1)]], .tup [.tup [.int (2)], .tup [.int (0), .int (1), .int (2)]]]]), .fro (.int (4000)), .fro (.int (0)), .un, .un]
def E15 : Env' := [.un, .fro (.box), .fro (.ins 0 [.int (2), .tup [.tup [.tup [.int (0)], .tup [.int (1), .int (0)]], .tup [.tup [.int (0), .int (1)], .tup [.int (0), .int (1)]]]]), .fro (.ins 0 [.int (3), .tup [.tup [.tup [.int (0)], .tup [.int (1), .int (2), .int (0)]]]]), .fro (.ins 0 [.int (3), .tup [.tup [.tup [], .tup [.int (0), .int (2), .int (1)]], .tup [.tup [.int (2)], .tup [.int (0), .int (1), .int (2)]]]]), .fro (.int (4000)), .fro (.int (3)), .un, .un]
def E16 : Env' := [.un, .fro (.box), .fro (.ins 0 [.int (2), .tup [.tup [.tup [.int (0)], .tup [.int (1), .int (0)]], .tup [.tup [.int (0), .int (1)], .tup [.int (0), .int (1)]]]]), .fro (.ins 0 [.int (3), .tup [.tup [.tup [.int (0)], .tup [.int (1), .int (2), .int (0)]]]]), .fro (.ins 0 [.int (3), .tup [.tup [.tup [], .tup [.int (0), .int (2), .int (1)]], .tup [.tup [.int (2)], .tup [.int (0), .int (1), .int (2)]]]]), .fro (.int (4000)), .fro (.int (300000000000000000)), .un, .un]
theorem t13_E14 : AllT (k13_law E14) := allT_end (by decide +kernel)
theorem n12_E14 : nxIs (st12_law E14) E14 = true := by decide +kernel
theorem t12_E14 : AllT (k12_law E14) := by
  unfold k12_law
  exact allT_nx (f := st12_law) (k := k13_law) (ρ := E14) (ρ1 := E14) n12_E14 t13_E14
theorem n11_E14 : nxIs (st11_law E14) E14 = true := by decide +kernel
theorem t11_E14 : AllT (k11_law E14) := by
  unfold k11_law
  exact allT_nx (f := st11_law) (k := k12_law) (ρ := E14) (ρ1 := E14) n11_E14 t12_E14
theorem n10_E14 : nxIs (st10_law E14) E14 = true := by decide +kernel
theorem t10_E14 : AllT (k10_law E14) := by
  unfold k10_law
  exact allT_nx (f := st10_law) (k := k11_law) (ρ := E14) (ρ1 := E14) n10_E14 t11_E14
theorem n9_E14 : nxIs (st9_law E14) E14 = true := by decide +kernel
theorem t9_E14 : AllT (k9_law E14) := by
  unfold k9_law
  exact allT_nx (f := st9_law) (k := k10_law) (ρ := E14) (ρ1 := E14) n9_E14 t10_E14
theorem t13_E15 : AllT (k13_law E15) := allT_end (by decide +kernel)
theorem n12_E15 : nxIs (st12_law E15) E15 = true := by decide +kernel
theorem t12_E15 : AllT (k12_law E15) := by
  unfold k12_law
  exact allT_nx (f := st12_law) (k := k13_law) (ρ := E15) (ρ1 := E15) n12_E15 t13_E15
theorem n11_E15 : nxIs (st11_law E15) E15 = true := by decide +kernel
theorem t11_E15 : AllT (k11_law E15) := by
  unfold k11_law
  exact allT_nx (f := st11_law) (k := k12_law) (ρ := E15) (ρ1 := E15) n11_E15 t12_E15
theorem n10_E15 : nxIs (st10_law E15) E15 = true := by decide +kernel
theorem t10_E15 : AllT (k10_law E15) := by
  unfold k10_law
  exact allT_nx (f := st10_law) (k := k11_law) (ρ := E15) (ρ1 := E15) n10_E15 t11_E15
theorem n9_E15 : nxIs (st9_law E15) E15 = true := by decide +kernel
theorem t9_E15 : AllT (k9_law E15) := by
  unfold k9_law
  exact allT_nx (f := st9_law) (k := k10_law) (ρ := E15) (ρ1 := E15) n9_E15 t10_E15
theorem t13_E16 : AllT (k13_law E16) := allT_end (by decide +kernel)
theorem n12_E16 : nxIs (st12_law E16) E16 = true := by decide +kernel
theorem t12_E16 : AllT (k12_law E16) := by
  unfold k12_law
  exact allT_nx (f := st12_law) (k := k13_law) (ρ := E16) (ρ1 := E16) n12_E16 t13_E16
theorem n11_E16 : nxIs (st11_law E16) E16 = true := by decide +kernel
theorem t11_E16 : AllT (k11_law E16) := by
  unfold k11_law
  exact allT_nx (f := st11_law) (k := k12_law) (ρ := E16) (ρ1 := E16) n11_E16 t12_E16
theorem n10_E16 : nxIs (st10_law E16) E16 = true := by decide +kernel
theorem t10_E16 : AllT (k10_law E16) := by
  unfold k10_law
  exact allT_nx (f := st10_law) (k := k11_law) (ρ := E16) (ρ1 := E16) n10_E16 t11_E16
theorem n9_E16 : nxIs (st9_law E16) E16 = true := by decide +kernel
theorem t9_E16 : AllT (k9_law E16) := by
  unfold k9_law
  exact allT_nx (f := st9_law) (k := k10_law) (ρ := E16) (ρ1 := E16) n9_E16 t10_E16
theorem n8_E6 : drIs (st8_law E6) [E14, E15, E16] = true := by decide +kernel
theorem t8_E6 : AllT (k8_law E6) := by
  unfold k8_law
  exact allT_dr (f := st8_law) (k := k9_law) (ρ := E6) (ρs := [E14, E15, E16]) n8_E6 (each_cons t9_E14 (each_cons t9_E15 (each_cons t9_E16 each_nil)))
theorem n7_E6 : nxIs (st7_law E6) E6 = true := by decide +kernel
theorem t7_E6 : AllT (k7_law E6) := by
  unfold k7_law
  exact allT_nx (f := st7_law) (k := k8_law) (ρ := E6) (ρ1 := E6) n7_E6 t8_E6
theorem n6_E6 : nxIs (st6_law E6) E6 = true := by decide +kernel
theorem t6_E6 : AllT (k6_law E6) := by
  unfold k6_law
  exact allT_nx (f := st6_law) (k := k7_law) (ρ := E6) (ρ1 := E6) n6_E6 t7_E6
theorem n5_E6 : nxIs (st5_law E6) E6 = true := by decide +kernel
theorem t5_E6 : AllT (k5_law E6) := by
  unfold k5_law
  exact allT_nx (f := st5_law) (k := k6_law) (ρ := E6) (ρ1 := E6) n5_E6 t6_E6
def E17 : Env' := [.un, .fro (.box), .fro (.ins 0 [.int (2), .tup [.tup [.tup [.int (0)], .tup [.int (1), .int (0)]], .tup [.tup [.int (0), .int (1)], .tup [.int (0), .int (1)]]]]), .fro (.ins 0 [.int (3), .tup [.tup [.tup [.int (0)], .tup [.int (1), .int (2), .int (0)]]]]), .fro (.ins 0 [.int (3), .tup [.tup [.tup [], .tup [.int (0), .int (2), .int (1)]], .tup [.tup [.int (2)], .tup [.int (0), .int (1), .int (2)]]]]), .fro (.int (400000000000000000)), .fro (.int (0)), .un, .un]
def E18 : Env' := [.un, .fro (.box), .fro (.ins 0 [.int (2), .tup [.tup [.tup [.int (0)], .tup [.int (1), .int (0)]], .tup [.tup [.int (0), .int (1)], .tup [.int (0), .int (1)]]]]), .fro (.ins 0 [.int (3), .tup [.tup [.tup [.int (0)], .tup [.int (1), .int (2), .int (0)]]]]), .fro (.ins 0 [.int (3), .tup [.tup [.tup [], .tup [.int (0), .int (2), .int (1)]], .tup [.tup [.int (2)], .tup [.int (0), .int (1), .int (2)]]]]), .fro (.int (400000000000000000)), .fro (.int (3)), .un, .un]
def E19 : Env' := [.un, .fro (.box), .fro (.ins 0 [.int (2), .tup [.tup [.tup [.int (0)], .tup [.int (1), .int (0)]], .tup [.tup [.int (0), .int (1)], .tup [.int (0), .int (1)]]]]), .fro (.ins 0 [.int (3), .tup [.tup [.tup [.int (0)], .tup [.int (1), .int (2), .int (0)]]]]), .fro (.ins 0 [.int (3), .tup [.tup [.tup [], .tup [.int (0), .int (2), .int (1)]], .tup [.tup [.int (2)], .tup [.int (0), .int (1), .int (2)]]]]), .fro (.int (400000000000000000)), .fro (.int (300000000000000000)), .un, .un]
theorem t13_E17 : AllT (k13_law E17) := allT_end (by decide +kernel)
theorem n12_E17 : nxIs (st12_law E17) E17 = true := by decide +kernel
theorem t12_E17 : AllT (k12_law E17) := by
  unfold k12_law
  exact allT_nx (f := st12_law) (k := k13_law) (ρ := E17) (ρ1 := E17) n12_E17 t13_E17
theorem n11_E17 : nxIs (st11_law E17) E17 = true := by decide +kernel
theorem t11_E17 : AllT (k11_law E17) := by
  unfold k11_law
  exact allT_nx (f := st11_law) (k := k12_law) (ρ := E17) (ρ1 := E17) n11_E17 t12_E17
theorem n10_E17 : nxIs (st10_law E17) E17 = true := by decide +kernel
theorem t10_E17 : AllT (k10_law E17) := by
  unfold k10_law
  exact allT_nx (f := st10_law) (k := k11_law) (ρ := E17) (ρ1 := E17) n10_E17 t11_E17
theorem n9_E17 : nxIs (st9_law E17) E17 = true := by decide +kernel
theorem t9_E17 : AllT (k9_law E17) := by
  unfold k9_law
  exact allT_nx (f := st9_law) (k := k10_law) (ρ := E17) (ρ1 := E17) n9_E17 t10_E17
theorem t13_E18 : AllT (k13_law E18) := allT_end (by decide +kernel)
theorem n12_E18 : nxIs (st12_law E18) E18 = true := by decide +kernel
theorem t12_E18 : AllT (k12_law E18) := by
  unfold k12_law
  exact allT_nx (f := st12_law) (k := k13_law) (ρ := E18) (ρ1 := E18) n12_E18 t13_E18
theorem n11_E18 : nxIs (st11_law E18) E18 = true := by decide +kernel
theorem t11_E18 : AllT (k11_law E18) := by
  unfold k11_law
  exact allT_nx (f := st11_law) (k := k12_law) (ρ := E18) (ρ1 := E18) n11_E18 t12_E18
theorem n10_E18 : nxIs (st10_law E18) E18 = true := by decide +kernel
theorem t10_E18 : AllT (k10_law E18) := by
  unfold k10_law
  exact allT_nx (f := st10_law) (k := k11_law) (ρ := E18) (ρ1 := E18) n10_E18 t11_E18
theorem n9_E18 : nxIs (st9_law E18) E18 = true := by decide +kernel
theorem t9_E18 : AllT (k9_law E18) := by
  unfold k9_law
  exact allT_nx (f := st9_law) (k := k10_law) (ρ := E18) (ρ1 := E18) n9_E18 t10_E18
theorem t13_E19 : AllT (k13_law E19) := allT_end (by decide +kernel)
theorem n12_E19 : nxIs (st12_law E19) E19 = true := by decide +kernel
theorem t12_E19 : AllT (k12_law E19) := by
  unfold k12_law
  exact allT_nx (f := st12_law) (k := k13_law) (ρ := E19) (ρ1 := E19) n12_E19 t13_E19
theorem n11_E19 : nxIs (st11_law E19) E19 = true := by decide +kernel
theorem t11_E19 : AllT (k11_law E19) := by
  unfold k11_law
  exact allT_nx (f := st11_law) (k := k12_law) (ρ := E19) (ρ1 := E19) n11_E19 t12_E19
theorem n10_E19 : nxIs (st10_law E19) E19 = true := by decide +kernel
theorem t10_E19 : AllT (k10_law E19) := by
  unfold k10_law
  exact allT_nx (f := st10_law) (k := k11_law) (ρ := E19) (ρ1 := E19) n10_E19 t11_E19
theorem n9_E19 : nxIs (st9_law E19) E19 = true := by decide +kernel
theorem t9_E19 : AllT (k9_law E19) := by
  unfold k9_law
  exact allT_nx (f := st9_law) (k := k10_law) (ρ := E19) (ρ1 := E19) n9_E19 t10_E19
theorem n8_E7 : drIs (st8_law E7) [E17, E18, E19] = true := by decide +kernel
theorem t8_E7 : AllT (k8_law E7) := by
  unfold k8_law
  exact allT_dr (f := st8_law) (k := k9_law) (ρ := E7) (ρs := [E17, E18, E19]) n8_E7 (each_cons t9_E17 (each_cons t9_E18 (each_cons t9_E19 each_nil)))
theorem n7_E7 : nxIs (st7_law E7) E7 = true := by decide +kernel
theorem t7_E7 : AllT (k7_law E7) := by
  unfold k7_law
  exact allT_nx (f := st7_law) (k := k8_law) (ρ := E7) (ρ1 := E7) n7_E7 t8_E7
theorem n6_E7 : nxIs (st6_law E7) E7 = true := by decide +kernel
theorem t6_E7 : AllT (k6_law E7) := by
  unfold k6_law
  exact allT_nx (f := st6_law) (k := k7_law) (ρ := E7) (ρ1 := E7) n6_E7 t7_E7
theorem n5_E7 : nxIs (st5_law E7) E7 = true := by decide +kernel
theorem t5_E7 : AllT (k5_law E7) := by
  unfold k5_law
  exact allT_nx (f := st5_law) (k := k6_law) (ρ := E7) (ρ1 := E7) n5_E7 t6_E7
theorem n4_E3 : drIs (st4_law E3) [E4, E5, E6, E7] = true := by decide +kernel
theorem t4_E3 : AllT (k4_law E3) := by
  unfold k4_law
  exact allT_dr (f := st4_law) (k := k5_law) (ρ := E3) (ρs := [E4, E5, E6, E7]) n4_E3 (each_cons t5_E4 (each_cons t5_E5 (each_cons t5_E6 (each_cons t5_E7 each_nil))))
theorem n3_E2 : nxIs (st3_law E2) E3 = true := by decide +kernel
theorem t3_E2 : AllT (k3_law E2) := by
  unfold k3_law
  exact allT_nx (f := st3_law) (k := k4_law) (ρ := E2) (ρ1 := E3) n3_E2 t4_E3
theorem n2_E1 : nxIs (st2_law E1) E2 = true := by decide +kernel
theorem t2_E1 : AllT (k2_law E1) := by
  unfold k2_law
  exact allT_nx (f := st2_law) (k := k3_law) (ρ := E1) (ρ1 := E2) n2_E1 t3_E2
theorem n1_E0 : nxIs (st1_law E0) E1 = true := by decide +kernel
theorem t1_E0 : AllT (k1_law E0) := by
  unfold k1_law
  exact allT_nx (f := st1_law) (k := k2_law) (ρ := E0) (ρ1 := E1) n1_E0 t2_E1
theorem f_law_eq : f_law = fnOf 1 (8 + 1) (sSeq st0_law k1_law) := by unfold f_law b_law k0_law; exact congrArg (fun n => fnOf 1 n (sSeq st0_law k1_law)) (show 9 = 8 + 1 from rfl)
theorem b1_eq (ns : List Int) : st0_law (.fro (.scr ns) :: List.replicate 8 .un) = .ret (.nx E0) := by unfold st0_law E0; rfl
theorem law_true (ns : List Int) (_ : ns.length ≤ 63) : (f_law [.scr ns]).Al (fun t => t = .bl true) NoX := by
  have h := closed_law2 (s1 := st0_law) (r := k1_law) (n := 8) (ρ1 := E0) (b1_eq ns) t1_E0
  rw [← f_law_eq] at h
  assumption
end K11

set_option Elab.async false
set_option linter.all false
set_option maxRecDepth 100000
set_option maxHeartbeats 0
namespace K11
open PySem PySem.Spec PyProof.Rows L2 Dn
theorem all_mk {l : PySem.W.OpenLaw} {w : World} {K : PySem.W.Frag} {h : Heap} {mg : Str → Option Value} {fa f1 f2 f3 f4 f5 f6 f7 f8 f9 f10 f11 f12 f13 f14 f15 f16 f17 f18 f19 f20 f21 f22 f23 f24 : Addr} {C_Rota : Addr} (X : K.In h) (G : h.Ns mainGlobals mg) (hfa : mg "law" = some (.ref fa))
    {od1 an1 od2 an2 od3 an3 od4 an4 od5 an5 od6 an6 od7 an7 od8 an8 od9 an9 od10 an10 od11 an11 od12 an12 od13 an13 od14 an14 od15 an15 od16 an16 od17 an17 od18 an18 od19 an19 od20 an20 od21 an21 od22 an22 od23 an23 od24 an24 : Option Addr} {sl1 sl2 sl3 sl4 sl5 sl6 sl7 sl8 sl9 sl10 sl11 sl12 sl13 sl14 sl15 sl16 sl17 sl18 sl19 sl20 sl21 sl22 sl23 sl24 : Array (Option Value)} {oc1 kV1 dc1 pm1 cd1 ct1 oc2 kV2 dc2 pm2 cd2 ct2 oc3 kV3 dc3 pm3 cd3 ct3 oc4 kV4 dc4 pm4 cd4 ct4 oc5 kV5 dc5 pm5 cd5 ct5 oc6 kV6 dc6 pm6 cd6 ct6 oc7 kV7 dc7 pm7 cd7 ct7 oc8 kV8 dc8 pm8 cd8 ct8 oc9 kV9 dc9 pm9 cd9 ct9 oc10 kV10 dc10 pm10 cd10 ct10 oc11 kV11 dc11 pm11 cd11 ct11 oc12 kV12 dc12 pm12 cd12 ct12 oc13 kV13 dc13 pm13 cd13 ct13 oc14 kV14 dc14 pm14 cd14 ct14 oc15 kV15 dc15 pm15 cd15 ct15 oc16 kV16 dc16 pm16 cd16 ct16 oc17 kV17 dc17 pm17 cd17 ct17 oc18 kV18 dc18 pm18 cd18 ct18 oc19 kV19 dc19 pm19 cd19 ct19 oc20 kV20 dc20 pm20 cd20 ct20 oc21 kV21 dc21 pm21 cd21 ct21 oc22 kV22 dc22 pm22 cd22 ct22 oc23 kV23 dc23 pm23 cd23 ct23 oc24 kV24 dc24 pm24 cd24 ct24 : Value}
    (aC_Rota : PySem.W.nsIn K mainGlobals "Rota" = some (some (.ref C_Rota))) (pg_Rota : PySem.W.plainGet K C_Rota Str.empty = true) (hd_Rota : PySem.W.hasDictIn K C_Rota = true) (po_Rota : PySem.W.plainOver K C_Rota = true) (sa_Rota : PySem.W.findIn K (.ref C_Rota) "__setattr__" = some (some (.builtin "object.__setattr__"))) (mk_Rota : PySem.W.makesIn K C_Rota = true) (kc_Rota : PySem.W.keepIn K (.ref C_Rota) = true) (n_Rota_places : PySem.W.findIn K (.ref C_Rota) "places" = some none) (n_Rota_rows : PySem.W.findIn K (.ref C_Rota) "rows" = some none)
    (a1 : PySem.W.nsIn K mainGlobals "_law_box" = some (some (.ref f1))) (l1 : K.lookup f1 = some ⟨oc1, od1, .func (PySem.W.fnOf "_law_box" "_law_box" (defArgs s_law_box) (defBody s_law_box) (defScope s_law_box) .none kV1 dc1 pm1 an1 cd1 ct1), sl1⟩) (c1 : PySem.W.codeIn K cd1 "_law_box" = true) (k1 : PySem.W.keepIn K (.ref f1) = true)
    (a2 : PySem.W.nsIn K mainGlobals "is_integer" = some (some (.ref f2))) (l2 : K.lookup f2 = some ⟨oc2, od2, .func (PySem.W.fnOf "is_integer" "is_integer" (defArgs s_is_integer) (defBody s_is_integer) (defScope s_is_integer) .none kV2 dc2 pm2 an2 cd2 ct2), sl2⟩) (c2 : PySem.W.codeIn K cd2 "is_integer" = true) (k2 : PySem.W.keepIn K (.ref f2) = true)
    (a3 : PySem.W.nsIn K mainGlobals "is_whole" = some (some (.ref f3))) (l3 : K.lookup f3 = some ⟨oc3, od3, .func (PySem.W.fnOf "is_whole" "is_whole" (defArgs s_is_whole) (defBody s_is_whole) (defScope s_is_whole) .none kV3 dc3 pm3 an3 cd3 ct3), sl3⟩) (c3 : PySem.W.codeIn K cd3 "is_whole" = true) (k3 : PySem.W.keepIn K (.ref f3) = true)
    (a4 : PySem.W.nsIn K mainGlobals "is_sequence" = some (some (.ref f4))) (l4 : K.lookup f4 = some ⟨oc4, od4, .func (PySem.W.fnOf "is_sequence" "is_sequence" (defArgs s_is_sequence) (defBody s_is_sequence) (defScope s_is_sequence) .none kV4 dc4 pm4 an4 cd4 ct4), sl4⟩) (c4 : PySem.W.codeIn K cd4 "is_sequence" = true) (k4 : PySem.W.keepIn K (.ref f4) = true)
    (a5 : PySem.W.nsIn K mainGlobals "is_below" = some (some (.ref f5))) (l5 : K.lookup f5 = some ⟨oc5, od5, .func (PySem.W.fnOf "is_below" "is_below" (defArgs s_is_below) (defBody s_is_below) (defScope s_is_below) .none kV5 dc5 pm5 an5 cd5 ct5), sl5⟩) (c5 : PySem.W.codeIn K cd5 "is_below" = true) (k5 : PySem.W.keepIn K (.ref f5) = true)
    (a6 : PySem.W.nsIn K mainGlobals "are_spots" = some (some (.ref f6))) (l6 : K.lookup f6 = some ⟨oc6, od6, .func (PySem.W.fnOf "are_spots" "are_spots" (defArgs s_are_spots) (defBody s_are_spots) (defScope s_are_spots) .none kV6 dc6 pm6 an6 cd6 ct6), sl6⟩) (c6 : PySem.W.codeIn K cd6 "are_spots" = true) (k6 : PySem.W.keepIn K (.ref f6) = true)
    (a7 : PySem.W.nsIn K mainGlobals "is_row" = some (some (.ref f7))) (l7 : K.lookup f7 = some ⟨oc7, od7, .func (PySem.W.fnOf "is_row" "is_row" (defArgs s_is_row) (defBody s_is_row) (defScope s_is_row) .none kV7 dc7 pm7 an7 cd7 ct7), sl7⟩) (c7 : PySem.W.codeIn K cd7 "is_row" = true) (k7 : PySem.W.keepIn K (.ref f7) = true)
    (a8 : PySem.W.nsIn K mainGlobals "are_rows" = some (some (.ref f8))) (l8 : K.lookup f8 = some ⟨oc8, od8, .func (PySem.W.fnOf "are_rows" "are_rows" (defArgs s_are_rows) (defBody s_are_rows) (defScope s_are_rows) .none kV8 dc8 pm8 an8 cd8 ct8), sl8⟩) (c8 : PySem.W.codeIn K cd8 "are_rows" = true) (k8 : PySem.W.keepIn K (.ref f8) = true)
    (a9 : PySem.W.findIn K (.ref C_Rota) "__init__" = some (some (.ref f9))) (i9 : PySem.W.isFn K (.ref f9) = true) (l9 : K.lookup f9 = some ⟨oc9, od9, .func (PySem.W.fnOf "__init__" "Rota.__init__" (defArgs s_Rota_init) (defBody s_Rota_init) (defScope s_Rota_init) .none kV9 dc9 pm9 an9 cd9 ct9), sl9⟩) (c9 : PySem.W.codeIn K cd9 "Rota.__init__" = true) (k9 : PySem.W.keepIn K (.ref f9) = true)
    (a10 : PySem.W.nsIn K mainGlobals "_law_take" = some (some (.ref f10))) (l10 : K.lookup f10 = some ⟨oc10, od10, .func (PySem.W.fnOf "_law_take" "_law_take" (defArgs s_law_take) (defBody s_law_take) (defScope s_law_take) .none kV10 dc10 pm10 an10 cd10 ct10), sl10⟩) (c10 : PySem.W.codeIn K cd10 "_law_take" = true) (k10 : PySem.W.keepIn K (.ref f10) = true)
    (a11 : PySem.W.nsIn K mainGlobals "_law_pick" = some (some (.ref f11))) (l11 : K.lookup f11 = some ⟨oc11, od11, .func (PySem.W.fnOf "_law_pick" "_law_pick" (defArgs s_law_pick) (defBody s_law_pick) (defScope s_law_pick) .none kV11 dc11 pm11 an11 cd11 ct11), sl11⟩) (c11 : PySem.W.codeIn K cd11 "_law_pick" = true) (k11 : PySem.W.keepIn K (.ref f11) = true)
    (a12 : PySem.W.nsIn K mainGlobals "round_spots" = some (some (.ref f12))) (l12 : K.lookup f12 = some ⟨oc12, od12, .func (PySem.W.fnOf "round_spots" "round_spots" (defArgs s_round_spots) (defBody s_round_spots) (defScope s_round_spots) .none kV12 dc12 pm12 an12 cd12 ct12), sl12⟩) (c12 : PySem.W.codeIn K cd12 "round_spots" = true) (k12 : PySem.W.keepIn K (.ref f12) = true)
    (a13 : PySem.W.findIn K (.ref C_Rota) "__len__" = some (some (.ref f13))) (i13 : PySem.W.isFn K (.ref f13) = true) (l13 : K.lookup f13 = some ⟨oc13, od13, .func (PySem.W.fnOf "__len__" "Rota.__len__" (defArgs s_Rota_len) (defBody s_Rota_len) (defScope s_Rota_len) .none kV13 dc13 pm13 an13 cd13 ct13), sl13⟩) (c13 : PySem.W.codeIn K cd13 "Rota.__len__" = true) (k13 : PySem.W.keepIn K (.ref f13) = true)
    (a14 : PySem.W.nsIn K mainGlobals "dues_ahead" = some (some (.ref f14))) (l14 : K.lookup f14 = some ⟨oc14, od14, .func (PySem.W.fnOf "dues_ahead" "dues_ahead" (defArgs s_dues_ahead) (defBody s_dues_ahead) (defScope s_dues_ahead) .none kV14 dc14 pm14 an14 cd14 ct14), sl14⟩) (c14 : PySem.W.codeIn K cd14 "dues_ahead" = true) (k14 : PySem.W.keepIn K (.ref f14) = true)
    (a15 : PySem.W.nsIn K mainGlobals "round_dues" = some (some (.ref f15))) (l15 : K.lookup f15 = some ⟨oc15, od15, .func (PySem.W.fnOf "round_dues" "round_dues" (defArgs s_round_dues) (defBody s_round_dues) (defScope s_round_dues) .none kV15 dc15 pm15 an15 cd15 ct15), sl15⟩) (c15 : PySem.W.codeIn K cd15 "round_dues" = true) (k15 : PySem.W.keepIn K (.ref f15) = true)
    (a16 : PySem.W.nsIn K mainGlobals "check_wheel" = some (some (.ref f16))) (l16 : K.lookup f16 = some ⟨oc16, od16, .func (PySem.W.fnOf "check_wheel" "check_wheel" (defArgs s_check_wheel) (defBody s_check_wheel) (defScope s_check_wheel) .none kV16 dc16 pm16 an16 cd16 ct16), sl16⟩) (c16 : PySem.W.codeIn K cd16 "check_wheel" = true) (k16 : PySem.W.keepIn K (.ref f16) = true)
    (a17 : PySem.W.nsIn K mainGlobals "round_days" = some (some (.ref f17))) (l17 : K.lookup f17 = some ⟨oc17, od17, .func (PySem.W.fnOf "round_days" "round_days" (defArgs s_round_days) (defBody s_round_days) (defScope s_round_days) .none kV17 dc17 pm17 an17 cd17 ct17), sl17⟩) (c17 : PySem.W.codeIn K cd17 "round_days" = true) (k17 : PySem.W.keepIn K (.ref f17) = true)
    (a18 : PySem.W.nsIn K mainGlobals "due_count" = some (some (.ref f18))) (l18 : K.lookup f18 = some ⟨oc18, od18, .func (PySem.W.fnOf "due_count" "due_count" (defArgs s_due_count) (defBody s_due_count) (defScope s_due_count) .none kV18 dc18 pm18 an18 cd18 ct18), sl18⟩) (c18 : PySem.W.codeIn K cd18 "due_count" = true) (k18 : PySem.W.keepIn K (.ref f18) = true)
    (a19 : PySem.W.nsIn K mainGlobals "place" = some (some (.ref f19))) (l19 : K.lookup f19 = some ⟨oc19, od19, .func (PySem.W.fnOf "place" "place" (defArgs s_place) (defBody s_place) (defScope s_place) .none kV19 dc19 pm19 an19 cd19 ct19), sl19⟩) (c19 : PySem.W.codeIn K cd19 "place" = true) (k19 : PySem.W.keepIn K (.ref f19) = true)
    (a20 : PySem.W.nsIn K mainGlobals "is_due" = some (some (.ref f20))) (l20 : K.lookup f20 = some ⟨oc20, od20, .func (PySem.W.fnOf "is_due" "is_due" (defArgs s_is_due) (defBody s_is_due) (defScope s_is_due) .none kV20 dc20 pm20 an20 cd20 ct20), sl20⟩) (c20 : PySem.W.codeIn K cd20 "is_due" = true) (k20 : PySem.W.keepIn K (.ref f20) = true)
    (a21 : PySem.W.nsIn K mainGlobals "wheel_on" = some (some (.ref f21))) (l21 : K.lookup f21 = some ⟨oc21, od21, .func (PySem.W.fnOf "wheel_on" "wheel_on" (defArgs s_wheel_on) (defBody s_wheel_on) (defScope s_wheel_on) .none kV21 dc21 pm21 an21 cd21 ct21), sl21⟩) (c21 : PySem.W.codeIn K cd21 "wheel_on" = true) (k21 : PySem.W.keepIn K (.ref f21) = true)
    (a22 : PySem.W.nsIn K mainGlobals "far_item" = some (some (.ref f22))) (l22 : K.lookup f22 = some ⟨oc22, od22, .func (PySem.W.fnOf "far_item" "far_item" (defArgs s_far_item) (defBody s_far_item) (defScope s_far_item) .none kV22 dc22 pm22 an22 cd22 ct22), sl22⟩) (c22 : PySem.W.codeIn K cd22 "far_item" = true) (k22 : PySem.W.keepIn K (.ref f22) = true)
    (a23 : PySem.W.nsIn K mainGlobals "due_day" = some (some (.ref f23))) (l23 : K.lookup f23 = some ⟨oc23, od23, .func (PySem.W.fnOf "due_day" "due_day" (defArgs s_due_day) (defBody s_due_day) (defScope s_due_day) .none kV23 dc23 pm23 an23 cd23 ct23), sl23⟩) (c23 : PySem.W.codeIn K cd23 "due_day" = true) (k23 : PySem.W.keepIn K (.ref f23) = true)
    (a24 : PySem.W.nsIn K mainGlobals "law" = some (some (.ref f24))) (l24 : K.lookup f24 = some ⟨oc24, od24, .func (PySem.W.fnOf "law" "law" (defArgs s_law) (defBody s_law) (defScope s_law) .none kV24 dc24 pm24 an24 cd24 ct24), sl24⟩) (c24 : PySem.W.codeIn K cd24 "law" = true) (k24 : PySem.W.keepIn K (.ref f24) = true)
    (z_abs : PySem.W.nsIn K mainGlobals "abs" = some none)
    (z_all : PySem.W.nsIn K mainGlobals "all" = some none)
    (z_bool : PySem.W.nsIn K mainGlobals "bool" = some none)
    (z_divmod : PySem.W.nsIn K mainGlobals "divmod" = some none)
    (z_int : PySem.W.nsIn K mainGlobals "int" = some none)
    (z_isinstance : PySem.W.nsIn K mainGlobals "isinstance" = some none)
    (z_len : PySem.W.nsIn K mainGlobals "len" = some none)
    (z_list : PySem.W.nsIn K mainGlobals "list" = some none)
    (z_range : PySem.W.nsIn K mainGlobals "range" = some none)
    (z_set : PySem.W.nsIn K mainGlobals "set" = some none)
    (z_sorted : PySem.W.nsIn K mainGlobals "sorted" = some none)
    (z_tuple : PySem.W.nsIn K mainGlobals "tuple" = some none)
    : ∃ fd : FuncData, (∀ (s : Shared) (v : Value), BindsTo s fd ⟨[v], []⟩ [("_law_script", v)]) ∧ ∀ base : Heap, K.In base → base.Ns mainGlobals mg → FnOk l.prog w K mg base (L2.CX l.prog w) 9 fa fd ["_law_script"] (spLaw K) := by
  have e := hfa.symm.trans (PySem.W.mg_of X G a24)
  cases e
  have T : Bl mg := ⟨PySem.W.mg_none_of X G z_abs, PySem.W.mg_none_of X G z_all, PySem.W.mg_none_of X G z_bool, PySem.W.mg_none_of X G z_divmod, PySem.W.mg_none_of X G z_int, PySem.W.mg_none_of X G z_isinstance, PySem.W.mg_none_of X G z_len, PySem.W.mg_none_of X G z_list, PySem.W.mg_none_of X G z_range, PySem.W.mg_none_of X G z_set, PySem.W.mg_none_of X G z_sorted, PySem.W.mg_none_of X G z_tuple⟩
  have Z_Rota : Tx_Rota K mg C_Rota := ⟨PySem.W.mg_of X G aC_Rota, ⟨pg_Rota, hd_Rota, po_Rota, sa_Rota⟩, n_Rota_places, n_Rota_rows⟩
  have F1 := fun_mk (st := s_law_box) l1 c1 k1
  have b1 := F1.binds (ps := ["_law_script", "_law_k", "_law_own"]) fun _ _ _ _ _ _ us hl => match us, hl with | [_, _, _], _ => rfl
  have g1 := PySem.W.mg_of X G a1
  have F2 := fun_mk (st := s_is_integer) l2 c2 k2
  have b2 := F2.binds (ps := ["value"]) fun _ _ _ _ _ _ us hl => match us, hl with | [_], _ => rfl
  have g2 := PySem.W.mg_of X G a2
  have F3 := fun_mk (st := s_is_whole) l3 c3 k3
  have b3 := F3.binds (ps := ["value", "least"]) fun _ _ _ _ _ _ us hl => match us, hl with | [_, _], _ => rfl
  have g3 := PySem.W.mg_of X G a3
  have F4 := fun_mk (st := s_is_sequence) l4 c4 k4
  have b4 := F4.binds (ps := ["value"]) fun _ _ _ _ _ _ us hl => match us, hl with | [_], _ => rfl
  have g4 := PySem.W.mg_of X G a4
  have F5 := fun_mk (st := s_is_below) l5 c5 k5
  have b5 := F5.binds (ps := ["value", "many"]) fun _ _ _ _ _ _ us hl => match us, hl with | [_, _], _ => rfl
  have g5 := PySem.W.mg_of X G a5
  have F6 := fun_mk (st := s_are_spots) l6 c6 k6
  have b6 := F6.binds (ps := ["spots", "places"]) fun _ _ _ _ _ _ us hl => match us, hl with | [_, _], _ => rfl
  have g6 := PySem.W.mg_of X G a6
  have F7 := fun_mk (st := s_is_row) l7 c7 k7
  have b7 := F7.binds (ps := ["row", "places"]) fun _ _ _ _ _ _ us hl => match us, hl with | [_, _], _ => rfl
  have g7 := PySem.W.mg_of X G a7
  have F8 := fun_mk (st := s_are_rows) l8 c8 k8
  have b8 := F8.binds (ps := ["rows", "places"]) fun _ _ _ _ _ _ us hl => match us, hl with | [_, _], _ => rfl
  have g8 := PySem.W.mg_of X G a8
  have F9 := fun_mk (st := s_Rota_init) l9 c9 k9
  have b9 := F9.binds (ps := ["self", "places", "rows"]) fun _ _ _ _ _ _ us hl => match us, hl with | [_, _, _], _ => rfl
  have F10 := fun_mk (st := s_law_take) l10 c10 k10
  have b10 := F10.binds (ps := ["_law_box_here", "_law_bound"]) fun _ _ _ _ _ _ us hl => match us, hl with | [_, _], _ => rfl
  have g10 := PySem.W.mg_of X G a10
  have F11 := fun_mk (st := s_law_pick) l11 c11 k11
  have b11 := F11.binds (ps := ["_law_box_here", "_law_items"]) fun _ _ _ _ _ _ us hl => match us, hl with | [_, _], _ => rfl
  have g11 := PySem.W.mg_of X G a11
  have F12 := fun_mk (st := s_round_spots) l12 c12 k12
  have b12 := F12.binds (ps := ["rota", "wheel"]) fun _ _ _ _ _ _ us hl => match us, hl with | [_, _], _ => rfl
  have g12 := PySem.W.mg_of X G a12
  have F13 := fun_mk (st := s_Rota_len) l13 c13 k13
  have b13 := F13.binds (ps := ["self"]) fun _ _ _ _ _ _ us hl => match us, hl with | [_], _ => rfl
  have F14 := fun_mk (st := s_dues_ahead) l14 c14 k14
  have b14 := F14.binds (ps := ["rota", "wheel", "day"]) fun _ _ _ _ _ _ us hl => match us, hl with | [_, _, _], _ => rfl
  have g14 := PySem.W.mg_of X G a14
  have F15 := fun_mk (st := s_round_dues) l15 c15 k15
  have b15 := F15.binds (ps := ["rota", "wheel"]) fun _ _ _ _ _ _ us hl => match us, hl with | [_, _], _ => rfl
  have g15 := PySem.W.mg_of X G a15
  have F16 := fun_mk (st := s_check_wheel) l16 c16 k16
  have b16 := F16.binds (ps := ["rota", "wheel"]) fun _ _ _ _ _ _ us hl => match us, hl with | [_, _], _ => rfl
  have g16 := PySem.W.mg_of X G a16
  have F17 := fun_mk (st := s_round_days) l17 c17 k17
  have b17 := F17.binds (ps := ["rota", "wheel"]) fun _ _ _ _ _ _ us hl => match us, hl with | [_, _], _ => rfl
  have g17 := PySem.W.mg_of X G a17
  have F18 := fun_mk (st := s_due_count) l18 c18 k18
  have b18 := F18.binds (ps := ["rota", "wheel", "day"]) fun _ _ _ _ _ _ us hl => match us, hl with | [_, _, _], _ => rfl
  have g18 := PySem.W.mg_of X G a18
  have F19 := fun_mk (st := s_place) l19 c19 k19
  have b19 := F19.binds (ps := ["rota", "wheel", "day"]) fun _ _ _ _ _ _ us hl => match us, hl with | [_, _, _], _ => rfl
  have g19 := PySem.W.mg_of X G a19
  have F20 := fun_mk (st := s_is_due) l20 c20 k20
  have b20 := F20.binds (ps := ["rota", "wheel", "day"]) fun _ _ _ _ _ _ us hl => match us, hl with | [_, _, _], _ => rfl
  have g20 := PySem.W.mg_of X G a20
  have F21 := fun_mk (st := s_wheel_on) l21 c21 k21
  have b21 := F21.binds (ps := ["rota", "spot", "day"]) fun _ _ _ _ _ _ us hl => match us, hl with | [_, _, _], _ => rfl
  have g21 := PySem.W.mg_of X G a21
  have F22 := fun_mk (st := s_far_item) l22 c22 k22
  have b22 := F22.binds (ps := ["row", "period", "at"]) fun _ _ _ _ _ _ us hl => match us, hl with | [_, _, _], _ => rfl
  have g22 := PySem.W.mg_of X G a22
  have F23 := fun_mk (st := s_due_day) l23 c23 k23
  have b23 := F23.binds (ps := ["rota", "wheel", "at"]) fun _ _ _ _ _ _ us hl => match us, hl with | [_, _, _], _ => rfl
  have g23 := PySem.W.mg_of X G a23
  have F24 := fun_mk (st := s_law) l24 c24 k24
  refine ⟨PySem.W.fnOf "law" "law" (defArgs s_law) (defBody s_law) (defScope s_law) .none kV24 dc24 pm24 an24 cd24 ct24, fun s v => .of_eq rfl, fun base _ _ => ?_⟩
  have D_law_box : Df l.prog w K mg base CT0 BB 1 "_law_box" 3 ["_law_script", "_law_k", "_law_own"] f_law_box := ⟨⟨_, _, box_of (ok_box F1 T), g1, k1, b1⟩, fBox_len⟩
  have D_is_integer : Df l.prog w K mg base CT0 BB 1 "is_integer" 1 ["value"] f_is_integer := d_is_integer F2 g2 k2 b2 T Z_Rota 
  have D_is_whole : Df l.prog w K mg base CT0 BB 2 "is_whole" 2 ["value", "least"] f_is_whole := d_is_whole F3 g3 k3 b3 T Z_Rota D_is_integer
  have D_is_sequence : Df l.prog w K mg base CT0 BB 1 "is_sequence" 1 ["value"] f_is_sequence := d_is_sequence F4 g4 k4 b4 T Z_Rota 
  have D_is_below : Df l.prog w K mg base CT0 BB 3 "is_below" 2 ["value", "many"] f_is_below := d_is_below F5 g5 k5 b5 T Z_Rota D_is_whole
  have D_are_spots : Df l.prog w K mg base CT0 BB 4 "are_spots" 2 ["spots", "places"] f_are_spots := d_are_spots F6 g6 k6 b6 T Z_Rota D_is_sequence D_is_below
  have D_is_row : Df l.prog w K mg base CT0 BB 5 "is_row" 2 ["row", "places"] f_is_row := d_is_row F7 g7 k7 b7 T Z_Rota D_are_spots
  have D_are_rows : Df l.prog w K mg base CT0 BB 6 "are_rows" 2 ["rows", "places"] f_are_rows := d_are_rows F8 g8 k8 b8 T Z_Rota D_is_sequence D_is_row
  have D_Rota : Cf l.prog w K mg base CT0 BB 7 "Rota" 0 2 ["self", "places", "rows"] f_Rota := d_Rota F9 ⟨mk_Rota, a9, i9, kc_Rota⟩ b9 T Z_Rota D_is_whole D_are_rows
  have D_law_take : Df l.prog w K mg base CT0 BB 1 "_law_take" 2 ["_law_box_here", "_law_bound"] f_law_take := ⟨⟨_, _, draw_of (ok_take F10 T), g10, k10, b10⟩, fDraw_len⟩
  have D_law_pick : Df l.prog w K mg base CT0 BB 2 "_law_pick" 2 ["_law_box_here", "_law_items"] f_law_pick := d_law_pick F11 g11 k11 b11 T Z_Rota D_law_take
  have D_round_spots : Df l.prog w K mg base CT0 BB 1 "round_spots" 2 ["rota", "wheel"] f_round_spots := d_round_spots F12 g12 k12 b12 T Z_Rota 
  have D_Rota_len : Mf l.prog w K mg base CT0 BB 1 0 "__len__" 1 ["self"] f_Rota_len := d_Rota_len F13 ⟨a13, i13, k13⟩ b13 T Z_Rota 
  have D_dues_ahead : Df l.prog w K mg base CT0 BB 3 "dues_ahead" 3 ["rota", "wheel", "day"] f_dues_ahead := d_dues_ahead F14 g14 k14 b14 T Z_Rota D_round_spots D_Rota_len
  have D_round_dues : Df l.prog w K mg base CT0 BB 4 "round_dues" 2 ["rota", "wheel"] f_round_dues := d_round_dues F15 g15 k15 b15 T Z_Rota D_dues_ahead D_round_spots
  have D_check_wheel : Df l.prog w K mg base CT0 BB 4 "check_wheel" 2 ["rota", "wheel"] f_check_wheel := d_check_wheel F16 g16 k16 b16 T Z_Rota D_is_below
  have D_round_days : Df l.prog w K mg base CT0 BB 5 "round_days" 2 ["rota", "wheel"] f_round_days := d_round_days F17 g17 k17 b17 T Z_Rota D_check_wheel D_round_spots
  have D_due_count : Df l.prog w K mg base CT0 BB 6 "due_count" 3 ["rota", "wheel", "day"] f_due_count := d_due_count F18 g18 k18 b18 T Z_Rota D_round_days D_round_dues
  have D_place : Df l.prog w K mg base CT0 BB 5 "place" 3 ["rota", "wheel", "day"] f_place := d_place F19 g19 k19 b19 T Z_Rota D_check_wheel D_round_spots
  have D_is_due : Df l.prog w K mg base CT0 BB 6 "is_due" 3 ["rota", "wheel", "day"] f_is_due := d_is_due F20 g20 k20 b20 T Z_Rota D_place D_Rota_len
  have D_wheel_on : Df l.prog w K mg base CT0 BB 6 "wheel_on" 3 ["rota", "spot", "day"] f_wheel_on := d_wheel_on F21 g21 k21 b21 T Z_Rota D_check_wheel D_place
  have D_far_item : Df l.prog w K mg base CT0 BB 1 "far_item" 3 ["row", "period", "at"] f_far_item := d_far_item F22 g22 k22 b22 T Z_Rota 
  have D_due_day : Df l.prog w K mg base CT0 BB 6 "due_day" 3 ["rota", "wheel", "at"] f_due_day := d_due_day F23 g23 k23 b23 T Z_Rota D_check_wheel D_round_dues D_far_item D_round_days
  have FL : FnOk l.prog w K mg base (L2.CX l.prog w) 9 _ _ ["_law_script"] (spM ⟨K, mg, CT0⟩ BB 1 f_law) := fn_def (N := N_law) (ps := ["_law_script"]) (k := 8) (body := b_law) F24 S_law (by decide) fun _ _ _ _ _ _ hr => l_law T Z_Rota D_law_box D_Rota D_law_pick D_place D_is_due D_round_days D_wheel_on D_due_day D_due_count hr
  exact law_endA FL (fun _ => ⟨fun _ z => False.elim z, fun _ z => False.elim z⟩) law_true
end K11
open PySem PySem.W PyProof.Rows
set_option maxHeartbeats 0 in
theorem PySem.Challenge.cw_turnrota_k11_ways_known_by_hand_holds : PySem.Challenge.rw_turnrota_k11_ways_known_by_hand.Holds := by
  w_on; o_law; k_head; (case hw => w_witness2)
  k_fill
  refine L2.walk_of (l := PySem.Challenge.rw_turnrota_k11_ways_known_by_hand) (n := 63) (k := 9) (x := "_law_script") (CX := fun w => L2.CX (PySem.Challenge.rw_turnrota_k11_ways_known_by_hand).prog w) (sp := fun w => Dn.spLaw _) rfl (by decide) rfl ⟨rfl, by decide, by decide⟩ (fun w h Y => PySem.W.kIn_of Y) ?F (fun _ _ a ns hl _ hS => ⟨a, ns, rfl, hS, hl, fun _ => rfl⟩) Dn.cx_none
  case F =>
    intro w mg fa h KX G hmg
    refine' K11.all_mk KX G hmg ?aC_Rota ?pg_Rota ?hd_Rota ?po_Rota ?sa_Rota ?mk_Rota ?kc_Rota ?n_Rota_places ?n_Rota_rows ?a1 ?l1 ?c1 ?k1 ?a2 ?l2 ?c2 ?k2 ?a3 ?l3 ?c3 ?k3 ?a4 ?l4 ?c4 ?k4 ?a5 ?l5 ?c5 ?k5 ?a6 ?l6 ?c6 ?k6 ?a7 ?l7 ?c7 ?k7 ?a8 ?l8 ?c8 ?k8 ?a9 ?i9 ?l9 ?c9 ?k9 ?a10 ?l10 ?c10 ?k10 ?a11 ?l11 ?c11 ?k11 ?a12 ?l12 ?c12 ?k12 ?a13 ?i13 ?l13 ?c13 ?k13 ?a14 ?l14 ?c14 ?k14 ?a15 ?l15 ?c15 ?k15 ?a16 ?l16 ?c16 ?k16 ?a17 ?l17 ?c17 ?k17 ?a18 ?l18 ?c18 ?k18 ?a19 ?l19 ?c19 ?k19 ?a20 ?l20 ?c20 ?k20 ?a21 ?l21 ?c21 ?k21 ?a22 ?l22 ?c22 ?k22 ?a23 ?l23 ?c23 ?k23 ?a24 ?l24 ?c24 ?k24 ?z_abs ?z_all ?z_bool ?z_divmod ?z_int ?z_isinstance ?z_len ?z_list ?z_range ?z_set ?z_sorted ?z_tuple
    (case aC_Rota => k_is); (case pg_Rota => k_is); (case hd_Rota => k_is); (case po_Rota => k_is); (case sa_Rota => k_is); (case mk_Rota => k_is); (case kc_Rota => k_is); (case n_Rota_places => k_is); (case n_Rota_rows => k_is); (case a1 => k_is); (case l1 => k_is); (case c1 => k_is); (case k1 => k_is); (case a2 => k_is); (case l2 => k_is); (case c2 => k_is); (case k2 => k_is); (case a3 => k_is); (case l3 => k_is); (case c3 => k_is); (case k3 => k_is); (case a4 => k_is); (case l4 => k_is); (case c4 => k_is); (case k4 => k_is); (case a5 => k_is); (case l5 => k_is); (case c5 => k_is); (case k5 => k_is); (case a6 => k_is); (case l6 => k_is); (case c6 => k_is); (case k6 => k_is); (case a7 => k_is); (case l7 => k_is); (case c7 => k_is); (case k7 => k_is); (case a8 => k_is); (case l8 => k_is); (case c8 => k_is); (case k8 => k_is); (case a9 => k_is); (case i9 => k_is); (case l9 => k_is); (case c9 => k_is); (case k9 => k_is); (case a10 => k_is); (case l10 => k_is); (case c10 => k_is); (case k10 => k_is); (case a11 => k_is); (case l11 => k_is); (case c11 => k_is); (case k11 => k_is); (case a12 => k_is); (case l12 => k_is); (case c12 => k_is); (case k12 => k_is); (case a13 => k_is); (case i13 => k_is); (case l13 => k_is); (case c13 => k_is); (case k13 => k_is); (case a14 => k_is); (case l14 => k_is); (case c14 => k_is); (case k14 => k_is); (case a15 => k_is); (case l15 => k_is); (case c15 => k_is); (case k15 => k_is); (case a16 => k_is); (case l16 => k_is); (case c16 => k_is); (case k16 => k_is); (case a17 => k_is); (case l17 => k_is); (case c17 => k_is); (case k17 => k_is); (case a18 => k_is); (case l18 => k_is); (case c18 => k_is); (case k18 => k_is); (case a19 => k_is); (case l19 => k_is); (case c19 => k_is); (case k19 => k_is); (case a20 => k_is); (case l20 => k_is); (case c20 => k_is); (case k20 => k_is); (case a21 => k_is); (case l21 => k_is); (case c21 => k_is); (case k21 => k_is); (case a22 => k_is); (case l22 => k_is); (case c22 => k_is); (case k22 => k_is); (case a23 => k_is); (case l23 => k_is); (case c23 => k_is); (case k23 => k_is); (case a24 => k_is); (case l24 => k_is); (case c24 => k_is); (case k24 => k_is); (case z_abs => k_is); (case z_all => k_is); (case z_bool => k_is); (case z_divmod => k_is); (case z_int => k_is); (case z_isinstance => k_is); (case z_len => k_is); (case z_list => k_is); (case z_range => k_is); (case z_set => k_is); (case z_sorted => k_is); (case z_tuple => k_is)

